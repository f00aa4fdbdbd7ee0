/- ScPlays, part 3: the engine, contracts, theory. -/
import Derived.Test.YtbbdanhpphlbpaaGreatDoorScPlaysP2
import Derived.Laws.Pointers
import Derived.Lib.LaidTab
set_option linter.unusedVariables false
set_option linter.unusedSimpArgs false
set_option linter.unusedSectionVars false
set_option maxRecDepth 100000
set_option maxHeartbeats 2000000
namespace Go.Proofs.YtbbdanhpphlbpaaGreatDoor
open Go.RowKit
theorem Mt {H:Hp}{G:Gr}{r:Nat}(h:H.length=G.length)(hb:Nat.ble H.length r=true):G.length≤r:=by rw [←h];exact Nat.le_of_ble_eq_true hb
mutual
def Mu (r:Nat):SV→Bool
 | .ptr i _=> !Nat.beq i r
 | .el i _ _ _=> !Nat.beq i r
 | .sl i _ _=> !Nat.beq i r
 | .agg l=>S3 r l
 | .tup l=>S3 r l
 | .fn _ l=>S3 r l
 | .opt _ x=>Mu r x
 | .ix p _ _ _ _=>Mu r p
 | .sp p _ _=>Mu r p
 | .st i _ _ _ _=> !Nat.beq i r
 |_=>true
def S3 (r:Nat):List SV→Bool
 | []=>true
 |x::l=>Mu r x&&S3 r l
end
theorem Kp {D:List Nat}{i:Nat}(h:∀r∈D,(!Nat.beq i r)=true):i∉D:=fun hi=>by
 have:=h i hi
 rw [show Nat.beq i i=true from Nat.beq_refl i]at this
 cases this
mutual
theorem D8 {G G':Gr}{D:List Nat}(e:∀i,i∉D→G'[i]?=G[i]?):∀(x:SV),(∀r∈D,Mu r x=true)→den G' x=den G x
 | .ptr i _,h=>by unfold den;rw [e i (Kp h)]
 | .el i _ _ _,h=>by unfold den;rw [e i (Kp h)]
 | .sl i _ _,h=>by unfold den;rw [e i (Kp h)]
 | .agg l,h=>by unfold den;rw [EU e l h]
 | .tup l,h=>by unfold den;rw [EU e l h]
 | .fn _ l,h=>by unfold den;rw [EU e l h]
 | .opt _ x,h=>by unfold den;rw [D8 e x h]
 | .ix p _ _ _ _,h=>by unfold den;rw [D8 e p h]
 | .sp p _ _,h=>by unfold den;rw [D8 e p h]
 | .st i _ _ _ _,h=>by unfold den;rw [e i (Kp h)]
 | .int _ _,_=>rfl
 | .bool _,_=>rfl
 | .tt,_=>rfl
 | .ff,_=>rfl
 | .str _,_=>rfl
 | .sla _ _ _,_=>rfl
 | .v _,_=>rfl
theorem EU {G G':Gr}{D:List Nat}(e:∀i,i∉D→G'[i]?=G[i]?):∀(l:List SV),(∀r∈D,S3 r l=true)→AE G' l=AE G l
 | [],_=>rfl
 |x::l,h=>by
  unfold AE
  rw [D8 e x fun r hr=>by have:=h r hr;simp only [S3,Bool.and_eq_true]at this;exact this.1,EU e l fun r hr=>by have:=h r hr;simp only [S3,Bool.and_eq_true]at this;exact this.2]
end
def Td (r:Nat):Option A6→Bool
 |some (.blk cs)=>S3 r cs
 |_=>true
def U8 (r:Nat):Hp→Bool
 | []=>true
 |e::H=>Td r e&&U8 r H
theorem Mw {r:Nat}:∀{H:Hp},U8 r H=true→∀(i:Nat) (e:Option A6),H[i]?=some e→Td r e=true
 | [],_,i,e,h=>by cases h
 |f::H,hb,i,e,h=>by
  simp only [U8,Bool.and_eq_true]at hb
  cases i with
  |zero=>cases h;exact hb.1
  |succ i=>exact Mw hb.2 i e (by simpa using h)
theorem Ae.off {G G':Gr}{r:Nat}{w:World}{p:Option Loc}{e:A6}(h:Ae G w p e)(hG:∀i,i∉[r]→G'[i]?=G[i]?)(ha:Td r (some e)=true):Ae G' w p e:=by
 cases e with
 |blk cs=>obtain⟨M,vs,h1,h2,h3⟩:=h;exact⟨M,vs,h1,by rw [EU hG cs (fun q hq=>by simp at hq;subst hq;exact ha)];exact h2,h3⟩
 |lst s n f=>exact h
 |fac b o=>exact h
 |row e s n c f=>exact h
section
variable {P:Program}{X:Tx}{n:Nat}{ks:List Nat}{G0:Gr}{w0:World}{T:List (Nat×SV)}{H:Hp}{G:Gr}{a:Act}{w w':World}{ops:Array Oper}{o:Oper}
theorem IW {r:Nat}{y:Option Loc}:∀i,i∉[r]→(G.set r y)[i]?=G[i]?:=fun i hi=>by
 simp at hi
 rw [List.getElem?_set_ne (fun h=>hi h.symm)]
theorem Sy.place (A:Sy n T H ks G0 w0 G a w){r g:Nat}{t:TypeId}{en:A6}(hr:H[r]?=some none)(pQ:G0.length≤r)(nM:U8 r H=true)(hg:g=w.heap.size)(nR:BW w w')(nG:Ae G w' (some ⟨g,[],[],t⟩) en)(pI:en.mut=true)(wZ:Td r (some en)=true):
  Ms (Br H r (some en)) ks G0 w0 (G.set r (some ⟨g,[],[],t⟩)) w':=by
 have hlen:=A.mem.len
 have lM:r<H.length:=(List.getElem?_eq_some_iff.1 hr).1
 have B:=A.ms.grow nR
 have hold:∀(i:Nat) (e:A6),(Br H r (some en))[i]?=some (some e)→(i≠r∧H[i]?=some (some e))∨(i=r∧e=en):=by
  intro i e h
  rw [Ag]at h
  by_cases hi:i=r
  ·subst hi;rw [List.getElem?_set_self lM]at h;cases h;exact .inr ⟨rfl,rfl⟩
  ·rw [List.getElem?_set_ne (Ne.symm hi)]at h;exact .inl ⟨hi,h⟩
 have nN:(G.set r (some (⟨g,[],[],t⟩:Loc)))[r]?=some (some ⟨g,[],[],t⟩):=List.getElem?_set_self (by omega)
 have jF:∀{i:Nat},i≠r→(G.set r (some (⟨g,[],[],t⟩:Loc)))[i]?=G[i]?:=fun hi=>by rw [List.getElem?_set_ne (Ne.symm hi)]
 refine⟨⟨by rw [Ag];simpa using hlen,fun i e h=>?_,fun i j e f L M jV h1 h2 h3 h4 h5 h6=>?_⟩,?_,fun i e L h1 h2 h3=>?_,B.mix⟩
 ·rcases hold i e h with⟨h1,h2⟩|⟨rfl,rfl⟩
  ·rw [jF h1];exact(B.mem.ent i e h2).off IW (Mw nM i _ h2)
  ·rw [nN];exact nG.off IW wZ
 ·rcases hold i e h1 with⟨a1,a2⟩|⟨rfl,rfl⟩
  ·rw [jF a1]at h4
   rcases hold j f h2 with⟨b1,b2⟩|⟨rfl,rfl⟩
   ·rw [jF b1]at h5;exact B.mem.sep i j e f L M jV a2 b2 h3 h4 h5 h6
   ·rw [nN]at h5;cases h5
    have:=A.mem.ent i e a2
    rw [h4]at this
    have:=Ae.lt this (At h3)
    show L.b≠g;omega
  ·rw [nN]at h4;cases h4
   rcases hold j f h2 with⟨b1,b2⟩|⟨rfl,rfl⟩
   ·rw [jF b1]at h5
    have:=A.mem.ent j f b2
    rw [h5]at this
    have:=Ae.lt this h6
    show g≠M.b;omega
   ·exact absurd rfl jV
 ·obtain⟨F,hF⟩:=A.pre
  refine⟨F.set (r - G0.length) (some ⟨g,[],[],t⟩),?_⟩
  rw [hF,List.set_append_right _ _ pQ]
 ·rcases hold i e h1 with⟨a1,a2⟩|⟨rfl,rfl⟩
  ·rw [jF a1]at h3;exact B.own i e L a2 h2 h3
  ·rw [nN]at h3;cases h3
   have:=A.mix.size
   exact .inr (by show w0.heap.size≤g;omega)
def OE (P:Program)(n:Nat)(ops:Array Oper)(ks:List Nat)(G0:Gr)(w0:World)(Tw:List (Nat×SV))(H:Hp)(o:Oper)(x:SV)(H':Hp)(rs:List Nat):Prop:=
 ∀G a w,Sy n Tw H ks G0 w0 G a w→BG P ops o a w fun v w'=>∃G',(∀i,i∉rs→G'[i]?=G[i]?)∧den G' x=some v∧Ms H' ks G0 w0 G' w'
theorem Qp {Tw:List (Nat×SV)}{x:SV}{H':Hp}{rs:List Nat}(h:Aw P n ops ks G0 w0 Tw H o x H')(hl:H'.length=H.length):OE P n ops ks G0 w0 Tw H o x H' rs:=by
 intro G a w A
 refine HL (h G a w A) fun v w' ⟨F,h1,h2⟩=>⟨G,fun _ _=>rfl,?_⟩
 have e1:=h2.mem.len
 have e2:=A.mem.len
 have:F=[]:=List.eq_nil_of_length_eq_zero (by rw [List.length_append]at e1;omega)
 subst this
 rw [List.append_nil]at h1 h2
 exact⟨h1,h2⟩
theorem Da (r:Nat){Tw:List (Nat×SV)}{x x0:SV}{H':Hp}{rs:List Nat}{t:TypeId}{en:A6}(hX:X.ok P=true)(h:Cj X n ops Tw H o=some (.new t en x0))(hr:lg H r=some none)(pQ:G0.length≤r)(nM:(U8 r H&&Td r (some en))=true)(oJ:DG (Br (Ap 0 H.length) r H.length) x=some x0)(hH:Br H r (some en)=H')(nE:rs.contains r=true):OE P n ops ks G0 w0 Tw H o x H' rs:=by
 intro G a w A
 rw [Bool.and_eq_true]at nM
 rw [Ah]at hr
 have lM:r<H.length:=(List.getElem?_eq_some_iff.1 hr).1
 unfold Cj at h
 split at h
 ·next hd=>
  split at h
  ·next hg=>
   refine IQ (P:=P) (ops:=ops) hX A h (An (gd:=none) A hg) fun g w' v a1 a2 a3 a4 a5=>⟨G.set r (some ⟨g,[],[],t⟩),fun i hi=>IW i (fun hq=>?_),?_,?_⟩
   ·simp at hq;subst hq;exact hi (by simpa using nE)
   ·have hm:∀j∈(Ap 0 H.length).set r H.length,j<(G++[some (⟨g,[],[],t⟩:Loc)]).length:=fun j hj=>by
     have hle:j∈Ap 0 H.length∨j=H.length:=by
      rcases List.mem_or_eq_of_mem_set hj with h|h
      ·exact .inl h
      ·exact .inr h
     have:=A.mem.len
     rcases hle with h|h
     ·obtain⟨k,hk,he⟩:=List.getElem_of_mem h
      rw [CA]at hk
      have:=Cd H.length 0 k hk
      rw [List.getElem?_eq_getElem (by rw [CA];exact hk),he]at this
      cases this
      simp;omega
     ·simp;omega
    rw [Ag]at oJ
    rw [←a5,←De hm x oJ]
    congr 1
    have hlen:=A.mem.len
    apply List.ext_getElem?
    intro i
    by_cases hi:i<H.length
    ·by_cases hir:i=r
     ·subst hir
      have h1:((Ap 0 H.length).set i H.length)[i]?=some H.length:=List.getElem?_set_self (by rw [CA];exact hi)
      rw [BD hm h1,List.getElem?_set_self (by omega),List.getElem?_append_right (by omega),hlen];simp
     ·have h1:((Ap 0 H.length).set r H.length)[i]?=some i:=by rw [List.getElem?_set_ne (Ne.symm hir),Cd _ _ _ hi,Nat.zero_add]
      rw [BD hm h1,List.getElem?_set_ne (Ne.symm hir),List.getElem?_append_left (by omega)]
    ·rw [List.getElem?_eq_none (by simp;omega),List.getElem?_eq_none (by simp [AY,CA];omega)]
   ·rw [←hH];exact A.place hr pQ nM.1 a1 a2 a3 a4 nM.2
  ·cases h
  ·split at h<;>cases h
  ·cases h
 ·cases h
end
section
variable {P:Program}{n:Nat}{ks:List Nat}{G0:Gr}{w0:World}{H:Hp}{G:Gr}{w w':World}{ops:Array Oper}{o:Oper}
theorem Ae.offL {G G':Gr}{D:List Nat}{w:World}{p:Option Loc}{e:A6}(h:Ae G w p e)(hG:∀i,i∉D→G'[i]?=G[i]?)(ha:∀r∈D,Td r (some e)=true):Ae G' w p e:=by
 cases e with
 |blk cs=>obtain⟨M,vs,h1,h2,h3⟩:=h;exact⟨M,vs,h1,by rw [EU hG cs ha];exact h2,h3⟩
 |lst s n f=>exact h
 |fac b o=>exact h
 |row e s n c f=>exact h
theorem Ms.put {r:Nat}{en:A6}{p:Option Loc}(M:Ms (H++[some en]) ks G0 w0 (G++[p]) w')(hr:H[r]?=some none)(pQ:G0.length≤r)(nM:∀q∈[r,H.length],U8 q H=true∧Td q (some en)=true):Ms (Br H r (some en)) ks G0 w0 (G.set r p) w':=by
 have hlen:H.length=G.length:=by have:=M.mem.len;simpa using this
 have lM:r<H.length:=(List.getElem?_eq_some_iff.1 hr).1
 have hold:∀(i:Nat) (e:A6),(Br H r (some en))[i]?=some (some e)→∃j,(H++[some en])[j]?=some (some e)∧(G.set r p)[i]?=(G++[p])[j]?∧((i≠r∧j=i∧H[i]?=some (some e))∨(i=r∧j=H.length∧e=en)):=by
  intro i e h
  rw [Ag]at h
  by_cases hi:i=r
  ·subst hi;rw [List.getElem?_set_self lM]at h;cases h
   refine⟨H.length,by simp,?_,.inr ⟨rfl,rfl,rfl⟩⟩
   rw [List.getElem?_set_self (by omega),hlen];simp
  ·rw [List.getElem?_set_ne (Ne.symm hi)]at h
   have hl:=(List.getElem?_eq_some_iff.1 h).1
   refine⟨i,by rw [List.getElem?_append_left hl];exact h,?_,.inl ⟨hi,rfl,h⟩⟩
   rw [List.getElem?_set_ne (Ne.symm hi),List.getElem?_append_left (by omega)]
 have jM:∀i,i∉[r,H.length]→(G.set r p)[i]?=(G++[p])[i]?:=fun i hi=>by
  simp at hi
  rw [List.getElem?_set_ne (fun h=>hi.1 h.symm)]
  by_cases hg:i<G.length
  ·rw [List.getElem?_append_left hg]
  ·rw [List.getElem?_eq_none (by omega),List.getElem?_eq_none (by simp;omega)]
 refine⟨⟨by rw [Ag];simpa using hlen,fun i e h=>?_,fun i j e f L N jV h1 h2 h3 h4 h5 h6=>?_⟩,?_,fun i e L h1 h2 h3=>?_,M.mix⟩
 ·obtain⟨j,g1,g2,g3⟩:=hold i e h
  rw [g2]
  refine(M.mem.ent j e g1).offL jM fun q hq=>?_
  rcases g3 with⟨_,_,g⟩|⟨_,_,rfl⟩
  ·exact Mw (nM q hq).1 i _ g
  ·exact(nM q hq).2
 ·obtain⟨i',g1,g2,g3⟩:=hold i e h1
  obtain⟨j',k1,k2,k3⟩:=hold j f h2
  rw [g2]at h4
  rw [k2]at h5
  refine M.mem.sep i' j' e f L N ?_ g1 k1 h3 h4 h5 h6
  have hi:∀{i:Nat} {e:A6},H[i]?=some (some e)→i<H.length:=fun h=>(List.getElem?_eq_some_iff.1 h).1
  rcases g3 with⟨a1,a2,a3⟩|⟨a1,a2,a3⟩<;>rcases k3 with⟨b1,b2,b3⟩|⟨b1,b2,b3⟩
  ·omega
  ·have:=hi a3;omega
  ·have:=hi b3;omega
  ·omega
 ·obtain⟨F,hF⟩:=M.pre
  refine⟨(G.set r p).drop G0.length,?_⟩
  have e:(G.set r p).take G0.length=G0:=by
   have h1:(G++[p]).take G0.length=G0:=by rw [hF];simp
   rw [List.take_append_of_le_length (by omega)]at h1
   rw [List.take_set_of_le (by omega)];exact h1
  have:=(List.take_append_drop G0.length (G.set r p)).symm
  rw [e]at this;exact this
 ·obtain⟨i',g1,g2,g3⟩:=hold i e h1
  rw [g2]at h3
  exact M.own i' e L g1 h2 h3
theorem Mx (r:Nat){Tw:List (Nat×SV)}{x x0:SV}{H1 H':Hp}{rs:List Nat}{en:A6}(h:Aw P n ops ks G0 w0 Tw H o x0 (H1++[some en]))(hl:H1.length=H.length)(hr:lg H1 r=some none)(pQ:G0.length≤r)(nM:(U8 r H1&&Td r (some en)&&U8 H1.length H1&&Td H1.length (some en))=true)(oJ:DG (Br (Ap 0 H1.length) r H1.length) x=some x0)(hH:Br H1 r (some en)=H')(nE:rs.contains r=true):OE P n ops ks G0 w0 Tw H o x H' rs:=by
 intro G a w A
 rw [Ah]at hr
 have lM:r<H1.length:=(List.getElem?_eq_some_iff.1 hr).1
 simp only [Bool.and_eq_true]at nM
 refine HL (h G a w A) fun v w' ⟨F,h1,h2⟩=>?_
 have e1:=h2.mem.len
 have e2:=A.mem.len
 have xA:F.length=1:=by simp at e1;omega
 obtain⟨p,rfl⟩:=List.length_eq_one_iff.1 xA
 refine⟨G.set r p,fun i hi=>IW i (fun hq=>?_),?_,?_⟩
 ·simp at hq;subst hq;exact hi (by simpa using nE)
 ·have hm:∀j∈(Ap 0 H1.length).set r H1.length,j<(G++[p]).length:=fun j hj=>by
   rcases List.mem_or_eq_of_mem_set hj with h|h
   ·obtain⟨k,hk,he⟩:=List.getElem_of_mem h
    rw [CA]at hk
    have:=Cd H1.length 0 k hk
    rw [List.getElem?_eq_getElem (by rw [CA];exact hk),he]at this
    cases this
    simp;omega
   ·simp;omega
  rw [Ag]at oJ
  rw [←h1,←De hm x oJ]
  congr 1
  apply List.ext_getElem?
  intro i
  by_cases hi:i<H1.length
  ·by_cases hir:i=r
   ·subst hir
    have h1:((Ap 0 H1.length).set i H1.length)[i]?=some H1.length:=List.getElem?_set_self (by rw [CA];exact hi)
    rw [BD hm h1,List.getElem?_set_self (by omega),List.getElem?_append_right (by omega),hl,e2];simp
   ·have h1:((Ap 0 H1.length).set r H1.length)[i]?=some i:=by rw [List.getElem?_set_ne (Ne.symm hir),Cd _ _ _ hi,Nat.zero_add]
    rw [BD hm h1,List.getElem?_set_ne (Ne.symm hir),List.getElem?_append_left (by omega)]
  ·rw [List.getElem?_eq_none (by simp;omega),List.getElem?_eq_none (by simp [AY,CA];omega)]
 ·rw [←hH]
  refine h2.put hr pQ fun q hq=>?_
  simp at hq
  rcases hq with rfl|rfl
  ·exact⟨nM.1.1.1,nM.1.1.2⟩
  ·exact⟨nM.1.2,nM.2⟩
end
def Kq (ops:Array Oper)(ef c:List Nat)(i:Nat)(o:Oper):Bool:=
 !c.contains i&&ef.all (fun p=> !wt ops o p||c.contains p)&&c.all (fun p=>match ops[p]? with|some q=> !waits q i|none=>true)
section
variable {P:Program}{X:Tx}{n:Nat}{ks:List Nat}{G0:Gr}{w0:World}{T:List (Nat×SV)}{l:List Oper}{xs:List SV}{Q:Exit→Act→World→Prop}{ef rs0:List Nat}{tb:List (List Nat×List Nat×Hp)}
structure Te (n:Nat)(ks:List Nat)(G0:Gr)(w0:World)(T:List (Nat×SV))(l:List Oper)(xs:List SV)(ef rs0:List Nat)(c rs:List Nat)(H:Hp)(listed:Array Bool)(G:Gr)(a:Act)(w:World):Prop where
 size:a.tmps.size=n
 defers:a.defers=[]
 base:∀t x,look T t=some x→(∀(j:Nat) (o:Oper),l[j]?=some o→o.dst=some t→listed.getD j false=false)→den G x=some (a.tmps.getD t undef)
 done:∀(j:Nat) (o:Oper) (x:SV),l[j]?=some o→listed.getD j false=true→xs[j]?=some x→(∀r∈rs,Mu r x=true)∧∀d,o.dst=some d→den G x=some (a.tmps.getD d undef)
 ms:Ms H ks G0 w0 G w
 eff:∀p∈ef,(listed.getD p false=true↔p∈c)
 sub:∀p∈c,p∈ef
 rsub:∀r∈rs,r∈rs0
 closed:∀(j:Nat) (o:Oper) (p:Nat),l[j]?=some o→listed.getD j false=true→waits o p=true→listed.getD p false=true
theorem I1 {o:Oper}{T:List (Nat×SV)}{t:Nat}{x:SV}:∀{l:List Oper} {xs:List SV} {k:Nat},xs.length=l.length→look (IR o l xs k T) t=some x→(∃i p,l[i]?=some p∧xs[i]?=some x∧waits o (k+i)=true∧p.dst=some t)∨(look T t=some x∧∀(i:Nat) (p:Oper),l[i]?=some p→p.dst=some t→waits o (k+i)=false)
 | [],_,_,_,h=>.inr ⟨h,fun i p hi=>by cases hi⟩
 |_::_,[],_,hl,h=>by cases hl
 | p ::l,y::xs,k,hl,h=>by
  have rest:(p.dst=some t→waits o k=false)→look (IR o l xs (k+1) T) t=some x→(∃i q,(p::l)[i]?=some q∧(y::xs)[i]?=some x∧waits o (k+i)=true∧q.dst=some t)∨(look T t=some x∧∀(i:Nat) (q:Oper),(p::l)[i]?=some q→q.dst=some t→waits o (k+i)=false):=fun h0 h=>by
   rcases I1 (by simpa using hl) h with⟨i,q,h1,h2,h3,h4⟩|⟨h,hn⟩
   ·exact .inl ⟨i+1,q,by simpa using h1,by simpa using h2,by rw [show k+(i+1)=k+1+i by omega];exact h3,h4⟩
   ·refine .inr ⟨h,fun i q hi hd=>?_⟩
    cases i with
    |zero=>cases hi;simpa using h0 hd
    |succ i=>rw [show k+(i+1)=k+1+i by omega];exact hn i q (by simpa using hi) hd
  unfold IR at h
  cases hb:waits o k with
  |false=>rw [hb]at h;exact rest (fun _=>hb) h
  | true=>
   rw [hb]at h
   simp only [cond_true]at h
   cases hd:p.dst with
   |none=>rw [hd]at h;exact rest (fun e=>by rw [hd]at e;cases e) h
   | some d=>
    rw [hd]at h
    simp only [Ay,look]at h
    cases hk:Nat.beq d t with
    |false=>rw [hk]at h;exact rest (fun e=>by rw [hd]at e;cases e;rw [Nat.beq_refl]at hk;cases hk) h
    |true=>
     rw [hk]at h
     cases h
     have:=Nat.eq_of_beq_eq_true hk
     subst this
     exact .inl ⟨0,p,rfl,rfl,by simpa using hb,hd⟩
def Hg (P:Program)(n:Nat)(ks:List Nat)(G0:Gr)(w0:World)(T:List (Nat×SV))(l:List Oper)(xs:List SV)(ef:List Nat)(tb:List (List Nat×List Nat×Hp))(c rs:List Nat)(H:Hp)(i:Nat)(o:Oper):Prop:=
 ∃(x:SV) (c' rs':List Nat) (H':Hp) (k':Nat),xs[i]?=some x∧tb[k']?=some (c',rs',H')∧((ef.all fun p=>c'.contains p==(Nat.beq p i||c.contains p))&&c'.all ef.contains)=true∧(rs'.all fun r=>rs.contains r&&Mu r x)=true∧OE P n l.toArray ks G0 w0 (IR o l xs 0 T) H o x H' rs
theorem Qq (kC:Ih l.toArray n []=true) (hT:∀t x,look T t=some x→∀(j:Nat) (o:Oper),l[j]?=some o→o.dst=some t→∀(i:Nat) (q:Oper),l[i]?=some q→i≠j→waits o i=true∨waits q j=true) (tV:∀t x,look T t=some x→∀r∈rs0,Mu r x=true) (hl:xs.length=l.length)
  (oI:∀(k:Nat) (c rs:List Nat) (H:Hp),tb[k]?=some (c,rs,H)→∀(i:Nat) (o:Oper),l[i]?=some o→Kq l.toArray ef c i o=true→Hg P n ks G0 w0 T l xs ef tb c rs H i o)
  (oE:∀(k:Nat) (c rs:List Nat) (H:Hp),tb[k]?=some (c,rs,H)→(∀p∈ef,p<l.length→p∈c)→∀G a w,Sy n (lD l xs T) H ks G0 w0 G a w→Q .normal a w):
  ∀(fuel:Nat) (listed:Array Bool) (a:Act) (w:World) (k:Nat) (c rs:List Nat) (H:Hp) (G:Gr),listed.size=l.length→((List.range l.length).filter fun i=> !listed.getD i true).length≤fuel→tb[k]?=some (c,rs,H)→Te n ks G0 w0 T l xs ef rs0 c rs H listed G a w→wpAny P .any l.toArray Q fuel listed a w:=by
 have last:∀(listed:Array Bool) (a:Act) (w:World) (k:Nat) (c rs:List Nat) (H:Hp) (G:Gr),listed.size=l.length→Region.ready .any l.toArray listed=[]→tb[k]?=some (c,rs,H)→Te n ks G0 w0 T l xs ef rs0 c rs H listed G a w→Q .normal a w:=by
  intro listed a w k c rs H G lF hr hk I
  have all:∀i,i<l.length→listed.getD i false=true:=by
   intro i
   induction i using Nat.strongRecOn with
   | _ i ih=>
    intro hi
    cases hq:listed.getD i false with
    |true=>rfl
    | false=>
     exfalso
     have:i∈Region.ready .any l.toArray listed:=by
      rw [mem_ready]
      have rO:i<listed.size:=by omega
      have lG:l.toArray[i]?=some l[i]:=by simp [hi]
      refine⟨by simpa [rO]using hq,l[i],lG,fun e he hb=>?_⟩
      have i7:=(EM kC lG).2 e he hb
      exact ih e.on i7 (by omega)
     rw [hr]at this;cases this
  refine oE k c rs H hk (fun p hp lB=>(I.eff p hp).1 (all p lB)) G a w (I.ms.sy I.size I.defers fun t x hx=>?_)
  rcases Ga hl hx with⟨i,p,q1,q2,q3⟩|⟨hx,nH⟩
  ·exact(I.done i p x q1 (all i (List.getElem?_eq_some_iff.1 q1).1) q2).2 t q3
  ·exact I.base t x hx fun j o h1 h2=>absurd h2 (nH j o h1)
 intro fuel
 induction fuel with
 | zero=>
  intro listed a w k c rs H G lF hf hk I
  have hr:Region.ready .any l.toArray listed=[]:=by
   unfold Region.ready
   rw [List.filter_eq_nil_iff]
   intro i hi
   have mK:((List.range l.length).filter fun i=> !listed.getD i true)=[]:=List.eq_nil_of_length_eq_zero (by omega)
   rw [List.filter_eq_nil_iff]at mK
   have:=mK i (by simpa using hi)
   simp only [Bool.not_eq_true,Bool.not_eq_false']at this
   simp [this]
  exact⟨hr,last listed a w k c rs H G lF hr hk I⟩
 | succ fuel ih=>
  intro listed a w k c rs H G lF hf rS I
  refine⟨fun hr=>last listed a w k c rs H G lF hr rS I,fun i hi=>?_⟩
  obtain⟨pL,o,lG,j8⟩:=mem_ready.1 hi
  have nU:i<l.length:=by have:=(Array.getElem?_eq_some_iff.1 lG).1;simpa using this
  have kL:l[i]?=some o:=by simpa using lG
  obtain⟨pM,vH⟩:=EM kC lG
  have kS:listed.getD i false=false:=by
   have i7:i<listed.size:=by omega
   simpa [i7]using pL
  have hw:∀p,waits o p=true→listed.getD p false=true:=fun p hp=>by
   unfold waits at hp
   rw [List.any_eq_true]at hp
   obtain⟨e,oC,hb⟩:=hp
   have he:e∈o.after:=by simpa using oC
   simp only [Bool.and_eq_true,beq_iff_eq]at hb
   rw [←hb.2]
   exact j8 e he hb.1
  have A:Sy n (IR o l xs 0 T) H ks G0 w0 G a w:=I.ms.sy I.size I.defers fun t x hx=>by
   rcases I1 hl hx with⟨j,p,q1,q2,q3,q4⟩|⟨hx,tW⟩
   ·exact(I.done j p x q1 (hw j (by simpa using q3)) q2).2 t q4
   ·refine I.base t x hx fun j p h1 h2=>?_
    by_cases jW:j=i
    ·subst jW;exact kS
    ·cases hlj:listed.getD j false with
     |false=>rfl
     | true=>
      rcases hT t x hx j p h1 h2 i o kL (Ne.symm jW)with kN|kN
      ·have:=I.closed j p i h1 hlj kN
       rw [kS]at this;cases this
      ·have:=tW j p h1 h2
       rw [Nat.zero_add]at this
       rw [kN]at this;cases this
  have oG:Kq l.toArray ef c i o=true:=by
   unfold Kq
   simp only [Bool.and_eq_true,Bool.not_eq_true',List.all_eq_true,Bool.or_eq_true]
   refine⟨⟨?_,fun p hp=>?_⟩,fun p hp=>?_⟩
   ·cases hc:c.contains i with
    |false=>rfl
    |true=>
     have h1:i∈c:=by simpa using hc
     have:=(I.eff i (I.sub i h1)).2 h1
     rw [kS]at this;cases this
   ·cases hq:wt l.toArray o p with
    |false=>exact .inl rfl
    | true=>
     refine .inr ?_
     have tX:listed.getD p false=true:=by
      unfold wt at hq
      cases hd:waits o p with
      |true=>exact hw p hd
      |false=>
       rw [hd]at hq
       exact Dq (ops:=l.toArray) (fun j o' p' h1 h2 h3=>I.closed j o' p' (by simpa using h1) h2 h3) 2 o.after.toList (fun e he hb=>j8 e (by simpa using he) hb) hq
     have:=(I.eff p hp).1 tX
     simpa using this
   ·split
    ·next q hq=>
     cases hd:waits q i with
     |false=>rfl
     |true=>
      have h1:=(I.eff p (I.sub p hp)).2 hp
      have:=I.closed p q i (by simpa using hq) h1 hd
      rw [kS]at this;cases this
    ·rfl
  obtain⟨x,c',rs',H',k',hx,jQ,qA,oK,he⟩:=oI k c rs H rS i o kL oG
  rw [Bool.and_eq_true,List.all_eq_true,List.all_eq_true]at qA
  rw [List.all_eq_true]at oK
  have oU:∀r∈rs',r∈rs∧Mu r x=true:=fun r hr=>by
   have:=oK r hr
   rw [Bool.and_eq_true]at this
   exact⟨by simpa using this.1,this.2⟩
  have next:∀(v:Value) (w':World) (G':Gr),(∀i,i∉rs→G'[i]?=G[i]?)→den G' x=some v→Ms H' ks G0 w0 G' w'→wpAny P .any l.toArray Q fuel (listed.setIfInBounds i true) (a.put o.dst v) w':=by
   intro v w' G' hG hv pJ
   have i7:i<listed.size:=by omega
   have kD:∀j,(listed.setIfInBounds i true).getD j false=true↔(j=i∨listed.getD j false=true):=by
    intro j
    by_cases jW:j=i
    ·subst jW;simp [i7]
    ·rw [F7 false (Ne.symm jW)];simp [jW]
   refine ih _ _ _ k' c' rs' H' G' (by simpa using lF) ?_ jQ ⟨?_,?_,fun t y hy nH=>?_,fun j p y q1 q2 q3=>?_,pJ,fun p hp=>?_,fun p hp=>?_,fun r hr=>I.rsub r (oU r hr).1,fun j p r q1 q2 q3=>?_⟩
   ·have:((List.range l.length).filter fun k=> !(listed.setIfInBounds i true).getD k true).length<((List.range l.length).filter fun k=> !listed.getD k true).length:=by
     have kY:((List.range l.length).filter fun k=> !(listed.setIfInBounds i true).getD k true)=((List.range l.length).filter fun k=> !listed.getD k true).filter (fun k=>k !=i):=by
      rw [List.filter_filter]
      apply List.filter_congr
      intro k _
      by_cases hk:k=i
      ·subst hk;simp [i7]
      ·rw [F7 true (Ne.symm hk)];simp [hk]
     rw [kY]
     refine List.length_filter_lt_length_iff_exists.2 ⟨i,?_,by simp⟩
     simp only [List.mem_filter,List.mem_range]
     exact⟨nU,by rw [pL];rfl⟩
    omega
   ·cases hd:o.dst<;>simp [Act.put,I.size]
   ·cases hd:o.dst<;>simp [Act.put,I.defers]
   ·have oF:∀(j:Nat) (q:Oper),l[j]?=some q→q.dst=some t→listed.getD j false=false:=fun j q h1 h2=>by
     have h3:=nH j q h1 h2
     cases hlj:listed.getD j false with
     |false=>rfl
     |true=>rw [(kD j).2 (.inr hlj)]at h3;cases h3
    have h1:den G' y=some (a.tmps.getD t undef):=by rw [D8 hG y fun r hr=>tV t y hy r (I.rsub r hr)];exact I.base t y hy oF
    cases hd:o.dst with
    |none=>exact h1
    | some d=>
     have jF:d≠t:=fun e=>by
      have h3:=nH i o kL (by rw [hd,e])
      rw [(kD i).2 (.inl rfl)]at h3;cases h3
     simp only [Act.put,Array.getD_eq_getD_getElem?]
     rw [Array.getElem?_setIfInBounds_ne jF,←Array.getD_eq_getD_getElem?]
     exact h1
   ·by_cases jW:j=i
    ·subst jW
     rw [kL]at q1;cases q1
     rw [hx]at q3;cases q3
     refine⟨fun r hr=>(oU r hr).2,fun d q4=>?_⟩
     have rP:d<a.tmps.size:=by rw [I.size];exact(pM d q4).1
     rw [q4]
     simp [Act.put,rP,hv]
    ·have h2:listed.getD j false=true:=by
      rcases(kD j).1 q2 with h|h
      ·exact absurd h jW
      ·exact h
     obtain⟨g1,g2⟩:=I.done j p y q1 h2 q3
     refine⟨fun r hr=>g1 r (oU r hr).1,fun d q4=>?_⟩
     have h1:den G' y=some (a.tmps.getD d undef):=by rw [D8 hG y g1];exact g2 d q4
     cases hd:o.dst with
     |none=>exact h1
     | some d'=>
      have jF:d'≠d:=fun e=>by
       subst e
       exact jW ((pM d' hd).2.1 j (by simpa using (List.getElem?_eq_some_iff.1 q1).1) (by simp [Hs,q1,q4]))
      simp only [Act.put,Array.getD_eq_getD_getElem?]
      rw [Array.getElem?_setIfInBounds_ne jF,←Array.getD_eq_getD_getElem?]
      exact h1
   ·rw [kD p,I.eff p hp]
    have:=qA.1 p hp
    have hb:(p=i∨p∈c)↔(Nat.beq p i||c.contains p)=true:=by
     rw [Bool.or_eq_true]
     refine or_congr ⟨fun h=>by subst h;exact Nat.beq_refl p,Nat.eq_of_beq_eq_true⟩ (by simp)
    rw [hb]
    rw [beq_iff_eq]at this
    rw [←this];simp
   ·have:=qA.2 p hp;simpa using this
   ·rw [kD r]
    by_cases jW:j=i
    ·subst jW;rw [kL]at q1;cases q1;exact .inr (hw r q3)
    ·rcases(kD j).1 q2 with h|h
     ·exact absurd h jW
     ·exact .inr (I.closed j p r q1 h q3)
  unfold wpOp
  rcases he G a w A with⟨nA,h⟩|⟨nA,G',h1,h2,h3⟩
  ·simp only [lG,nA,if_true]
   refine .inl (Oper.wp_mono (fun a2 w2 h=>?_) (h Q))
   obtain⟨v,rfl,G',h1,h2,h3⟩:=h
   exact next v w2 G' h1 h2 h3
  ·simp only [lG,nA,Bool.false_eq_true,if_false]
   exact next undef w G' h1 h2 h3
def I2 (ops:Array Oper)(ef c:List Nat):List Oper→Nat→List Bool
 | [],_=>[]
 |o::l,i=>Kq ops ef c i o::I2 ops ef c l (i+1)
def U9 (P:Program)(n:Nat)(ks:List Nat)(G0:Gr)(w0:World)(T:List (Nat×SV))(L:List Oper)(xs:List SV)(ef:List Nat)(tb:List (List Nat×List Nat×Hp))(c rs:List Nat)(H:Hp):List Bool→List Oper→Nat→Prop
 |true::bs,o::l,i=>Hg P n ks G0 w0 T L xs ef tb c rs H i o∧U9 P n ks G0 w0 T L xs ef tb c rs H bs l (i+1)
 |false::bs,o::l,i=>U9 P n ks G0 w0 T L xs ef tb c rs H bs l (i+1)
 |_,_,_=>True
def ZJ (P:Program)(n:Nat)(ks:List Nat)(G0:Gr)(w0:World)(T:List (Nat×SV))(L:List Oper)(xs:List SV)(ef:List Nat)(tb:List (List Nat×List Nat×Hp)):List (List Bool)→List (List Nat×List Nat×Hp)→Prop
 |bs::B,(c,rs,H)::ss=>U9 P n ks G0 w0 T L xs ef tb c rs H bs L 0∧ZJ P n ks G0 w0 T L xs ef tb B ss
 |_,_=>True
theorem Kr {c rs:List Nat}{H:Hp}{L:List Oper}:∀{m:List Oper} {j:Nat},U9 P n ks G0 w0 T L xs ef tb c rs H (I2 L.toArray ef c m j) m j→∀(i:Nat) (o:Oper),m[i]?=some o→Kq L.toArray ef c (j+i) o=true→Hg P n ks G0 w0 T L xs ef tb c rs H (j+i) o
 | [],j,_,i,o,h,_=>by cases h
 | p::m,j,hO,i,o,h,hm=>by
  unfold I2 at hO
  cases i with
  |zero=>
   cases h
   rw [Nat.add_zero]at hm⊢
   rw [hm]at hO
   exact hO.1
  | succ i=>
   have xB:U9 P n ks G0 w0 T L xs ef tb c rs H (I2 L.toArray ef c m (j+1)) m (j+1):=by
    cases hb:Kq L.toArray ef c j p with
    |true=>rw [hb]at hO;exact hO.2
    |false=>rw [hb]at hO;exact hO
   have:=Kr xB i o (by simpa using h) (by rw [show j+1+i=j+(i+1) by omega];exact hm)
   rwa [show j+1+i=j+(i+1) by omega]at this
theorem My:∀{ss:List (List Nat×List Nat×Hp)},ZJ P n ks G0 w0 T l xs ef tb (ss.map fun s=>I2 l.toArray ef s.1 l 0) ss→∀(k:Nat) (c rs:List Nat) (H:Hp),ss[k]?=some (c,rs,H)→U9 P n ks G0 w0 T l xs ef tb c rs H (I2 l.toArray ef c l 0) l 0
 | [],_,k,c,rs,H,h=>by cases h
 |(c1,r1,H1)::ss,hO,k,c,rs,H,h=>by
  simp only [List.map_cons,ZJ]at hO
  cases k with
  |zero=>cases h;exact hO.1
  |succ k=>exact My hO.2 k c rs H (by simpa using h)
theorem Sy.pad {H:Hp}{G:Gr}{a:Act}{w:World}(A:Ms H ks G0 w0 G w)(m:Nat):Ms (H++List.replicate m none) ks G0 w0 (G++List.replicate m none) w:=by
 have hlen:=A.mem.len
 have hold:∀(i:Nat) (e:A6),(H++List.replicate m none)[i]?=some (some e)→H[i]?=some (some e):=by
  intro i e h
  by_cases hi:i<H.length
  ·rwa [List.getElem?_append_left hi]at h
  ·rw [List.getElem?_append_right (by omega),List.getElem?_replicate]at h
   split at h<;>cases h
 have hg:∀(i:Nat) (e:A6),H[i]?=some (some e)→(G++List.replicate m none)[i]?=G[i]?:=fun i e h=>by
  have:=(List.getElem?_eq_some_iff.1 h).1
  rw [List.getElem?_append_left (by omega)]
 refine⟨⟨by simp [hlen],fun i e h=>?_,fun i j e f L M jV h1 h2 h3 h4 h5 h6=>?_⟩,?_,fun i e L h1 h2 h3=>?_,A.mix⟩
 ·rw [hg i e (hold i e h)];exact(A.mem.ent i e (hold i e h)).more _
 ·rw [hg i e (hold i e h1)]at h4
  rw [hg j f (hold j f h2)]at h5
  exact A.mem.sep i j e f L M jV (hold i e h1) (hold j f h2) h3 h4 h5 h6
 ·obtain⟨F,rfl⟩:=A.pre;exact⟨F++List.replicate m none,by simp⟩
 ·rw [hg i e (hold i e h1)]at h3;exact A.own i e L (hold i e h1) h2 h3
mutual
theorem Lq {G : Gr} {r :Nat} (key:∀i,(∃p,G[i]?=some p)→(!Nat.beq i r)=true):∀(x:SV) {v:Value},den G x=some v→Mu r x=true
  | .ptr i _, v, hx => by unfold den at hx;split at hx;·next L hL=>exact key i ⟨_,hL⟩
                          ·cases hx
  | .el i _ _ _, v, hx => by unfold den at hx;split at hx;·next L hL=>exact key i ⟨_,hL⟩
                             ·cases hx
  | .sl i _ _, v, hx => by unfold den at hx;split at hx;·next L hL=>exact key i ⟨_,hL⟩
                           ·cases hx
  | .st i _ _ _ _, v, hx => by unfold den at hx;split at hx;·next L hL=>exact key i ⟨_,hL⟩
                               ·cases hx
  | .agg l,v,hx=>by unfold den at hx;obtain⟨vs,h1,_⟩:=Option.map_eq_some_iff.1 hx;exact Ks key l h1
  | .tup l,v,hx=>by unfold den at hx;obtain⟨vs,h1,_⟩:=Option.map_eq_some_iff.1 hx;exact Ks key l h1
  | .fn _ l,v,hx=>by unfold den at hx;obtain⟨vs,h1,_⟩:=Option.map_eq_some_iff.1 hx;exact Ks key l h1
  | .opt _ x,v,hx=>by unfold den at hx;obtain⟨vs,h1,_⟩:=Option.map_eq_some_iff.1 hx;exact Lq key x h1
  | .ix p _ _ _ _,v,hx=>by
    unfold den at hx
    cases hq:den G p with
    |none=>rw [hq]at hx;cases hx
    |some u=>exact Lq key p hq
  | .sp p _ _,v,hx=>by
    unfold den at hx
    cases hq:den G p with
    |none=>rw [hq]at hx;cases hx
    |some u=>exact Lq key p hq
  | .int _ _,_,_=>rfl
  | .bool _,_,_=>rfl
  | .tt,_,_=>rfl
  | .ff,_,_=>rfl
  | .str _,_,_=>rfl
  | .sla _ _ _,_,_=>rfl
  | .v _,_,_=>rfl
theorem Ks {G:Gr}{r:Nat}(key:∀i,(∃p,G[i]?=some p)→(!Nat.beq i r)=true):∀(l:List SV) {vs:List Value},AE G l=some vs→S3 r l=true
 | [],_,_=>rfl
 |x::l,vs,hx=>by
  obtain⟨v,ws,h1,h2,_⟩:=Au hx
  unfold S3
  rw [Lq key x h1,Ks key l h2];rfl
end
theorem Mz {G:Gr}{r:Nat}(h:G.length≤r)(x:SV){v:Value}(hx:den G x=some v):Mu r x=true:=
 Lq (fun i ⟨p,hp⟩=>by
  have:=(List.getElem?_eq_some_iff.1 hp).1
  cases hb:Nat.beq i r with
  |false=>rfl
  |true=>have:=Nat.eq_of_beq_eq_true hb;omega) x hx
def O9 (ef:List Nat):List (List Nat×List Nat×Hp)→Option Hp
 | []=>none
 | [(_,_,H)]=>some H
 |(c,_,_)::s=>bif ef.all c.contains then none else O9 ef s
theorem Fe {HE:Hp}:∀{tb:List (List Nat×List Nat×Hp)},O9 ef tb=some HE→∀(k:Nat) (c rs:List Nat) (H:Hp),tb[k]?=some (c,rs,H)→ef.all c.contains=true→H=HE
 | [],h,k,c,rs,H,hk,_=>by cases hk
 | [(c1,r1,H1)],h,k,c,rs,H,hk,_=>by
  cases h
  cases k with
  |zero=>cases hk;rfl
  |succ k=>simp at hk
 | (c1,r1,H1)::s1::ss,h,k,c,rs,H,hk,hc=>by
  unfold O9 at h
  cases hb:ef.all c1.contains with
  |true=>rw [hb]at h;cases h
  |false=>
   rw [hb]at h
   cases k with
   |zero=>cases hk;rw [hc]at hb;cases hb
   |succ k=>exact Fe (tb:=s1::ss) h k c rs H (by simpa using hk) hc
theorem Hh {id:Nat} {H HE:Hp} {G:Gr} {a:Act} {w:World} {K:List Fr} (BK:P.follows .mixedOrders=true) (xs:List SV) (ef rs0:List Nat) (m:Nat) (tb:List (List Nat×List Nat×Hp)) (B:List (List Bool)) (A:Sy n T H ks G0 w0 G a w)
  (h0:tb[0]?=some ([],rs0,H++List.replicate m none)) (hE:O9 ef tb=some HE) (nE:(rs0.all fun r=>Nat.ble H.length r)=true) (pR:(ef.all fun p=>Nat.blt p l.length)=true) (hB:(tb.map fun s=>I2 l.toArray ef s.1 l 0)=B) (hl:xs.length=l.length) (kC:Ih l.toArray n []=true)
  (hO:ZJ P n ks G0 w0 (Cx l T) l xs ef tb B tb) (hk:∀{G a w},Sy n (lD l xs (Cx l T)) HE ks G0 w0 G a w→Goal P Q K .norm a w):Goal P Q K (.code (.region id l.toArray true)) a w:=by
 refine wp_region_any BK ?_
 have qB:Ms H ks G0 w0 G w.drew:=A.ms.grow (BW.refl w).drew
 rw [List.all_eq_true]at nE pR
 refine Qq (P:=P) (xs:=xs) (T:=Cx l T) (ef:=ef) (rs0:=rs0) (tb:=tb) kC (fun t x hx j o h3 h4 i q hq jF=>.inl<|Kg (by have:=GB (DI hx).2 j o h3 h4;rwa [Nat.zero_add]at this) i (List.getElem?_eq_some_iff.1 hq).1 jF) (fun t x hx r hr=>?_) hl (fun k c rs H hk i o hi hm=>?_) (fun k c rs H' jQ j8 G a w A'=>?_) _ _ _ _ 0 [] rs0 _ (G++List.replicate m none) (by simp) (by
  refine Nat.le_trans (List.length_filter_le _ _) (by simp)) h0 ⟨A.size,A.defers,fun t x hx _=>AP _ x (A.get t x (DI hx).1),fun j o x _ hj=>?_,Sy.pad (a:=a) qB m,fun p hp=>?_,fun p hp=>absurd hp (by simp),fun r hr=>hr,fun j o p _ hj=>?_⟩
 ·have:=nE r hr
  rw [A.mem.len]at this
  exact Mz (G:=G) (Nat.le_of_ble_eq_true this) x (A.get t x (DI hx).1)
 ·have:=Kr (My (by rw [hB];exact hO) k c rs H hk) i o hi (by rw [Nat.zero_add];exact hm)
  rwa [Nat.zero_add]at this
 ·have h2:(ef.all c.contains)=true:=by
   rw [List.all_eq_true]
   intro p hp
   have:=j8 p hp (by have:=pR p hp;simpa [Nat.blt_eq]using this)
   simpa using this
  cases Fe hE k c rs H' jQ h2
  exact hk A'
 ·exfalso;simp [Array.getD_eq_getD_getElem?,Array.getElem?_replicate]at hj;split at hj<;>simp at hj
 ·constructor
  ·intro hj;exfalso;simp [Array.getD_eq_getD_getElem?,Array.getElem?_replicate]at hj;split at hj<;>simp at hj
  ·intro hj;cases hj
 ·exfalso;simp [Array.getD_eq_getD_getElem?,Array.getElem?_replicate]at hj;split at hj<;>simp at hj
theorem Ff {α:Type}(d:α)(cf:α→List SV)(s:Nat)(hs:∀x,(cf x).length=s)(lR:∀x,Fw 0 (cf x)=true):∀(L:List α) (k:Nat),k<L.length→tk s (dp (k*s) (L.flatMap cf))=some (cf (L.getD k d))∧Fw 0 (cf (L.getD k d))=true
 | [],k,h=>by simp at h
 | x::L,0,_=>by
  refine⟨?_,lR _⟩
  have tkl:∀(a b:List SV),tk a.length (a++b)=some a:=by
   intro a b
   induction a with
   |nil=>rfl
   |cons y a ih=>simp [tk,ih]
  rw [Nat.zero_mul,←hs x]
  exact tkl _ _
 |x::L,k+1,h=>by
  have:=Ff d cf s hs lR L k (by simpa using h)
  rw [Fu]at this⊢
  have e:(k+1)*s=(cf x).length+k*s:=by rw [hs,Nat.add_mul];omega
  rw [List.flatMap_cons,e,←List.drop_drop,List.drop_left]
  exact this
theorem Sy.asT {H:Hp}{G:Gr}{a:Act}{w:World}(A:Sy n T H ks G0 w0 G a w){α:Type}(d:α)(cf:α→List SV)(s:Nat)(hs:∀x,(cf x).length=s)(lR:∀x,Fw 0 (cf x)=true)(jC:∀x,∃vs,AE [] (cf x)=some vs)(L:List α)(i:Nat)(hi:lg H i=some (some (.blk (L.flatMap cf)))):Sy n T (Br H i (some (.lst s L.length fun zz=>cf (L.getD zz d)))) ks G0 w0 G a w:=
 A.asList i (f:=fun zz=>cf (L.getD zz d)) (by rw [Ah]at hi;exact hi) (.inr ⟨_,rfl,Ff d cf s hs lR L⟩) (fun _ _=>rfl) (fun k=>jC _)
end
section
variable {n:Nat}{ks:List Nat}{G0:Gr}{w0:World}{T T':List (Nat×SV)}{H H':Hp}{G:Gr}{a:Act}{w:World}{Q:Exit→Act→World→Prop}{K K':List Fr}{pos pos':Pos}{E:Ob}
theorem iV {l:List Oper}{xs:List SV}{ef:List Nat}{tb:List (List Nat×List Nat×Hp)}{c rs:List Nat}{i:Nat}{o:Oper}{x:SV}{c' rs':List Nat}(k':Nat)(h:(xs[i]?,tb[k']?,((ef.all fun p=>c'.contains p==(Nat.beq p i||c.contains p))&&c'.all ef.contains),(rs'.all fun r=>rs.contains r&&Mu r x),Cj ⟨X,true⟩ n l.toArray (IR o l xs 0 T) H o)=(some x,some (c',rs',H),true,true,some (.val x E)))(hE:Cz E):Hg Tryz.prog n ks G0 w0 T l xs ef tb c rs H i o:=by
 simp only [Prod.mk.injEq]at h
 exact⟨x,c',rs',H,k',h.1,h.2.1,h.2.2.1,h.2.2.2.1,Qp (Aj (X:=⟨X,true⟩) (out:=.val x E) hX h.2.2.2.2 hE) rfl⟩
theorem BT {l:List Oper}{xs:List SV}{ef:List Nat}{tb:List (List Nat×List Nat×Hp)}{c rs:List Nat}{i:Nat}{o:Oper}{x:SV}{c' rs':List Nat}(k':Nat)(h:(xs[i]?,tb[k']?,((ef.all fun p=>c'.contains p==(Nat.beq p i||c.contains p))&&c'.all ef.contains),(rs'.all fun r=>rs.contains r&&Mu r x),H'.length)=(some x,some (c',rs',H'),true,true,H.length))(e:Aw Tryz.prog n l.toArray ks G0 w0 (IR o l xs 0 T) H o x H'):Hg Tryz.prog n ks G0 w0 T l xs ef tb c rs H i o:=by
 simp only [Prod.mk.injEq]at h
 exact⟨x,c',rs',H',k',h.1,h.2.1,h.2.2.1,h.2.2.2.1,Qp e h.2.2.2.2⟩
end
def Bm (e s m:Nat)(f:Nat→List SV)(b cp:Nat)(w:World):Prop:=(∀k,∃vs,AE [] (f k)=some vs∧vs.length=s)∧∃xs,Bt f m=some xs∧w.ownsRow 0 e s (.slice (some ⟨b,0,none⟩) m cp) m xs
section
variable {P:Program}{n:Nat}{ks:List Nat}{G0:Gr}{w0:World}{T:List (Nat×SV)}{H:Hp}{G:Gr}{a:Act}{w w':World}
theorem Sy.giveRow (A:Sy n T H ks G0 w0 G a w)(i t:Nat){e s m c:Nat}{f:Nat→List SV}{H':Hp}(hm:0<m)(hi:lg H i=some (some (.row e s m c f)))(ht:look T t=some (.sl i m c))(hH:Br H i none=H'):
  ∃b cp,Sy n ((t,.sla (some ⟨b,0,none⟩) m cp)::T) H' ks G0 w0 G a w∧Bm e s m f b cp w∧(ks.contains b=true∨w0.heap.size≤b)∧(keys H' G).contains b=false:=by
 subst hH
 rw [Ah]at hi
 obtain⟨h1,h2,xs,h3,h4⟩:=A.mem.ent i _ hi
 have h5:∃L,G[i]?=some (some L):=by
  cases hq:G[i]? with
  |none=>
   rw [hq]at h4
   rcases h4.2 with⟨_,h⟩|⟨g,cap,cur,h,_⟩
   ·omega
   ·cases h
  | some p=>
   cases p with
   |none=>
    rw [hq]at h4
    rcases h4.2 with⟨_,h⟩|⟨g,cap,cur,h,_⟩
    ·omega
    ·cases h
   |some L=>exact⟨L,rfl⟩
 obtain⟨L,j0⟩:=h5
 rw [j0]at h2 h4
 have jT:L.pre=[]:=h2 L rfl
 have qC:w.ownsRow 0 e s (.slice (some ⟨L.b,0,none⟩) m (c+rm (some L))) m xs:=by
  have:(Option.map (fun L:Loc=>(⟨L.b,L.pre.length,none⟩:Addr)) (some L))=some ⟨L.b,0,none⟩:=by simp [jT]
  rw [←this];exact h4
 have hold:∀(j:Nat) (e:A6),(Br H i none)[j]?=some (some e)→j≠i∧H[j]?=some (some e):=by
  intro j e h
  rw [Ag]at h
  by_cases hj:j=i
  ·subst hj;rw [List.getElem?_set_self (List.getElem?_eq_some_iff.1 hi).1]at h;cases h
  ·rw [List.getElem?_set_ne (Ne.symm hj)]at h;exact⟨hj,h⟩
 refine⟨L.b,c+rm (some L),⟨A.size,A.defers,fun q x hx=>?_,⟨by rw [Ag];simpa using A.mem.len,fun j e he=>A.mem.ent j e (hold j e he).2,fun j k e f L' M kQ g1 g2 g3 g4 g5 g6=>A.mem.sep j k e f L' M kQ (hold j e g1).2 (hold k f g2).2 g3 g4 g5 g6⟩,A.pre,fun j e L' g1 g2 g3=>A.own j e L' (hold j e g1).2 g2 g3,A.mix⟩,⟨h1,xs,h3,qC⟩,A.own i _ L hi rfl j0,?_⟩
 ·unfold look at hx
  cases hb:Nat.beq t q with
  |true=>
   rw [hb]at hx;cases hx
   have:=Nat.eq_of_beq_eq_true hb
   subst this
   have:=A.get t _ ht
   unfold den at this
   rw [j0]at this
   rw [←this]
   simp [den,jT]
  |false=>rw [hb]at hx;exact A.get q x hx
 ·cases hq:(keys (Br H i none) G).contains L.b with
  |false=>rfl
  |true=>
   obtain⟨j,e,L',g1,g2,g3,g4⟩:=mem_keys.1 hq
   obtain⟨k1,k2⟩:=hold j e g1
   exact absurd g4.symm (A.mem.sep i j _ e L L' (Ne.symm k1) hi k2 rfl j0 g3 (At g2))
theorem Sy.takeRow (A:Sy n T H ks G0 w0 G a w)(t:Nat){e s m b cp:Nat}{f:Nat→List SV}(hg:Bm e s m f b cp w)(hn:∀(i:Nat) (e:A6) (L:Loc),H[i]?=some (some e)→G[i]?=some (some L)→¬e.empty→L.b≠b)(ho:w0.heap.size≤b)(ht:look T t=some (.sla (some ⟨b,0,none⟩) m cp)):
  Sy n ((t,.sl H.length m 0)::T) (H++[some (.row e s m 0 f)]) ks G0 w0 (G++[some ⟨b,[],List.replicate cp undef,e⟩]) a w:=by
 have hlen:=A.mem.len
 obtain⟨p1,xs,p2,p3⟩:=hg
 have nG:Ae G w (some ⟨b,[],List.replicate cp undef,e⟩) (.row e s m 0 f):=⟨p1,fun L hL=>by cases hL;rfl,xs,p2,by simpa [rm]using p3⟩
 have hold:∀(i:Nat) (x:A6),(H++[some (A6.row e s m 0 f)])[i]?=some (some x)→(H[i]?=some (some x)∧i<H.length)∨(i=H.length∧x=.row e s m 0 f):=by
  intro i x h
  by_cases hi:i<H.length
  ·rw [List.getElem?_append_left hi]at h;exact .inl ⟨h,hi⟩
  ·rw [List.getElem?_append_right (by omega)]at h
   have:i - H.length=0:=by
    cases hq:i - H.length with
    |zero=>rfl
    |succ k=>rw [hq]at h;simp at h
   rw [this]at h
   simp at h
   exact .inr ⟨by omega,h.symm⟩
 have hG:∀i,i<H.length→(G++[some (⟨b,[],List.replicate cp undef,e⟩:Loc)])[i]?=G[i]?:=fun i hi=>List.getElem?_append_left (by omega)
 have kA:(G++[some (⟨b,[],List.replicate cp undef,e⟩:Loc)])[H.length]?=some (some ⟨b,[],List.replicate cp undef,e⟩):=by rw [List.getElem?_append_right (by omega),hlen];simp
 refine⟨A.size,A.defers,fun q x hx=>?_,⟨by simp [hlen],?_,?_⟩,?_,?_,A.mix⟩
 ·unfold look at hx
  cases hb:Nat.beq t q with
  |true=>
   rw [hb]at hx;cases hx
   have:=Nat.eq_of_beq_eq_true hb
   subst this
   have:=A.get t _ ht
   unfold den at this⊢
   rw [kA,←this]
   simp [rm]
  |false=>rw [hb]at hx;exact AP _ x (A.get q x hx)
 ·intro i x h
  rcases hold i x h with⟨h1,h2⟩|⟨rfl,rfl⟩
  ·rw [hG i h2];exact(A.mem.ent i x h1).more _
  ·rw [kA];exact nG.more _
 ·intro i j x y L M jV h1 h2 h3 h4 h5 h6
  rcases hold i x h1 with⟨k1,k2⟩|⟨rfl,rfl⟩
  ·rw [hG i k2]at h4
   rcases hold j y h2 with⟨k3,k4⟩|⟨rfl,rfl⟩
   ·rw [hG j k4]at h5;exact A.mem.sep i j x y L M jV k1 k3 h3 h4 h5 h6
   ·rw [kA]at h5;cases h5;exact hn i x L k1 h4 (At h3)
  ·rw [kA]at h4;cases h4
   rcases hold j y h2 with⟨k3,k4⟩|⟨rfl,rfl⟩
   ·rw [hG j k4]at h5;exact fun z=>hn j y M k3 h5 h6 z.symm
   ·exact absurd rfl jV
 ·obtain⟨F,hF⟩:=A.pre;exact⟨F++[some ⟨b,[],List.replicate cp undef,e⟩],by rw [hF,List.append_assoc]⟩
 ·intro i x L h1 h2 h3
  rcases hold i x h1 with⟨k1,k2⟩|⟨rfl,rfl⟩
  ·rw [hG i k2]at h3;exact A.own i x L k1 h2 h3
  ·rw [kA]at h3;cases h3;exact .inr ho
theorem Sy.adoptL (A:Sy n T H ks G0 w0 G a w){α:Type}(d:α)(cf:α→List SV)(s:Nat)(hs:∀x,(cf x).length=s)(lR:∀x,Fw 0 (cf x)=true)(jC:∀x,∃vs,AE [] (cf x)=some vs)(R:List α){b cp:Nat}{vs:List Value}(h0:Iv b 0 vs w0 ks)(hv:AE [] (R.flatMap cf)=some vs)(t:Nat)(hx:look T t=some (.sla (some ⟨b,0,none⟩) R.length cp)):
  Sy n ((t,.sl H.length R.length cp)::T) (H++[some (.lst s R.length fun zz=>cf (R.getD zz d))]) ks G0 w0 (G++[some ⟨b,[],[],0⟩]) a w:=by
 have hl:=h0.go A.mix (ks':=ks) fun b hb=>.inl hb
 have hlen:=A.mem.len
 have hG:(G++[some (⟨b,[],[],0⟩:Loc)])[H.length]?=some (some ⟨b,[],[],0⟩):=by rw [List.getElem?_append_right (by omega),hlen];simp
 have hold:∀(i:Nat) (e:A6),(H++[some (A6.lst s R.length fun zz=>cf (R.getD zz d))])[i]?=some (some e)→(H[i]?=some (some e)∧i<H.length)∨(i=H.length∧e=.lst s R.length fun zz=>cf (R.getD zz d)):=by
  intro i e h
  by_cases hi:i<H.length
  ·rw [List.getElem?_append_left hi]at h;exact .inl ⟨h,hi⟩
  ·rw [List.getElem?_append_right (by omega)]at h
   have:i - H.length=0:=by
    cases hq:i - H.length with
    |zero=>rfl
    |succ k=>rw [hq]at h;simp at h
   rw [this]at h
   simp at h
   exact .inr ⟨by omega,h.symm⟩
 have lI:∀i,i<H.length→(G++[some (⟨b,[],[],0⟩:Loc)])[i]?=G[i]?:=fun i hi=>List.getElem?_append_left (by omega)
 refine⟨A.size,A.defers,fun q z hz=>?_,⟨by simp [hlen],?_,?_⟩,?_,?_,A.mix⟩
 ·unfold look at hz
  cases hb:Nat.beq t q with
  |true=>
   rw [hb]at hz;cases hz
   have:=Nat.eq_of_beq_eq_true hb
   subst this
   have h1:=A.get t _ hx
   unfold den at h1⊢
   rw [hG,←h1]
   simp [rm]
  |false=>rw [hb]at hz;exact AP _ z (A.get q z hz)
 ·intro i e h
  rcases hold i e h with⟨h1,h2⟩|⟨rfl,rfl⟩
  ·rw [lI i h2];exact(A.mem.ent i e h1).more _
  ·rw [hG]
   refine⟨fun k=>jC _,.inr ⟨_,rfl,hl.1,fun k hk=>?_⟩⟩
   obtain⟨r1,r2⟩:=Ff d cf s hs lR R k hk
   obtain⟨r3,r4⟩:=GS r1
   rw [Fu]at r3 r4
   have hd:AE [] (cf (R.getD k d))=some ((vs.drop (k*s)).take s):=by rw [r3];exact Bo s (Bp _ hv)
   refine⟨_,hd,fun q v hq=>?_⟩
   have oX:vs[k*s+q]?=some v:=by
    rw [List.getElem?_take]at hq
    split at hq
    ·rw [List.getElem?_drop]at hq;exact hq
    ·cases hq
   have:=hl.2.2 (k*s+q) v oX
   simpa using this
 ·intro i j e f L M jV h1 h2 h3 h4 h5 h6
  rcases hold i e h1 with⟨k1,k2⟩|⟨rfl,rfl⟩
  ·rw [lI i k2]at h4
   rcases hold j f h2 with⟨k3,k4⟩|⟨rfl,rfl⟩
   ·rw [lI j k4]at h5;exact A.mem.sep i j e f L M jV k1 k3 h3 h4 h5 h6
   ·rw [hG]at h5
    cases h5
    intro lX
    rcases A.own i e L k1 h3 h4 with h7|h7
    ·rw [lX]at h7;simp only at h7;rw [h0.2.1]at h7;cases h7
    ·rw [lX]at h7;simp only at h7;have:=h0.1;omega
  ·cases h3
 ·obtain⟨F,hF⟩:=A.pre;exact⟨F++[some ⟨b,[],[],0⟩],by rw [hF,List.append_assoc]⟩
 ·intro i e L h1 h2 h3
  rcases hold i e h1 with⟨k1,k2⟩|⟨rfl,rfl⟩
  ·rw [lI i k2]at h3;exact A.own i e L k1 h2 h3
  ·cases h2
end
section
variable {P:Program}{n:Nat}{ks:List Nat}{G0:Gr}{w0:World}{T:List (Nat×SV)}{H:Hp}{G:Gr}{a:Act}{w w':World}{Q:Exit→Act→World→Prop}{K:List Fr}{ops:Array Oper}{o:Oper}{rest:List Oper}
theorem Fg {β:Type} {e s m t f:Nat} {F:β→Nat→List SV} {R:β→Nat→World→World→Prop} (hf:Jf P f [] [] (fun x w w'=>∃(L:β) (b cp:Nat),x=.sla (some ⟨b,0,none⟩) m cp∧R L b w w'∧w.heap.size≤b∧Bm e s m (F L) b cp w')) (A:Sy n T H ks G0 w0 G a w) (hd:o.dst=some t) (h1:BS n ops T o=some (f,[]))
  (k:∀L b cp a' w' G',R L b w w'→w.heap.size≤b→(∀k,(keys (H++[some (.row e s m 0 (F L))]) G').contains k=true→k<w.heap.size∨k=b)→Sy n ((t,.sl H.length m 0)::Ay T o.dst (.sla (some ⟨b,0,none⟩) m cp)) (H++[some (.row e s m 0 (F L))]) ks G0 w0 G' a' w'→Goal P Q K (.ops ops rest) a' w'):Goal P Q K (.ops ops (o::rest)) a w:=by
 refine Iw [] hf A h1 rfl rfl rfl rfl fun x a' w' hJ hk A'=>?_
 obtain⟨L,b,cp,rfl,hR,jO,hg⟩:=hJ
 have hl:look (Ay T o.dst (.sla (some ⟨b,0,none⟩) m cp)) t=some (.sla (some ⟨b,0,none⟩) m cp):=by rw [hd];simp [Ay,look,Nat.beq_refl]
 have A2:=A'.takeRow t hg (fun i e L q1 q2 q3=>by
  have:=A.mem.ent i e q1
  rw [q2]at this
  have:=Ae.lt this q3
  omega) (Nat.le_trans A.mix.size jO) hl
 refine k L b cp a' w' _ hR jO (fun k jQ=>?_) A2
 obtain⟨i,e',M,q1,q2,q3,q4⟩:=mem_keys.1 jQ
 have hlen:=A.mem.len
 by_cases hi:i<H.length
 ·rw [List.getElem?_append_left hi]at q1
  rw [List.getElem?_append_left (by omega)]at q3
  exact .inl (hk k (mem_keys.2 ⟨i,e',M,q1,q2,q3,q4⟩))
 ·right
  have mB:i=G.length:=by
   have:=(List.getElem?_eq_some_iff.1 q3).1
   simp at this
   omega
  subst mB
  rw [List.getElem?_append_right (Nat.le_refl _)]at q3
  simp at q3
  rw [←q4,←q3]
end
def bl:Option Addr→List Nat
 |some a=>[a.block]
 |none=>[]
abbrev Ro (e:Nat)(w:World)(ao:Option Addr)(n cp:Nat)(xs:List Value):Prop:=w.ownsRow 0 e 1 (.slice ao n cp) n xs
theorem Wd {ao:Option Addr}{n cp k:Nat}:(bl ao).contains k=true↔(Value.slice ao n cp).ownBlock=some k:=by
 cases ao with
 |none=>simp [bl,Value.ownBlock]
 |some a=>simp [bl,Value.ownBlock];exact⟨fun h=>h.symm,fun h=>h.symm⟩
theorem Ro.lt {e:Nat}{w:World}{ao:Option Addr}{n cp:Nat}{xs:List Value}(h:Ro e w ao n cp xs){k:Nat}(hk:(bl ao).contains k=true):k<w.heap.size:=(KV h k (Wd.1 hk)).2
theorem Ro.cell {e:Nat}{w:World}{b n cp:Nat}{xs:List Value}(h:Ro e w (some ⟨b,0,none⟩) n cp xs):∀j u,xs[j]?=some u→w.cell? ((⟨b,0,none⟩:Addr).add j)=some u:=h.cells (g:=b) rfl
theorem Ro.range {e:Nat}{w:World}{b n cp:Nat}{xs:List Value}(h:Ro e w (some ⟨b,0,none⟩) n cp xs):w.rangeAt b 0 xs:=fun j u hu=>by
 have:=h.cell j u hu
 rw [Addr.add_mid,Nat.zero_add]at this;simpa using this
theorem Ro.cut {e:Nat}{w:World}{ao:Option Addr}{n m cp:Nat}{xs ys:List Value}(h:Ro e w ao n cp (xs++ys))(hm:xs.length=m)(h0:m≤n)(hn:ao≠none):Ro e w ao m cp xs:=by
 obtain⟨h1,h2⟩:=h
 refine⟨by simpa using hm,?_⟩
 rcases h2 with⟨q1,q2⟩|⟨g,cap,cur,q1,q2,q3,q4,q5,q6,q7⟩
 ·cases q1;exact absurd rfl hn
 ·cases q1
  refine .inr ⟨g,_,cur,rfl,q2,q3,by omega,q5,q6,?_⟩
  rw [Nat.mul_one]at q7⊢
  have:=congrArg (List.take m) q7
  rw [List.take_take,Nat.min_eq_left h0]at this
  rw [this,←hm];simp
section
variable {P:Program}{X:Tx}{n:Nat}{ks:List Nat}{G0:Gr}{w0:World}{T:List (Nat×SV)}{H:Hp}{G:Gr}{a:Act}{w w':World}{ops:Array Oper}{o:Oper}{rest:List Oper}{Q:Exit→Act→World→Prop}{K:List Fr}
def I3 (H:Hp)(G:Gr)(ks:List Nat):Prop:=∀(i:Nat) (e:A6) (L:Loc),H[i]?=some (some e)→G[i]?=some (some L)→¬e.empty→ks.contains L.b=false
theorem Sy.mixed (A:Sy n T H ks G0 w0 G a w){ks':List Nat}(m:CR ks' w w')(jM:I3 H G ks')(hk:∀b,ks'.contains b=true→ks.contains b=true∨w0.heap.size≤b):Sy n T H ks G0 w0 G a w':=by
 refine⟨A.size,A.defers,A.get,⟨A.mem.len,fun i e h=>(A.mem.ent i e h).mix m (fun jF L hL=>jM i e L h ?_ jF),A.mem.sep⟩,A.pre,A.own,A.mix.mix m fun k hl hc=>?_⟩
 ·cases hq:G[i]? with
  |none=>rw [hq]at hL;cases hL
  |some p=>rw [hq]at hL;simp at hL;rw [hL]
 ·cases hz:ks'.contains k with
  |false=>rfl
  |true=>
   rcases hk k hz with h|h
   ·rw [h]at hc;cases hc
   ·omega
theorem We {x y:Operand} {t rt:Nat} {ao:Option Addr} {nn cp:Nat} (A:Sy n T H ks G0 w0 G a w) (hg:iY ops T o.guard=some .run) (hd:Ci n o.dst=true) (jG:o.op=.binOp .eql t x y rt) (hx:jR T x=some (.sla ao nn cp)) (hy:jR T y=some (.sla none 0 0)) {e:Nat} (ht:P.underlying t=some (.slice e)) {r:SV} (hr:den [] r=some (.bool ao.isNone))
  (k:∀{a},Sy n (Ay T o.dst r) H ks G0 w0 G a w→Goal P Q K (.ops ops rest) a w):Goal P Q K (.ops ops (o::rest)) a w:=by
 have hw:=An (gd:=none) A hg
 obtain⟨d,op,ty,pos,af,gd⟩:=o
 simp only at jG
 subst jG
 have jB:=A.ev hx
 have jN:=A.ev hy
 unfold den at jB jN
 simp only [Option.some.injEq]at jB jN
 exact CJ (Q:=Fa P Q K) (Jr (u:=.slice ao nn cp) (v:=.slice none 0 0) hw jB.symm jN.symm ⟨by simp [eqGuard],Lib.run_eql_slice_nil w t e ao nn cp 0 0 ht⟩ (k (Sy.put A hd (by simpa using AP G r hr))))
end
def MS (P:Program)(f:Nat)(args:List SV)(H:Hp)(ks:List Nat)(pre:World→Prop)(J:SV→World→World→Prop):Prop:=
 Fo P f=some (false,false)∧(∀(i:Nat) (e:A6),H[i]?=some (some e)→e.mut=false)∧∀G w vs,Mem H G w→I3 H G ks→pre w→AE G args=some vs→Calls P f vs.toArray w fun e w'=>∃x v,den [] x=some v∧e=.returned v∧CR ks w w'∧J x w w'
section
variable {P:Program}{n:Nat}{ks:List Nat}{G0:Gr}{w0:World}{T:List (Nat×SV)}{H:Hp}{G:Gr}{a:Act}{w:World}{Q:Exit→Act→World→Prop}{K:List Fr}{pos:Pos}{ops:Array Oper}{o:Oper}{rest:List Oper}{pre:World→Prop}
theorem FN {f:Nat} {fn:Func} {c:Code} {args:List SV} {J:SV→World→World→Prop} (jH:Fo P f=some (false,false)) (hf:P.funcs[f]?=some fn) (hb:fn.body=some c) (hn:fn.ntmps=n) (hl:Nat.ble args.length n=true) (nK:∀(i:Nat) (e:A6),H[i]?=some (some e)→e.mut=false)
  (h:∀G w a,H.length=G.length→I3 H G ks→pre w→Sy n (La args 0) H ks G w G a w→Goal P (bodyPost P fn fun e w'=>∃x v,den [] x=some v∧e=.returned v∧CR ks w w'∧J x w w') [] (.code c) a w):MS P f args H ks pre J:=by
 refine⟨jH,nK,fun G w vs hM ho hp hv=>?_⟩
 refine calls_of_wp hf hb (h G w _ hM.len ho hp ⟨?_,rfl,fun t x hx=>?_,hM,⟨[],by simp⟩,fun i e L h1 h2 h3=>(by rw [nK i e h1]at h2;cases h2),CR.refl _ _⟩)
 ·have:=Av hv
  have:=Nat.le_of_ble_eq_true hl
  simp [hn];omega
 ·obtain⟨_,h2⟩:=Dm hx
  simp only [Nat.sub_zero]at h2
  obtain⟨v,h3,h4⟩:=CL hv h2
  have i7:t<vs.length:=(List.getElem?_eq_some_iff.1 h3).1
  rw [h4]
  simp [Array.getD_eq_getD_getElem?,Array.getElem?_append,i7]at h3⊢
  exact h3.symm
theorem kV {Y:Tb}{fn:Func}{J:SV→World→World→Prop}(hX:Y.ok P=true){y:SV}{r:List SV}{rv:List ResultVar}{v':Value}(A:Sy n T H ks G0 w0 G a w)(hr:fn.results.toList=rv)(hv:IF ⟨Y,false⟩ T H rv=some r)(hy:AX r=y)(hc:den [] y=some v')(hJ:J y w0 w):bodyPost P fn (fun e w'=>∃x v,den [] x=some v∧e=.returned v∧CR ks w0 w'∧J x w0 w') .ret a w:=by
 obtain⟨v,h1,h2⟩:=GZ (X:=⟨Y,false⟩) (fn:=fn) hX A hr hv hy
 have h3:den G y=some v':=by simpa using AP G y hc
 rw [h3]at h1
 cases h1
 exact⟨A.defers,v',h2,y,v',hc,rfl,A.mix,hJ⟩
theorem J3 {f:Nat} {args az:List SV} {H' l:Hp} {ks':List Nat} {J:SV→World→World→Prop} (m:List Nat) (hf:MS P f args H' ks' pre J) (A:Sy n T H ks G0 w0 G a w) (hp:pre w) (jM:I3 H G ks') (hk:∀b,ks'.contains b=true→ks.contains b=true∨w0.heap.size≤b) (h1:BS n ops T o=some (f,az)) (h2:DU m args=some az) (h3:Cm m H'=some l) (h4:Ca H m=some l) (h5:JY m=true)
  (k:∀{x a' w'},CR ks' w w'→J x w w'→Sy n (Ay T o.dst x) H ks G0 w0 G a' w'→Goal P Q K (.ops ops rest) a' w'):Goal P Q K (.ops ops (o::rest)) a w:=by
 obtain⟨hd,us,hu,lK⟩:=Cb (P:=P) (ops:=ops) A h1 hf.1
 obtain⟨p1,p2,p3⟩:=Co h4
 obtain⟨r1,r2⟩:=Cr h3
 have hm:∀j∈m,j<G.length:=fun j hj=>by rw [←A.mem.len];exact p2 j hj
 have hM:=A.mem.sub h4 h3 h5
 have mJ:AE (AY m G) args=some us:=by rw [Ck hm args h2];exact hu
 have tY:I3 H' (AY m G) ks':=fun i e L q1 q2 q3=>by
  obtain⟨f,s1,s2⟩:=r2 i _ q1
  obtain⟨f',rfl⟩:=CS s2
  have hi:i<m.length:=by rw [←p1];exact(List.getElem?_eq_some_iff.1 s1).1
  have hj:m[i]?=some m[i]:=by simp [hi]
  rw [BD hm hj]at q2
  rw [p3 i _ hj]at s1
  exact jM _ f' L s1 q2 fun h=>q3 ((BE s2).2.1 h)
 refine CJ (Q:=Fa P Q K) (lK (hf.2.2 _ w us hM tY hp mJ) fun e w' he=>?_)
 obtain⟨x,v,e1,rfl,hg,hJ⟩:=he
 exact⟨v,rfl,k hg hJ (Sy.put (A.mixed hg jM hk) hd (by simpa using AP G x e1))⟩
theorem Wf {ks':List Nat}(A:Sy n T H ks G0 w0 G a w)(h1:∀b,ks'.contains b=true→(keys H G).contains b=false)(h2:∀(i:Nat) (e:A6) (L:Loc),H[i]?=some (some e)→e.mut=false→G[i]?=some (some L)→¬e.empty→ks'.contains L.b=false):I3 H G ks':=fun i e L q1 q2 q3=>by
 cases hm:e.mut with
 |false=>exact h2 i e L q1 hm q2 q3
 | true=>
  cases hz:ks'.contains L.b with
  |false=>rfl
  |true=>
   have:=h1 _ hz
   rw [mem_keys.2 ⟨i,e,L,q1,hm,q2,rfl⟩]at this;cases this
theorem I3.nil:I3 H G []:=fun _ _ _ _ _ _=>rfl
end
section
variable {P:Program}{n:Nat}{ks:List Nat}{G0:Gr}{w0:World}{T:List (Nat×SV)}{H:Hp}{G:Gr}{a:Act}{w:World}{Q:Exit→Act→World→Prop}{K:List Fr}
theorem ZK {c:Code} (T1:List (Nat×SV)) (H1:Hp) (I:Prop) (A:Sy n T H ks G0 w0 G a w) (r0:∀{G a w},Sy n T H ks G0 w0 G a w→Goal P Q (.lp (fun a' w'=>∃G',I∧Sy n T1 H1 ks G0 w0 G' a' w')::K) (.code c) a w)
  (r1:I→∀{G a w},Sy n T1 H1 ks G0 w0 G a w→Goal P Q (.lp (fun _ _=>False)::K) (.code c) a w):Goal P Q K (.code (.loop c)) a w:=by
 refine KU (fun m a w=>(m=1∧∃G,Sy n T H ks G0 w0 G a w)∨(m=0∧I∧∃G,Sy n T1 H1 ks G0 w0 G a w)) 1 (.inl ⟨rfl,G,A⟩) ?_
 rintro m a w (⟨rfl,G,A⟩|⟨rfl,hI,G,A⟩)
 ·refine Code.wp_mono (fun e a' w' h=>?_) (r0 A)
  cases e with
  |normal=>obtain⟨G',h1,h2⟩:=h;exact⟨0,by omega,.inr ⟨rfl,h1,G',h2⟩⟩
  |_=>exact h
 ·refine Code.wp_mono (fun e a' w' h=>?_) (r1 hI A)
  cases e with
  |normal=>exact absurd h (fun h=>h)
  |_=>exact h
end
theorem B8 {i o s m k:Nat}(j:Nat){q:Nat}(hq:o+j*s+k=q):∀G,den G (.ix (.ptr i o) s m (j:Int) k)=den G (.ptr i q):=fun G=>by
 subst hq
 unfold den
 cases hG:G[i]? with
 |none=>unfold den;rw [hG]
 |some p=>cases p with
  |none=>unfold den;rw [hG]
  |some L=>unfold den;rw [hG];simp [Nat.add_assoc]
section
variable {P:Program}{Y:Tb}{n:Nat}{ks:List Nat}{G0:Gr}{w0:World}{T:List (Nat×SV)}{H:Hp}{G:Gr}{a:Act}{w w':World}{Q:Exit→Act→World→Prop}{K:List Fr}{ops:Array Oper}{o:Oper}{rest:List Oper}
end
theorem ZL {j:Int}(h:0≤j∧j<8):j=0∨j=1∨j=2∨j=3∨j=4∨j=5∨j=6∨j=7:=by omega
section
variable {P:Program}{Y:Tb}{n:Nat}{ks:List Nat}{G0:Gr}{w0:World}{T:List (Nat×SV)}{H:Hp}{ops:Array Oper}{o:Oper}{rest:List Oper}{Q:Exit→Act→World→Prop}{K:List Fr}
end
abbrev Rg:=Nat→Int
def BA (r:Rg)(k:Nat)(x:Int):Rg:=fun j=>if j=k then x else r j
section
variable {P:Program}{Y:Tb}{n:Nat}{ks:List Nat}{G0:Gr}{w0:World}{T:List (Nat×SV)}{H:Hp}{ops:Array Oper}{o:Oper}{rest:List Oper}{Q:Exit→Act→World→Prop}{K:List Fr}
end
abbrev VA (x:SV)(at_:Int)(r:Rg):List SV:=[x,.int .i64 at_,.int .i64 (r 0),.int .i64 (r 1),.int .i64 (r 2),.int .i64 (r 3),.int .i64 (r 4),.int .i64 (r 5),.int .i64 (r 6),.int .i64 (r 7)]
section
variable {P:Program}{Y:Tb}{n:Nat}{ks:List Nat}{G0:Gr}{w0:World}{T:List (Nat×SV)}{H:Hp}{ops:Array Oper}{o:Oper}{rest:List Oper}{Q:Exit→Act→World→Prop}{K:List Fr}
theorem Tf {x y:Operand}{ty i:Nat}{j v at_:Int}{r:Rg}{s1:SV}{ti:TI}(hX:Y.ok P=true)(jG:o.op=.store ty x y)(hg:iY ops T o.guard=some .run)(hx:jR T x=some (.ix (.ptr i 2) 1 8 j 0))(hy:jR T y=some (.int .i64 v))(hH:lg H i=some (some (.blk (VA s1 at_ r))))(kO:Y.get ty=some ti)(jS:ti.row=none)(jD:ti.one=true)(hj:0≤j∧j<8):
  Aw P n ops ks G0 w0 T H o (.tup []) (Br H i (some (.blk (VA s1 at_ (BA r j.toNat v))))):=fun G a w A=>by
 have hw:=An (gd:=none) A hg
 obtain⟨d,op,ty',pos,af,gd⟩:=o
 simp only at jG
 subst jG
 have jB:=A.ev hx
 have jN:=A.ev hy
 have key:∀k:Nat,j=(k:Int)→(∀q:List SV,sp (2+k) (VA s1 at_ r) [.int .i64 v]=some q→q=VA s1 at_ (BA r j.toNat v)→BG P ops {dst:=d,op:=.store ty x y,type:=ty',pos:=pos,after:=af,guard:=gd} a w fun v' w'=>∃F,den (G++F) (.tup [])=some v'∧Ms (Br H i (some (.blk (VA s1 at_ (BA r j.toNat v))))) ks G0 w0 (G++F) w'):=by
  intro k hk q hr e
  rw [hk,B8 (q:=2+k) k (by omega)]at jB
  have hs:Cu ⟨Y,true⟩ H ty (.ptr i (2+k)) (.int .i64 v)=some (i,q,[]):=by
   have ht:Tx.get ⟨Y,true⟩ ty=some ti:=kO
   simp only [Cu,hH,ht,jS,jD,hr]
   rfl
  refine DF (X:=⟨Y,true⟩) hX A hs iT jB jN rfl rfl hw fun cs L vs' w' a1 a2 a3 a4 a5=>⟨[],rfl,?_⟩
  subst e
  simpa using (A.turn a1 a2 a3 a4 a5).ms
 rcases ZL hj with rfl|rfl|rfl|rfl|rfl|rfl|rfl|rfl
 ·exact key 0 rfl _ rfl rfl
 ·exact key 1 rfl _ rfl rfl
 ·exact key 2 rfl _ rfl rfl
 ·exact key 3 rfl _ rfl rfl
 ·exact key 4 rfl _ rfl rfl
 ·exact key 5 rfl _ rfl rfl
 ·exact key 6 rfl _ rfl rfl
 ·exact key 7 rfl _ rfl rfl
theorem PA {x:Operand}{ty i:Nat}{j at_:Int}{r:Rg}{s1:SV}{ti:TI}(hX:Y.ok P=true)(jG:o.op=.load ty x)(hg:iY ops T o.guard=some .run)(hx:jR T x=some (.ix (.ptr i 2) 1 8 j 0))(hH:lg H i=some (some (.blk (VA s1 at_ r))))(kO:Y.get ty=some ti)(jS:ti.row=none)(jD:ti.one=true)(hj:0≤j∧j<8):
  Aw P n ops ks G0 w0 T H o (.int .i64 (r j.toNat)) H:=fun G a w A=>by
 have hw:=An (gd:=none) A hg
 obtain⟨d,op,ty',pos,af,gd⟩:=o
 simp only at jG
 subst jG
 have jB:=A.ev hx
 have key:∀k:Nat,j=(k:Int)→(lg (VA s1 at_ r) (2+k)=some (.int .i64 (r j.toNat)))→BG P ops {dst:=d,op:=.load ty x,type:=ty',pos:=pos,after:=af,guard:=gd} a w fun v' w'=>∃F,den (G++F) (.int .i64 (r j.toNat))=some v'∧Ms H ks G0 w0 (G++F) w':=by
  intro k hk hr
  rw [hk,B8 (q:=2+k) k (by omega)]at jB
  have hs:Do ⟨Y,true⟩ H ty (.ptr i (2+k))=some (.int .i64 (r j.toNat),[]):=by
   have ht:Tx.get ⟨Y,true⟩ ty=some ti:=kO
   simp only [Do,FH,hH,Jb,CZ,ht,jS,jD,hr,cond_true]
  obtain⟨z,hz,h3⟩:=EP (X:=⟨Y,true⟩) (P:=P) (ops:=ops) (d:=d) (ty:=ty') (pos:=pos) (af:=af) (gd:=gd) (x:=x) hX A hs jB
  exact h3 (fun p hp=>by cases hp) rfl hw _ ⟨[],by simpa using hz,by simpa using A.ms⟩
 rcases ZL hj with rfl|rfl|rfl|rfl|rfl|rfl|rfl|rfl
 ·exact key 0 rfl rfl
 ·exact key 1 rfl rfl
 ·exact key 2 rfl rfl
 ·exact key 3 rfl rfl
 ·exact key 4 rfl rfl
 ·exact key 5 rfl rfl
 ·exact key 6 rfl rfl
 ·exact key 7 rfl rfl
def P8 (ao:Option Addr)(s:Nat)(j:Int):Option Addr:=ao.map fun a=>⟨a.block,a.off+j.toNat*s,none⟩
theorem GF {x y:Operand}{t e nn cp s:Nat}{j:Int}{ao:Option Addr}{f:Nat→List SV}(jG:o.op=.indexAddr t x y)(hg:iY ops T o.guard=some .run)(hx:jR T x=some (.sla ao nn cp))(hy:jR T y=some (.int .i64 j))(h0:AK ao s nn f w0 ks)(ht:sliceB P t e s=true)(hj:0≤j∧j<((nn:Nat):Int)):
  Aw P n ops ks G0 w0 T H o (.v (.pointer (P8 ao s j))) H:=fun G a w A=>by
 rcases h0.2 with q|⟨b,q,rfl,_⟩
 ·omega
 have hw:=An (gd:=none) A hg
 obtain⟨d,op,ty,pos,af,gd⟩:=o
 simp only at jG
 subst jG
 have jB:=A.ev hx
 have jN:=A.ev hy
 unfold den at jB jN
 simp only [Option.some.injEq]at jB jN
 exact EN (n:=nn) (s:=s) (b:=b) (o:=q+j.toNat*s) (j:=j.toNat) hw jB.symm (by rw [←jN];congr 1;omega) ht ⟨q,cp,rfl,rfl⟩ (by omega) ⟨[],rfl,by simpa using A.ms⟩
theorem M1 {x:Operand}{ty s nn:Nat}{j:Int}{ao:Option Addr}{f:Nat→List SV}(r:List SV)(hX:Y.ok P=true)(jG:o.op=.load ty x)(hg:iY ops T o.guard=some .run)(hx:jR T x=some (.v (.pointer (P8 ao s j))))(h0:AK ao s nn f w0 ks)(hj:0≤j∧j<((nn:Nat):Int))(hr:f j.toNat=r)(hc:CZ ⟨Y,true⟩ ty r 0=some (.agg r)):
  Aw P n ops ks G0 w0 T H o (.agg r) H:=fun G a w A=>by
 have h1:=AK.ok w0 ks w ks h0 A.mix (fun b hb=>.inl hb)
 rcases h1.2 with q|⟨b,q,rfl,_,_,h4⟩
 ·omega
 have hw:=An (gd:=none) A hg
 obtain⟨d,op,ty,pos,af,gd⟩:=o
 simp only at jG
 subst jG
 have jB:=A.ev hx
 unfold den at jB
 simp only [Option.some.injEq]at jB
 obtain⟨vs,v1,v2⟩:=h4 j.toNat (by omega)
 rw [hr]at v1
 have v3:AE G r=some vs:=by simpa using Al G r v1
 exact Eg (X:=⟨Y,true⟩) hX hc v3 (by show(AE G r).map _=_;rw [v3];rfl) v2 hw jB.symm ⟨[],by simp only [List.append_nil];show(AE G r).map _=_;rw [v3];rfl,by simpa using A.ms⟩
end
theorem M2 {I:Dd} {P:Program} {f:Nat} {args:List SV} {x:SV} {e s m c:Nat} {F F':Nat→List SV} {j:Int} (k:Nat) (kQ:j.toNat=k) (hj:k<m)
  (h:Bi I P f (.ptr 0 0::args) [some (.blk (F k))] (Rt x [some (.blk (F' k))])) (lR:Fw 0 args=true) (rT:JX 0 x=true) (jF:∀q,q≠k→F' q=F q) (n6:∃vs,AE [] (F' k)=some vs∧vs.length=s):
  Bi I P f (.el 0 s j 0::args) [some (.row e s m c F)] (Rt x [some (.row e s m c F')]):=by
 refine⟨h.1,fun G w vs hM hI hv=>?_⟩
 have lI:G.length=1:=hM.len.symm
 obtain⟨p,rfl⟩:∃p,G=[p]:=by
  cases G with
  |nil=>cases lI
  |cons p G=>cases G with
   |nil=>exact⟨p,rfl⟩
   |cons _ _=>simp at lI
 obtain⟨jC,jT,xs,sR,jX⟩:=hM.ent 0 _ rfl
 obtain⟨us,pY,xC⟩:=jC k
 have pX:=C4 jC sR
 have sP:(k+1)*s≤m*s:=Nat.mul_le_mul_right s (by omega)
 have nV:(k+1)*s=k*s+s:=by rw [Nat.add_mul,Nat.one_mul]
 rcases jX.2 with⟨_,h0⟩|⟨g,cap,cur,nT,hb,hg,qT,xD,lT,vN⟩
 ·omega
 obtain⟨L,rfl⟩:∃L,p=some L:=by
  cases p with
  |none=>simp at nT
  |some L=>exact⟨L,rfl⟩
 have vO:=jT L rfl
 simp only [List.getElem?_cons_zero,Option.getD_some,Option.map_some,Value.slice.injEq,Option.some.injEq,Addr.mk.injEq,true_and]at nT
 have vP:L.b=g:=nT.1.1
 have qQ:m*s≤cap*s:=Nat.mul_le_mul_right s qT
 have xE:cur.toList.length=cap*s:=by simpa using lT
 have tZ:(cur.toList.drop (k*s)).take s=us:=by
  obtain⟨us2,e1,e2⟩:=IM jC sR k hj
  rw [pY]at e1;cases e1
  apply List.ext_getElem?
  intro q
  by_cases hq:q<s
  ·rw [List.getElem?_take_of_lt hq,List.getElem?_drop]
   have sS:q<us.length:=by omega
   have:=e2 q us[q] (List.getElem?_eq_getElem sS)
   rw [←vN,List.getElem?_take_of_lt (by omega)]at this
   rw [this,List.getElem?_eq_getElem sS]
  ·rw [List.getElem?_eq_none (by rw [List.length_take];omega),List.getElem?_eq_none (by omega)]
 have kI:cur.toList.take (k*s)++us++cur.toList.drop ((k+1)*s)=cur.toList:=by
  rw [←tZ,nV,←List.drop_drop,List.append_assoc,List.take_append_drop,List.take_append_drop]
 have lB:(cur.toList.take (k*s)).length=k*s:=by rw [List.length_take];omega
 let L':Loc:=⟨g,cur.toList.take (k*s),cur.toList.drop ((k+1)*s),e⟩
 have kZ:∀{l:List SV} {vs:List Value} {G:Gr},AE [] l=some vs→AE G l=some vs:=fun{l vs G} h=>by simpa using Al G l h
 have lN:Mem [some (.blk (F k))] [some L'] w:=by
  refine⟨rfl,fun i e' he=>?_,fun i q e1 e2 L1 L2 qD h1 h2=>?_⟩
  ·cases i with
   |succ i=>cases he
   |zero=>
    cases he
    refine⟨L',us,rfl,kZ pY,?_⟩
    show DR w g (cur.toList.take (k*s)++us++cur.toList.drop ((k+1)*s)).toArray e
    rw [kI]
    exact hg
  ·cases i with
   |succ i=>cases h1
   |zero=>cases q with
    |zero=>exact absurd rfl qD
    |succ q=>cases h2
 have mN:keys [some (.row e s m c F)] [some L]=keys [some (.blk (F k))] [some L']:=by
  show [L.b]=[g]
  rw [vP]
 have j6:AE [some L'] (.ptr 0 0::args)=some vs:=by
  obtain⟨v,ws,e1,e2,rfl⟩:=Au hv
  refine Az ?_ ?_
  ·rw [←e1]
   show some (Value.pointer (some ⟨g,(cur.toList.take (k*s)).length+0,none⟩))=some (Value.pointer (some ⟨L.b,L.pre.length+j.toNat*s+0,none⟩))
   rw [lB,vP,vO,kQ]
   simp
  ·have a1:=BH (G:=[some L]) (k:=0) args lR
   have a2:=BH (G:=[some L']) (k:=0) args lR
   rw [List.take_zero]at a1 a2
   rw [←a2,a1,e2]
 refine Calls.mono (h.2 [some L'] w vs lN (mN▸hI) j6) ?_
 rintro en w' ⟨y,H',Fr,v,⟨rfl,rfl⟩,d1,rfl,l7,jL,_,_,_⟩
 have hF:Fr=[]:=by
  have:=l7.len
  cases Fr with
  |nil=>rfl
  |cons _ _=>simp at this
 subst hF
 obtain⟨L2,vs',q1,q2,q3⟩:=l7.ent 0 _ rfl
 cases q1
 obtain⟨vs2,r1,r2⟩:=n6
 have r3:=kZ (G:=[some L']++[]) r1
 rw [r3]at q2
 cases q2
 have rU:∀k,∃vs,AE [] (F' k)=some vs∧vs.length=s:=fun q=>by
  by_cases hq:q=k
  ·subst hq;exact⟨vs',r1,r2⟩
  ·rw [jF q hq];exact jC q
 have uA:=Iu jC jF r1 r2 sR hj
 rw [←mN]at jL
 refine⟨y,_,[],v,⟨rfl,rfl⟩,?_,rfl,⟨rfl,fun i e' he=>?_,fun i q e1 e2 L1 L2 qD h1 h2=>?_⟩,jL,Nat.le_refl _,fun i e' he hm=>?_,fun i e' he hm L1 xF=>?_⟩
 ·have a1:=C7 (G:=[some L]++[]) (k:=0) y rT
  have a2:=C7 (G:=[some L']++[]) (k:=0) y rT
  rw [List.take_zero]at a1 a2
  rw [←a1,a2];exact d1
 ·cases i with
  |succ i=>cases he
  | zero=>
   cases he
   refine⟨rU,fun M hM=>by cases hM;exact vO,_,uA,?_,.inr ⟨g,cap,(cur.toList.take (k*s)++vs'++cur.toList.drop ((k+1)*s)).toArray,?_,hb,q3,qT,xD,?_,?_⟩⟩
   ·simp only [List.length_append,List.length_take,List.length_drop];omega
   ·simp only [List.append_nil,List.getElem?_cons_zero,Option.getD_some,Option.map_some,Value.slice.injEq,Option.some.injEq,Addr.mk.injEq,true_and]
    exact nT
   ·simp only [List.size_toArray,List.length_append,List.length_take,List.length_drop];omega
   ·have e1:(cur.toList.take (k*s)++vs').length=(k+1)*s:=by rw [List.length_append,lB,r2,nV]
    show(cur.toList.take (k*s)++vs'++cur.toList.drop ((k+1)*s)).take (m*s)=_
    rw [List.take_append,List.take_of_length_le (l:=cur.toList.take (k*s)++vs') (by omega),e1,←vN,List.take_take,Nat.min_eq_left (by omega),List.drop_take]
 ·cases i with
  |succ i=>cases h1
  |zero=>cases q with
   |zero=>exact absurd rfl qD
   |succ q=>cases h2
 ·cases i with
  |succ i=>cases he
  |zero=>cases he;cases hm
 ·cases i with
  |succ i=>cases he
  |zero=>
   cases he
   cases xF
   exact .inl (by show [L.b].contains L.b=true;simp)
section
variable {P:Program}{n:Nat}{ks:List Nat}{G0:Gr}{w0:World}{H:Hp}{G:Gr}{w w':World}{ops:Array Oper}{o:Oper}
end
theorem J4 {G:Gr}{x y:SV}(h:den G x=den G y):∀{l:List SV},AE G (l++[x])=AE G (l++[y])
 | []=>by
  show AE G [x]=AE G [y]
  unfold AE
  rw [h]
 |z::l=>by
  show AE G (z::(l++[x]))=AE G (z::(l++[y]))
  unfold AE
  rw [J4 h]
section
variable {P:Program}{n:Nat}{ks:List Nat}{G0:Gr}{w0:World}{T:List (Nat×SV)}{H:Hp}{G:Gr}{a:Act}{w w':World}{Q:Exit→Act→World→Prop}{K:List Fr}{ops:Array Oper}{o:Oper}{rest:List Oper}
theorem Sy.takeRowG (A:Sy n T H ks G0 w0 G a w)(t:Nat){e s m b cp:Nat}{f:Nat→List SV}{x y:SV}(hg:Bm e s m f b cp w)(hn:∀(i:Nat) (e:A6) (L:Loc),H[i]?=some (some e)→G[i]?=some (some L)→¬e.empty→L.b≠b)(ho:w0.heap.size≤b)(ht:look T t=some x)(hy:den (G++[some ⟨b,[],List.replicate cp undef,e⟩]) y=den (G++[some ⟨b,[],List.replicate cp undef,e⟩]) x):
  Sy n ((t,y)::T) (H++[some (.row e s m 0 f)]) ks G0 w0 (G++[some ⟨b,[],List.replicate cp undef,e⟩]) a w:=by
 have hlen:=A.mem.len
 obtain⟨p1,xs,p2,p3⟩:=hg
 have nG:Ae G w (some ⟨b,[],List.replicate cp undef,e⟩) (.row e s m 0 f):=⟨p1,fun L hL=>by cases hL;rfl,xs,p2,by simpa [rm]using p3⟩
 have hold:∀(i:Nat) (x:A6),(H++[some (A6.row e s m 0 f)])[i]?=some (some x)→(H[i]?=some (some x)∧i<H.length)∨(i=H.length∧x=.row e s m 0 f):=by
  intro i x h
  by_cases hi:i<H.length
  ·rw [List.getElem?_append_left hi]at h;exact .inl ⟨h,hi⟩
  ·rw [List.getElem?_append_right (by omega)]at h
   have:i - H.length=0:=by
    cases hq:i - H.length with
    |zero=>rfl
    |succ k=>rw [hq]at h;simp at h
   rw [this]at h
   simp at h
   exact .inr ⟨by omega,h.symm⟩
 have hG:∀i,i<H.length→(G++[some (⟨b,[],List.replicate cp undef,e⟩:Loc)])[i]?=G[i]?:=fun i hi=>List.getElem?_append_left (by omega)
 have kA:(G++[some (⟨b,[],List.replicate cp undef,e⟩:Loc)])[H.length]?=some (some ⟨b,[],List.replicate cp undef,e⟩):=by rw [List.getElem?_append_right (by omega),hlen];simp
 refine⟨A.size,A.defers,fun q x hx=>?_,⟨by simp [hlen],?_,?_⟩,?_,?_,A.mix⟩
 ·unfold look at hx
  cases hb:Nat.beq t q with
  |true=>
   rw [hb]at hx;cases hx
   have:=Nat.eq_of_beq_eq_true hb
   subst this
   rw [hy];exact AP _ _ (A.get t _ ht)
  |false=>rw [hb]at hx;exact AP _ x (A.get q x hx)
 ·intro i x h
  rcases hold i x h with⟨h1,h2⟩|⟨rfl,rfl⟩
  ·rw [hG i h2];exact(A.mem.ent i x h1).more _
  ·rw [kA];exact nG.more _
 ·intro i j x y L M jV h1 h2 h3 h4 h5 h6
  rcases hold i x h1 with⟨k1,k2⟩|⟨rfl,rfl⟩
  ·rw [hG i k2]at h4
   rcases hold j y h2 with⟨k3,k4⟩|⟨rfl,rfl⟩
   ·rw [hG j k4]at h5;exact A.mem.sep i j x y L M jV k1 k3 h3 h4 h5 h6
   ·rw [kA]at h5;cases h5;exact hn i x L k1 h4 (At h3)
  ·rw [kA]at h4;cases h4
   rcases hold j y h2 with⟨k3,k4⟩|⟨rfl,rfl⟩
   ·rw [hG j k4]at h5;exact fun z=>hn j y M k3 h5 h6 z.symm
   ·exact absurd rfl jV
 ·obtain⟨F,hF⟩:=A.pre;exact⟨F++[some ⟨b,[],List.replicate cp undef,e⟩],by rw [hF,List.append_assoc]⟩
 ·intro i x L h1 h2 h3
  rcases hold i x h1 with⟨k1,k2⟩|⟨rfl,rfl⟩
  ·rw [hG i k2]at h3;exact A.own i x L k1 h2 h3
  ·rw [kA]at h3;cases h3;exact .inr ho
end
section
variable {P:Program}{Y:Tb}{n:Nat}{ks:List Nat}{G0:Gr}{w0:World}{T:List (Nat×SV)}{H:Hp}{ops:Array Oper}{o:Oper}
theorem Kt {x y:SV}{H':Hp}(e:∀G,den G x=den G y)(h:Aw P n ops ks G0 w0 T H o x H'):Aw P n ops ks G0 w0 T H o y H':=fun G a w A=>
 HL (h G a w A) fun v w' ⟨F,h1,h2⟩=>⟨F,by rw [←e];exact h1,h2⟩
theorem GG {i e s m c nn cc mm mb mc:Nat} {f g:Nat→List SV} (hY:Y.ok P=true) (m':Nat) (f':Nat→List SV) (h:TU Y n ops T H o=some ((i,e,s,m,c),f,(mm,mb,mc),g,(nn,cc))) (h1:nn=m) (h2:cc=c) (tT:c=0) (wW:mm≤mb) (hb:m≤1000000) (n5:mm≤1000000) (mY:m'=m+mm)
  (hf:∀k,k<m→f' k=f k) (hn:∀k,k<mm→f' (m+k)=g k) (jC:∀k,∃vs,AE [] (f' k)=some vs∧vs.length=s) (jD:∀k,k<mm→∃E,Fv (g k)=some E∧Cz E):
  Aw P n ops ks G0 w0 T H o (.sl H.length m' 0) (Br H i none++[some (.row e s m' 0 f')]):=by
 subst mY
 intro G a w A
 obtain⟨d,op,ty,pos,af,gd⟩:=o
 unfold TU at h
 split at h
 ·next hd =>
  split at h
  ·next pA =>
   have hw:=An (gd:=none) A pA
   split at h
   ·next ca pP=>
    simp only at pP
    subst pP
    obtain⟨callee,args,ats⟩:=ca
    simp only at h
    split at h
    ·next x y t t' ha ht=>
     split at h
     ·next i' nn' cc' j mm' mc' hx hy nF=>
      split at h
      ·next e' s' m' c1 f1 s2 mb' g' ti hi hj kO=>
       split at h
       ·next e2 s3 b mI=>
        split at h
        ·next kE=>
         cases h
         subst h1;subst h2
         simp only [Bool.and_eq_true]at kE
         obtain⟨⟨⟨c1,c2⟩,c3⟩,c4⟩:=kE
         have e1:=Nat.eq_of_beq_eq_true c1
         have e2':=Nat.eq_of_beq_eq_true c2
         have e3:=Nat.eq_of_beq_eq_true c3
         have e4:=Nat.eq_of_beq_eq_true nF
         have o9:=Nat.le_of_ble_eq_true c4
         subst e1;subst e2';subst e3;subst e4
         rw [Ah]at hi
         have j6:args= #[x,y]:=by have:=congrArg List.toArray ha;simpa using this
         have oH:ats= #[t,t]:=by have:=congrArg List.toArray ht;simpa using this
         subst j6;subst oH
         obtain⟨r1,r2,xs,r3,r4⟩:=A.mem.ent i _ hi
         obtain⟨g1,g2⟩:=EO A.mem hj
         obtain⟨ie,z,f1',f2',f3',f4',f5',f6',f7'⟩:=CX (Ct (Tb.at hY kO) mI)
         have jB:=A.ev hx
         have jN:=A.ev hy
         obtain⟨q,hq⟩:∃q,G[i]?=some q:=by
          have:i<G.length:=by rw [←A.mem.len];exact(List.getElem?_eq_some_iff.1 hi).1
          exact⟨G[i],by simp [this]⟩
         rw [hq]at r2 r4
         simp only [Option.getD_some]at r2 r4
         unfold den at jB jN
         rw [hq]at jB
         simp only [Option.some.injEq]at jB
         have wX:∀k,k<mm→∃vs,AE [] (g k)=some vs∧vs.length=s:=fun k hk=>by rw [←hn k hk];exact jC _
         obtain⟨ys,mM⟩:=IL (f:=fun k=>f' (nn+k)) (fun k=>jC _) mm
         have oW:=C4 (f:=fun k=>f' (nn+k)) (fun k=>jC _) mM
         have lO:Bt f' (nn+mm)=some (xs++ys):=HX mm nn (by rw [DE hf];exact r3) mM
         have oI:Value.ownBlock (.slice (q.map fun L=>⟨L.b,L.pre.length,none⟩) nn (cc+rm q))=q.map (·.b):=by cases q<;>rfl
         by_cases h0:mm=0
         ·subst h0
          cases mM
          have nC:Src P ie.size t (a.eval y) 0 [] w:=by
           split at jN
           ·next p hp=>
            rw [←Option.some.inj jN]
            cases p with
            |none=>exact Src.ofNil w f1' mc
            |some L=>exact Src.ofSlice w f1' _ 0 _ [] (by simp) (fun j u hj=>by simp at hj) (fun u hu=>by cases hu)
           ·cases jN
          have qT:nn≤cc+rm q:=by
           rcases r4.2 with⟨q1,q2⟩|⟨g,cap,cur,q1,_,_,q4,_⟩
           ·omega
           ·cases q<;>simp at q1;omega
          have hr:=run_append_nothing (P:=P) w t t ty e ie f1' f2' (q.map fun L=>⟨L.b,L.pre.length,none⟩) nn (cc+rm q) qT _ nC
          refine AR (v:=.slice (q.map fun L=>⟨L.b,L.pre.length,none⟩) nn (cc+rm q)) (w':=w) hw ?_ ?_
          ·unfold execOp
           simp only [resolve,invoke,builtin,Sem.run_bind,Sem.run_pure,Result.andThen_ok,List.map_toArray,List.map_cons,List.map_nil,←jB,hr]
          ·have A2:=A.rowMove (w':=w) (p':=q) (m':=nn+0) (c':=cc) (xs':=xs++[]) hi ⟨rfl,rfl,rfl,Nat.le_refl _,fun _ _ _=>rfl⟩ (by simpa using r4) r2 (.inl (by rw [hq];rfl)) lO jC
           subst tT
           refine⟨_,?_,A2.ms⟩
           unfold den
           rw [List.getElem?_append_right (by rw [A.mem.len];exact Nat.le_refl _),A.mem.len]
           simp
         ·obtain⟨L,vs0,b1,_⟩:=g2 0 (by omega)
          rw [Cc b1]at jN
          simp only [Option.map_some,Option.some.injEq]at jN
          have hmul:(nn+mm)*b≤2000000*10000:=Nat.mul_le_mul (by omega) o9
          obtain⟨v',w',hr,k1,k2,_,k4⟩:=run_append_own_at (P:=P) w 0 t ty e ie z s b f1' f2' f3' f4' f5' f6' f7' _ nn xs r4 ⟨L.b,L.pre.length,none⟩ mm (mc+rm (some L)) ys oW
           (fun j u hj=>by
            obtain⟨k,r,us,d1,d2,d3,d4⟩:=Ds (f:=fun k=>f' (nn+k)) (fun k=>jC _) mM j u hj
            obtain⟨L',us',b1',b2',b3'⟩:=g2 k (by omega)
            rw [b1]at b1';cases b1'
            rw [hn k d1,b2']at d2
            cases d2
            have:=b3' r u d3
            rw [Addr.add_mid,d4,←Nat.add_assoc]
            exact this)
           (fun u hu=>by
            obtain⟨j,hj⟩:=List.mem_iff_getElem?.1 hu
            obtain⟨k,r,us,d1,d2,d3,d4⟩:=Ds (f:=fun k=>f' (nn+k)) (fun k=>jC _) mM j u hj
            rw [hn k d1]at d2
            obtain⟨E,o1,o2⟩:=jD k d1
            exact List.all_eq_true.1 (CI o1 o2 d2) u (List.mem_of_getElem? d3))
           (by simp only [maxLen];omega) (by omega) (Nat.zero_le _)
          obtain⟨p',o1,o2,o3⟩:=Fb k1
          rw [oI]at k2 k4
          rw [o3]at k4
          rw [o1]at k1
          refine AR (v:=v') (w':=w') hw ?_ ?_
          ·unfold execOp
           simp only [resolve,invoke,builtin,Sem.run_bind,Sem.run_pure,Result.andThen_ok,List.map_toArray,List.map_cons,List.map_nil,←jB,←jN,hr]
          ·have A2:=A.rowMove (p':=p') hi (by rw [hq];exact k2) k1 o2 (by rw [hq];exact k4) lO jC
           refine⟨_,?_,A2.ms⟩
           unfold den
           rw [List.getElem?_append_right (by rw [A.mem.len];exact Nat.le_refl _),A.mem.len]
           simp [o1]
        ·cases h
       ·cases h
      ·cases h
     ·cases h
    ·cases h
   ·cases h
  ·cases h
 ·cases h
end
end Go.Proofs.YtbbdanhpphlbpaaGreatDoor
namespace Go.Proofs.YtbbdanhpphlbpaaGreatDoor
open Go.RowKit
section
variable {n:Nat}{T:List (Nat×SV)}{H:Hp}{ks:List Nat}{G0:Gr}{w0:World}{G:Gr}{a:Act}{w:World}
end
section
variable {n:Nat}{T:List (Nat×SV)}{H:Hp}{ks:List Nat}{G0:Gr}{w0:World}{G:Gr}{a:Act}{w:World}
theorem IX {G:Gr}{x y:SV}(h:den G x=den G y):∀(l r:List SV),AE G (l++x::r)=AE G (l++y::r)
 | [],r=>by
  show AE G (x::r)=AE G (y::r)
  unfold AE;rw [h]
 |z::l,r=>by
  show AE G (z::(l++x::r))=AE G (z::(l++y::r))
  unfold AE;rw [IX h l r]
end
end Go.Proofs.YtbbdanhpphlbpaaGreatDoor
namespace Go.Proofs.YtbbdanhpphlbpaaGreatDoor.Mc
open Go.RowKit
set_option simprocs false
abbrev EV (x:SV)(a:Int)(r:Nat→Int):List SV:=[x,.int .i64 a,.int .i64 (r 0),.int .i64 (r 1),.int .i64 (r 2),.int .i64 (r 3),.int .i64 (r 4),.int .i64 (r 5),.int .i64 (r 6),.int .i64 (r 7)]
theorem gI {a b:Bool}{o1:Int}{c:Bool}(h:(!(((a&&(decide (o1≥0)))&&b)&&c))=false):0≤o1:=by
 simp at h;exact h.1.1.2
theorem Qr (s1:Int)(hs:s1=1∨s1=2∨s1=4∨s1=8):Fn Tryz.prog 172 [.int .i64 s1] [] (Rt (.int .i64 (IntKind.wrap .i64 ((IntKind.wrap .i64 (1*2^min ((IntKind.wrap .i64 (8*s1))).toNat (IntKind.bits .i64))) - 1))) []):=
 AG (n:=7) (by kernel_rfl) Tryz.func172 rfl rfl rfl fun G w a h0 A=>M hX 15 A rfl (iU (by first|omega|(rcases hs with rfl|rfl|rfl|rfl<;>decide))<|iT) fun A=>R9 A rfl h0 rfl rfl rfl
def AU (o1 x1 s1:Int):Int:=if(!((((s1==1)||(s1==2))||(s1==4))||(s1==8)))=true then(-1)else IntKind.wrap .i64 ((((BitVec.ofInt (IntKind.bits .i64) (IntKind.wrap .i64 ((((BitVec.ofInt (IntKind.bits .i64) (IntKind.wrap .i64 (o1+x1)))&&&(BitVec.ofInt (IntKind.bits .i64) 7)).toNat:Nat):Int)))&&& ~~~ (BitVec.ofInt (IntKind.bits .i64) (IntKind.wrap .i64 (s1 - 1)))).toNat:Nat):Int)
theorem Ku (o1 x1 s1:Int):Fn Tryz.prog 173 [.int .i64 o1,.int .i64 x1,.int .i64 s1] [] (Rt (.int .i64 (AU o1 x1 s1)) []):=
 AG (n:=19) (by kernel_rfl) Tryz.func173 rfl rfl rfl fun G w a h0 A=>M hX 9 A rfl rfl fun A=>C9 [] (Kl s1) A rfl fun A=>M hX 3 A rfl rfl fun A=>fork 10 A rfl
  (fun h1 A=>M hX 7 A rfl rfl fun A=>R9 A rfl h0 rfl (by simp only [AX,nb,BY,BR,AU,if_pos h1]) rfl)
  (fun h1 A=>M hX 22 A rfl rfl fun A=>R9 A rfl h0 rfl (by simp only [AX,nb,BY,BR,AU,if_neg (ne_true_of_eq_false h1)]) rfl)
def A7 (o1 s1:Int):Int:=if(!(((((((s1==1)||(s1==2))||(s1==4))||(s1==8))&&(decide (o1≥0)))&&(decide (o1≤(IntKind.wrap .i64 (8 - s1)))))&&((Int.tmod o1 s1)==0)))=true then 0 else IntKind.wrap .i64 ((IntKind.wrap .i64 ((IntKind.wrap .i64 (1*2^min (s1).toNat (IntKind.bits .i64))) - 1))*2^min (o1).toNat (IntKind.bits .i64))
theorem M3 (o1 s1:Int)(hs:s1=1∨s1=2∨s1=4∨s1=8):Fn Tryz.prog 174 [.int .i64 o1,.int .i64 s1] [] (Rt (.int .i64 (A7 o1 s1)) []):=
 AG (n:=14) (by kernel_rfl) Tryz.func174 rfl rfl rfl fun G w a h0 A=>M hX 10 A rfl rfl fun A=>C9 [] (Hc o1 s1) A rfl fun A=>M hX 3 A rfl rfl fun A=>fork 8 A rfl
  (fun h1 A=>M hX 7 A rfl rfl fun A=>R9 A rfl h0 rfl (by simp only [AX,nb,BY,BR,A7,if_pos h1]) rfl)
  (fun h1 A=>M hX 14 A rfl (iU (by have:=gI h1;omega)<|iU (by have:=gI h1;omega)<|iT) fun A=>R9 A rfl h0 rfl (by simp only [AX,nb,BY,BR,A7,if_neg (ne_true_of_eq_false h1)]) rfl)
def BU (v1 s1:Int):Int:=if(!(((((((s1==1)||(s1==2))||(s1==4))||(s1==8))&&(decide ((0:Int)≥0)))&&(decide (0≤(IntKind.wrap .i64 (8 - s1)))))&&((Int.tmod 0 s1)==0)))=true then 0 else IntKind.wrap .i64 ((((BitVec.ofInt (IntKind.bits .i64) (Int.fdiv v1 (2^min ((IntKind.wrap .i64 (8*0))).toNat (IntKind.bits .i64))))&&&(BitVec.ofInt (IntKind.bits .i64) (IntKind.wrap .i64 ((IntKind.wrap .i64 (1*2^min ((IntKind.wrap .i64 (8*s1))).toNat (IntKind.bits .i64))) - 1)))).toNat:Nat):Int)
theorem OF (v1 s1:Int)(hs:s1=1∨s1=2∨s1=4∨s1=8):Fn Tryz.prog 130 [.int .i64 v1,.z9,.int .i64 s1] [] (Rt (.int .i64 (BU v1 s1)) []):=
 AG (n:=18) (by kernel_rfl) Tryz.func130 rfl rfl rfl fun G w a h0 A=>M hX 10 A rfl rfl fun A=>C9 [] (Hc 0 s1) A rfl fun A=>M hX 3 A rfl rfl fun A=>fork 10 A rfl
  (fun h1 A=>M hX 7 A rfl rfl fun A=>R9 A rfl h0 rfl (by simp only [AX,nb,BY,BR,BU,if_pos h1]) rfl)
  (fun h1 A=>M hX 4 A rfl rfl fun A=>WO hX BK [(5,.int .i64 (IntKind.wrap .i64 ((IntKind.wrap .i64 (1*2^min ((IntKind.wrap .i64 (8*s1))).toNat (IntKind.bits .i64))) - 1)))] [] A rfl (iU (by first|decide|omega)<|iT) rfl rfl (by kernel_rfl) (AV _ _) ⟨.inl ⟨_,_,rfl,rfl,Qr s1 hs⟩,trivial⟩ fun A=>M hX 2 A rfl rfl fun A=>R9 A rfl h0 rfl (by simp only [AX,nb,BY,BR,BU,if_neg (ne_true_of_eq_false h1)]) rfl)
def Fz (fn a1 b1:Int):Int:=if fn=1 then IntKind.wrap .i64 (a1+b1)else if fn=2 then IntKind.wrap .i64 (a1 - b1)else if fn=3 then IntKind.wrap .i64 ((((BitVec.ofInt (IntKind.bits .i64) a1)^^^(BitVec.ofInt (IntKind.bits .i64) b1)).toNat:Nat):Int)else if fn=4 then IntKind.wrap .i64 ((((BitVec.ofInt (IntKind.bits .i64) a1)&&&(BitVec.ofInt (IntKind.bits .i64) b1)).toNat:Nat):Int)else if fn=5 then IntKind.wrap .i64 ((((BitVec.ofInt (IntKind.bits .i64) a1)|||(BitVec.ofInt (IntKind.bits .i64) b1)).toNat:Nat):Int)else 0
theorem ZM (fn a1 b1:Int):Fn Tryz.prog 169 [.int .i64 fn,.int .i64 a1,.int .i64 b1] [] (Rt (.int .i64 (Fz fn a1 b1)) []):=
 AG (n:=33) (by kernel_rfl) Tryz.func169 rfl rfl rfl fun G w a h0 A=>M hX 18 A rfl rfl fun A=>AN 8 A rfl
  (fun h1 A=>M hX 10 A rfl rfl fun A=>R9 A rfl h0 rfl (by simp only [AX,nb,BY,BR,Fz,if_pos h1]) rfl)
  (fun h1 A=>M hX 7 A rfl rfl fun A=>AN 13 A rfl
   (fun h2 A=>M hX 10 A rfl rfl fun A=>R9 A rfl h0 rfl (by simp only [AX,nb,BY,BR,Fz,if_neg (h1),if_pos h2]) rfl)
   (fun h2 A=>M hX 7 A rfl rfl fun A=>AN 18 A rfl
    (fun h3 A=>M hX 10 A rfl rfl fun A=>R9 A rfl h0 rfl (by simp only [AX,nb,BY,BR,Fz,if_neg (h1),if_neg (h2),if_pos h3]) rfl)
    (fun h3 A=>M hX 7 A rfl rfl fun A=>AN 23 A rfl
     (fun h4 A=>M hX 10 A rfl rfl fun A=>R9 A rfl h0 rfl (by simp only [AX,nb,BY,BR,Fz,if_neg (h1),if_neg (h2),if_neg (h3),if_pos h4]) rfl)
     (fun h4 A=>M hX 7 A rfl rfl fun A=>AN 28 A rfl
      (fun h5 A=>M hX 10 A rfl rfl fun A=>R9 A rfl h0 rfl (by simp only [AX,nb,BY,BR,Fz,if_neg (h1),if_neg (h2),if_neg (h3),if_neg (h4),if_pos h5]) rfl)
      (fun h5 A=>M hX 10 A rfl rfl fun A=>R9 A rfl h0 rfl (by simp only [AX,nb,BY,BR,Fz,if_neg (h1),if_neg (h2),if_neg (h3),if_neg (h4),if_neg (h5)]) rfl)))))
abbrev Em (ao:Option Addr)(l:List In):Dd:=AK ao 17 l.length (fun zz=>CD (l.getD zz In.z))
def CV (r:Rg)(g o1:Int):Int:=if g= -1 then o1 else r g.toNat
theorem I4 (l:List In)(ao:Option Addr)(cp:Nat)(at_:Int)(r:Rg)(g o1:Int)(hg: -1≤g∧g<8):Fn Tryz.prog 170 [.ptr 0 0,.int .i64 g,.int .i64 o1] [some (.blk (EV (.sla ao l.length cp) at_ r))] (Rt (.int .i64 (CV r g o1)) [some (.blk (EV (.sla ao l.length cp) at_ r))]):=
 AG (n:=16) (by kernel_rfl) Tryz.func170 rfl rfl rfl fun G w a h0 A=>N9 12 A rfl rfl fun A=>AN 8 A rfl
  (fun h1 A=>N9 8 A rfl rfl fun A=>R9 A rfl h0 rfl (by unfold CV;rw [if_pos h1]<;>rfl) rfl)
  (fun h1 A=>N9 10 A rfl (iU (by omega)<|iT) fun A=>AW A rfl (PA (r:=r) hX rfl rfl rfl rfl rfl rfl rfl (by omega)) fun A=>N9 4 A rfl rfl fun A=>R9 A rfl h0 rfl (by unfold CV;rw [if_neg h1]<;>rfl) rfl)
theorem I5 (l:List In)(ao:Option Addr)(cp:Nat)(at_:Int)(r:Rg)(jY:0≤at_∧at_≤((l.length:Nat):Int)):Bi (Em ao l) Tryz.prog 104 [.ptr 0 0] [some (.blk (EV (.sla ao l.length cp) at_ r))] (Rt (.tup [.agg (AS (l.getD (at_).toNat In.z)),.bool (!(at_==((l.length:Nat):Int)))]) [some (.blk (EV (.sla ao l.length cp) at_ r))]):=
 Ab (n:=25) (by kernel_rfl) Tryz.func104 rfl rfl rfl fun G w a h0 hI A=>N9 8 A rfl rfl fun A=>Aq hX BK [] [] A rfl rfl rfl rfl (by kernel_rfl) (AV _ _) trivial fun A=>N9 1 A rfl rfl fun A=>AN 13 A rfl
  (fun h1 A=>N9 9 A rfl rfl fun A=>R9 A rfl h0 rfl (by rw [h1,Int.toNat_natCast,List.getD_eq_getElem?_getD,List.getElem?_eq_none (Nat.le_refl _),beq_self_eq_true];rfl) rfl)
  (fun h1 A=>N9 4 A rfl rfl fun A=>Hh BK [.ptr 0 0,.ptr 0 0,.ptr 0 0,.sla ao l.length cp,.ptr 0 0,.ptr 0 0,.ptr 0 1,.int .i64 at_,.v (.pointer (P8 ao 17 at_)),.agg (AS (l.getD (at_).toNat In.z)),.tup [],.tt] [10] [] 0 [([],[],[some (.blk (EV (.sla ao l.length cp) at_ r)),some (.blk [.z9,.z9,.z9,.z9,.z9,.z9,.z9,.z9,.z9,.z9,.ff,.ff,.ff,.z9,.z9,.z9,.ff])]),([10],[],[some (.blk (EV (.sla ao l.length cp) at_ r)),some (.blk (AS (l.getD (at_).toNat In.z)))])] [[true,true,true,true,true,true,true,true,true,true,true,false],[false,false,false,false,false,false,false,false,false,false,false,true]] A rfl rfl rfl rfl (by kernel_rfl) rfl (by kernel_rfl) ⟨⟨iV 0 rfl rfl,⟨iV 0 rfl rfl,⟨iV 0 rfl rfl,⟨iV 0 rfl rfl,⟨iV 0 rfl rfl,⟨iV 0 rfl rfl,⟨iV 0 rfl rfl,⟨iV 0 rfl rfl,⟨BT 0 rfl (GF (e:=63) rfl rfl rfl rfl hI (by kernel_rfl) (by omega)),⟨BT 0 rfl (M1 (CD (l.getD (at_).toNat In.z)) hX rfl rfl rfl hI (by omega) rfl rfl),⟨BT 1 rfl (Aj (X:=⟨_,true⟩) (out:=.upd 1 (AS (l.getD (at_).toNat In.z)) _) hX rfl rfl),trivial⟩⟩⟩⟩⟩⟩⟩⟩⟩⟩⟩,⟨⟨iV 1 rfl rfl,trivial⟩,trivial⟩⟩ fun A=>N9 2 A rfl rfl fun A=>R9 A rfl h0 rfl (by rw [beq_eq_false_iff_ne.2 h1];rfl) rfl)
end Go.Proofs.YtbbdanhpphlbpaaGreatDoor.Mc
namespace Go.Proofs.YtbbdanhpphlbpaaGreatDoor.Mc
open Go.RowKit
def Kv (i:In):Bool:=BN i.op i.dst i.ra i.rb i.imm i.loc i.off i.ix i.sz i.fn i.acq i.weak i.rel i.pred i.succ i.to_ i.zero
def PB (i:In):Bool:=Bl i.op i.dst i.ra i.rb i.imm i.loc i.off i.ix i.sz i.fn i.acq i.weak i.rel i.pred i.succ i.to_ i.zero
theorem D9 {i:In}{a n:Int}(h:U7 i a n=0):Kv i=true∧(i.op=9→a<i.to_∧i.to_≤n):=by
 unfold U7 Ek at h
 split at h
 ·omega
 ·next h1=>
  split at h
  ·omega
  ·next h2=>
   refine⟨?_,fun h9=>?_⟩
   ·cases hs:Kv i with
    |true=>rfl
    |false=>unfold Kv at hs;rw [hs]at h1;simp at h1
   ·rw [h9]at h2
    simp at h2
    omega
structure Tg (i:In):Prop where
 op:1≤i.op∧i.op≤9
 d:(i.op=1∨i.op=2∨i.op=3∨i.op=4∨i.op=6)→0≤i.dst∧i.dst<8
 a:(i.op=2∨i.op=3∨i.op=6∨i.op=9)→0≤i.ra∧i.ra<8
 a5:i.op=5→ -1≤i.ra∧i.ra<8
 b:i.op=3→ -1≤i.rb∧i.rb<8
 x:(i.op=4∨i.op=5∨i.op=6)→ -1≤i.ix∧i.ix<8
theorem Qs {r:Int}(h:CB r=true): -1≤r∧r<8:=by
 unfold CB at h
 split at h
 ·omega
 ·simp at h;omega
theorem M4 {i:In}(h:PB i=true): -1≤i.ix∧i.ix<8:=by
 unfold PB Bl at h
 split at h
 ·split at h
  ·split at h
   ·next h1=>exact Qs h1
   ·cases h
  ·cases h
 ·cases h
theorem Wg {i:In}(h:Kv i=true):Tg i:=by
 unfold Kv BN at h
 by_cases h1:i.op=1
 ·rw [if_pos h1]at h;simp at h
  exact⟨by omega,fun _=>by omega,fun h=>by omega,fun h=>by omega,fun h=>by omega,fun h=>by omega⟩
 rw [if_neg h1]at h
 by_cases h2:i.op=2
 ·rw [if_pos h2]at h
  split at h
  ·next q=>simp at h q;exact⟨by omega,fun _=>by omega,fun _=>by omega,fun h=>by omega,fun h=>by omega,fun h=>by omega⟩
  ·cases h
 rw [if_neg h2]at h
 by_cases h3:i.op=3
 ·rw [if_pos h3]at h
  split at h
  ·next q=>
   split at h
   ·next q2=>simp at h q q2;have:=Qs h.1.1;exact⟨by omega,fun _=>by omega,fun _=>by omega,fun h=>by omega,fun _=>by omega,fun h=>by omega⟩
   ·cases h
  ·cases h
 rw [if_neg h3]at h
 by_cases h4:i.op=4
 ·rw [if_pos h4]at h
  split at h
  ·next q=>rw [Bool.and_eq_true]at h;simp at q;have:=M4 h.1;exact⟨by omega,fun _=>by omega,fun h=>by omega,fun h=>by omega,fun h=>by omega,fun _=>by omega⟩
  ·cases h
 rw [if_neg h4]at h
 by_cases h5:i.op=5
 ·rw [if_pos h5]at h
  split at h
  ·next q=>have:=Qs q;have:=M4 h;exact⟨by omega,fun h=>by omega,fun h=>by omega,fun _=>by omega,fun h=>by omega,fun _=>by omega⟩
  ·cases h
 rw [if_neg h5]at h
 by_cases h6:i.op=6
 ·rw [if_pos h6]at h
  split at h
  ·next q=>
   split at h
   ·next q2=>rw [Bool.and_eq_true]at h;simp at q q2;have:=M4 h.1;exact⟨by omega,fun _=>by omega,fun _=>by omega,fun h=>by omega,fun h=>by omega,fun _=>by omega⟩
   ·cases h
  ·cases h
 rw [if_neg h6]at h
 by_cases h7:i.op=7
 ·exact⟨by omega,fun h=>by omega,fun h=>by omega,fun h=>by omega,fun h=>by omega,fun h=>by omega⟩
 rw [if_neg h7]at h
 by_cases h8:i.op=8
 ·exact⟨by omega,fun h=>by omega,fun h=>by omega,fun h=>by omega,fun h=>by omega,fun h=>by omega⟩
 rw [if_neg h8]at h
 by_cases h9:i.op=9
 ·rw [if_pos h9]at h;simp at h
  exact⟨by omega,fun h=>by omega,fun _=>by omega,fun h=>by omega,fun h=>by omega,fun h=>by omega⟩
 rw [if_neg h9]at h
 cases h
theorem Qt {i:In}(h:PB i=true):i.sz=1∨i.sz=2∨i.sz=4∨i.sz=8:=by
 unfold PB Bl at h
 split at h
 ·split at h
  ·split at h
   ·unfold Iz at h
    split at h
    ·cases h
    ·next h1=>
     rw [Bool.not_eq_true,Bool.not_eq_false',Bool.and_eq_true,Bool.and_eq_true,Bool.and_eq_true,Bool.or_eq_true,Bool.or_eq_true,Bool.or_eq_true]at h1
     simp only [beq_iff_eq]at h1
     rcases h1.1.1.1 with((h|h)|h)|h
     ·exact .inl h
     ·exact .inr (.inl h)
     ·exact .inr (.inr (.inl h))
     ·exact .inr (.inr (.inr h))
   ·cases h
  ·cases h
 ·cases h
theorem Wh {i:In}(h:Kv i=true)(ho:i.op=4∨i.op=5∨i.op=6):i.sz=1∨i.sz=2∨i.sz=4∨i.sz=8:=by
 unfold Kv BN at h
 rw [if_neg (by omega),if_neg (by omega),if_neg (by omega)]at h
 rcases ho with ho|ho|ho
 ·rw [if_pos ho]at h
  split at h
  ·rw [Bool.and_eq_true]at h;exact Qt h.1
  ·cases h
 ·rw [if_neg (by omega),if_pos ho]at h
  split at h
  ·exact Qt h
  ·cases h
 ·rw [if_neg (by omega),if_neg (by omega),if_pos ho]at h
  split at h
  ·split at h
   ·rw [Bool.and_eq_true]at h;exact Qt h.1
   ·cases h
  ·cases h
structure E6 (l:List In):Prop where
 n:l.length≤8
 r:∀k,k<l.length→U7 (l.getD k In.z) (k:Int) ((l.length:Nat):Int)=0
theorem E6.snd {l:List In}(h:E6 l){k:Nat}(hk:k<l.length):Tg (l.getD k In.z):=Wg (D9 (h.r k hk)).1
theorem E6.brs {l:List In}(h:E6 l){k:Nat}(hk:k<l.length)(h9:(l.getD k In.z).op=9):(k:Int)<(l.getD k In.z).to_∧(l.getD k In.z).to_≤((l.length:Nat):Int):=(D9 (h.r k hk)).2 h9
theorem E6.szs {l:List In}(h:E6 l){k:Nat}(hk:k<l.length)(ho:(l.getD k In.z).op=4∨(l.getD k In.z).op=5∨(l.getD k In.z).op=6):(l.getD k In.z).sz=1∨(l.getD k In.z).sz=2∨(l.getD k In.z).sz=4∨(l.getD k In.z).sz=8:=Wh (D9 (h.r k hk)).1 ho
theorem EE {cs:List AD}(h:Km cs=0):(1≤cs.length∧cs.length≤3)∧∀c∈cs,E6 c.l:=by
 unfold Km at h
 split at h
 ·omega
 ·next h0=>
  simp at h0
  refine⟨by omega,?_⟩
  cases h1:Gk cs with
  |some k=>rw [h1]at h;simp at h
  | none=>
   rw [h1]at h
   have xG:=Gm h1
   cases h2:Hf cs with
   | some k=>
    rw [h2]at h
    exfalso
    unfold Hf at h2
    have h3:=List.find?_some h2
    cases h4:E5 (cs.getD k AD.z)with
    |none=>rw [h4]at h3;cases h3
    |some q=>
     simp only [h4,Option.getD_some]at h
     unfold E5 at h4
     have h5:=List.find?_some h4
     rw [h]at h5
     cases h5
   | none=>
    intro c hc
    refine⟨xG c hc,fun k hk=>?_⟩
    obtain⟨j,hj⟩:=List.getElem?_of_mem hc
    have hl:=(List.getElem?_eq_some_iff.1 hj).1
    unfold Hf at h2
    rw [List.find?_eq_none]at h2
    have h3:=h2 j (List.mem_range.2 hl)
    rw [List.getD_eq_getElem?_getD,hj]at h3
    simp only [Option.getD_some]at h3
    cases h4:E5 c with
    |some q=>rw [h4]at h3;exact absurd rfl h3
    |none=>
     unfold E5 at h4
     rw [List.find?_eq_none]at h4
     have h5:=h4 k (List.mem_range.2 hk)
     simpa using h5
def Ee (at_:Int)(r:Rg)(i:In):Int:=if i.op=9 then(if(r i.ra.toNat==0)=i.zero then i.to_ else at_+1)else at_+1
def GQ (r:Rg)(i:In):Rg:=if i.op=1 then BA r i.dst.toNat i.imm else if i.op=2 then BA r i.dst.toNat (r i.ra.toNat)else if i.op=3 then BA r i.dst.toNat (Fz i.fn (r i.ra.toNat) (CV r i.rb i.imm))else r
def GH (i:In):Bool:=(i.op==4)||(i.op==5)||(i.op==6)||(i.op==7)||(i.op==8)
structure Th where (at_:Nat) (r:Rg)
def GI (l:List In):Nat→Th→Th
 |0,s=>s
 |f+1,s=>if s.at_<l.length∧GH (l.getD s.at_ In.z)=false then GI l f ⟨(Ee (s.at_:Int) s.r (l.getD s.at_ In.z)).toNat,GQ s.r (l.getD s.at_ In.z)⟩else s
def EF (l:List In)(s:Th):Th:=GI l l.length s
def FB (l:List In)(z:Th):Th:=⟨(Ee ((z.at_:Nat):Int) z.r (l.getD ((z.at_:Nat):Int).toNat In.z)).toNat,GQ z.r (l.getD ((z.at_:Nat):Int).toNat In.z)⟩
theorem IY {l:List In}{z:Th}(hc:E6 l)(h1:z.at_<l.length):(z.at_:Int)<Ee ((z.at_:Nat):Int) z.r (l.getD z.at_ In.z)∧Ee ((z.at_:Nat):Int) z.r (l.getD z.at_ In.z)≤((l.length:Nat):Int):=by
 unfold Ee
 split
 ·next h9=>
  have:=hc.brs h1 h9
  split<;>omega
 ·omega
structure SI (l:List In)(s z:Th):Prop where
 le:z.at_≤l.length
 eq:∃f,l.length - z.at_≤f∧GI l f z=EF l s
theorem SI.i0 {l:List In}{s:Th}(h:s.at_≤l.length):SI l s s:=⟨h,l.length,Nat.sub_le _ _,rfl⟩
theorem SI.nx {l:List In}{s z:Th}(h:SI l s z)(hc:E6 l)(h1:((z.at_:Nat):Int)≠((l.length:Nat):Int))(h2:(!(GH (l.getD ((z.at_:Nat):Int).toNat In.z)))=true):SI l s (FB l z)∧l.length - (FB l z).at_<l.length - z.at_:=by
 have i7:z.at_<l.length:=by have:=h.le;omega
 have hr:=IY (z:=z) hc i7
 have e:(FB l z).at_=(Ee ((z.at_:Nat):Int) z.r (l.getD z.at_ In.z)).toNat:=rfl
 have hb:z.at_<(FB l z).at_∧(FB l z).at_≤l.length:=by rw [e];omega
 have lQ:GH (l.getD z.at_ In.z)=false:=by
  have:GH (l.getD ((z.at_:Nat):Int).toNat In.z)=false:=by simpa using h2
  exact this
 obtain⟨f,hf,he⟩:=h.eq
 refine⟨⟨hb.2,?_⟩,by omega⟩
 cases f with
 |zero=>omega
 |succ f=>
  refine⟨f,by omega,?_⟩
  rw [←he]
  show _=GI l (f+1) z
  rw [GI,if_pos ⟨i7,lQ⟩]
  rfl
theorem PC {l:List In}{z:Th}(h:¬(z.at_<l.length∧GH (l.getD z.at_ In.z)=false)):∀f,GI l f z=z
 |0=>rfl
 |f+1=>by rw [GI,if_neg h]
theorem SI.fin {l:List In}{s z:Th}(h:SI l s z)(hn:¬(z.at_<l.length∧GH (l.getD z.at_ In.z)=false)):EF l s=z:=by
 obtain⟨f,_,he⟩:=h.eq
 rw [←he,PC hn]
theorem SI.f1 {l:List In}{s z:Th}(h:SI l s z)(h1:((z.at_:Nat):Int)=((l.length:Nat):Int)):EF l s=z:=h.fin (by omega)
theorem SI.f2 {l:List In}{s z:Th}(h:SI l s z)(h2:(!(GH (l.getD ((z.at_:Nat):Int).toNat In.z)))=false):EF l s=z:=h.fin (fun q=>by
 have e:GH (l.getD ((z.at_:Nat):Int).toNat In.z)=false:=q.2
 rw [e]at h2;cases h2)
theorem OG {l:List In}(hc:E6 l):∀f s,s.at_≤l.length→(GI l f s).at_≤l.length
 |0,s,h=>h
 | f+1,s,h=>by
  rw [GI]
  split
  ·next q=>
   have hr:=IY (z:=s) hc q.1
   exact OG hc f _ (by show(Ee _ _ _).toNat≤_;omega)
  ·exact h
theorem OH {l:List In}(hc:E6 l){s:Th}(h:s.at_≤l.length):(EF l s).at_≤l.length:=OG hc _ s h
def Hi (r:Rg)(i:In)(old:Int):Rg:=if((i.op==4)||(i.op==6))=true then BA r i.dst.toNat (BU old i.sz)else r
def Qu (l:List In)(s:Th)(old:Int):Th:=if s.at_=l.length then s else EF l ⟨s.at_+1,Hi s.r (l.getD s.at_ In.z) old⟩
theorem Wi {l:List In}(hc:E6 l){s:Th}(h:s.at_≤l.length)(old:Int):(Qu l s old).at_≤l.length:=by
 unfold Qu
 split
 ·exact h
 ·exact OH hc (by show s.at_+1≤_;omega)
def CE (i:In):Bool:=(i.op==4)||(i.op==5)||(i.op==6)
def OI (i:In):Int:=if CE i=true then i.loc else 0
def OJ (r:Rg)(i:In):Int:=if CE i=true then A7 (AU i.off (CV r i.ix 0) i.sz) i.sz else 0
def FO (r:Rg)(i:In):Int:=if CE i=true then(if i.op=5 then BU (CV r i.ra i.imm) i.sz else if i.op=6 then r i.ra.toNat else 0)else 0
end Go.Proofs.YtbbdanhpphlbpaaGreatDoor.Mc
namespace Go.Proofs.YtbbdanhpphlbpaaGreatDoor.Mc
open Go.RowKit
set_option simprocs false
theorem ZN (i:In):Fn Tryz.prog 168 [.agg (AS i)] [] (Rt (.bool (CE i)) []):=
 AG (n:=9) (by kernel_rfl) Tryz.func168 rfl rfl rfl fun G w a h0 A=>N9 9 A rfl rfl fun A=>C9 [] (Kk i.op i.dst i.ra i.rb i.imm i.loc i.off i.ix i.sz i.fn i.acq i.weak i.rel i.pred i.succ i.to_ i.zero) A rfl fun A=>N9 1 A rfl rfl fun A=>fork 5 A rfl
  (fun h1 A=>N9 7 A rfl rfl fun A=>R9 A rfl h0 rfl (by rw [show CE i=true from(by revert h1;simp only [CE,GH]<;>(cases(i.op==4)<;>cases(i.op==5)<;>cases(i.op==6)<;>cases(i.op==7)<;>cases(i.op==8)<;>first|rfl|simp))];rfl) rfl)
  (fun h1 A=>N9 1 A rfl rfl fun A=>C9 [] (IT i.op i.dst i.ra i.rb i.imm i.loc i.off i.ix i.sz i.fn i.acq i.weak i.rel i.pred i.succ i.to_ i.zero) A rfl fun A=>N9 5 A rfl rfl fun A=>R9 A rfl h0 rfl (congrArg SV.bool (by revert h1;simp only [CE,GH]<;>(cases(i.op==4)<;>cases(i.op==5)<;>cases(i.op==6)<;>cases(i.op==7)<;>cases(i.op==8)<;>first|rfl|simp))) rfl)
theorem Wj (i:In):Fn Tryz.prog 127 [.agg (AS i)] [] (Rt (.bool (GH i)) []):=
 AG (n:=15) (by kernel_rfl) Tryz.func127 rfl rfl rfl fun G w a h0 A=>N9 9 A rfl rfl fun A=>C9 [] (ZN i) A rfl fun A=>N9 14 A rfl rfl fun A=>R9 A rfl h0 rfl (congrArg SV.bool (by simp only [CE,GH]<;>(cases(i.op==4)<;>cases(i.op==5)<;>cases(i.op==6)<;>cases(i.op==7)<;>cases(i.op==8)<;>first|rfl|simp))) rfl
theorem Qv (l:List In)(ao:Option Addr)(cp:Nat)(at_:Int)(r:Rg)(i:In)(jY:0≤at_∧at_≤1000)(hd:i.op=1∨i.op=2∨i.op=3→0≤i.dst∧i.dst<8)(ha:i.op=2∨i.op=3∨i.op=9→0≤i.ra∧i.ra<8)(hb:i.op=3→ -1≤i.rb∧i.rb<8):Fn Tryz.prog 128 [.ptr 0 0,.agg (AS i)] [some (.blk (EV (.sla ao l.length cp) at_ r))] (Rt (.tup []) [some (.blk (EV (.sla ao l.length cp) (Ee at_ r i) (GQ r i)))]):=
 AG (n:=80) (by kernel_rfl) Tryz.func128 rfl rfl rfl fun G w a h0 A=>N9 18 A rfl (iU (by omega)<|iT) fun A=>N9 12 A rfl rfl fun A=>AN 13 A rfl
  (fun h1 A=>N9 1 A rfl rfl fun A=>Aq hX BK [] [(8,.tup [],[some (.blk (EV (.sla ao l.length cp) (at_+1) (BA r (i.dst).toNat i.imm))),some (.blk (AS i))])] A rfl (iU (by omega)<|iT) rfl rfl (by kernel_rfl) ⟨Tf (i:=0) (r:=r) hX rfl rfl rfl rfl rfl rfl rfl rfl (by first|exact hd (by omega)|exact ha (by omega)|exact hb (by omega)),trivial⟩ trivial fun A=>N9 1 A rfl rfl fun A=>Df (R9 A rfl h0 rfl rfl (by have e1:Ee at_ r i=_:=(by unfold Ee;rw [if_neg (by omega)]<;>rfl);have e2:GQ r i=_:=(by unfold GQ;rw [if_pos h1]<;>rfl);rw [e1,e2]<;>rfl)))
  (fun h1 A=>N9 7 A rfl rfl fun A=>AN 23 A rfl
   (fun h2 A=>N9 1 A rfl rfl fun A=>Hh BK [.ptr 0 0,.ptr 1 1,.int .i64 i.dst,.ptr 0 0,.ptr 1 2,.int .i64 i.ra,.ptr 0 0,.ptr 0 2,.ix (.ptr 0 2) 1 8 i.ra 0,.int .i64 (r (i.ra).toNat),.ptr 0 0,.ptr 0 2,.ix (.ptr 0 2) 1 8 i.dst 0,.tup []] [13] [] 0 [([],[],[some (.blk (EV (.sla ao l.length cp) (at_+1) r)),some (.blk (AS i))]),([13],[],[some (.blk (EV (.sla ao l.length cp) (at_+1) (BA r (i.dst).toNat (r (i.ra).toNat)))),some (.blk (AS i))])] [[true,true,true,true,true,true,true,true,true,true,true,true,true,true],[false,false,false,false,false,false,false,false,false,false,true,true,false,false]] A rfl rfl rfl rfl (by kernel_rfl) rfl (by kernel_rfl) ⟨⟨iV 0 rfl rfl,⟨iV 0 rfl rfl,⟨iV 0 rfl rfl,⟨iV 0 rfl rfl,⟨iV 0 rfl rfl,⟨iV 0 rfl rfl,⟨iV 0 rfl rfl,⟨iV 0 rfl rfl,⟨iV 0 rfl (iU (by omega)<|iT),⟨BT 0 rfl (PA (r:=r) hX rfl rfl rfl rfl rfl rfl rfl (by first|exact hd (by omega)|exact ha (by omega)|exact hb (by omega))),⟨iV 0 rfl rfl,⟨iV 0 rfl rfl,⟨iV 0 rfl (iU (by omega)<|iT),⟨BT 1 rfl (Tf (i:=0) (r:=r) hX rfl rfl rfl rfl rfl rfl rfl rfl (by first|exact hd (by omega)|exact ha (by omega)|exact hb (by omega))),trivial⟩⟩⟩⟩⟩⟩⟩⟩⟩⟩⟩⟩⟩⟩,⟨⟨iV 1 rfl rfl,⟨iV 1 rfl rfl,trivial⟩⟩,trivial⟩⟩ fun A=>N9 1 A rfl rfl fun A=>Df (R9 A rfl h0 rfl rfl (by have e1:Ee at_ r i=_:=(by unfold Ee;rw [if_neg (by omega)]<;>rfl);have e2:GQ r i=_:=(by unfold GQ;rw [if_neg (by omega),if_pos h2]<;>rfl);rw [e1,e2]<;>rfl)))
   (fun h2 A=>N9 7 A rfl rfl fun A=>AN 38 A rfl
    (fun h3 A=>N9 1 A rfl rfl fun A=>Hh BK [.ptr 0 0,.ptr 1 1,.int .i64 i.dst,.ptr 1 9,.int .i64 i.fn,.ptr 0 0,.ptr 1 2,.int .i64 i.ra,.ptr 0 0,.ptr 0 2,.ix (.ptr 0 2) 1 8 i.ra 0,.int .i64 (r (i.ra).toNat),.ptr 0 0,.ptr 1 3,.int .i64 i.rb,.ptr 1 4,.int .i64 i.imm,.int .i64 (CV r i.rb i.imm),.int .i64 (Fz i.fn (r (i.ra).toNat) (CV r i.rb i.imm)),.ptr 0 0,.ptr 0 2,.ix (.ptr 0 2) 1 8 i.dst 0,.tup []] [17,22] [] 0 [([],[],[some (.blk (EV (.sla ao l.length cp) (at_+1) r)),some (.blk (AS i))]),([17],[],[some (.blk (EV (.sla ao l.length cp) (at_+1) r)),some (.blk (AS i))]),([17,22],[],[some (.blk (EV (.sla ao l.length cp) (at_+1) (BA r (i.dst).toNat (Fz i.fn (r (i.ra).toNat) (CV r i.rb i.imm))))),some (.blk (AS i))])] [[true,true,true,true,true,true,true,true,true,true,true,true,true,true,true,true,true,true,false,true,true,false,false],[true,true,true,true,true,true,true,true,true,true,true,true,false,true,false,true,false,false,true,true,true,true,true],[false,false,false,false,false,false,false,false,false,false,false,false,false,false,false,false,false,false,false,true,true,false,false]] A rfl rfl rfl rfl (by kernel_rfl) rfl (by kernel_rfl) ⟨⟨iV 0 rfl rfl,⟨iV 0 rfl rfl,⟨iV 0 rfl rfl,⟨iV 0 rfl rfl,⟨iV 0 rfl rfl,⟨iV 0 rfl rfl,⟨iV 0 rfl rfl,⟨iV 0 rfl rfl,⟨iV 0 rfl rfl,⟨iV 0 rfl rfl,⟨iV 0 rfl (iU (by omega)<|iT),⟨BT 0 rfl (PA (r:=r) hX rfl rfl rfl rfl rfl rfl rfl (by first|exact hd (by omega)|exact ha (by omega)|exact hb (by omega))),⟨iV 0 rfl rfl,⟨iV 0 rfl rfl,⟨iV 0 rfl rfl,⟨iV 0 rfl rfl,⟨iV 0 rfl rfl,⟨BT 1 rfl (DV [0] (I4 l ao cp (at_+1) r i.rb i.imm (by first|exact hd (by omega)|exact ha (by omega)|exact hb (by omega))) rfl rfl rfl rfl rfl rfl rfl),⟨iV 0 rfl rfl,⟨iV 0 rfl rfl,trivial⟩⟩⟩⟩⟩⟩⟩⟩⟩⟩⟩⟩⟩⟩⟩⟩⟩⟩⟩⟩,⟨⟨iV 1 rfl rfl,⟨iV 1 rfl rfl,⟨iV 1 rfl rfl,⟨iV 1 rfl rfl,⟨iV 1 rfl rfl,⟨iV 1 rfl rfl,⟨iV 1 rfl rfl,⟨iV 1 rfl rfl,⟨iV 1 rfl rfl,⟨iV 1 rfl rfl,⟨iV 1 rfl (iU (by omega)<|iT),⟨BT 1 rfl (PA (r:=r) hX rfl rfl rfl rfl rfl rfl rfl (by first|exact hd (by omega)|exact ha (by omega)|exact hb (by omega))),⟨iV 1 rfl rfl,⟨iV 1 rfl rfl,⟨BT 1 rfl (CG rfl rfl (ZM i.fn (r (i.ra).toNat) (CV r i.rb i.imm))),⟨iV 1 rfl rfl,⟨iV 1 rfl rfl,⟨iV 1 rfl (iU (by omega)<|iT),⟨BT 2 rfl (Tf (i:=0) (r:=r) hX rfl rfl rfl rfl rfl rfl rfl rfl (by first|exact hd (by omega)|exact ha (by omega)|exact hb (by omega))),trivial⟩⟩⟩⟩⟩⟩⟩⟩⟩⟩⟩⟩⟩⟩⟩⟩⟩⟩⟩,⟨⟨iV 2 rfl rfl,⟨iV 2 rfl rfl,trivial⟩⟩,trivial⟩⟩⟩ fun A=>N9 1 A rfl rfl fun A=>Df (R9 A rfl h0 rfl rfl (by have e1:Ee at_ r i=_:=(by unfold Ee;rw [if_neg (by omega)]<;>rfl);have e2:GQ r i=_:=(by unfold GQ;rw [if_neg (by omega),if_neg (by omega),if_pos h3]<;>rfl);rw [e1,e2]<;>rfl)))
    (fun h3 A=>N9 7 A rfl rfl fun A=>AN 62 A rfl
     (fun h4 A=>N9 2 A rfl rfl fun A=>Hh BK [.ptr 0 0,.ptr 1 2,.int .i64 i.ra,.ptr 0 0,.ptr 0 2,.ix (.ptr 0 2) 1 8 i.ra 0,.int .i64 (r (i.ra).toNat),.bool ((r (i.ra).toNat)==0),.ptr 1 16,.bool i.zero,.bool (((r (i.ra).toNat)==0)==i.zero)] [] [] 0 [([],[],[some (.blk (EV (.sla ao l.length cp) (at_+1) r)),some (.blk (AS i))])] [[true,true,true,true,true,true,true,true,true,true,true]] A rfl rfl rfl rfl (by kernel_rfl) rfl (by kernel_rfl) ⟨⟨iV 0 rfl rfl,⟨iV 0 rfl rfl,⟨iV 0 rfl rfl,⟨iV 0 rfl rfl,⟨iV 0 rfl rfl,⟨iV 0 rfl (iU (by omega)<|iT),⟨BT 0 rfl (PA (r:=r) hX rfl rfl rfl rfl rfl rfl rfl (by first|exact hd (by omega)|exact ha (by omega)|exact hb (by omega))),⟨iV 0 rfl rfl,⟨iV 0 rfl rfl,⟨iV 0 rfl rfl,⟨iV 0 rfl rfl,trivial⟩⟩⟩⟩⟩⟩⟩⟩⟩⟩⟩,trivial⟩ fun A=>N9 1 A rfl rfl fun A=>AN 74 A rfl
      (fun h5 A=>N9 10 A rfl rfl fun A=>Df (R9 A rfl h0 rfl rfl (by have e1:Ee at_ r i=_:=(by unfold Ee;rw [if_pos h4,if_pos h5]<;>rfl);have e2:GQ r i=_:=(by unfold GQ;rw [if_neg (by omega),if_neg (by omega),if_neg (by omega)]<;>rfl);rw [e1,e2]<;>rfl)))
      (fun h5 A=>N9 3 A rfl rfl fun A=>Df (R9 A rfl h0 rfl rfl (by have e1:Ee at_ r i=_:=(by unfold Ee;rw [if_pos h4,if_neg h5]<;>rfl);have e2:GQ r i=_:=(by unfold GQ;rw [if_neg (by omega),if_neg (by omega),if_neg (by omega)]<;>rfl);rw [e1,e2]<;>rfl))))
     (fun h4 A=>N9 3 A rfl rfl fun A=>Df (R9 A rfl h0 rfl rfl (by have e1:Ee at_ r i=_:=(by unfold Ee;rw [if_neg (by omega)]<;>rfl);have e2:GQ r i=_:=(by unfold GQ;rw [if_neg (by omega),if_neg (by omega),if_neg (by omega)]<;>rfl);rw [e1,e2]<;>rfl))))))
end Go.Proofs.YtbbdanhpphlbpaaGreatDoor.Mc
namespace Go.Proofs.YtbbdanhpphlbpaaGreatDoor
open Go.RowKit
def ZO (o:Oper)(j:Nat):List Oper→Nat→Bool
 | [],_=>true
 |q::r,i=>(Nat.beq i j||waits o i||waits q j)&&ZO o j r (i+1)
def ZP (l:List Oper)(t:Nat):List Oper→Nat→Bool
 | [],_=>true
 |o::r,j=>(match o.dst with|some d=> !Nat.beq d t||ZO o j l 0|none=>true)&&ZP l t r (j+1)
def YV (l:List Oper):List (Nat×SV)→Bool
 | []=>true
 |p::T=>ZP l p.1 l 0&&YV l T
theorem Lr {o:Oper}{j:Nat}:∀{r:List Oper} {k:Nat},ZO o j r k=true→∀(i:Nat) (q:Oper),r[i]?=some q→k+i≠j→waits o (k+i)=true∨waits q j=true
 | [],_,_,_,_,h,_=>by cases h
 | p::r,k,h,i,q,hi,jF=>by
  simp only [ZO,Bool.and_eq_true,Bool.or_eq_true]at h
  cases i with
  |zero=>
   cases hi
   rcases h.1 with(h1|h1)|h1
   ·exact absurd (Nat.eq_of_beq_eq_true h1) (by simpa using jF)
   ·exact .inl (by simpa using h1)
   ·exact .inr h1
  |succ i=>rw [show k+(i+1)=k+1+i by omega]at jF⊢;exact Lr h.2 i q (by simpa using hi) jF
theorem Ls {l:List Oper}{t:Nat}:∀{r:List Oper} {k:Nat},ZP l t r k=true→∀(j:Nat) (o:Oper),r[j]?=some o→o.dst=some t→ZO o (k+j) l 0=true
 | [],_,_,_,_,h,_=>by cases h
 |p::r,k,h,j,o,hj,hd=>by
  simp only [ZP,Bool.and_eq_true]at h
  cases j with
  |zero=>cases hj;have:=h.1;rw [hd]at this;simpa using this
  |succ j=>rw [show k+(j+1)=k+1+j by omega];exact Ls h.2 j o (by simpa using hj) hd
theorem Lt {l:List Oper}:∀{T:List (Nat×SV)} {t:Nat} {x:SV},YV l T=true→look T t=some x→ZP l t l 0=true
 | [],_,_,_,h=>by cases h
 |(k,y)::T,t,x,hT,h=>by
  simp only [YV,Bool.and_eq_true]at hT
  unfold look at h
  cases hk:Nat.beq k t with
  |true=>have:=Nat.eq_of_beq_eq_true hk;subst this;exact hT.1
  |false=>rw [hk]at h;exact Lt hT.2 h
theorem OL {l:List Oper}{T:List (Nat×SV)}{t:Nat}{x:SV}{j i:Nat}{o q:Oper}(o6:YV l T=true)(hx:look T t=some x)(h3:l[j]?=some o)(h4:o.dst=some t)(hq:l[i]?=some q)(jF:i≠j):waits o i=true∨waits q j=true:=by
 have:=Lr (Ls (Lt o6 hx) j o h3 h4) i q hq (by simpa using jF)
 simpa using this
section
variable {P:Program}{X:Tx}{n:Nat}{ks:List Nat}{G0:Gr}{w0:World}{T:List (Nat×SV)}{l:List Oper}{xs:List SV}{Q:Exit→Act→World→Prop}{ef rs0:List Nat}{tb:List (List Nat×List Nat×Hp)}
theorem Wk {id:Nat} {H HE:Hp} {G:Gr} {a:Act} {w:World} {K:List Fr} (BK:P.follows .mixedOrders=true) (xs:List SV) (ef rs0:List Nat) (m:Nat) (tb:List (List Nat×List Nat×Hp)) (B:List (List Bool)) (A:Sy n T H ks G0 w0 G a w)
  (h0:tb[0]?=some ([],rs0,H++List.replicate m none)) (hE:O9 ef tb=some HE) (nE:(rs0.all fun r=>Nat.ble H.length r)=true) (pR:(ef.all fun p=>Nat.blt p l.length)=true) (hB:(tb.map fun s=>I2 l.toArray ef s.1 l 0)=B) (hl:xs.length=l.length) (kC:Ih l.toArray n []=true)
  (o6:YV l T=true) (hO:ZJ P n ks G0 w0 T l xs ef tb B tb) (hk:∀{G a w},Sy n (lD l xs T) HE ks G0 w0 G a w→Goal P Q K .norm a w):Goal P Q K (.code (.region id l.toArray true)) a w:=by
 refine wp_region_any BK ?_
 have qB:Ms H ks G0 w0 G w.drew:=A.ms.grow (BW.refl w).drew
 rw [List.all_eq_true]at nE pR
 refine Qq (P:=P) (xs:=xs) (T:=T) (ef:=ef) (rs0:=rs0) (tb:=tb) kC (fun t x hx j o h3 h4 i q hq jF=>OL o6 hx h3 h4 hq jF) (fun t x hx r hr=>?_) hl (fun k c rs H hk i o hi hm=>?_) (fun k c rs H' jQ j8 G a w A'=>?_) _ _ _ _ 0 [] rs0 _ (G++List.replicate m none) (by simp) (by
  refine Nat.le_trans (List.length_filter_le _ _) (by simp)) h0 ⟨A.size,A.defers,fun t x hx _=>AP _ x (A.get t x hx),fun j o x _ hj=>?_,Sy.pad (a:=a) qB m,fun p hp=>?_,fun p hp=>absurd hp (by simp),fun r hr=>hr,fun j o p _ hj=>?_⟩
 ·have:=nE r hr
  rw [A.mem.len]at this
  exact Mz (G:=G) (Nat.le_of_ble_eq_true this) x (A.get t x hx)
 ·have:=Kr (My (by rw [hB];exact hO) k c rs H hk) i o hi (by rw [Nat.zero_add];exact hm)
  rwa [Nat.zero_add]at this
 ·have h2:(ef.all c.contains)=true:=by
   rw [List.all_eq_true]
   intro p hp
   have:=j8 p hp (by have:=pR p hp;simpa [Nat.blt_eq]using this)
   simpa using this
  cases Fe hE k c rs H' jQ h2
  exact hk A'
 ·exfalso;simp [Array.getD_eq_getD_getElem?,Array.getElem?_replicate]at hj;split at hj<;>simp at hj
 ·constructor
  ·intro hj;exfalso;simp [Array.getD_eq_getD_getElem?,Array.getElem?_replicate]at hj;split at hj<;>simp at hj
  ·intro hj;cases hj
 ·exfalso;simp [Array.getD_eq_getD_getElem?,Array.getElem?_replicate]at hj;split at hj<;>simp at hj
end
end Go.Proofs.YtbbdanhpphlbpaaGreatDoor
namespace Go.Proofs.YtbbdanhpphlbpaaGreatDoor.Mc
open Go.RowKit
set_option simprocs false
theorem PD (l:List In)(ao:Option Addr)(cp:Nat)(z:Th)(hc:E6 l)(hle:z.at_≤l.length)(h1:((z.at_:Nat):Int)≠((l.length:Nat):Int))(h2:(!(GH (l.getD ((z.at_:Nat):Int).toNat In.z)))=true):Fn Tryz.prog 128 [.ptr 0 0,.agg (CD (l.getD ((z.at_:Nat):Int).toNat In.z))] [some (.blk (EV (.sla ao l.length cp) ((z.at_:Nat):Int) z.r))] (Rt (.tup []) [some (.blk (EV (.sla ao l.length cp) (((FB l z).at_:Nat):Int) ((FB l z).r)))]):=by
 have i7:z.at_<l.length:=by omega
 have hr:=IY (z:=z) hc i7
 have hs:=hc.snd i7
 have hn:=hc.n
 have e:Ee ((z.at_:Nat):Int) z.r (l.getD ((z.at_:Nat):Int).toNat In.z)=(((FB l z).at_:Nat):Int):=by
  show Ee ((z.at_:Nat):Int) z.r (l.getD z.at_ In.z)=(((Ee ((z.at_:Nat):Int) z.r (l.getD z.at_ In.z)).toNat:Nat):Int)
  omega
 have h:=Qv l ao cp ((z.at_:Nat):Int) z.r (l.getD ((z.at_:Nat):Int).toNat In.z) (by omega) (fun q=>hs.d (by show _∨_;have q':(l.getD z.at_ In.z).op=1∨(l.getD z.at_ In.z).op=2∨(l.getD z.at_ In.z).op=3:=q;omega)) (fun q=>hs.a (by show _∨_;have q':(l.getD z.at_ In.z).op=2∨(l.getD z.at_ In.z).op=3∨(l.getD z.at_ In.z).op=9:=q;omega)) (fun q=>hs.b q)
 rw [e]at h
 exact h
abbrev AJ (l:List In)(s:Th):In:=l.getD (((s.at_:Nat):Int)).toNat In.z
theorem Qw (l:List In)(ao:Option Addr)(cp:Nat)(s:Th)(hc:E6 l)(jY:s.at_≤l.length):Bi (Em ao l) Tryz.prog 88 [.ptr 0 0] [some (.blk (EV (.sla ao l.length cp) ((s.at_:Nat):Int) s.r))] (Rt (.tup []) [some (.blk (EV (.sla ao l.length cp) (((EF l s).at_:Nat):Int) ((EF l s).r)))]):=
 Ab (n:=24) (by kernel_rfl) Tryz.func88 rfl rfl rfl fun G w a h0 hI A=>N9 3 A rfl rfl fun A=>I9 [0] AK.ok hI (I5 l ao cp ((s.at_:Nat):Int) s.r (by omega)) A rfl fun A=>N9 9 A rfl rfl fun A=>Bk (fun(z:Th)=>[(0,.ptr 0 0),(2,.ptr 1 0),(3,.bool (!(((z.at_:Nat):Int)==((l.length:Nat):Int))))]) (fun(z:Th)=>[some (.blk (EV (.sla ao l.length cp) ((z.at_:Nat):Int) z.r)),some (.blk (AS (l.getD (((z.at_:Nat):Int)).toNat In.z)))]) (fun(z:Th)=>SI l s z) (fun(z:Th)=>l.length - z.at_) s (SI.i0 jY) ((A.cut [0,2,3] rfl).trunc 2 rfl rfl rfl (by simp only [List.length_cons,List.length_nil]at h0;omega)) fun z hJ {G a w} A=>N9 5 A rfl rfl fun A=>Dc 10 A rfl
   (fun h1 A=>N9 1 A rfl rfl fun A=>C9 [] (Wj (l.getD (((z.at_:Nat):Int)).toNat In.z)) A rfl fun A=>N9 4 A rfl rfl fun A=>fork 14 A rfl
    (fun h2 A=>N9 8 A rfl rfl fun A=>C9 [0] (PD l ao cp z hc hJ.le h1 h2) A rfl fun A=>N9 16 A rfl rfl fun A=>I9 [0] AK.ok hI (I5 l ao cp (((FB l z).at_:Nat):Int) ((FB l z).r) (by have hq:=(hJ.nx hc h1 h2).1.le;omega)) A rfl fun A=>N9 6 A rfl rfl fun A=>⟨FB l z,_,(hJ.nx hc h1 h2).2,(hJ.nx hc h1 h2).1,((A.cut [0,2,3] rfl).mv 1 [2] rfl rfl rfl rfl (by simp only [List.length_cons,List.length_nil]at h0;omega))⟩)
    (fun h2 A=>N9 2 A rfl rfl fun A=>Df (R9 A rfl h0 rfl rfl (by rw [hJ.f2 h2]<;>rfl))))
   (fun h1 A=>N9 8 A rfl rfl fun A=>Df (R9 A rfl h0 rfl rfl (by rw [hJ.f1 h1]<;>rfl)))
theorem Kw (l:List In)(ao:Option Addr)(cp:Nat)(at_:Int)(r:Rg)(hc:E6 l)(jY:0≤at_∧at_≤((l.length:Nat):Int)):Bi (Em ao l) Tryz.prog 88 [.ptr 0 0] [some (.blk (EV (.sla ao l.length cp) at_ r))] (Rt (.tup []) [some (.blk (EV (.sla ao l.length cp) (((EF l ⟨at_.toNat,r⟩).at_:Nat):Int) ((EF l ⟨at_.toNat,r⟩).r)))]):=by
 obtain⟨k,rfl⟩:=Int.eq_ofNat_of_zero_le jY.1
 exact Qw l ao cp ⟨k,r⟩ hc (by show k≤_;omega)
theorem dO {a b:Int}(h:(!(!(a==b)))=true):a=b:=by simpa using h
theorem Jj {a b:Int}(h:(!(!(a==b)))=false):a≠b:=by simpa using h
theorem Ti {i:In}(h:(!(CE i))=false):CE i=true:=by simpa using h
theorem Qx {i:In}(h:(!(CE i))=false):i.op=4∨i.op=5∨i.op=6:=by
 have h:=Ti h
 unfold CE at h
 simp at h
 omega
theorem hQ {l:List In}{s:Th}(h:((s.at_:Nat):Int)=((l.length:Nat):Int)):(SV.tup [.agg [.int .i64 (OI (l.getD ((s.at_:Nat):Int).toNat In.z)),.int .i64 (OJ s.r (l.getD ((s.at_:Nat):Int).toNat In.z))],.int .i64 (FO s.r (l.getD ((s.at_:Nat):Int).toNat In.z)),.bool (CE (l.getD ((s.at_:Nat):Int).toNat In.z))])=.tup [.agg [.z9,.z9],.z9,.bool false]:=by
 have e:l.getD ((s.at_:Nat):Int).toNat In.z=In.z:=by rw [List.getD_eq_getElem?_getD,List.getElem?_eq_none (by omega)];rfl
 rw [e];rfl
theorem iA {i:In}{r:Rg}(h:(!(CE i))=true):(SV.tup [.agg [.int .i64 (OI i),.int .i64 (OJ r i)],.int .i64 (FO r i),.bool (CE i)])=.tup [.agg [.z9,.z9],.z9,.bool false]:=by
 have e:CE i=false:=by simpa using h
 unfold OI OJ FO
 rw [e];rfl
theorem dP {l:List In}{s:Th}(hc:E6 l)(jY:s.at_≤l.length)(h1:((s.at_:Nat):Int)≠((l.length:Nat):Int))(h2:(!(CE (l.getD ((s.at_:Nat):Int).toNat In.z)))=false):((l.getD ((s.at_:Nat):Int).toNat In.z).sz=1∨(l.getD ((s.at_:Nat):Int).toNat In.z).sz=2∨(l.getD ((s.at_:Nat):Int).toNat In.z).sz=4∨(l.getD ((s.at_:Nat):Int).toNat In.z).sz=8)∧(-1≤(l.getD ((s.at_:Nat):Int).toNat In.z).ix∧(l.getD ((s.at_:Nat):Int).toNat In.z).ix<8)∧((l.getD ((s.at_:Nat):Int).toNat In.z).op=5→ -1≤(l.getD ((s.at_:Nat):Int).toNat In.z).ra∧(l.getD ((s.at_:Nat):Int).toNat In.z).ra<8)∧((l.getD ((s.at_:Nat):Int).toNat In.z).op=6→0≤(l.getD ((s.at_:Nat):Int).toNat In.z).ra∧(l.getD ((s.at_:Nat):Int).toNat In.z).ra<8):=by
 have i7:s.at_<l.length:=by omega
 have ho:=Qx h2
 have hs:=hc.snd i7
 exact⟨hc.szs i7 ho,hs.x ho,fun q=>hs.a5 q,fun q=>hs.a (.inr (.inr (.inl q)))⟩
theorem F3 {l:List In}{s:Th}(hc:E6 l)(jY:s.at_≤l.length)(h1:((s.at_:Nat):Int)≠((l.length:Nat):Int))(h2:(!(CE (AJ l s)))=false):((AJ l s).sz=1∨(AJ l s).sz=2∨(AJ l s).sz=4∨(AJ l s).sz=8)∧(-1≤(AJ l s).ix∧(AJ l s).ix<8)∧((AJ l s).op=5→ -1≤(AJ l s).ra∧(AJ l s).ra<8)∧((AJ l s).op=6→0≤(AJ l s).ra∧(AJ l s).ra<8):=dP hc jY h1 h2
theorem ZQ (l:List In)(ao:Option Addr)(cp:Nat)(s:Th)(hc:E6 l)(jY:s.at_≤l.length):Bi (Em ao l) Tryz.prog 131 [.ptr 0 0] [some (.blk (EV (.sla ao l.length cp) ((s.at_:Nat):Int) s.r))] (Rt (.tup [.agg [.int .i64 (OI (AJ l s)),.int .i64 (OJ s.r (AJ l s))],.int .i64 (FO s.r (AJ l s)),.bool (CE (AJ l s))]) [some (.blk (EV (.sla ao l.length cp) ((s.at_:Nat):Int) s.r))]):=
 Ab (n:=59) (by kernel_rfl) Tryz.func131 rfl rfl rfl fun G w a h0 hI A=>N9 10 A rfl rfl fun A=>I9 [0] AK.ok hI (I5 l ao cp ((s.at_:Nat):Int) s.r (by omega)) A rfl fun A=>N9 14 A rfl rfl fun A=>fork 14 A rfl
  (fun h1 A=>N9 16 A rfl rfl fun A=>R9 A rfl h0 rfl (by rw [hQ (dO h1)]<;>rfl) rfl)
  (fun h1 A=>N9 1 A rfl rfl fun A=>C9 [] (ZN (AJ l s)) A rfl fun A=>N9 4 A rfl rfl fun A=>fork 18 A rfl
   (fun h2 A=>N9 10 A rfl rfl fun A=>R9 A rfl h0 rfl (by rw [iA h2]<;>rfl) rfl)
   (fun h2 A=>N9 17 A rfl rfl fun A=>AN 22 A rfl
    (fun h3 A=>N9 1 A rfl rfl fun A=>Aq hX BK [(8,.int .i64 (BU (CV s.r ((AJ l s).ra) ((AJ l s).imm)) ((AJ l s).sz)))] [(5,.int .i64 (CV s.r ((AJ l s).ra) ((AJ l s).imm)),[some (.blk (EV (.sla ao l.length cp) ((s.at_:Nat):Int) s.r)),some (.blk [.z9,.z9]),some (.blk (AS (AJ l s)))])] A rfl rfl rfl rfl (by kernel_rfl) ⟨DV [0] (I4 l ao cp ((s.at_:Nat):Int) s.r ((AJ l s).ra) ((AJ l s).imm) (by have q:=F3 hc jY (Jj h1) h2;have o:=Qx h2;first|exact q.1|exact q.2.1|exact q.2.2.1 (by assumption)|exact q.2.2.2 (by omega)|omega)) rfl rfl rfl rfl rfl rfl rfl,trivial⟩ ⟨.inl ⟨_,_,rfl,rfl,OF (CV s.r ((AJ l s).ra) ((AJ l s).imm)) ((AJ l s).sz) (by have q:=F3 hc jY (Jj h1) h2;have o:=Qx h2;first|exact q.1|exact q.2.1|exact q.2.2.1 (by assumption)|exact q.2.2.2 (by omega)|omega)⟩,trivial⟩ fun A=>N9 3 A rfl rfl fun A=>Aq hX BK [(8,.int .i64 (AU ((AJ l s).off) (CV s.r ((AJ l s).ix) 0) ((AJ l s).sz)))] [(5,.int .i64 (CV s.r ((AJ l s).ix) 0),[some (.blk (EV (.sla ao l.length cp) ((s.at_:Nat):Int) s.r)),some (.blk [.z9,.z9]),some (.blk (AS (AJ l s)))])] A rfl rfl rfl rfl (by kernel_rfl) ⟨DV [0] (I4 l ao cp ((s.at_:Nat):Int) s.r ((AJ l s).ix) 0 (by have q:=F3 hc jY (Jj h1) h2;have o:=Qx h2;first|exact q.1|exact q.2.1|exact q.2.2.1 (by assumption)|exact q.2.2.2 (by omega)|omega)) rfl rfl rfl rfl rfl rfl rfl,trivial⟩ ⟨.inl ⟨_,_,rfl,rfl,Ku ((AJ l s).off) (CV s.r ((AJ l s).ix) 0) ((AJ l s).sz)⟩,trivial⟩ fun A=>N9 2 A rfl rfl fun A=>have A:=A.cut [0,2,3,4,5,6,7,8,9,10,11,12,13,14,15,16,17,18,20,21,22,23,24,25,26,27,28,29,30,31,32,42,43,44,45,46,47,48,49,50] rfl;Wk BK [.ptr 2 5,.int .i64 ((AJ l s).loc),.int .i64 (AU ((AJ l s).off) (CV s.r ((AJ l s).ix) 0) ((AJ l s).sz)),.ptr 2 8,.int .i64 ((AJ l s).sz),.int .i64 (A7 (AU ((AJ l s).off) (CV s.r ((AJ l s).ix) 0) ((AJ l s).sz)) ((AJ l s).sz)),.agg [.int .i64 ((AJ l s).loc),.int .i64 (A7 (AU ((AJ l s).off) (CV s.r ((AJ l s).ix) 0) ((AJ l s).sz)) ((AJ l s).sz))],.int .i64 (BU (CV s.r ((AJ l s).ra) ((AJ l s).imm)) ((AJ l s).sz)),.tup [],.int .i64 (BU (CV s.r ((AJ l s).ra) ((AJ l s).imm)) ((AJ l s).sz)),.tt] [8] [] 0 [([],[],[some (.blk (EV (.sla ao l.length cp) ((s.at_:Nat):Int) s.r)),some (.blk [.z9,.z9]),some (.blk (AS (AJ l s)))]),([8],[],[some (.blk (EV (.sla ao l.length cp) ((s.at_:Nat):Int) s.r)),some (.blk [.int .i64 ((AJ l s).loc),.int .i64 (A7 (AU ((AJ l s).off) (CV s.r ((AJ l s).ix) 0) ((AJ l s).sz)) ((AJ l s).sz))]),some (.blk (AS (AJ l s)))])] [[true,true,true,true,true,true,true,true,true,false,false],[false,false,false,false,false,false,false,true,false,true,true]] A rfl rfl rfl rfl (by kernel_rfl) rfl (by kernel_rfl) (by kernel_rfl) ⟨⟨iV 0 rfl rfl,⟨iV 0 rfl rfl,⟨iV 0 rfl rfl,⟨iV 0 rfl rfl,⟨iV 0 rfl rfl,⟨BT 0 rfl (CG rfl rfl (M3 (AU ((AJ l s).off) (CV s.r ((AJ l s).ix) 0) ((AJ l s).sz)) ((AJ l s).sz) (by have q:=F3 hc jY (Jj h1) h2;have o:=Qx h2;first|exact q.1|exact q.2.1|exact q.2.2.1 (by assumption)|exact q.2.2.2 (by omega)|omega))),⟨iV 0 rfl rfl,⟨iV 0 rfl rfl,⟨BT 1 rfl (Aj (X:=⟨_,true⟩) (out:=.upd 1 [.int .i64 ((AJ l s).loc),.int .i64 (A7 (AU ((AJ l s).off) (CV s.r ((AJ l s).ix) 0) ((AJ l s).sz)) ((AJ l s).sz))] _) hX rfl rfl),trivial⟩⟩⟩⟩⟩⟩⟩⟩⟩,⟨⟨iV 1 rfl rfl,⟨iV 1 rfl rfl,⟨iV 1 rfl rfl,trivial⟩⟩⟩,trivial⟩⟩ fun A=>N9 2 A rfl rfl fun A=>R9 A rfl h0 rfl (by have hm:=Ti h2;unfold OI OJ FO;rw [hm,if_pos rfl,if_pos rfl,if_pos rfl,if_pos h3]<;>rfl) rfl)
    (fun h3 A=>N9 7 A rfl rfl fun A=>AN 33 A rfl
     (fun h4 A=>N9 1 A rfl rfl fun A=>Hh BK [.ptr 0 0,.ptr 2 2,.int .i64 ((AJ l s).ra),.ptr 0 0,.ptr 0 2,.ix (.ptr 0 2) 1 8 ((AJ l s).ra) 0,.int .i64 (s.r ((AJ l s).ra).toNat),.int .i64 (s.r ((AJ l s).ra).toNat)] [] [] 0 [([],[],[some (.blk (EV (.sla ao l.length cp) ((s.at_:Nat):Int) s.r)),some (.blk [.z9,.z9]),some (.blk (AS (AJ l s)))])] [[true,true,true,true,true,true,true,true]] A rfl rfl rfl rfl (by kernel_rfl) rfl (by kernel_rfl) ⟨⟨iV 0 rfl rfl,⟨iV 0 rfl rfl,⟨iV 0 rfl rfl,⟨iV 0 rfl rfl,⟨iV 0 rfl rfl,⟨iV 0 rfl (iU (by have q:=F3 hc jY (Jj h1) h2;have o:=Qx h2;first|exact q.1|exact q.2.1|exact q.2.2.1 (by assumption)|exact q.2.2.2 (by omega)|omega)<|iT),⟨BT 0 rfl (PA (r:=s.r) hX rfl rfl rfl rfl rfl rfl rfl (by have q:=F3 hc jY (Jj h1) h2;have o:=Qx h2;first|exact q.1|exact q.2.1|exact q.2.2.1 (by assumption)|exact q.2.2.2 (by omega)|omega)),⟨iV 0 rfl rfl,trivial⟩⟩⟩⟩⟩⟩⟩⟩,trivial⟩ fun A=>N9 3 A rfl rfl fun A=>Aq hX BK [(8,.int .i64 (AU ((AJ l s).off) (CV s.r ((AJ l s).ix) 0) ((AJ l s).sz)))] [(5,.int .i64 (CV s.r ((AJ l s).ix) 0),[some (.blk (EV (.sla ao l.length cp) ((s.at_:Nat):Int) s.r)),some (.blk [.z9,.z9]),some (.blk (AS (AJ l s)))])] A rfl rfl rfl rfl (by kernel_rfl) ⟨DV [0] (I4 l ao cp ((s.at_:Nat):Int) s.r ((AJ l s).ix) 0 (by have q:=F3 hc jY (Jj h1) h2;have o:=Qx h2;first|exact q.1|exact q.2.1|exact q.2.2.1 (by assumption)|exact q.2.2.2 (by omega)|omega)) rfl rfl rfl rfl rfl rfl rfl,trivial⟩ ⟨.inl ⟨_,_,rfl,rfl,Ku ((AJ l s).off) (CV s.r ((AJ l s).ix) 0) ((AJ l s).sz)⟩,trivial⟩ fun A=>N9 2 A rfl rfl fun A=>have A:=A.cut [0,2,3,4,5,6,7,8,9,10,11,12,13,14,15,16,17,18,20,21,22,23,33,34,35,36,37,38,39,40,41,42,43,44,45,46,47,48,49,50] rfl;Wk BK [.ptr 2 5,.int .i64 ((AJ l s).loc),.int .i64 (AU ((AJ l s).off) (CV s.r ((AJ l s).ix) 0) ((AJ l s).sz)),.ptr 2 8,.int .i64 ((AJ l s).sz),.int .i64 (A7 (AU ((AJ l s).off) (CV s.r ((AJ l s).ix) 0) ((AJ l s).sz)) ((AJ l s).sz)),.agg [.int .i64 ((AJ l s).loc),.int .i64 (A7 (AU ((AJ l s).off) (CV s.r ((AJ l s).ix) 0) ((AJ l s).sz)) ((AJ l s).sz))],.int .i64 (s.r ((AJ l s).ra).toNat),.tup [],.int .i64 (s.r ((AJ l s).ra).toNat),.tt] [8] [] 0 [([],[],[some (.blk (EV (.sla ao l.length cp) ((s.at_:Nat):Int) s.r)),some (.blk [.z9,.z9]),some (.blk (AS (AJ l s)))]),([8],[],[some (.blk (EV (.sla ao l.length cp) ((s.at_:Nat):Int) s.r)),some (.blk [.int .i64 ((AJ l s).loc),.int .i64 (A7 (AU ((AJ l s).off) (CV s.r ((AJ l s).ix) 0) ((AJ l s).sz)) ((AJ l s).sz))]),some (.blk (AS (AJ l s)))])] [[true,true,true,true,true,true,true,true,true,false,false],[false,false,false,false,false,false,false,true,false,true,true]] A rfl rfl rfl rfl (by kernel_rfl) rfl (by kernel_rfl) (by kernel_rfl) ⟨⟨iV 0 rfl rfl,⟨iV 0 rfl rfl,⟨iV 0 rfl rfl,⟨iV 0 rfl rfl,⟨iV 0 rfl rfl,⟨BT 0 rfl (CG rfl rfl (M3 (AU ((AJ l s).off) (CV s.r ((AJ l s).ix) 0) ((AJ l s).sz)) ((AJ l s).sz) (by have q:=F3 hc jY (Jj h1) h2;have o:=Qx h2;first|exact q.1|exact q.2.1|exact q.2.2.1 (by assumption)|exact q.2.2.2 (by omega)|omega))),⟨iV 0 rfl rfl,⟨iV 0 rfl rfl,⟨BT 1 rfl (Aj (X:=⟨_,true⟩) (out:=.upd 1 [.int .i64 ((AJ l s).loc),.int .i64 (A7 (AU ((AJ l s).off) (CV s.r ((AJ l s).ix) 0) ((AJ l s).sz)) ((AJ l s).sz))] _) hX rfl rfl),trivial⟩⟩⟩⟩⟩⟩⟩⟩⟩,⟨⟨iV 1 rfl rfl,⟨iV 1 rfl rfl,⟨iV 1 rfl rfl,trivial⟩⟩⟩,trivial⟩⟩ fun A=>N9 2 A rfl rfl fun A=>R9 A rfl h0 rfl (by have hm:=Ti h2;unfold OI OJ FO;rw [hm,if_pos rfl,if_pos rfl,if_pos rfl,if_neg h3,if_pos h4]<;>rfl) rfl)
     (fun h4 A=>N9 5 A rfl rfl fun A=>Aq hX BK [(8,.int .i64 (AU ((AJ l s).off) (CV s.r ((AJ l s).ix) 0) ((AJ l s).sz)))] [(5,.int .i64 (CV s.r ((AJ l s).ix) 0),[some (.blk (EV (.sla ao l.length cp) ((s.at_:Nat):Int) s.r)),some (.blk [.z9,.z9]),some (.blk (AS (AJ l s)))])] A rfl rfl rfl rfl (by kernel_rfl) ⟨DV [0] (I4 l ao cp ((s.at_:Nat):Int) s.r ((AJ l s).ix) 0 (by have q:=F3 hc jY (Jj h1) h2;have o:=Qx h2;first|exact q.1|exact q.2.1|exact q.2.2.1 (by assumption)|exact q.2.2.2 (by omega)|omega)) rfl rfl rfl rfl rfl rfl rfl,trivial⟩ ⟨.inl ⟨_,_,rfl,rfl,Ku ((AJ l s).off) (CV s.r ((AJ l s).ix) 0) ((AJ l s).sz)⟩,trivial⟩ fun A=>N9 2 A rfl rfl fun A=>have A:=A.cut [0,2,3,4,5,6,7,8,9,10,11,12,13,14,15,16,17,18,20,21,22,23,33,34,42,43,44,45,46,47,48,49,50] rfl;Wk BK [.ptr 2 5,.int .i64 ((AJ l s).loc),.int .i64 (AU ((AJ l s).off) (CV s.r ((AJ l s).ix) 0) ((AJ l s).sz)),.ptr 2 8,.int .i64 ((AJ l s).sz),.int .i64 (A7 (AU ((AJ l s).off) (CV s.r ((AJ l s).ix) 0) ((AJ l s).sz)) ((AJ l s).sz)),.agg [.int .i64 ((AJ l s).loc),.int .i64 (A7 (AU ((AJ l s).off) (CV s.r ((AJ l s).ix) 0) ((AJ l s).sz)) ((AJ l s).sz))],.z9,.tup [],.z9,.tt] [8] [] 0 [([],[],[some (.blk (EV (.sla ao l.length cp) ((s.at_:Nat):Int) s.r)),some (.blk [.z9,.z9]),some (.blk (AS (AJ l s)))]),([8],[],[some (.blk (EV (.sla ao l.length cp) ((s.at_:Nat):Int) s.r)),some (.blk [.int .i64 ((AJ l s).loc),.int .i64 (A7 (AU ((AJ l s).off) (CV s.r ((AJ l s).ix) 0) ((AJ l s).sz)) ((AJ l s).sz))]),some (.blk (AS (AJ l s)))])] [[true,true,true,true,true,true,true,true,true,false,false],[false,false,false,false,false,false,false,true,false,true,true]] A rfl rfl rfl rfl (by kernel_rfl) rfl (by kernel_rfl) (by kernel_rfl) ⟨⟨iV 0 rfl rfl,⟨iV 0 rfl rfl,⟨iV 0 rfl rfl,⟨iV 0 rfl rfl,⟨iV 0 rfl rfl,⟨BT 0 rfl (CG rfl rfl (M3 (AU ((AJ l s).off) (CV s.r ((AJ l s).ix) 0) ((AJ l s).sz)) ((AJ l s).sz) (by have q:=F3 hc jY (Jj h1) h2;have o:=Qx h2;first|exact q.1|exact q.2.1|exact q.2.2.1 (by assumption)|exact q.2.2.2 (by omega)|omega))),⟨iV 0 rfl rfl,⟨iV 0 rfl rfl,⟨BT 1 rfl (Aj (X:=⟨_,true⟩) (out:=.upd 1 [.int .i64 ((AJ l s).loc),.int .i64 (A7 (AU ((AJ l s).off) (CV s.r ((AJ l s).ix) 0) ((AJ l s).sz)) ((AJ l s).sz))] _) hX rfl rfl),trivial⟩⟩⟩⟩⟩⟩⟩⟩⟩,⟨⟨iV 1 rfl rfl,⟨iV 1 rfl rfl,⟨iV 1 rfl rfl,trivial⟩⟩⟩,trivial⟩⟩ fun A=>N9 2 A rfl rfl fun A=>R9 A rfl h0 rfl (by have hm:=Ti h2;unfold OI OJ FO;rw [hm,if_pos rfl,if_pos rfl,if_pos rfl,if_neg h3,if_neg h4]<;>rfl) rfl))))
theorem Qy {l:List In}{s:Th}(hc:E6 l)(jY:s.at_≤l.length)(h1:((s.at_:Nat):Int)≠((l.length:Nat):Int))(h2:(((l.getD ((s.at_:Nat):Int).toNat In.z).op==4)||((l.getD ((s.at_:Nat):Int).toNat In.z).op==6))=true):((l.getD ((s.at_:Nat):Int).toNat In.z).sz=1∨(l.getD ((s.at_:Nat):Int).toNat In.z).sz=2∨(l.getD ((s.at_:Nat):Int).toNat In.z).sz=4∨(l.getD ((s.at_:Nat):Int).toNat In.z).sz=8)∧(0≤(l.getD ((s.at_:Nat):Int).toNat In.z).dst∧(l.getD ((s.at_:Nat):Int).toNat In.z).dst<8):=by
 have i7:s.at_<l.length:=by omega
 have ho:(l.getD s.at_ In.z).op=4∨(l.getD s.at_ In.z).op=6:=by
  have h3:(((l.getD s.at_ In.z).op==4)||((l.getD s.at_ In.z).op==6))=true:=h2
  simp at h3
  exact h3
 have hs:=hc.snd i7
 exact⟨hc.szs i7 (by rcases ho with h|h;exact .inl h;exact .inr (.inr h)),hs.d (by rcases ho with h|h;exact .inr (.inr (.inr (.inl h)));exact .inr (.inr (.inr (.inr h))))⟩
theorem ZR (l:List In)(ao:Option Addr)(cp:Nat)(s:Th)(old:Int)(hc:E6 l)(jY:s.at_≤l.length):Bi (Em ao l) Tryz.prog 91 [.ptr 0 0,.int .i64 old] [some (.blk (EV (.sla ao l.length cp) ((s.at_:Nat):Int) s.r))] (Rt (.bool (!(((s.at_:Nat):Int)==((l.length:Nat):Int)))) [some (.blk (EV (.sla ao l.length cp) (((Qu l s old).at_:Nat):Int) ((Qu l s old).r)))]):=
 Ab (n:=35) (by kernel_rfl) Tryz.func91 rfl rfl rfl fun G w a h0 hI A=>N9 8 A rfl rfl fun A=>I9 [0] AK.ok hI (I5 l ao cp ((s.at_:Nat):Int) s.r (by omega)) A rfl fun A=>N9 15 A rfl rfl fun A=>fork 13 A rfl
  (fun h1 A=>N9 7 A rfl rfl fun A=>R9 A rfl h0 rfl (by rw [beq_iff_eq.2 (dO h1)];rfl) (by unfold Qu;rw [if_pos (show s.at_=l.length from(by have e:=(dO h1);omega))]<;>rfl))
  (fun h1 A=>N9 7 A rfl rfl fun A=>C9 [] (Kk ((AJ l s).op) ((AJ l s).dst) ((AJ l s).ra) ((AJ l s).rb) ((AJ l s).imm) ((AJ l s).loc) ((AJ l s).off) ((AJ l s).ix) ((AJ l s).sz) ((AJ l s).fn) ((AJ l s).acq) ((AJ l s).weak) ((AJ l s).rel) ((AJ l s).pred) ((AJ l s).succ) ((AJ l s).to_) ((AJ l s).zero)) A rfl fun A=>N9 2 A rfl rfl fun A=>fork 15 A rfl
   (fun h2 A=>N9 1 A rfl rfl fun A=>Aq hX BK [(6,.int .i64 (BU old ((AJ l s).sz)))] [(10,.tup [],[some (.blk (EV (.sla ao l.length cp) ((s.at_:Nat):Int) (BA s.r ((AJ l s).dst).toNat (BU old ((AJ l s).sz))))),some (.blk (AS (AJ l s)))])] A rfl (iU (by have hn:=hc.n;(try have q:=Qy hc jY (Jj h1) h2);first|exact q.1|exact q.2|omega)<|iT) rfl rfl (by kernel_rfl) ⟨Tf (i:=0) (r:=s.r) hX rfl rfl rfl rfl rfl rfl rfl rfl (by have hn:=hc.n;(try have q:=Qy hc jY (Jj h1) h2);first|exact q.1|exact q.2|omega),trivial⟩ ⟨.inl ⟨_,_,rfl,rfl,OF old ((AJ l s).sz) (by have hn:=hc.n;(try have q:=Qy hc jY (Jj h1) h2);first|exact q.1|exact q.2|omega)⟩,trivial⟩ fun A=>N9 14 A rfl (iU (by have hn:=hc.n;(try have q:=Qy hc jY (Jj h1) h2);first|exact q.1|exact q.2|omega)<|iT) fun A=>N9 2 A rfl rfl fun A=>I9 [0] AK.ok hI (Kw l ao cp (((s.at_:Nat):Int)+1) (BA s.r ((AJ l s).dst).toNat (BU old ((AJ l s).sz))) hc (by have e:=(Jj h1);omega)) A rfl fun A=>N9 8 A rfl rfl fun A=>R9 A rfl h0 rfl (by rw [beq_eq_false_iff_ne.2 (Jj h1)];rfl) (by rw [show Qu l s old=EF l ⟨s.at_+1,Hi s.r (AJ l s) old⟩from if_neg (show s.at_≠l.length from(by have e:=(Jj h1);omega))];unfold Hi;rw [if_pos h2]<;>rfl))
   (fun h2 A=>N9 16 A rfl (iU (by have hn:=hc.n;(try have q:=Qy hc jY (Jj h1) h2);first|exact q.1|exact q.2|omega)<|iT) fun A=>N9 2 A rfl rfl fun A=>I9 [0] AK.ok hI (Kw l ao cp (((s.at_:Nat):Int)+1) s.r hc (by have e:=(Jj h1);omega)) A rfl fun A=>N9 8 A rfl rfl fun A=>R9 A rfl h0 rfl (by rw [beq_eq_false_iff_ne.2 (Jj h1)];rfl) (by rw [show Qu l s old=EF l ⟨s.at_+1,Hi s.r (AJ l s) old⟩from if_neg (show s.at_≠l.length from(by have e:=(Jj h1);omega))];unfold Hi;rw [if_neg (ne_true_of_eq_false h2)]<;>rfl)))
end Go.Proofs.YtbbdanhpphlbpaaGreatDoor.Mc
namespace Go.Proofs.YtbbdanhpphlbpaaGreatDoor
open Go.RowKit
section
variable {P:Program}{Y:Tb}{n:Nat}{ks:List Nat}{G0:Gr}{w0:World}{T:List (Nat×SV)}{H:Hp}{G:Gr}{a:Act}{w:World}{Q:Exit→Act→World→Prop}{K:List Fr}{pos:Pos}{ops:Array Oper}{o:Oper}{rest:List Oper}
theorem dQ {x y:Operand} {t e s i m c cp:Nat} {ao:Option Addr} {f:Nat→List SV} (A:Sy n T H ks G0 w0 G a w) (hg:iY ops T o.guard=some .run) (hd:Ci n o.dst=true) (jG:o.op=.call {callee:=.builtin .append,args:= #[x,y],argTypes:= #[t,t]}) (hx:jR T x=some (.sl i m c)) (hi:lg H i=some (some (.row e s m c f))) (hy:jR T y=some (.sla ao 0 cp)) (ht:sliceB P t e s=true)
  (hk:∀{G a w},Sy n (Ay T o.dst (.sl i m c)) H ks G0 w0 G a w→Goal P Q K (.ops ops rest) a w):Goal P Q K (.ops ops (o::rest)) a w:=by
 have hw:=An (gd:=none) A hg
 obtain⟨d,op,ty,pos,af,gd⟩:=o
 simp only at jG
 subst jG
 obtain⟨hu,hs⟩:=DT ht
 obtain⟨ie,vC,_⟩:=Option.map_eq_some_iff.1 hs
 rw [Ah]at hi
 obtain⟨p,hp⟩:∃p,G[i]?=some p:=by
  have:i<G.length:=by rw [←A.mem.len];exact(List.getElem?_eq_some_iff.1 hi).1
  exact⟨G[i],by simp [this]⟩
 obtain⟨_,jT,xs,sR,jX⟩:=A.mem.ent i _ hi
 rw [hp]at jX
 simp only [Option.getD_some]at jX
 have jB:=A.ev hx
 have jN:=A.ev hy
 have kZ:den G (.sl i m c)=some (.slice (p.map fun L=>⟨L.b,L.pre.length,none⟩) m (c+rm p)):=by unfold den;rw [hp]
 rw [kZ]at jB
 unfold den at jN
 simp only [Option.some.injEq]at jB jN
 have nC:Src P ie.size t (.slice ao 0 cp) 0 [] w:=by
  cases ao with
  |none=>exact Src.ofNil w hu cp
  |some x0=>exact Src.ofSlice w hu x0 0 cp [] (by simp) (fun j u hj=>by simp at hj) (fun u hu=>by cases hu)
 have hle:m≤c+rm p:=by
  rcases jX.2 with⟨q1,q2⟩|⟨g,cap,cur,q1,_,_,q4,_⟩
  ·omega
  ·cases p<;>simp at q1;omega
 have hr:=run_append_nothing (P:=P) w t t ty e ie hu vC (p.map fun L=>⟨L.b,L.pre.length,none⟩) m (c+rm p) hle _ nC
 refine CJ (Q:=Fa P Q K) (AR (v:=.slice (p.map fun L=>⟨L.b,L.pre.length,none⟩) m (c+rm p)) (w':=w) hw ?_ ?_)
 ·unfold execOp
  simp only [resolve,invoke,builtin,Sem.run_bind,Sem.run_pure,Result.andThen_ok,List.map_toArray,List.map_cons,List.map_nil,←jB,←jN,hr]
 ·exact hk (Sy.put A hd kZ)
theorem Sy.hide (A:Sy n T H ks G0 w0 G a w)(i:Nat):Sy n T (Br H i none) ks G0 w0 G a w:=by
 have hold:∀(j:Nat) (e:A6),(Br H i none)[j]?=some (some e)→H[j]?=some (some e):=by
  intro j e h
  rw [Ag]at h
  by_cases hj:j=i
  ·subst hj
   by_cases hl:j<H.length
   ·rw [List.getElem?_set_self hl]at h;cases h
   ·rw [List.getElem?_eq_none (by simp;omega)]at h;cases h
  ·rw [List.getElem?_set_ne (Ne.symm hj)]at h;exact h
 exact⟨A.size,A.defers,A.get,⟨by rw [Ag];simpa using A.mem.len,fun j e he=>A.mem.ent j e (hold j e he),fun j k e f L' M kQ g1 g2 g3 g4 g5 g6=>A.mem.sep j k e f L' M kQ (hold j e g1) (hold k f g2) g3 g4 g5 g6⟩,A.pre,fun j e L' g1 g2 g3=>A.own j e L' (hold j e g1) g2 g3,A.mix⟩
theorem Sy.layAt (A:Sy n T H ks G0 w0 G a w)(i:Nat){e s m c:Nat}{f:Nat→List SV}{H':Hp}(hi:lg H i=some (some (.row e s m c f)))(hH:Br H i none=H'):
  ∃ao cp,(den G (.sl i m c)=some (.slice ao m cp))∧Sy n T H' ks G0 w0 G a w∧AK ao s m f w (keys H' G)∧(∀q:Addr,ao=some q→ks.contains q.block=true∨w0.heap.size≤q.block):=by
 subst hH
 rw [Ah]at hi
 obtain⟨p,hp⟩:∃p,G[i]?=some p:=by
  have:i<G.length:=by rw [←A.mem.len];exact(List.getElem?_eq_some_iff.1 hi).1
  exact⟨G[i],by simp [this]⟩
 have jH:=A.mem.ent i _ hi
 have jC:=jH.1
 refine⟨p.map fun L=>⟨L.b,L.pre.length,none⟩,c+rm p,by unfold den;rw [hp],A.hide i,⟨fun k=>?_,?_⟩,fun q hq=>?_⟩
 ·obtain⟨vs,h,_⟩:=jC k;exact⟨vs,h⟩
 ·by_cases h0:m=0
  ·exact .inl h0
  ·right
   obtain⟨L,_,q1,_⟩:=Cw jH (k:=0) (by omega)
   rw [hp]at q1
   simp only [Option.getD_some]at q1
   subst q1
   have i7:L.b<w.heap.size:=by rw [hp]at jH;exact Ae.lt jH (fun h=>h)
   refine⟨L.b,L.pre.length,rfl,i7,?_,fun k hk=>?_⟩
   ·cases hq:(keys (Br H i none) G).contains L.b with
    |false=>rfl
    | true=>
     obtain⟨j,e',L',g1,g2,g3,g4⟩:=mem_keys.1 hq
     have jW:j≠i:=by
      intro e;subst e
      rw [Ag,List.getElem?_set_self (List.getElem?_eq_some_iff.1 hi).1]at g1;cases g1
     have g1':H[j]?=some (some e'):=by rw [Ag,List.getElem?_set_ne (Ne.symm jW)]at g1;exact g1
     exact absurd g4.symm (A.mem.sep i j _ e' L L' (Ne.symm jW) hi g1' rfl hp g3 (At g2))
   ·obtain⟨L',vs,r1,r2,_,r4⟩:=Cw jH hk
    rw [hp]at r1
    simp only [Option.getD_some,Option.some.injEq]at r1
    subst r1
    exact⟨vs,r2,r4⟩
 ·cases p with
  |none=>cases hq
  |some L=>cases hq;exact A.own i _ L hi rfl hp
theorem Sy.cellEq (A:Sy n T H ks G0 w0 G a w)(i:Nat){cs cs':List SV}{H':Hp}(hi:lg H i=some (some (.blk cs)))(hd:AE G cs'=AE G cs)(hH:Br H i (some (.blk cs'))=H'):Sy n T H' ks G0 w0 G a w:=by
 subst hH
 rw [Ah]at hi
 have kW:=(List.getElem?_eq_some_iff.1 hi).1
 have hold:∀(j:Nat) (e:A6),(Br H i (some (.blk cs')))[j]?=some (some e)→(j≠i∧H[j]?=some (some e))∨(j=i∧e=.blk cs'):=by
  intro j e h
  rw [Ag]at h
  by_cases hj:j=i
  ·subst hj;rw [List.getElem?_set_self kW]at h;cases h;exact .inr ⟨rfl,rfl⟩
  ·rw [List.getElem?_set_ne (Ne.symm hj)]at h;exact .inl ⟨hj,h⟩
 refine⟨A.size,A.defers,A.get,⟨by rw [Ag];simpa using A.mem.len,fun j e he=>?_,fun j k e f L M kQ g1 g2 g3 g4 g5 g6=>?_⟩,A.pre,fun j e L g1 g2 g3=>?_,A.mix⟩
 ·rcases hold j e he with⟨_,h⟩|⟨rfl,rfl⟩
  ·exact A.mem.ent j e h
  ·obtain⟨L,vs,h1,h2,h3⟩:=A.mem.ent j _ hi
   exact⟨L,vs,h1,by rw [hd];exact h2,h3⟩
 ·rcases hold j e g1 with⟨_,h1⟩|⟨rfl,rfl⟩
  ·rcases hold k f g2 with⟨_,h2⟩|⟨rfl,rfl⟩
   ·exact A.mem.sep j k e f L M kQ h1 h2 g3 g4 g5 g6
   ·exact A.mem.sep j k e _ L M kQ h1 hi g3 g4 g5 (fun h=>h)
  ·rcases hold k f g2 with⟨_,h2⟩|⟨rfl,rfl⟩
   ·exact A.mem.sep j k _ f L M kQ hi h2 rfl g4 g5 g6
   ·exact absurd rfl kQ
 ·rcases hold j e g1 with⟨_,h1⟩|⟨rfl,rfl⟩
  ·exact A.own j e L h1 g2 g3
  ·exact A.own j _ L hi rfl g3
theorem Sy.slotEq (A:Sy n T H ks G0 w0 G a w)(t:Nat){x y:SV}(hx:look T t=some x)(hd:den G y=den G x):Sy n ((t,y)::T) H ks G0 w0 G a w:=
 ⟨A.size,A.defers,fun q z hz=>by
  unfold look at hz
  cases hb:Nat.beq t q with
  |true=>rw [hb]at hz;cases hz;have:=Nat.eq_of_beq_eq_true hb;subst this;rw [hd];exact A.get t x hx
  |false=>rw [hb]at hz;exact A.get q z hz,A.mem,A.pre,A.own,A.mix⟩
theorem Sy.takeEnt (A:Sy n T H ks G0 w0 G a w){L:Loc}{en:A6}(nG:Ae G w (some L) en)(pI:en.mut=true)(hn:∀(i:Nat) (e:A6) (M:Loc),H[i]?=some (some e)→G[i]?=some (some M)→¬e.empty→M.b≠L.b)(ho:w0.heap.size≤L.b):
  Sy n T (H++[some en]) ks G0 w0 (G++[some L]) a w:=by
 have hlen:=A.mem.len
 have hold:∀(i:Nat) (x:A6),(H++[some en])[i]?=some (some x)→(H[i]?=some (some x)∧i<H.length)∨(i=H.length∧x=en):=by
  intro i x h
  by_cases hi:i<H.length
  ·rw [List.getElem?_append_left hi]at h;exact .inl ⟨h,hi⟩
  ·rw [List.getElem?_append_right (by omega)]at h
   have:i - H.length=0:=by
    cases hq:i - H.length with
    |zero=>rfl
    |succ k=>rw [hq]at h;simp at h
   rw [this]at h
   simp at h
   exact .inr ⟨by omega,h.symm⟩
 have hG:∀i,i<H.length→(G++[some L])[i]?=G[i]?:=fun i hi=>List.getElem?_append_left (by omega)
 have kA:(G++[some L])[H.length]?=some (some L):=by rw [List.getElem?_append_right (by omega),hlen];simp
 refine⟨A.size,A.defers,fun q x hx=>AP _ x (A.get q x hx),⟨by simp [hlen],?_,?_⟩,?_,?_,A.mix⟩
 ·intro i x h
  rcases hold i x h with⟨h1,h2⟩|⟨rfl,rfl⟩
  ·rw [hG i h2];exact(A.mem.ent i x h1).more _
  ·rw [kA];exact nG.more _
 ·intro i j x y M N jV h1 h2 h3 h4 h5 h6
  rcases hold i x h1 with⟨k1,k2⟩|⟨rfl,rfl⟩
  ·rw [hG i k2]at h4
   rcases hold j y h2 with⟨k3,k4⟩|⟨rfl,rfl⟩
   ·rw [hG j k4]at h5;exact A.mem.sep i j x y M N jV k1 k3 h3 h4 h5 h6
   ·rw [kA]at h5;cases h5;exact hn i x M k1 h4 (At h3)
  ·rw [kA]at h4;cases h4
   rcases hold j y h2 with⟨k3,k4⟩|⟨rfl,rfl⟩
   ·rw [hG j k4]at h5;exact fun z=>hn j y N k3 h5 h6 z.symm
   ·exact absurd rfl jV
 ·obtain⟨F,hF⟩:=A.pre;exact⟨F++[some L],by rw [hF,List.append_assoc]⟩
 ·intro i x M h1 h2 h3
  rcases hold i x h1 with⟨k1,k2⟩|⟨rfl,rfl⟩
  ·rw [hG i k2]at h3;exact A.own i x M k1 h2 h3
  ·rw [kA]at h3;cases h3;exact .inr ho
theorem J5 {x:Operand}{ty i q s m k:Nat}{cs r:List SV}(hX:Y.ok P=true)(jG:o.op=.load ty x)(hg:iY ops T o.guard=some .run)(hx:jR T x=some (.ix (.ptr i q) s m (k:Int) 0))(hH:lg H i=some (some (.blk cs)))(hc:CZ ⟨Y,true⟩ ty cs (q+k*s)=some (.agg r)):
  Aw P n ops ks G0 w0 T H o (.agg r) H:=fun G a w A=>by
 have hw:=An (gd:=none) A hg
 obtain⟨d,op,ty',pos,af,gd⟩:=o
 simp only at jG
 subst jG
 have jB:=A.ev hx
 rw [B8 (q:=q+k*s) k (by omega)]at jB
 have hs:Do ⟨Y,true⟩ H ty (.ptr i (q+k*s))=some (.agg r,[]):=by
  simp only [Do,FH,hH,Jb,hc]
 obtain⟨z,hz,h3⟩:=EP (X:=⟨Y,true⟩) (P:=P) (ops:=ops) (d:=d) (ty:=ty') (pos:=pos) (af:=af) (gd:=gd) (x:=x) hX A hs jB
 exact h3 (fun p hp=>by cases hp) rfl hw _ ⟨[],by simpa using hz,by simpa using A.ms⟩
theorem VB {x y:Operand}{t rt i q:Nat}{en:A6}(jG:o.op=.binOp .eql t x y rt)(hg:iY ops T o.guard=some .run)(hx:jR T x=some (.ptr i q))(hy:jR T y=some (.v (.pointer none)))(hi:lg H i=some (some en))(ht:P.underlying t=some (.pointer (P.pointee t))):Aw P n ops ks G0 w0 T H o .ff H:=fun G a w A=>by
 have hw:=An (gd:=none) A hg
 obtain⟨d,op,ty,pos,af,gd⟩:=o
 simp only at jG
 subst jG
 have jB:=A.ev hx
 have jN:=A.ev hy
 unfold den at jB jN
 split at jB
 ·next L hL=>
  simp only [Option.some.injEq]at jB jN
  exact Jr hw jB.symm jN.symm ⟨by simp [eqGuard],run_eql_pointer_nil w t _ ht⟩ ⟨[],rfl,by simpa using A.ms⟩
 ·cases jB
theorem ZS {x:Operand}{i s m e c q:Nat}{j:Int}{f:Nat→List SV}(jG:o.op=.nilCheck x)(hg:iY ops T o.guard=some .run)(hx:jR T x=some (.el i s j q))(hi:lg H i=some (some (.row e s m c f)))(hj:j.toNat<m):Aw P n ops ks G0 w0 T H o (.el i s j q) H:=fun G a w A=>by
 have hw:=An (gd:=none) A hg
 obtain⟨d,op,ty,pos,af,gd⟩:=o
 simp only at jG
 subst jG
 have jB:=A.ev hx
 rw [Ah]at hi
 obtain⟨L,vs,q1,_⟩:=Cw (A.mem.ent i _ hi) hj
 have hp:G[i]?=some (some L):=by
  cases hq:G[i]? with
  |none=>rw [hq]at q1;cases q1
  |some p=>rw [hq]at q1;simp only [Option.getD_some]at q1;rw [q1]
 have kZ:den G (.el i s j q)=some (.pointer (some ⟨L.b,L.pre.length+j.toNat*s+q,none⟩)):=by unfold den;rw [hp];rfl
 rw [kZ]at jB
 exact Ef hw (by rw [←Option.some.inj jB]) ⟨[],by simpa using kZ,by simpa using A.ms⟩
theorem Sy.nilPlace (A:Sy n T H ks G0 w0 G a w)(e s:Nat)(f:Nat→List SV)(jC:∀k,∃vs,AE [] (f k)=some vs∧vs.length=s):Sy n T (H++[some (.row e s 0 0 f)]) ks G0 w0 (G++[none]) a w:=by
 have hlen:=A.mem.len
 have hold:∀(j:Nat) (x:A6),(H++[some (.row e s 0 0 f)])[j]?=some (some x)→(H[j]?=some (some x)∧j<H.length)∨(j=H.length∧x=.row e s 0 0 f):=by
  intro j x h
  by_cases hj:j<H.length
  ·rw [List.getElem?_append_left hj]at h;exact .inl ⟨h,hj⟩
  ·rw [List.getElem?_append_right (by omega)]at h
   have:j - H.length=0:=by
    cases hq:j - H.length with
    |zero=>rfl
    |succ k=>rw [hq]at h;simp at h
   rw [this]at h
   simp at h
   exact .inr ⟨by omega,h.symm⟩
 have hG:∀j,j<H.length→(G++[(none:Option Loc)])[j]?=G[j]?:=fun j hj=>List.getElem?_append_left (by omega)
 have kA:(G++[(none:Option Loc)])[H.length]?=some none:=by rw [List.getElem?_append_right (by omega),hlen];simp
 have A1:Sy n T (H++[some (.row e s 0 0 f)]) ks G0 w0 (G++[none]) a w:=by
  refine⟨A.size,A.defers,fun t x hx=>AP _ x (A.get t x hx),⟨by simp [hlen],?_,?_⟩,?_,?_,A.mix⟩
  ·intro j x h
   rcases hold j x h with⟨h2,h3⟩|⟨rfl,rfl⟩
   ·rw [hG j h3];exact(A.mem.ent j x h2).more _
   ·rw [kA];exact⟨jC,fun L h=>(by cases h),[],rfl,by simp,.inl ⟨rfl,rfl⟩⟩
  ·intro j k x y L M kQ h1 h2 h3 h4 h5 h6
   rcases hold j x h1 with⟨a2,a3⟩|⟨rfl,rfl⟩
   ·rw [hG j a3]at h4
    rcases hold k y h2 with⟨b2,b3⟩|⟨rfl,rfl⟩
    ·rw [hG k b3]at h5;exact A.mem.sep j k x y L M kQ a2 b2 h3 h4 h5 h6
    ·rw [kA]at h5;cases h5
   ·rw [kA]at h4;cases h4
  ·obtain⟨F,hF⟩:=A.pre;exact⟨F++[none],by rw [hF,List.append_assoc]⟩
  ·intro j x L h1 h2 h3
   rcases hold j x h1 with⟨a2,a3⟩|⟨rfl,rfl⟩
   ·rw [hG j a3]at h3;exact A.own j x L a2 h2 h3
   ·rw [kA]at h3;cases h3
 exact A1
theorem Sy.nilCel1 (A:Sy n T H ks G0 w0 G a w)(i e s:Nat)(f:Nat→List SV){H':Hp}(hi:lg H i=some (some (.blk [.sla none 0 0])))(jC:∀k,∃vs,AE [] (f k)=some vs∧vs.length=s)(hH:Br (H++[some (.row e s 0 0 f)]) i (some (.blk [.sl H.length 0 0]))=H'):∃G',Sy n T H' ks G0 w0 G' a w:=by
 have B:=A.nilPlace e s f jC
 rw [Ah]at hi
 refine⟨_,B.cellEq i (cs:=[.sla none 0 0]) (by rw [Ah,List.getElem?_append_left (List.getElem?_eq_some_iff.1 hi).1];exact hi) ?_ hH⟩
 have:den (G++[none]) (.sl H.length 0 0)=some (.slice none 0 0):=by
  unfold den
  rw [List.getElem?_append_right (by rw [A.mem.len];exact Nat.le_refl _),A.mem.len]
  simp [rm]
 unfold AE
 rw [this]
 rfl
theorem Sy.layCell (A:Sy n T H ks G0 w0 G a w)(i j:Nat){e s m c:Nat}{f:Nat→List SV}{cs:List SV}{H':Option Addr→Nat→Hp}(hi:lg H i=some (some (.row e s m c f)))(hj:lg H j=some (some (.blk (.sl i m c::cs))))(jV:Nat.beq i j=false)(hH:∀ao cp,Br (Br H i none) j (some (.blk (.sla ao m cp::cs)))=H' ao cp):
  ∃ao cp,Sy n T (H' ao cp) ks G0 w0 G a w∧AK ao s m f w (keys (H' ao cp) G)∧(∀q:Addr,ao=some q→ks.contains q.block=true∨w0.heap.size≤q.block):=by
 obtain⟨ao,cp,hd,A1,hl,l9⟩:=A.layAt i hi rfl
 have jF:i≠j:=fun e=>by subst e;rw [Nat.beq_refl]at jV;cases jV
 have l6:lg (Br H i none) j=some (some (.blk (.sl i m c::cs))):=by
  rw [Ah]at hj⊢
  rw [Ag,List.getElem?_set_ne jF];exact hj
 have A2:=A1.cellEq j (cs':=.sla ao m cp::cs) l6 (by
  unfold AE
  rw [hd]
  rfl) (hH ao cp)
 refine⟨ao,cp,A2,AK.ok w _ w _ hl (CR.refl _ _) (fun b hb=>.inl ?_),l9⟩
 obtain⟨k,en,L,g1,g2,g3,g4⟩:=mem_keys.1 hb
 rw [←hH ao cp,Ag]at g1
 by_cases hk:k=j
 ·subst hk
  rw [Ah]at l6
  exact mem_keys.2 ⟨k,_,L,l6,rfl,g3,g4⟩
 ·rw [List.getElem?_set_ne (Ne.symm hk)]at g1
  exact mem_keys.2 ⟨k,en,L,g1,g2,g3,g4⟩
theorem dR (i e s:Nat)(f:Nat→List SV){H':Hp}(A:Sy n T H ks G0 w0 G a w)(hi:lg H i=some (some (.blk [.sla none 0 0])))(jC:∀k,∃vs,AE [] (f k)=some vs∧vs.length=s)(hH:Br (H++[some (.row e s 0 0 f)]) i (some (.blk [.sl H.length 0 0]))=H')(k:∀{G},Sy n T H' ks G0 w0 G a w→Goal P Q K pos a w):Goal P Q K pos a w:=by
 obtain⟨G',h⟩:=A.nilCel1 i e s f hi jC hH
 exact k h
theorem dT (i j:Nat) {e s m c:Nat} {f:Nat→List SV} {cs:List SV} (H':Option Addr→Nat→Hp) (A:Sy n T H ks G0 w0 G a w) (hi:lg H i=some (some (.row e s m c f))) (hj:lg H j=some (some (.blk (.sl i m c::cs)))) (jV:Nat.beq i j=false) (hH:∀ao cp,Br (Br H i none) j (some (.blk (.sla ao m cp::cs)))=H' ao cp)
  (k:∀ao cp,Sy n T (H' ao cp) ks G0 w0 G a w→AK ao s m f w (keys (H' ao cp) G)→(∀q:Addr,ao=some q→ks.contains q.block=true∨w0.heap.size≤q.block)→Goal P Q K pos a w):Goal P Q K pos a w:=by
 obtain⟨ao,cp,h1,h2,h3⟩:=A.layCell i j hi hj jV hH
 exact k ao cp h1 h2 h3
structure PE (e s m:Nat)(f:Nat→List SV)(L:Loc)(bt cp N:Nat)(w:World):Prop where
 blk:DR w L.b (L.pre++[Value.slice (some ⟨bt,0,none⟩) m cp]++L.post).toArray L.t
 row:Bm e s m f bt cp w
 ne:L.b≠bt
 lo:N≤L.b
 lt:N≤bt
theorem Sy.giveCore (A:Sy n T H [] G0 w0 G a w)(i q t:Nat){e s m c:Nat}{f:Nat→List SV}(hm:0<m)(hi:lg H i=some (some (.blk [.sl q m c])))(hq:lg H q=some (some (.row e s m c f)))(nW:Nat.beq i q=false)(ht:look T t=some (.ptr i 0)):
  ∃L bt cp,Sy n ((t,E3 L.b L.pre.length)::T) H [] G0 w0 G a w∧PE e s m f L bt cp w0.heap.size w∧(keys H G).contains L.b=true∧(keys H G).contains bt=true:=by
 have jF:i≠q:=fun e=>by subst e;rw [Nat.beq_refl]at nW;cases nW
 rw [Ah]at hi hq
 obtain⟨L,vs,p1,p2,p3⟩:=A.mem.ent i _ hi
 have j0:G[i]?=some (some L):=by
  cases hz:G[i]? with
  |none=>rw [hz]at p1;cases p1
  |some p=>rw [hz]at p1;simp only [Option.getD_some]at p1;rw [p1]
 obtain⟨h1,h2,xs,h3,h4⟩:=A.mem.ent q _ hq
 obtain⟨M,_,q1,_⟩:=Cw (A.mem.ent q _ hq) (k:=0) hm
 have mC:G[q]?=some (some M):=by
  cases hz:G[q]? with
  |none=>rw [hz]at q1;cases q1
  |some p=>rw [hz]at q1;simp only [Option.getD_some]at q1;rw [q1]
 rw [mC]at h2 h4
 have jT:M.pre=[]:=h2 M rfl
 have qC:w.ownsRow 0 e s (.slice (some ⟨M.b,0,none⟩) m (c+rm (some M))) m xs:=by
  have:(Option.map (fun L:Loc=>(⟨L.b,L.pre.length,none⟩:Addr)) (some M))=some ⟨M.b,0,none⟩:=by simp [jT]
  rw [←this];exact h4
 have oP:vs=[.slice (some ⟨M.b,0,none⟩) m (c+rm (some M))]:=by
  have:AE G [.sl q m c]=some [.slice (some ⟨M.b,0,none⟩) m (c+rm (some M))]:=by
   unfold AE den
   rw [mC]
   simp [jT,AE]
  rw [this]at p2;exact(Option.some.inj p2).symm
 subst oP
 have own:∀{k:Nat} {en:A6} {L:Loc},H[k]?=some (some en)→en.mut=true→G[k]?=some (some L)→w0.heap.size≤L.b:=fun h1 h2 h3=>(A.own _ _ _ h1 h2 h3).elim (fun h=>by cases h) id
 refine⟨L,M.b,c+rm (some M),A.slotEq t ht (by unfold den;rw [j0];rfl),⟨p3,⟨h1,xs,h3,qC⟩,A.mem.sep i q _ _ L M jF hi hq rfl j0 mC (fun h=>h),own hi rfl j0,own hq rfl mC⟩,mem_keys.2 ⟨i,_,L,hi,rfl,j0,rfl⟩,mem_keys.2 ⟨q,_,M,hq,rfl,mC,rfl⟩⟩
theorem Sy.takeCore (A:Sy n T H ks G0 w0 G a w)(t:Nat){e s m bt cp N:Nat}{f:Nat→List SV}{L:Loc}{H':Hp}(ho:PE e s m f L bt cp N w)(hN:w0.heap.size≤N)(hold:∀(i:Nat) (e:A6) (M:Loc),H[i]?=some (some e)→G[i]?=some (some M)→¬e.empty→M.b<N)(ht:look T t=some (E3 L.b L.pre.length))(hH:H++[some (.row e s m 0 f)]++[some (.blk [.sl H.length m 0])]=H'):
  ∃G',Sy n ((t,.ptr (H.length+1) 0)::T) H' ks G0 w0 G' a w∧∀b,(keys H' G').contains b=true→b<N∨b=L.b∨b=bt:=by
 subst hH
 have hlen:=A.mem.len
 obtain⟨p1,xs,p2,p3⟩:=ho.row
 have A1:=A.takeEnt (L:=⟨bt,[],List.replicate cp undef,e⟩) (en:=.row e s m 0 f) ⟨p1,fun L hL=>by cases hL;rfl,xs,p2,by simpa [rm]using p3⟩ rfl (fun i e M h1 h2 h3=>by have:=hold i e M h1 h2 h3;have:=ho.lt;show M.b≠bt;omega) (Nat.le_trans hN ho.lt)
 have nO:(G++[some (⟨bt,[],List.replicate cp undef,e⟩:Loc)])[H.length]?=some (some ⟨bt,[],List.replicate cp undef,e⟩):=by rw [List.getElem?_append_right (by omega),hlen];simp
 have hd:AE (G++[some (⟨bt,[],List.replicate cp undef,e⟩:Loc)]) [.sl H.length m 0]=some [.slice (some ⟨bt,0,none⟩) m cp]:=by
  unfold AE den
  rw [nO]
  simp [rm,AE]
 have A2:=A1.takeEnt (L:=L) (en:=.blk [.sl H.length m 0]) ⟨L,_,rfl,hd,ho.blk⟩ rfl (fun i e' M h1 h2 h3=>by
  by_cases hi:i<H.length
  ·rw [List.getElem?_append_left hi]at h1
   rw [List.getElem?_append_left (by omega)]at h2
   have:=hold i e' M h1 h2 h3;have:=ho.lo;omega
  ·have mB:i=H.length:=by
    have:=(List.getElem?_eq_some_iff.1 h1).1
    simp at this;omega
   subst mB
   rw [nO]at h2
   cases h2
   exact fun z=>ho.ne z.symm) (Nat.le_trans hN ho.lo)
 refine⟨_,A2.slotEq t ht ?_,fun b hb=>?_⟩
 ·unfold den
  rw [List.getElem?_append_right (by simp;omega)]
  simp [hlen]
 ·obtain⟨i,en,M,g1,g2,g3,g4⟩:=mem_keys.1 hb
  by_cases hi:i<H.length
  ·rw [List.append_assoc,List.getElem?_append_left hi]at g1
   rw [List.append_assoc,List.getElem?_append_left (by omega)]at g3
   exact .inl (by rw [←g4];exact hold i en M g1 g3 (At g2))
  ·by_cases mB:i=H.length
   ·subst mB
    rw [List.getElem?_append_left (by simp;omega),nO]at g3
    cases g3
    exact .inr (.inr g4.symm)
   ·have pB:i=H.length+1:=by
     have:=(List.getElem?_eq_some_iff.1 g1).1
     simp at this;omega
    subst pB
    rw [List.getElem?_append_right (by simp;omega)]at g3
    simp [hlen]at g3
    subst g3
    exact .inr (.inl g4.symm)
end
end Go.Proofs.YtbbdanhpphlbpaaGreatDoor
namespace Go.Proofs.YtbbdanhpphlbpaaGreatDoor.Mc
open Go.RowKit
set_option simprocs false
def Th.z:Th:=⟨0,fun _=>0⟩
abbrev GJ (c:AD)(s:Th):List SV:=VA (.sla c.ao c.l.length c.cp) ((s.at_:Nat):Int) s.r
structure Ai (cs:List AD)(ts:List Th)(nn:Nat):Prop where
 n:ts.length=cs.length
 m:cs.length=nn
 r:∀k,k<cs.length→E6 (cs.getD k AD.z).l
 a:∀k,k<cs.length→(ts.getD k Th.z).at_≤(cs.getD k AD.z).l.length
def CC (cs:List AD)(ts:List Th)(j old:Int):List Th:=ts.set j.toNat (Qu (cs.getD j.toNat AD.z).l (ts.getD j.toNat Th.z) old)
theorem PF {cs:List AD}{ts:List Th}{j old:Int}:(CC cs ts j old).length=ts.length:=by unfold CC;simp
theorem I6 {α:Type}{l:List α}{k:Nat}{x d:α}(h:k<l.length):(l.set k x).getD k d=x:=by simp [List.getD,h]
theorem Qz {α:Type}{l:List α}{j k:Nat}{x d:α}(h:j≠k):(l.set k x).getD j d=l.getD j d:=by simp [List.getD,List.getElem?_set_ne (Ne.symm h)]
theorem Ai.set {cs:List AD}{ts:List Th}{nn:Nat}(h:Ai cs ts nn){j:Int}(hj:0≤j∧j<((nn:Nat):Int))(old:Int):Ai cs (CC cs ts j old) nn:=by
 have hn:=h.n
 have hm:=h.m
 refine⟨by rw [PF];exact h.n,h.m,h.r,fun k hk=>?_⟩
 unfold CC
 by_cases e:k=j.toNat
 ·subst e;rw [I6 (by omega)];exact Wi (h.r _ hk) (h.a _ hk) old
 ·rw [Qz e];exact h.a k hk
abbrev _root_.Go.Proofs.YtbbdanhpphlbpaaGreatDoor.AZ (cs:List AD)(ts:List Th)(nn:Nat):A6:=.row 125 10 nn 0 (fun zz=>GJ (cs.getD zz AD.z) (ts.getD zz Th.z))
theorem Wl (cs:List AD)(ts:List Th)(nn:Nat)(hC:Ai cs ts nn)(j:Int)(hj:0≤j∧j<((nn:Nat):Int)):Bi (AH cs) Tryz.prog 131 [.el 0 10 j 0] [some (AZ cs ts nn)] (Rt (.tup [.agg [.int .i64 (OI ((cs.getD ((j).toNat) AD.z).l.getD ((((ts.getD ((j).toNat) Th.z).at_:Nat):Int)).toNat In.z)),.int .i64 (OJ (ts.getD ((j).toNat) Th.z).r ((cs.getD ((j).toNat) AD.z).l.getD ((((ts.getD ((j).toNat) Th.z).at_:Nat):Int)).toNat In.z))],.int .i64 (FO (ts.getD ((j).toNat) Th.z).r ((cs.getD ((j).toNat) AD.z).l.getD ((((ts.getD ((j).toNat) Th.z).at_:Nat):Int)).toNat In.z)),.bool (CE ((cs.getD ((j).toNat) AD.z).l.getD ((((ts.getD ((j).toNat) Th.z).at_:Nat):Int)).toNat In.z))]) [some (AZ cs ts nn)]):=by
 have hn:=hC.n
 have hm:=hC.m
 have hk:(j).toNat<ts.length:=by omega
 exact Bi.mono (M2 (F:=fun zz=>GJ (cs.getD zz AD.z) (ts.getD zz Th.z)) (F':=fun zz=>GJ (cs.getD zz AD.z) (ts.getD zz Th.z)) (j).toNat rfl (by omega) (ZQ (cs.getD ((j).toNat) AD.z).l (cs.getD ((j).toNat) AD.z).ao (cs.getD ((j).toNat) AD.z).cp (ts.getD ((j).toNat) Th.z) (hC.r _ (by omega)) (hC.a _ (by omega))) rfl rfl (fun q hq=>rfl) ⟨_,rfl,rfl⟩) (fun w ks h=>h.at (by omega))
theorem Wm (cs:List AD)(ts:List Th)(nn:Nat)(hC:Ai cs ts nn)(j old:Int)(hj:0≤j∧j<((nn:Nat):Int)):Bi (AH cs) Tryz.prog 91 [.el 0 10 j 0,.int .i64 old] [some (AZ cs ts nn)] (Rt (.bool (!((((ts.getD ((j).toNat) Th.z).at_:Nat):Int)==(((cs.getD ((j).toNat) AD.z).l.length:Nat):Int)))) [some (AZ cs (CC cs ts j old) nn)]):=by
 have hn:=hC.n
 have hm:=hC.m
 have hk:(j).toNat<ts.length:=by omega
 exact Bi.mono (M2 (F:=fun zz=>GJ (cs.getD zz AD.z) (ts.getD zz Th.z)) (F':=fun zz=>GJ (cs.getD zz AD.z) ((CC cs ts j old).getD zz Th.z)) (j).toNat rfl (by omega) (by
   have e:GJ (cs.getD ((j).toNat) AD.z) ((CC cs ts j old).getD (j).toNat Th.z)=GJ (cs.getD ((j).toNat) AD.z) (Qu (cs.getD ((j).toNat) AD.z).l (ts.getD ((j).toNat) Th.z) old):=by unfold CC;rw [I6 hk]
   show Bi _ _ _ _ _ (Rt _ [some (.blk (GJ (cs.getD ((j).toNat) AD.z) ((CC cs ts j old).getD (j).toNat Th.z)))])
   rw [e]
   exact ZR (cs.getD ((j).toNat) AD.z).l (cs.getD ((j).toNat) AD.z).ao (cs.getD ((j).toNat) AD.z).cp (ts.getD ((j).toNat) Th.z) old (hC.r _ (by omega)) (hC.a _ (by omega))) rfl rfl (fun q hq=>by show GJ _ _=GJ _ _;unfold CC;rw [Qz hq]) ⟨_,rfl,rfl⟩) (fun w ks h=>h.at (by omega))
theorem Tj (cs:List AD)(ts:List Th)(nn:Nat)(hC:Ai cs ts nn)(j:Int)(hj:0≤j∧j<((nn:Nat):Int)):Bi (AH cs) Tryz.prog 104 [.el 0 10 j 0] [some (AZ cs ts nn)] (Rt (.tup [.agg (AS ((cs.getD ((j).toNat) AD.z).l.getD ((((ts.getD ((j).toNat) Th.z).at_:Nat):Int)).toNat In.z)),.bool (!((((ts.getD ((j).toNat) Th.z).at_:Nat):Int)==(((cs.getD ((j).toNat) AD.z).l.length:Nat):Int)))]) [some (AZ cs ts nn)]):=by
 have hn:=hC.n
 have hm:=hC.m
 have hk:(j).toNat<ts.length:=by omega
 exact Bi.mono (M2 (F:=fun zz=>GJ (cs.getD zz AD.z) (ts.getD zz Th.z)) (F':=fun zz=>GJ (cs.getD zz AD.z) (ts.getD zz Th.z)) (j).toNat rfl (by omega) (I5 (cs.getD ((j).toNat) AD.z).l (cs.getD ((j).toNat) AD.z).ao (cs.getD ((j).toNat) AD.z).cp (((ts.getD ((j).toNat) Th.z).at_:Nat):Int) (ts.getD ((j).toNat) Th.z).r (by have:=hC.a (j).toNat (by omega);omega)) rfl rfl (fun q hq=>rfl) ⟨_,rfl,rfl⟩) (fun w ks h=>h.at (by omega))
theorem VC {P:Program}{f:Nat}{args:List SV}{H H2:Hp}{x y:SV}(h:Fn P f args H (Rt x H2))(e:∀{G},den G x=den G y):Fn P f args H (Rt y H2):=⟨h.1,fun G w vs hM hv=>Calls.mono (h.2 G w vs hM hv) fun e' w' ⟨x',H',F,v,⟨q1,q2⟩,r⟩=>by subst q1;subst q2;exact⟨y,_,F,v,⟨rfl,rfl⟩,by rw [←e];exact r.1,r.2⟩⟩
theorem Q0 (cs:List AD)(ts:List Th)(nn:Nat)(th:Int)(jU:0≤th∧th<((nn:Nat):Int)):Fn Tryz.prog 79 [.ptr 0 0,.int .i64 th] [some (.blk [.sl 1 nn 0]),some (AZ cs ts nn)] (Rt (.el 1 10 th 0) [some (.blk [.sl 1 nn 0]),some (AZ cs ts nn)]):=
 AG (n:=24) (by kernel_rfl) Tryz.func79 rfl rfl rfl fun G w a h0 A=>N9 21 A rfl rfl fun A=>fork 15 A rfl
  (fun h1 A=>absurd h1 (by simp;omega))
  (fun h1 A=>N9 15 A rfl (iU (by omega)<|iT) fun A=>R9 A rfl h0 rfl rfl rfl)
theorem VD (cs:List AD)(ts:List Th)(nn:Nat)(th:Int)(jU:0≤th∧th<((nn:Nat):Int)):Fn Tryz.prog 45 [.ptr 0 0,.int .i64 th] [some (.blk [.sl 1 nn 0]),some (AZ cs ts nn)] (Rt (.int .i64 (((ts.getD ((th).toNat) Th.z).at_:Nat):Int)) [some (.blk [.sl 1 nn 0]),some (AZ cs ts nn)]):=
 AG (n:=11) (by kernel_rfl) Tryz.func45 rfl rfl rfl fun G w a h0 A=>N9 9 A rfl rfl fun A=>C9 [0,1] (Q0 cs ts nn th jU) A rfl fun A=>AW A rfl (ZS rfl rfl rfl rfl (by omega)) fun A=>N9 6 A rfl (iU (by omega)<|iU (by omega)<|iT) fun A=>R9 A rfl h0 rfl rfl rfl
theorem OM (cs:List AD)(ts:List Th)(nn:Nat)(th:Int)(hC:Ai cs ts nn)(jU:0≤th∧th<((nn:Nat):Int)):Bi (AH cs) Tryz.prog 92 [.ptr 0 0,.int .i64 th] [some (.blk [.sl 1 nn 0]),some (AZ cs ts nn)] (Rt (.tup [.agg [.int .i64 (OI ((cs.getD ((th).toNat) AD.z).l.getD ((((ts.getD ((th).toNat) Th.z).at_:Nat):Int)).toNat In.z)),.int .i64 (OJ (ts.getD ((th).toNat) Th.z).r ((cs.getD ((th).toNat) AD.z).l.getD ((((ts.getD ((th).toNat) Th.z).at_:Nat):Int)).toNat In.z))],.int .i64 (FO (ts.getD ((th).toNat) Th.z).r ((cs.getD ((th).toNat) AD.z).l.getD ((((ts.getD ((th).toNat) Th.z).at_:Nat):Int)).toNat In.z)),.bool (CE ((cs.getD ((th).toNat) AD.z).l.getD ((((ts.getD ((th).toNat) Th.z).at_:Nat):Int)).toNat In.z))]) [some (.blk [.sl 1 nn 0]),some (AZ cs ts nn)]):=
 Ab (n:=14) (by kernel_rfl) Tryz.func92 rfl rfl rfl fun G w a h0 hI A=>N9 11 A rfl rfl fun A=>C9 [0,1] (Q0 cs ts nn th jU) A rfl fun A=>I9 [1] AH.ok hI (Wl cs ts nn hC th jU) A rfl fun A=>N9 9 A rfl rfl fun A=>R9 A rfl h0 rfl rfl rfl
theorem Tl (cs:List AD)(ts:List Th)(nn:Nat)(th old:Int)(hC:Ai cs ts nn)(jU:0≤th∧th<((nn:Nat):Int)):Bi (AH cs) Tryz.prog 58 [.ptr 0 0,.int .i64 th,.int .i64 old] [some (.blk [.sl 1 nn 0]),some (AZ cs ts nn)] (Rt (.bool (!((((ts.getD ((th).toNat) Th.z).at_:Nat):Int)==(((cs.getD ((th).toNat) AD.z).l.length:Nat):Int)))) [some (.blk [.sl 1 nn 0]),some (AZ cs (CC cs ts th old) nn)]):=
 Ab (n:=12) (by kernel_rfl) Tryz.func58 rfl rfl rfl fun G w a h0 hI A=>N9 9 A rfl rfl fun A=>C9 [0,1] (Q0 cs ts nn th jU) A rfl fun A=>N9 1 A rfl rfl fun A=>I9 [1] AH.ok hI (Wm cs ts nn hC th old jU) A rfl fun A=>N9 4 A rfl rfl fun A=>R9 A rfl h0 rfl rfl rfl
theorem J6 (cs:List AD)(ts:List Th)(nn:Nat):Fn Tryz.prog 68 [.ptr 0 0] [some (.blk [.sl 1 nn 0]),some (AZ cs ts nn)] (Rt (.int .i64 ((nn:Nat):Int)) [some (.blk [.sl 1 nn 0]),some (AZ cs ts nn)]):=
 AG (n:=8) (by kernel_rfl) Tryz.func68 rfl rfl rfl fun G w a h0 A=>N9 16 A rfl rfl fun A=>R9 A rfl h0 rfl rfl rfl
theorem I7 (cs:List AD)(ts:List Th)(nn:Nat)(th:Int)(hC:Ai cs ts nn)(jU:0≤th∧th<((nn:Nat):Int)):Bi (AH cs) Tryz.prog 69 [.ptr 0 0,.int .i64 th] [some (.blk [.sl 1 nn 0]),some (AZ cs ts nn)] (Rt (.tup [.agg (AS ((cs.getD ((th).toNat) AD.z).l.getD ((((ts.getD ((th).toNat) Th.z).at_:Nat):Int)).toNat In.z)),.bool (!((((ts.getD ((th).toNat) Th.z).at_:Nat):Int)==(((cs.getD ((th).toNat) AD.z).l.length:Nat):Int)))]) [some (.blk [.sl 1 nn 0]),some (AZ cs ts nn)]):=
 Ab (n:=12) (by kernel_rfl) Tryz.func69 rfl rfl rfl fun G w a h0 hI A=>N9 10 A rfl rfl fun A=>C9 [0,1] (Q0 cs ts nn th jU) A rfl fun A=>I9 [1] AH.ok hI (Tj cs ts nn hC th jU) A rfl fun A=>N9 7 A rfl rfl fun A=>R9 A rfl h0 rfl rfl rfl
end Go.Proofs.YtbbdanhpphlbpaaGreatDoor.Mc
namespace Go.Proofs.YtbbdanhpphlbpaaGreatDoor.Mc
open Go.RowKit
set_option simprocs false
theorem Hc (o1 s1:Int):Fn Tryz.prog 171 [.int .i64 o1,.int .i64 s1] [] (Rt (.bool (((((((s1==1)||(s1==2))||(s1==4))||(s1==8))&&(decide (o1≥0)))&&(decide (o1≤(IntKind.wrap .i64 (8 - s1)))))&&((Int.tmod o1 s1)==0))) []):=
 AG (n:=23) (by kernel_rfl) Tryz.func171 rfl rfl rfl fun G w a h0 A=>M hX 8 A rfl rfl fun A=>C9 [] (Kl s1) A rfl fun A=>M hX 20 A rfl (BX<|BX<|BX<|BX<|BX<|BX<|BX<|BX<|HW (fun hg=>(by first|omega|(simp at hg;omega)))<|BX<|BX<|iT) fun A=>R9 A rfl h0 rfl rfl rfl
theorem Q3 (a1 b1 m1:Int):Fn Tryz.prog 178 [.int .i64 a1,.int .i64 b1,.int .i64 m1] [] (Rt (.int .i64 (IntKind.wrap .i64 ((((BitVec.ofInt (IntKind.bits .i64) (IntKind.wrap .i64 ((((BitVec.ofInt (IntKind.bits .i64) a1)&&& ~~~ (BitVec.ofInt (IntKind.bits .i64) m1)).toNat:Nat):Int)))|||(BitVec.ofInt (IntKind.bits .i64) (IntKind.wrap .i64 ((((BitVec.ofInt (IntKind.bits .i64) b1)&&&(BitVec.ofInt (IntKind.bits .i64) m1)).toNat:Nat):Int)))).toNat:Nat):Int))) []):=
 AG (n:=14) (by kernel_rfl) Tryz.func178 rfl rfl rfl fun G w a h0 A=>M hX 18 A rfl rfl fun A=>R9 A rfl h0 rfl rfl rfl
def Ak (v1 o1 s1:Int):Int:=if(!(((((((s1==1)||(s1==2))||(s1==4))||(s1==8))&&(decide (o1≥0)))&&(decide (o1≤(IntKind.wrap .i64 (8 - s1)))))&&((Int.tmod o1 s1)==0)))=true then 0 else IntKind.wrap .i64 ((((BitVec.ofInt (IntKind.bits .i64) (Int.fdiv v1 (2^min ((IntKind.wrap .i64 (8*o1))).toNat (IntKind.bits .i64))))&&&(BitVec.ofInt (IntKind.bits .i64) (IntKind.wrap .i64 ((IntKind.wrap .i64 (1*2^min ((IntKind.wrap .i64 (8*s1))).toNat (IntKind.bits .i64))) - 1)))).toNat:Nat):Int)
theorem Wn (v1 o1 s1:Int)(hs:s1=1∨s1=2∨s1=4∨s1=8)(ho:0≤o1∧o1≤7):Fn Tryz.prog 130 [.int .i64 v1,.int .i64 o1,.int .i64 s1] [] (Rt (.int .i64 (Ak v1 o1 s1)) []):=
 AG (n:=18) (by kernel_rfl) Tryz.func130 rfl rfl rfl fun G w a h0 A=>M hX 10 A rfl rfl fun A=>C9 [] (Hc o1 s1) A rfl fun A=>M hX 3 A rfl rfl fun A=>fork 10 A rfl
  (fun h1 A=>M hX 7 A rfl rfl fun A=>R9 A rfl h0 rfl (by simp only [AX,nb,BY,BR,Ak,if_pos h1]) rfl)
  (fun h1 A=>M hX 4 A rfl rfl fun A=>WO hX BK [(5,.int .i64 (IntKind.wrap .i64 ((IntKind.wrap .i64 (1*2^min ((IntKind.wrap .i64 (8*s1))).toNat (IntKind.bits .i64))) - 1)))] [] A rfl (iU (by rw [GU (by omega)];omega)<|iT) rfl rfl (by kernel_rfl) (AV _ _) ⟨.inl ⟨_,_,rfl,rfl,Qr s1 hs⟩,trivial⟩ fun A=>M hX 2 A rfl rfl fun A=>R9 A rfl h0 rfl (by simp only [AX,nb,BY,BR,Ak,if_neg (ne_true_of_eq_false h1)]) rfl)
def A8 (v1 o1 s1 x1:Int):Int:=if(!(((((((s1==1)||(s1==2))||(s1==4))||(s1==8))&&(decide (o1≥0)))&&(decide (o1≤(IntKind.wrap .i64 (8 - s1)))))&&((Int.tmod o1 s1)==0)))=true then v1 else IntKind.wrap .i64 ((((BitVec.ofInt (IntKind.bits .i64) (IntKind.wrap .i64 ((((BitVec.ofInt (IntKind.bits .i64) v1)&&& ~~~ (BitVec.ofInt (IntKind.bits .i64) (IntKind.wrap .i64 ((IntKind.wrap .i64 ((IntKind.wrap .i64 (1*2^min ((IntKind.wrap .i64 (8*s1))).toNat (IntKind.bits .i64))) - 1))*2^min ((IntKind.wrap .i64 (8*o1))).toNat (IntKind.bits .i64))))).toNat:Nat):Int)))|||(BitVec.ofInt (IntKind.bits .i64) (IntKind.wrap .i64 ((((BitVec.ofInt (IntKind.bits .i64) (IntKind.wrap .i64 (x1*2^min ((IntKind.wrap .i64 (8*o1))).toNat (IntKind.bits .i64))))&&&(BitVec.ofInt (IntKind.bits .i64) (IntKind.wrap .i64 ((IntKind.wrap .i64 ((IntKind.wrap .i64 (1*2^min ((IntKind.wrap .i64 (8*s1))).toNat (IntKind.bits .i64))) - 1))*2^min ((IntKind.wrap .i64 (8*o1))).toNat (IntKind.bits .i64))))).toNat:Nat):Int)))).toNat:Nat):Int)
theorem Wo (v1 o1 s1 x1:Int)(hs:s1=1∨s1=2∨s1=4∨s1=8)(ho:0≤o1∧o1≤7):Fn Tryz.prog 138 [.int .i64 v1,.int .i64 o1,.int .i64 s1,.int .i64 x1] [] (Rt (.int .i64 (A8 v1 o1 s1 x1)) []):=
 AG (n:=25) (by kernel_rfl) Tryz.func138 rfl rfl rfl fun G w a h0 A=>M hX 10 A rfl rfl fun A=>C9 [] (Hc o1 s1) A rfl fun A=>M hX 3 A rfl rfl fun A=>fork 12 A rfl
  (fun h1 A=>M hX 8 A rfl rfl fun A=>R9 A rfl h0 rfl (by simp only [AX,nb,BY,BR,A8,if_pos h1]) rfl)
  (fun h1 A=>M hX 4 A rfl rfl fun A=>WO hX BK [(6,.int .i64 (IntKind.wrap .i64 ((IntKind.wrap .i64 (1*2^min ((IntKind.wrap .i64 (8*s1))).toNat (IntKind.bits .i64))) - 1))),(10,.int .i64 (IntKind.wrap .i64 ((((BitVec.ofInt (IntKind.bits .i64) (IntKind.wrap .i64 ((((BitVec.ofInt (IntKind.bits .i64) v1)&&& ~~~ (BitVec.ofInt (IntKind.bits .i64) (IntKind.wrap .i64 ((IntKind.wrap .i64 ((IntKind.wrap .i64 (1*2^min ((IntKind.wrap .i64 (8*s1))).toNat (IntKind.bits .i64))) - 1))*2^min ((IntKind.wrap .i64 (8*o1))).toNat (IntKind.bits .i64))))).toNat:Nat):Int)))|||(BitVec.ofInt (IntKind.bits .i64) (IntKind.wrap .i64 ((((BitVec.ofInt (IntKind.bits .i64) (IntKind.wrap .i64 (x1*2^min ((IntKind.wrap .i64 (8*o1))).toNat (IntKind.bits .i64))))&&&(BitVec.ofInt (IntKind.bits .i64) (IntKind.wrap .i64 ((IntKind.wrap .i64 ((IntKind.wrap .i64 (1*2^min ((IntKind.wrap .i64 (8*s1))).toNat (IntKind.bits .i64))) - 1))*2^min ((IntKind.wrap .i64 (8*o1))).toNat (IntKind.bits .i64))))).toNat:Nat):Int)))).toNat:Nat):Int)))] [] A rfl (iU (by rw [GU (by omega)];omega)<|iU (by rw [GU (by omega)];omega)<|iT) rfl rfl (by kernel_rfl) (AV _ _) ⟨.inl ⟨_,_,rfl,rfl,Qr s1 hs⟩,⟨.inl ⟨_,_,rfl,rfl,Q3 v1 (IntKind.wrap .i64 (x1*2^min ((IntKind.wrap .i64 (8*o1))).toNat (IntKind.bits .i64))) (IntKind.wrap .i64 ((IntKind.wrap .i64 ((IntKind.wrap .i64 (1*2^min ((IntKind.wrap .i64 (8*s1))).toNat (IntKind.bits .i64))) - 1))*2^min ((IntKind.wrap .i64 (8*o1))).toNat (IntKind.bits .i64)))⟩,trivial⟩⟩ fun A=>M hX 2 A rfl rfl fun A=>R9 A rfl h0 rfl (by simp only [AX,nb,BY,BR,A8,if_neg (ne_true_of_eq_false h1)]) rfl)
end Go.Proofs.YtbbdanhpphlbpaaGreatDoor.Mc
namespace Go.Proofs.YtbbdanhpphlbpaaGreatDoor
open Go.RowKit
section
variable {P:Program}{n:Nat}{ks:List Nat}{G0:Gr}{w0:World}{T:List (Nat×SV)}{H:Hp}{G:Gr}{a:Act}{w w':World}{Q:Exit→Act→World→Prop}{K:List Fr}{ops:Array Oper}{o:Oper}{rest:List Oper}{fuel i:Nat}{listed:Array Bool}
theorem I8 {id:Nat}(f:Nat)(BK:P.follows .mixedOrders=true)(hf:ops.size=f)(A:Sy n T H ks G0 w0 G a w)(h:∀{w},Sy n T H ks G0 w0 G a w→wpAny P .any ops (Fa P Q K) f (Array.replicate f false) a w):Goal P Q K (.code (.region id ops true)) a w:=by
 subst hf
 refine wp_region_any BK ?_
 have qB:Ms H ks G0 w0 G w.drew:=A.ms.grow (BW.refl w).drew
 exact h (qB.sy A.size A.defers A.get)
theorem Gs {p q:Prop}(h:p→q)(t:p):q:=h t
theorem AM {rs:List Nat}(hr:Region.ready .any ops listed=rs)(jF:rs≠[])(h:∀i∈rs,wpOp P ops Q i (wpAny P .any ops Q fuel (listed.setIfInBounds i true)) a w):wpAny P .any ops Q (fuel+1) listed a w:=by
 unfold wpAny
 rw [hr]
 exact⟨fun e=>absurd e jF,h⟩
theorem Dh (hr:Region.ready .any ops listed=[])(h:Goal P Q K .norm a w):wpAny P .any ops (Fa P Q K) fuel listed a w:=by
 cases fuel with
 |zero=>exact⟨hr,h⟩
 |succ f=>
  unfold wpAny
  rw [hr]
  exact⟨fun _=>h,fun i hi=>by cases hi⟩
theorem JA (ho:ops[i]?=some o)(h:BG P ops o a w fun v w'=>wpAny P .any ops Q fuel (listed.setIfInBounds i true) (a.put o.dst v) w'):wpOp P ops Q i (wpAny P .any ops Q fuel (listed.setIfInBounds i true)) a w:=by
 unfold wpOp
 rcases h with⟨hw,h⟩|⟨hw,h⟩
 ·simp only [ho,hw,if_true]
  refine .inl (Oper.wp_mono (fun a2 w2 h=>?_) (h Q))
  obtain⟨v,rfl,h1⟩:=h
  exact h1
 ·simp only [ho,hw,Bool.false_eq_true,if_false]
  exact h
theorem En {x:SV}{H':Hp}(ho:ops[i]?=some o)(A:Sy n T H ks G0 w0 G a w)(hd:Ci n o.dst=true)(h:Aw P n ops ks G0 w0 T H o x H')(hk:∀{G a w},Sy n (Ay T o.dst x) H' ks G0 w0 G a w→wpAny P .any ops Q fuel (listed.setIfInBounds i true) a w):wpOp P ops Q i (wpAny P .any ops Q fuel (listed.setIfInBounds i true)) a w:=by
 refine JA ho ?_
 rcases h G a w A with⟨hw,h⟩|⟨hw,F,h1,h2⟩
 ·refine .inl ⟨hw,fun Q'=>?_⟩
  refine Oper.wp_mono (fun a' w' hh=>?_) (h Q')
  obtain⟨v,rfl,F,h1,h2⟩:=hh
  exact⟨v,rfl,hk (Sy.put (h2.sy A.size A.defers fun t y hy=>AP F y (A.get t y hy)) hd h1)⟩
 ·exact .inr ⟨hw,hk (Sy.put (h2.sy A.size A.defers fun t y hy=>AP F y (A.get t y hy)) hd h1)⟩
theorem Wp {f:Nat} {J:SV→World→World→Prop} {K:Value→World→Prop} (hf:Jf P f [] [] J) (A:Sy n T H ks G0 w0 G a w) (h1:BS n ops T o=some (f,[]))
  (hk:∀x v w',J x w w'→(∀k,(keys H G).contains k=true→k<w.heap.size)→Sy n (Ay T o.dst x) H ks G0 w0 G (a.put o.dst v) w'→K v w'):BG P ops o a w K:=by
 obtain⟨hd,us,hu,lK⟩:=Cb (P:=P) (ops:=ops) A h1 hf.1
 have xH:us=[]:=by cases hu;rfl
 subst xH
 have hM:Mem [] [] w:=⟨rfl,fun i e h=>by simp at h,fun i j e f L M _ h=>by simp at h⟩
 refine lK (hf.2 [] w [] hM rfl) fun e w' he=>?_
 obtain⟨x,v,e1,rfl,hg,hJ⟩:=he
 refine⟨v,rfl,hk x v _ hJ (fun k hz=>?_) (Sy.put ⟨A.size,A.defers,A.get,⟨A.mem.len,fun i e hi=>(A.mem.ent i e hi).mix hg.mix (fun _ _ _=>rfl),A.mem.sep⟩,A.pre,A.own,A.mix.grow hg⟩ hd (by simpa using AP G x e1))⟩
 obtain⟨i,e,L,q1,q2,q3,q4⟩:=mem_keys.1 hz
 have:=A.mem.ent i e q1
 rw [q3]at this
 rw [←q4];exact Ae.lt this (At q2)
theorem CK {β:Type} {e s m t f:Nat} {l:List SV} {F:β→Nat→List SV} {R:β→Nat→World→World→Prop} (ho:ops[i]?=some o) (hf:Jf P f [] [] (fun x w w'=>∃(L:β) (b cp:Nat),x=.agg (l++[.sla (some ⟨b,0,none⟩) m cp])∧R L b w w'∧w.heap.size≤b∧Bm e s m (F L) b cp w')) (A:Sy n T H ks G0 w0 G a w) (hd:o.dst=some t) (h1:BS n ops T o=some (f,[]))
  (k:∀L b cp a' w' G',R L b w w'→w.heap.size≤b→(∀k,(keys (H++[some (.row e s m 0 (F L))]) G').contains k=true→k<w.heap.size∨k=b)→Sy n ((t,.agg (l++[.sl H.length m 0]))::Ay T o.dst (.agg (l++[.sla (some ⟨b,0,none⟩) m cp]))) (H++[some (.row e s m 0 (F L))]) ks G0 w0 G' a' w'→wpAny P .any ops Q fuel (listed.setIfInBounds i true) a' w'):wpOp P ops Q i (wpAny P .any ops Q fuel (listed.setIfInBounds i true)) a w:=by
 refine JA ho (Wp hf A h1 fun x v w' hJ hk A'=>?_)
 obtain⟨L,b,cp,rfl,hR,jO,hg⟩:=hJ
 have hl:look (Ay T o.dst (.agg (l++[.sla (some ⟨b,0,none⟩) m cp]))) t=some (.agg (l++[.sla (some ⟨b,0,none⟩) m cp])):=by rw [hd];simp [Ay,look,Nat.beq_refl]
 have hlen:=A'.mem.len
 have A2:=A'.takeRowG t (y:=.agg (l++[.sl H.length m 0])) hg (fun i e L q1 q2 q3=>by
  have:=A.mem.ent i e q1
  rw [q2]at this
  have:=Ae.lt this q3
  omega) (Nat.le_trans A.mix.size jO) hl (by
   unfold den
   rw [J4 (y:=.sla (some ⟨b,0,none⟩) m cp)]
   unfold den
   rw [List.getElem?_append_right (by omega),hlen]
   simp [rm])
 refine k L b cp _ w' _ hR jO (fun q hq=>?_) A2
 obtain⟨i,e',L',q1,q2,q3,q4⟩:=mem_keys.1 hq
 by_cases hi:i<H.length
 ·rw [List.getElem?_append_left hi]at q1
  rw [List.getElem?_append_left (by omega)]at q3
  exact .inl (hk q (mem_keys.2 ⟨i,e',L',q1,q2,q3,q4⟩))
 ·have mB:i=H.length:=by
   have:=(List.getElem?_eq_some_iff.1 q1).1
   simp at this;omega
  subst mB
  rw [List.getElem?_append_right (by omega),hlen]at q3
  simp at q3
  subst q3
  exact .inr q4.symm
end
section
variable {n:Nat}{ks:List Nat}{G0:Gr}{w0:World}{T T':List (Nat×SV)}{H H':Hp}{G:Gr}{a:Act}{w:World}{Q:Exit→Act→World→Prop}{K K':List Fr}{pos pos':Pos}{E:Ob}
theorem CM {ops:Array Oper}{o:Oper}{i fuel:Nat}{listed:Array Bool}{QQ:Exit→Act→World→Prop}(x:SV)(ho:ops[i]?=some o)(A:Sy n T H ks G0 w0 G a w)(h:(Ci n o.dst,Cj ⟨X,true⟩ n ops T H o)=(true,some (.val x E)))(hE:Cz E)(hk:∀{G a w},Sy n (Ay T o.dst x) H ks G0 w0 G a w→wpAny Tryz.prog .any ops QQ fuel (listed.setIfInBounds i true) a w):wpOp Tryz.prog ops QQ i (wpAny Tryz.prog .any ops QQ fuel (listed.setIfInBounds i true)) a w:=by
 simp only [Prod.mk.injEq]at h
 exact En ho A h.1 (Aj (X:=⟨X,true⟩) (out:=.val x E) hX h.2 hE) hk
theorem Bg {p:Nat→Prop}{a:Nat}{l:List Nat}(h:p a∧∀x∈l,p x):∀x∈a::l,p x:=List.forall_mem_cons.2 h
theorem CF {p:Nat→Prop}:∀x∈([]:List Nat),p x:=List.forall_mem_nil _
end
section
variable {P:Program}{X:Tx}{n:Nat}{ks:List Nat}{G0:Gr}{w0:World}{T:List (Nat×SV)}{l:List Oper}{xs:List SV}{Q:Exit→Act→World→Prop}{ef rs0:List Nat}{tb:List (List Nat×List Nat×Hp)}
theorem Tm (m:Nat) (qS:m≤l.length) (uB:∀S:Nat→Bool,(∀(j:Nat) (o:Oper) (p:Nat),l[j]?=some o→S j=true→waits o p=true→S p=true)→∀(i:Nat) (o:Oper),m≤i→l[i]?=some o→(∀p,waits o p=true→S p=true)→∀j,j<m→S j=true) (kC:Ih l.toArray n []=true) (hT:∀t x,look T t=some x→∀(j:Nat) (o:Oper),l[j]?=some o→o.dst=some t→j<m→∀(i:Nat) (q:Oper),l[i]?=some q→i<m→i≠j→waits o i=true∨waits q j=true) (tV:∀t x,look T t=some x→∀r∈rs0,Mu r x=true) (hl:xs.length=l.length)
  (oI:∀(k:Nat) (c rs:List Nat) (H:Hp),tb[k]?=some (c,rs,H)→∀(i:Nat) (o:Oper),i<m→l[i]?=some o→Kq l.toArray ef c i o=true→Hg P n ks G0 w0 T l xs ef tb c rs H i o)
  (oE:∀(k:Nat) (c rs:List Nat) (H:Hp),tb[k]?=some (c,rs,H)→(∀p∈ef,p<m→p∈c)→∀(fuel:Nat) (listed:Array Bool) (G:Gr) (a:Act) (w:World),listed.size=l.length→(∀i,listed.getD i false=decide (i<m))→l.length - m≤fuel→Sy n (lD (l.take m) (xs.take m) T) H ks G0 w0 G a w→wpAny P .any l.toArray Q fuel listed a w):
  ∀(fuel:Nat) (listed:Array Bool) (a:Act) (w:World) (k:Nat) (c rs:List Nat) (H:Hp) (G:Gr),listed.size=l.length→((List.range l.length).filter fun i=> !listed.getD i true).length≤fuel→tb[k]?=some (c,rs,H)→Te n ks G0 w0 T l xs ef rs0 c rs H listed G a w→(∀i,m≤i→listed.getD i false=false)→wpAny P .any l.toArray Q fuel listed a w:=by
 have all0:∀(listed:Array Bool),listed.size=l.length→Region.ready .any l.toArray listed=[]→∀i,i<l.length→listed.getD i false=true:=by
  intro listed lF hr i
  induction i using Nat.strongRecOn with
  | _ i ih=>
   intro hi
   cases hq:listed.getD i false with
   |true=>rfl
   | false=>
    exfalso
    have:i∈Region.ready .any l.toArray listed:=by
     rw [mem_ready]
     have rO:i<listed.size:=by omega
     have lG:l.toArray[i]?=some l[i]:=by simp [hi]
     refine⟨by simpa [rO]using hq,l[i],lG,fun e he hb=>?_⟩
     have i7:=(EM kC lG).2 e he hb
     exact ih e.on i7 (by omega)
    rw [hr]at this;cases this
 have fin:∀(fuel:Nat) (listed:Array Bool) (a:Act) (w:World) (k:Nat) (c rs:List Nat) (H:Hp) (G:Gr),listed.size=l.length→((List.range l.length).filter fun i=> !listed.getD i true).length≤fuel→tb[k]?=some (c,rs,H)→Te n ks G0 w0 T l xs ef rs0 c rs H listed G a w→(∀i,m≤i→listed.getD i false=false)→(∀i,i<m→listed.getD i false=true)→wpAny P .any l.toArray Q fuel listed a w:=by
  intro fuel listed a w k c rs H G lF hf hk I pS qE
  have pC:∀i,listed.getD i false=decide (i<m):=fun i=>by
   by_cases hi:i<m
   ·rw [qE i hi,decide_eq_true hi]
   ·rw [pS i (by omega),decide_eq_false hi]
  refine oE k c rs H hk (fun p hp lB=>(I.eff p hp).1 (qE p lB)) fuel listed G a w lF pC ?_ (I.ms.sy I.size I.defers fun t x hx=>?_)
  ·refine Nat.le_trans ?_ hf
   have kY:((List.range l.length).filter fun i=> !listed.getD i true)=(List.range l.length).filter fun i=>decide (m≤i):=by
    apply List.filter_congr
    intro i hi
    have nU:i<listed.size:=by rw [lF];simpa using hi
    have h2:=pC i
    have h3:listed.getD i true=listed.getD i false:=by simp [Array.getD,nU]
    rw [h3,h2]
    by_cases q:i<m
    ·rw [decide_eq_true q,decide_eq_false (by omega)];rfl
    ·rw [decide_eq_false q,decide_eq_true (by omega)];rfl
   rw [kY]
   have qF:∀N,(List.filter (fun i=>decide (m≤i)) (List.range N)).length=N - m:=by
    intro N
    induction N with
    |zero=>simp
    |succ N ih=>
     rw [List.range_succ,List.filter_append,List.length_append,ih]
     by_cases q:m≤N
     ·rw [List.filter_cons_of_pos (by simpa using q)];simp;omega
     ·rw [List.filter_cons_of_neg (by simpa using q)];simp;omega
   rw [qF]
   exact Nat.le_refl _
  ·have i7:(xs.take m).length=(l.take m).length:=by rw [List.length_take,List.length_take,hl]
   rcases Ga i7 hx with⟨i,p,q1,q2,q3⟩|⟨hx,nH⟩
   ·have rV:i<m:=by have:=(List.getElem?_eq_some_iff.1 q1).1;rw [List.length_take]at this;omega
    rw [List.getElem?_take_of_lt rV]at q1 q2
    exact(I.done i p x q1 (qE i rV) q2).2 t q3
   ·refine I.base t x hx fun j o h1 h2=>?_
    by_cases hj:j<m
    ·exact absurd h2 (nH j o (by rw [List.getElem?_take_of_lt hj];exact h1))
    ·exact pS j (by omega)
 intro fuel
 induction fuel with
 |zero=>
  intro listed a w k c rs H G lF hf hk I pS
  refine fin 0 listed a w k c rs H G lF hf hk I pS fun i hi=>?_
  have mK:((List.range l.length).filter fun i=> !listed.getD i true)=[]:=List.eq_nil_of_length_eq_zero (by omega)
  rw [List.filter_eq_nil_iff]at mK
  have:=mK i (by simp;omega)
  simp only [Bool.not_eq_true,Bool.not_eq_false']at this
  have nU:i<listed.size:=by omega
  simp [Array.getD,nU]at this⊢
  exact this
 | succ fuel ih=>
  intro listed a w k c rs H G lF hf rS I pS
  by_cases qE:∀i,i<m→listed.getD i false=true
  ·exact fin (fuel+1) listed a w k c rs H G lF hf rS I pS qE
  refine⟨fun hr=>absurd (fun i hi=>all0 listed lF hr i (by omega)) qE,fun i hi=>?_⟩
  obtain⟨pL,o,lG,j8⟩:=mem_ready.1 hi
  have nU:i<l.length:=by have:=(Array.getElem?_eq_some_iff.1 lG).1;simpa using this
  have kL:l[i]?=some o:=by simpa using lG
  obtain⟨pM,vH⟩:=EM kC lG
  have kS:listed.getD i false=false:=by
   have i7:i<listed.size:=by omega
   simpa [i7]using pL
  have hw:∀p,waits o p=true→listed.getD p false=true:=fun p hp=>by
   unfold waits at hp
   rw [List.any_eq_true]at hp
   obtain⟨e,oC,hb⟩:=hp
   have he:e∈o.after:=by simpa using oC
   simp only [Bool.and_eq_true,beq_iff_eq]at hb
   rw [←hb.2]
   exact j8 e he hb.1
  have rV:i<m:=by
   by_cases q:i<m
   ·exact q
   ·exact absurd (uB (fun j=>listed.getD j false) (fun j o p h1 h2 h3=>I.closed j o p h1 h2 h3) i o (by omega) kL hw) qE
  have A:Sy n (IR o l xs 0 T) H ks G0 w0 G a w:=I.ms.sy I.size I.defers fun t x hx=>by
   rcases I1 hl hx with⟨j,p,q1,q2,q3,q4⟩|⟨hx,tW⟩
   ·exact(I.done j p x q1 (hw j (by simpa using q3)) q2).2 t q4
   ·refine I.base t x hx fun j p h1 h2=>?_
    by_cases jW:j=i
    ·subst jW;exact kS
    ·cases hlj:listed.getD j false with
     |false=>rfl
     | true=>
      have xI:j<m:=by
       by_cases q:j<m
       ·exact q
       ·rw [pS j (by omega)]at hlj;cases hlj
      rcases hT t x hx j p h1 h2 xI i o kL rV (Ne.symm jW)with kN|kN
      ·have:=I.closed j p i h1 hlj kN
       rw [kS]at this;cases this
      ·have:=tW j p h1 h2
       rw [Nat.zero_add]at this
       rw [kN]at this;cases this
  have oG:Kq l.toArray ef c i o=true:=by
   unfold Kq
   simp only [Bool.and_eq_true,Bool.not_eq_true',List.all_eq_true,Bool.or_eq_true]
   refine⟨⟨?_,fun p hp=>?_⟩,fun p hp=>?_⟩
   ·cases hc:c.contains i with
    |false=>rfl
    |true=>
     have h1:i∈c:=by simpa using hc
     have:=(I.eff i (I.sub i h1)).2 h1
     rw [kS]at this;cases this
   ·cases hq:wt l.toArray o p with
    |false=>exact .inl rfl
    | true=>
     refine .inr ?_
     have tX:listed.getD p false=true:=by
      unfold wt at hq
      cases hd:waits o p with
      |true=>exact hw p hd
      |false=>
       rw [hd]at hq
       exact Dq (ops:=l.toArray) (fun j o' p' h1 h2 h3=>I.closed j o' p' (by simpa using h1) h2 h3) 2 o.after.toList (fun e he hb=>j8 e (by simpa using he) hb) hq
     have:=(I.eff p hp).1 tX
     simpa using this
   ·split
    ·next q hq=>
     cases hd:waits q i with
     |false=>rfl
     |true=>
      have h1:=(I.eff p (I.sub p hp)).2 hp
      have:=I.closed p q i (by simpa using hq) h1 hd
      rw [kS]at this;cases this
    ·rfl
  obtain⟨x,c',rs',H',k',hx,jQ,qA,oK,he⟩:=oI k c rs H rS i o rV kL oG
  rw [Bool.and_eq_true,List.all_eq_true,List.all_eq_true]at qA
  rw [List.all_eq_true]at oK
  have oU:∀r∈rs',r∈rs∧Mu r x=true:=fun r hr=>by
   have:=oK r hr
   rw [Bool.and_eq_true]at this
   exact⟨by simpa using this.1,this.2⟩
  have next:∀(v:Value) (w':World) (G':Gr),(∀i,i∉rs→G'[i]?=G[i]?)→den G' x=some v→Ms H' ks G0 w0 G' w'→wpAny P .any l.toArray Q fuel (listed.setIfInBounds i true) (a.put o.dst v) w':=by
   intro v w' G' hG hv pJ
   have i7:i<listed.size:=by omega
   have kD:∀j,(listed.setIfInBounds i true).getD j false=true↔(j=i∨listed.getD j false=true):=by
    intro j
    by_cases jW:j=i
    ·subst jW;simp [i7]
    ·rw [F7 false (Ne.symm jW)];simp [jW]
   refine ih _ _ _ k' c' rs' H' G' (by simpa using lF) ?_ jQ ⟨?_,?_,fun t y hy nH=>?_,fun j p y q1 q2 q3=>?_,pJ,fun p hp=>?_,fun p hp=>?_,fun r hr=>I.rsub r (oU r hr).1,fun j p r q1 q2 q3=>?_⟩ (fun j hj=>by rw [F7 false (show i≠j by omega)];exact pS j hj)
   ·have:((List.range l.length).filter fun k=> !(listed.setIfInBounds i true).getD k true).length<((List.range l.length).filter fun k=> !listed.getD k true).length:=by
     have kY:((List.range l.length).filter fun k=> !(listed.setIfInBounds i true).getD k true)=((List.range l.length).filter fun k=> !listed.getD k true).filter (fun k=>k !=i):=by
      rw [List.filter_filter]
      apply List.filter_congr
      intro k _
      by_cases hk:k=i
      ·subst hk;simp [i7]
      ·rw [F7 true (Ne.symm hk)];simp [hk]
     rw [kY]
     refine List.length_filter_lt_length_iff_exists.2 ⟨i,?_,by simp⟩
     simp only [List.mem_filter,List.mem_range]
     exact⟨nU,by rw [pL];rfl⟩
    omega
   ·cases hd:o.dst<;>simp [Act.put,I.size]
   ·cases hd:o.dst<;>simp [Act.put,I.defers]
   ·have oF:∀(j:Nat) (q:Oper),l[j]?=some q→q.dst=some t→listed.getD j false=false:=fun j q h1 h2=>by
     have h3:=nH j q h1 h2
     cases hlj:listed.getD j false with
     |false=>rfl
     |true=>rw [(kD j).2 (.inr hlj)]at h3;cases h3
    have h1:den G' y=some (a.tmps.getD t undef):=by rw [D8 hG y fun r hr=>tV t y hy r (I.rsub r hr)];exact I.base t y hy oF
    cases hd:o.dst with
    |none=>exact h1
    | some d=>
     have jF:d≠t:=fun e=>by
      have h3:=nH i o kL (by rw [hd,e])
      rw [(kD i).2 (.inl rfl)]at h3;cases h3
     simp only [Act.put,Array.getD_eq_getD_getElem?]
     rw [Array.getElem?_setIfInBounds_ne jF,←Array.getD_eq_getD_getElem?]
     exact h1
   ·by_cases jW:j=i
    ·subst jW
     rw [kL]at q1;cases q1
     rw [hx]at q3;cases q3
     refine⟨fun r hr=>(oU r hr).2,fun d q4=>?_⟩
     have rP:d<a.tmps.size:=by rw [I.size];exact(pM d q4).1
     rw [q4]
     simp [Act.put,rP,hv]
    ·have h2:listed.getD j false=true:=by
      rcases(kD j).1 q2 with h|h
      ·exact absurd h jW
      ·exact h
     obtain⟨g1,g2⟩:=I.done j p y q1 h2 q3
     refine⟨fun r hr=>g1 r (oU r hr).1,fun d q4=>?_⟩
     have h1:den G' y=some (a.tmps.getD d undef):=by rw [D8 hG y g1];exact g2 d q4
     cases hd:o.dst with
     |none=>exact h1
     | some d'=>
      have jF:d'≠d:=fun e=>by
       subst e
       exact jW ((pM d' hd).2.1 j (by simpa using (List.getElem?_eq_some_iff.1 q1).1) (by simp [Hs,q1,q4]))
      simp only [Act.put,Array.getD_eq_getD_getElem?]
      rw [Array.getElem?_setIfInBounds_ne jF,←Array.getD_eq_getD_getElem?]
      exact h1
   ·rw [kD p,I.eff p hp]
    have:=qA.1 p hp
    have hb:(p=i∨p∈c)↔(Nat.beq p i||c.contains p)=true:=by
     rw [Bool.or_eq_true]
     refine or_congr ⟨fun h=>by subst h;exact Nat.beq_refl p,Nat.eq_of_beq_eq_true⟩ (by simp)
    rw [hb]
    rw [beq_iff_eq]at this
    rw [←this];simp
   ·have:=qA.2 p hp;simpa using this
   ·rw [kD r]
    by_cases jW:j=i
    ·subst jW;rw [kL]at q1;cases q1;exact .inr (hw r q3)
    ·rcases(kD j).1 q2 with h|h
     ·exact absurd h jW
     ·exact .inr (I.closed j p r q1 h q3)
  unfold wpOp
  rcases he G a w A with⟨nA,h⟩|⟨nA,G',h1,h2,h3⟩
  ·simp only [lG,nA,if_true]
   refine .inl (Oper.wp_mono (fun a2 w2 h=>?_) (h Q))
   obtain⟨v,rfl,G',h1,h2,h3⟩:=h
   exact next v w2 G' h1 h2 h3
  ·simp only [lG,nA,Bool.false_eq_true,if_false]
   exact next undef w G' h1 h2 h3
def Tn (P:Program)(n:Nat)(ks:List Nat)(G0:Gr)(w0:World)(T:List (Nat×SV))(L:List Oper)(m:Nat)(xs:List SV)(ef:List Nat)(tb:List (List Nat×List Nat×Hp)):List (List Bool)→List (List Nat×List Nat×Hp)→Prop
 |bs::B,(c,rs,H)::ss=>U9 P n ks G0 w0 T L xs ef tb c rs H bs (L.take m) 0∧Tn P n ks G0 w0 T L m xs ef tb B ss
 |_,_=>True
theorem Q4 {m:Nat}:∀{ss:List (List Nat×List Nat×Hp)},Tn P n ks G0 w0 T l m xs ef tb (ss.map fun s=>I2 l.toArray ef s.1 (l.take m) 0) ss→∀(k:Nat) (c rs:List Nat) (H:Hp),ss[k]?=some (c,rs,H)→U9 P n ks G0 w0 T l xs ef tb c rs H (I2 l.toArray ef c (l.take m) 0) (l.take m) 0
 | [],_,k,c,rs,H,h=>by cases h
 |(c1,r1,H1)::ss,hO,k,c,rs,H,h=>by
  simp only [List.map_cons,Tn]at hO
  cases k with
  |zero=>cases h;exact hO.1
  |succ k=>exact Q4 hO.2 k c rs H (by simpa using h)
def To (l:List Oper):Nat→List Nat→List Nat
 |0,s=>s
 |f+1,s=>To l f (s++(s.flatMap fun j=>match l[j]? with|some o=>(List.range l.length).filter (fun p=>waits o p)|none=>[]))
theorem ON {l:List Oper}{S:Nat→Bool}(hS:∀(j:Nat) (o:Oper) (p:Nat),l[j]?=some o→S j=true→waits o p=true→S p=true):∀f s,(∀j∈s,S j=true)→∀j∈To l f s,S j=true
 |0,s,h=>h
 | f+1,s,h=>ON hS f _ fun j hj=>by
  rcases List.mem_append.1 hj with hj|hj
  ·exact h j hj
  ·obtain⟨q,hq,hj⟩:=List.mem_flatMap.1 hj
   split at hj
   ·next o ho=>exact hS q o j ho (h q hq) (List.mem_filter.1 hj).2
   ·cases hj
def OO (l:List Oper)(m f:Nat):List Oper→Nat→Bool
 | [],_=>true
 |o::r,i=>(Nat.blt i m||((List.range m).all fun j=>(To l f ((List.range l.length).filter fun p=>waits o p)).contains j))&&OO l m f r (i+1)
theorem JB {l:List Oper}{m f:Nat}:∀{r:List Oper} {k:Nat},OO l m f r k=true→∀(i:Nat) (o:Oper),r[i]?=some o→m≤k+i→∀j,j<m→j∈To l f ((List.range l.length).filter fun p=>waits o p)
 | [],_,_,_,_,h,_,_,_=>by cases h
 | p::r,k,h,i,o,hi,hm,j,hj=>by
  simp only [OO,Bool.and_eq_true,Bool.or_eq_true]at h
  cases i with
  |zero=>
   cases hi
   rcases h.1 with h1|h1
   ·rw [Nat.blt_eq]at h1;omega
   ·have:=List.all_eq_true.1 h1 j (by simpa using hj);simpa using this
  |succ i=>exact JB h.2 i o (by simpa using hi) (by omega) j hj
theorem dU {id:Nat} {H HE:Hp} {G:Gr} {a:Act} {w:World} {K:List Fr} (m f:Nat) (BK:P.follows .mixedOrders=true) (xs:List SV) (ef rs0:List Nat) (nw:Nat) (tb:List (List Nat×List Nat×Hp)) (B:List (List Bool)) (A:Sy n T H ks G0 w0 G a w)
  (h0:tb[0]?=some ([],rs0,H++List.replicate nw none)) (hE:O9 ef tb=some HE) (nE:(rs0.all fun r=>Nat.ble H.length r)=true) (pR:(ef.all fun p=>Nat.blt p m)=true) (hB:(tb.map fun s=>I2 l.toArray ef s.1 (l.take m) 0)=B) (hl:xs.length=l.length) (kC:Ih l.toArray n []=true) (qS:Nat.ble m l.length=true) (jT:OO l m f l 0=true)
  (o6:YV (l.take m) T=true) (hO:Tn P n ks G0 w0 T l m xs ef tb B tb) (hk:∀(fuel:Nat) (listed:Array Bool) {G a w},listed=Array.ofFn (n:=l.length) (fun i=>decide (i.val<m))→l.length - m≤fuel→Sy n (lD (l.take m) (xs.take m) T) HE ks G0 w0 G a w→wpAny P .any l.toArray (Fa P Q K) fuel listed a w):Goal P Q K (.code (.region id l.toArray true)) a w:=by
 refine wp_region_any BK ?_
 have qB:Ms H ks G0 w0 G w.drew:=A.ms.grow (BW.refl w).drew
 rw [List.all_eq_true]at nE pR
 have uC:=Nat.le_of_ble_eq_true qS
 refine Tm (P:=P) (xs:=xs) (T:=T) (ef:=ef) (rs0:=rs0) (tb:=tb) m uC (fun S hS i o hi ho hw j hj=>ON hS f _ (fun p hp=>hw p (List.mem_filter.1 hp).2) j (JB jT i o ho (by omega) j hj)) kC (fun t x hx j o h3 h4 hj i q hq hi jF=>OL o6 hx (by rw [List.getElem?_take_of_lt hj];exact h3) h4 (by rw [List.getElem?_take_of_lt hi];exact hq) jF) (fun t x hx r hr=>?_) hl (fun k c rs H hk i o hi ho hm=>?_) (fun k c rs H' jQ j8 fuel listed G a w lF pC uD A'=>?_) _ _ _ _ 0 [] rs0 _ (G++List.replicate nw none) (by simp) (by
  refine Nat.le_trans (List.length_filter_le _ _) (by simp)) h0 ⟨A.size,A.defers,fun t x hx _=>AP _ x (A.get t x hx),fun j o x _ hj=>?_,Sy.pad (a:=a) qB nw,fun p hp=>?_,fun p hp=>absurd hp (by simp),fun r hr=>hr,fun j o p _ hj=>?_⟩ (fun i hi=>by simp [Array.getD_eq_getD_getElem?,Array.getElem?_replicate];split<;>rfl)
 ·have:=nE r hr
  rw [A.mem.len]at this
  exact Mz (G:=G) (Nat.le_of_ble_eq_true this) x (A.get t x hx)
 ·have:=Kr (Q4 (by rw [hB];exact hO) k c rs H hk) i o (by rw [List.getElem?_take_of_lt hi];exact ho) (by rw [Nat.zero_add];exact hm)
  rwa [Nat.zero_add]at this
 ·have h2:(ef.all c.contains)=true:=by
   rw [List.all_eq_true]
   intro p hp
   have:=j8 p hp (by have:=pR p hp;simpa [Nat.blt_eq]using this)
   simpa using this
  cases Fe hE k c rs H' jQ h2
  refine hk fuel listed ?_ uD A'
  apply Array.ext
  ·simp [lF]
  ·intro i h1 h2
   have:=pC i
   simp [Array.getD,h1]at this⊢
   exact this
 ·exfalso;simp [Array.getD_eq_getD_getElem?,Array.getElem?_replicate]at hj;split at hj<;>simp at hj
 ·constructor
  ·intro hj;exfalso;simp [Array.getD_eq_getD_getElem?,Array.getElem?_replicate]at hj;split at hj<;>simp at hj
  ·intro hj;cases hj
 ·exfalso;simp [Array.getD_eq_getD_getElem?,Array.getElem?_replicate]at hj;split at hj<;>simp at hj
end
section
variable {P:Program}{Y:Tb}{n:Nat}{ks:List Nat}{G0:Gr}{w0:World}{T:List (Nat×SV)}{H:Hp}{G:Gr}{a:Act}{w:World}{Q:Exit→Act→World→Prop}{K:List Fr}{pos:Pos}{ops:Array Oper}{o:Oper}{rest:List Oper}
theorem dW {x y:Operand}{t i e s mm mc b:Nat}{ti:TI}{f0 f:Nat→List SV}{ao:Option Addr}(hY:Y.ok P=true)(jG:o.op=.call {callee:=.builtin .append,args:= #[x,y],argTypes:= #[t,t]})(pA:iY ops T o.guard=some .run)(hx:jR T x=some (.sl i 0 0))(hi:lg H i=some (some (.row e s 0 0 f0)))(hy:jR T y=some (.sla ao mm mc))(kO:Y.get t=some ti)(mI:ti.elm=some (e,s,b))(o9:Nat.ble b 10000=true)(xJ:AK ao s mm f w0 ks)(n5:mm≤1000000)(jC:∀k,∃vs,AE [] (f k)=some vs∧vs.length=s)(jD:∀k,k<mm→∃E,Fv (f k)=some E∧Cz E):
  Aw P n ops ks G0 w0 T H o (.sl H.length mm 0) (Br H i none++[some (.row e s mm 0 f)]):=by
 intro G a w A
 have hl:=AK.ok w0 ks w ks xJ A.mix (fun b hb=>.inl hb)
 obtain⟨d,op,ty,pos,af,gd⟩:=o
 have hw:=An (gd:=none) A pA
 simp only at jG
 subst jG
 have o9:=Nat.le_of_ble_eq_true o9
 rw [Ah]at hi
 obtain⟨r1,r2,xs,r3,r4⟩:=A.mem.ent i _ hi
 obtain⟨ie,z,f1',f2',f3',f4',f5',f6',f7'⟩:=CX (Ct (Tb.at hY kO) mI)
 have jB:=A.ev hx
 have jN:=A.ev hy
 obtain⟨q,hq⟩:∃q,G[i]?=some q:=by
  have:i<G.length:=by rw [←A.mem.len];exact(List.getElem?_eq_some_iff.1 hi).1
  exact⟨G[i],by simp [this]⟩
 rw [hq]at r2 r4
 simp only [Option.getD_some]at r2 r4
 unfold den at jB jN
 rw [hq]at jB
 simp only [Option.some.injEq]at jB jN
 cases r3
 obtain⟨ys,mM⟩:=IL (f:=f) jC mm
 have oW:=C4 (f:=f) jC mM
 have oI:Value.ownBlock (.slice (q.map fun L=>⟨L.b,L.pre.length,none⟩) 0 (0+rm q))=q.map (·.b):=by cases q<;>rfl
 by_cases h0:mm=0
 ·subst h0
  cases mM
  have nC:Src P ie.size t (.slice ao 0 mc) 0 [] w:=by
   cases ao with
   |none=>exact Src.ofNil w f1' mc
   |some x0=>exact Src.ofSlice w f1' x0 0 mc [] (by simp) (fun j u hj=>by simp at hj) (fun u hu=>by cases hu)
  have hr:=run_append_nothing (P:=P) w t t ty e ie f1' f2' (q.map fun L=>⟨L.b,L.pre.length,none⟩) 0 (0+rm q) (Nat.zero_le _) _ nC
  refine AR (v:=.slice (q.map fun L=>⟨L.b,L.pre.length,none⟩) 0 (0+rm q)) (w':=w) hw ?_ ?_
  ·unfold execOp
   simp only [resolve,invoke,builtin,Sem.run_bind,Sem.run_pure,Result.andThen_ok,List.map_toArray,List.map_cons,List.map_nil,←jB,←jN,hr]
  ·have A2:=A.rowMove (w':=w) (p':=q) (m':=0) (c':=0) (xs':=[]) (f':=f) hi ⟨rfl,rfl,rfl,Nat.le_refl _,fun _ _ _=>rfl⟩ r4 r2 (.inl (by rw [hq];rfl)) rfl jC
   refine⟨_,?_,A2.ms⟩
   unfold den
   rw [List.getElem?_append_right (by rw [A.mem.len];exact Nat.le_refl _),A.mem.len]
   simp
 ·rcases hl.2 with hh|⟨bb,oo,rfl,i7,_,j7⟩
  ·exact absurd hh h0
  have hmul:(0+mm)*b≤2000000*10000:=Nat.mul_le_mul (by omega) o9
  obtain⟨v',w',hr,k1,k2,_,k4⟩:=run_append_own_at (P:=P) w 0 t ty e ie z s b f1' f2' f3' f4' f5' f6' f7' _ 0 [] r4 ⟨bb,oo,none⟩ mm mc ys oW
   (fun j u hj=>by
    obtain⟨k,r,us,d1,d2,d3,d4⟩:=Ds (f:=f) jC mM j u hj
    obtain⟨us',b2',b3'⟩:=j7 k (by omega)
    rw [b2']at d2
    cases d2
    have:=b3' r u d3
    rw [Addr.add_mid,d4,←Nat.add_assoc]
    exact this)
   (fun u hu=>by
    obtain⟨j,hj⟩:=List.mem_iff_getElem?.1 hu
    obtain⟨k,r,us,d1,d2,d3,d4⟩:=Ds (f:=f) jC mM j u hj
    obtain⟨E,o1,o2⟩:=jD k d1
    exact List.all_eq_true.1 (CI o1 o2 d2) u (List.mem_of_getElem? d3))
   (by simp only [maxLen];omega) (by omega) (Nat.zero_le _)
  obtain⟨p',o1,o2,o3⟩:=Fb k1
  rw [oI]at k2 k4
  rw [o3]at k4
  rw [o1]at k1
  simp only [Nat.zero_add,List.nil_append]at k1
  refine AR (v:=v') (w':=w') hw ?_ ?_
  ·unfold execOp
   have uE:Value.slice (some ⟨bb,oo,none⟩) mm mc=a.eval y:=jN
   simp only [resolve,invoke,builtin,Sem.run_bind,Sem.run_pure,Result.andThen_ok,List.map_toArray,List.map_cons,List.map_nil,←jB,←uE,hr]
  ·have A2:=A.rowMove (p':=p') (m':=mm) (c':=0) (f':=f) hi (by rw [hq];exact k2) (by simpa using k1) o2 (by rw [hq];exact k4) mM jC
   refine⟨_,?_,A2.ms⟩
   unfold den
   rw [List.getElem?_append_right (by rw [A.mem.len];exact Nat.le_refl _),A.mem.len]
   simp [o1]
theorem dX {R:Prop} (i j:Nat) {e s m c:Nat} {f:Nat→List SV} {cs:List SV} (H':Option Addr→Nat→Hp) (A:Sy n T H ks G0 w0 G a w) (hi:lg H i=some (some (.row e s m c f))) (hj:lg H j=some (some (.blk (.sl i m c::cs)))) (jV:Nat.beq i j=false) (hH:∀ao cp,Br (Br H i none) j (some (.blk (.sla ao m cp::cs)))=H' ao cp)
  (k:∀ao cp,Sy n T (H' ao cp) ks G0 w0 G a w→AK ao s m f w (keys (H' ao cp) G)→(∀q:Addr,ao=some q→ks.contains q.block=true∨w0.heap.size≤q.block)→R):R:=by
 obtain⟨ao,cp,h1,h2,h3⟩:=A.layCell i j hi hj jV hH
 exact k ao cp h1 h2 h3
theorem Tp {fuel k:Nat}{listed l0:Array Bool}(e:listed=l0)(h:k≤fuel)(hh:∀f,wpAny P .any ops Q (f+k) l0 a w):wpAny P .any ops Q fuel listed a w:=by
 subst e
 obtain⟨f,rfl⟩:∃f,fuel=f+k:=⟨fuel - k,by omega⟩
 exact hh f
theorem Wq {R:Prop} (i j:Nat) (l r:List SV) {e s m c:Nat} {f:Nat→List SV} (H':Option Addr→Nat→Hp) (A:Sy n T H ks G0 w0 G a w) (hi:lg H i=some (some (.row e s m c f))) (hj:lg H j=some (some (.blk (l++.sl i m c::r)))) (jV:Nat.beq i j=false) (hH:∀ao cp,Br (Br H i none) j (some (.blk (l++.sla ao m cp::r)))=H' ao cp)
  (k:∀ao cp,Sy n T (H' ao cp) ks G0 w0 G a w→AK ao s m f w (keys (H' ao cp) G)→(∀q:Addr,ao=some q→ks.contains q.block=true∨w0.heap.size≤q.block)→R):R:=by
 obtain⟨ao,cp,hd,A1,hl,l9⟩:=A.layAt i hi rfl
 have jF:i≠j:=fun e=>by subst e;rw [Nat.beq_refl]at jV;cases jV
 have l6:lg (Br H i none) j=some (some (.blk (l++.sl i m c::r))):=by
  rw [Ah]at hj⊢
  rw [Ag,List.getElem?_set_ne jF];exact hj
 have A2:=A1.cellEq j (cs':=l++.sla ao m cp::r) l6 (IX (by rw [hd];rfl) l r) (hH ao cp)
 refine k ao cp A2 (AK.ok w _ w _ hl (CR.refl _ _) (fun b hb=>.inl ?_)) l9
 obtain⟨q,en,L,g1,g2,g3,g4⟩:=mem_keys.1 hb
 rw [←hH ao cp,Ag]at g1
 by_cases hk:q=j
 ·subst hk
  rw [Ah]at l6
  exact mem_keys.2 ⟨q,_,L,l6,rfl,g3,g4⟩
 ·rw [List.getElem?_set_ne (Ne.symm hk)]at g1
  exact mem_keys.2 ⟨q,en,L,g1,g2,g3,g4⟩
theorem ZT (i e s:Nat)(f:Nat→List SV)(l r:List SV){H':Hp}(A:Sy n T H ks G0 w0 G a w)(hi:lg H i=some (some (.blk (l++.sla none 0 0::r))))(jC:∀k,∃vs,AE [] (f k)=some vs∧vs.length=s)(hH:Br (H++[some (.row e s 0 0 f)]) i (some (.blk (l++.sl H.length 0 0::r)))=H')(k:∀{G},Sy n T H' ks G0 w0 G a w→Goal P Q K pos a w):Goal P Q K pos a w:=by
 have B:=A.nilPlace e s f jC
 rw [Ah]at hi
 refine k (B.cellEq i (cs:=l++.sla none 0 0::r) (by rw [Ah,List.getElem?_append_left (List.getElem?_eq_some_iff.1 hi).1];exact hi) (IX ?_ l r) hH)
 have:den (G++[none]) (.sl H.length 0 0)=some (.slice none 0 0):=by
  unfold den
  rw [List.getElem?_append_right (by rw [A.mem.len];exact Nat.le_refl _),A.mem.len]
  simp [rm]
 rw [this]
 rfl
end
section
variable {P:Program}{Y:Tb}{n:Nat}{ks:List Nat}{G0:Gr}{w0:World}{T:List (Nat×SV)}{H:Hp}{G:Gr}{a:Act}{w:World}{Q:Exit→Act→World→Prop}{K:List Fr}{pos:Pos}{ops:Array Oper}{o:Oper}{rest:List Oper}{pre:World→Prop}
theorem VE (h:∀(i:Nat) (e:A6),H[i]?=some (some e)→e.mut=false)(b:Nat):(keys H G).contains b=false:=by
 cases hz:(keys H G).contains b with
 |false=>rfl
 |true=>
  obtain⟨i,e',L,q1,q2,_⟩:=mem_keys.1 hz
  rw [h i e' q1]at q2;cases q2
end
abbrev EG (x:SV)(r:Rg)(at_:Int)(p:SV):List SV:=[x,.int .i64 (r 0),.int .i64 (r 1),.int .i64 (r 2),.int .i64 (r 3),.int .i64 (r 4),.int .i64 (r 5),.int .i64 (r 6),.int .i64 (r 7),.int .i64 at_,p]
section
variable {P:Program}{Y:Tb}{n:Nat}{ks:List Nat}{G0:Gr}{w0:World}{T:List (Nat×SV)}{H:Hp}{G:Gr}{a:Act}{w:World}{ops:Array Oper}{o:Oper}{rest:List Oper}{Q:Exit→Act→World→Prop}{K:List Fr}{pos:Pos}
theorem PG {x y:Operand}{ty i:Nat}{j v at_:Int}{r:Rg}{s1 s2:SV}{ti:TI}(hX:Y.ok P=true)(jG:o.op=.store ty x y)(hg:iY ops T o.guard=some .run)(hx:jR T x=some (.ix (.ptr i 1) 1 8 j 0))(hy:jR T y=some (.int .i64 v))(hH:lg H i=some (some (.blk (EG s1 r at_ s2))))(kO:Y.get ty=some ti)(jS:ti.row=none)(jD:ti.one=true)(hj:0≤j∧j<8):
  Aw P n ops ks G0 w0 T H o (.tup []) (Br H i (some (.blk (EG s1 (BA r j.toNat v) at_ s2)))):=fun G a w A=>by
 have hw:=An (gd:=none) A hg
 obtain⟨d,op,ty',pos,af,gd⟩:=o
 simp only at jG
 subst jG
 have jB:=A.ev hx
 have jN:=A.ev hy
 have key:∀k:Nat,j=(k:Int)→(∀q:List SV,sp (1+k) (EG s1 r at_ s2) [.int .i64 v]=some q→q=EG s1 (BA r j.toNat v) at_ s2→BG P ops {dst:=d,op:=.store ty x y,type:=ty',pos:=pos,after:=af,guard:=gd} a w fun v' w'=>∃F,den (G++F) (.tup [])=some v'∧Ms (Br H i (some (.blk (EG s1 (BA r j.toNat v) at_ s2)))) ks G0 w0 (G++F) w'):=by
  intro k hk q hr e
  rw [hk,B8 (q:=1+k) k (by omega)]at jB
  have hs:Cu ⟨Y,true⟩ H ty (.ptr i (1+k)) (.int .i64 v)=some (i,q,[]):=by
   have ht:Tx.get ⟨Y,true⟩ ty=some ti:=kO
   simp only [Cu,hH,ht,jS,jD,hr]
   rfl
  refine DF (X:=⟨Y,true⟩) hX A hs iT jB jN rfl rfl hw fun cs L vs' w' a1 a2 a3 a4 a5=>⟨[],rfl,?_⟩
  subst e
  simpa using (A.turn a1 a2 a3 a4 a5).ms
 rcases ZL hj with rfl|rfl|rfl|rfl|rfl|rfl|rfl|rfl
 ·exact key 0 rfl _ rfl rfl
 ·exact key 1 rfl _ rfl rfl
 ·exact key 2 rfl _ rfl rfl
 ·exact key 3 rfl _ rfl rfl
 ·exact key 4 rfl _ rfl rfl
 ·exact key 5 rfl _ rfl rfl
 ·exact key 6 rfl _ rfl rfl
 ·exact key 7 rfl _ rfl rfl
theorem PH {x:Operand}{ty i:Nat}{j at_:Int}{r:Rg}{s1 s2:SV}{ti:TI}(hX:Y.ok P=true)(jG:o.op=.load ty x)(hg:iY ops T o.guard=some .run)(hx:jR T x=some (.ix (.ptr i 1) 1 8 j 0))(hH:lg H i=some (some (.blk (EG s1 r at_ s2))))(kO:Y.get ty=some ti)(jS:ti.row=none)(jD:ti.one=true)(hj:0≤j∧j<8):
  Aw P n ops ks G0 w0 T H o (.int .i64 (r j.toNat)) H:=fun G a w A=>by
 have hw:=An (gd:=none) A hg
 obtain⟨d,op,ty',pos,af,gd⟩:=o
 simp only at jG
 subst jG
 have jB:=A.ev hx
 have key:∀k:Nat,j=(k:Int)→(lg (EG s1 r at_ s2) (1+k)=some (.int .i64 (r j.toNat)))→BG P ops {dst:=d,op:=.load ty x,type:=ty',pos:=pos,after:=af,guard:=gd} a w fun v' w'=>∃F,den (G++F) (.int .i64 (r j.toNat))=some v'∧Ms H ks G0 w0 (G++F) w':=by
  intro k hk hr
  rw [hk,B8 (q:=1+k) k (by omega)]at jB
  have hs:Do ⟨Y,true⟩ H ty (.ptr i (1+k))=some (.int .i64 (r j.toNat),[]):=by
   have ht:Tx.get ⟨Y,true⟩ ty=some ti:=kO
   simp only [Do,FH,hH,Jb,CZ,ht,jS,jD,hr,cond_true]
  obtain⟨z,hz,h3⟩:=EP (X:=⟨Y,true⟩) (P:=P) (ops:=ops) (d:=d) (ty:=ty') (pos:=pos) (af:=af) (gd:=gd) (x:=x) hX A hs jB
  exact h3 (fun p hp=>by cases hp) rfl hw _ ⟨[],by simpa using hz,by simpa using A.ms⟩
 rcases ZL hj with rfl|rfl|rfl|rfl|rfl|rfl|rfl|rfl
 ·exact key 0 rfl rfl
 ·exact key 1 rfl rfl
 ·exact key 2 rfl rfl
 ·exact key 3 rfl rfl
 ·exact key 4 rfl rfl
 ·exact key 5 rfl rfl
 ·exact key 6 rfl rfl
 ·exact key 7 rfl rfl
theorem Sy.takeK (A:Sy n T H ks G0 w0 G a w){L:Loc}{en:A6}(nG:Ae G w (some L) en)(pI:en.mut=true)(hn:∀(i:Nat) (e:A6) (M:Loc),H[i]?=some (some e)→G[i]?=some (some M)→¬e.empty→M.b≠L.b)(ho:ks.contains L.b=true∨w0.heap.size≤L.b):
  Sy n T (H++[some en]) ks G0 w0 (G++[some L]) a w:=by
 have hlen:=A.mem.len
 have hold:∀(i:Nat) (x:A6),(H++[some en])[i]?=some (some x)→(H[i]?=some (some x)∧i<H.length)∨(i=H.length∧x=en):=by
  intro i x h
  by_cases hi:i<H.length
  ·rw [List.getElem?_append_left hi]at h;exact .inl ⟨h,hi⟩
  ·rw [List.getElem?_append_right (by omega)]at h
   have:i - H.length=0:=by
    cases hq:i - H.length with
    |zero=>rfl
    |succ k=>rw [hq]at h;simp at h
   rw [this]at h
   simp at h
   exact .inr ⟨by omega,h.symm⟩
 have hG:∀i,i<H.length→(G++[some L])[i]?=G[i]?:=fun i hi=>List.getElem?_append_left (by omega)
 have kA:(G++[some L])[H.length]?=some (some L):=by rw [List.getElem?_append_right (by omega),hlen];simp
 refine⟨A.size,A.defers,fun q x hx=>AP _ x (A.get q x hx),⟨by simp [hlen],?_,?_⟩,?_,?_,A.mix⟩
 ·intro i x h
  rcases hold i x h with⟨h1,h2⟩|⟨rfl,rfl⟩
  ·rw [hG i h2];exact(A.mem.ent i x h1).more _
  ·rw [kA];exact nG.more _
 ·intro i j x y M N jV h1 h2 h3 h4 h5 h6
  rcases hold i x h1 with⟨k1,k2⟩|⟨rfl,rfl⟩
  ·rw [hG i k2]at h4
   rcases hold j y h2 with⟨k3,k4⟩|⟨rfl,rfl⟩
   ·rw [hG j k4]at h5;exact A.mem.sep i j x y M N jV k1 k3 h3 h4 h5 h6
   ·rw [kA]at h5;cases h5;exact hn i x M k1 h4 (At h3)
  ·rw [kA]at h4;cases h4
   rcases hold j y h2 with⟨k3,k4⟩|⟨rfl,rfl⟩
   ·rw [hG j k4]at h5;exact fun z=>hn j y N k3 h5 h6 z.symm
   ·exact absurd rfl jV
 ·obtain⟨F,hF⟩:=A.pre;exact⟨F++[some L],by rw [hF,List.append_assoc]⟩
 ·intro i x M h1 h2 h3
  rcases hold i x h1 with⟨k1,k2⟩|⟨rfl,rfl⟩
  ·rw [hG i k2]at h3;exact A.own i x M k1 h2 h3
  ·rw [kA]at h3;cases h3;exact ho
end
abbrev DX (ps:List Int):Nat→List SV:=fun j=>[.int .i64 (ps.getD j 0)]
theorem Tq (ps:List Int):∀k,∃vs,AE [] (DX ps k)=some vs∧vs.length=1:=fun k=>⟨_,rfl,rfl⟩
def J7 (pb:Option (Nat×Nat))(n:Nat):Value:=match pb with
 |none=>.slice none 0 0
 |some q=>.slice (some ⟨q.1,0,none⟩) n q.2
def F4 (pb:Option (Nat×Nat)):List Nat:=match pb with
 |none=>[]
 |some q=>[q.1]
def Wr (pb:Option (Nat×Nat))(ps:List Int)(w:World):Prop:=match pb with
 |none=>ps=[]
 |some q=>Bm 3 1 ps.length (DX ps) q.1 q.2 w
structure FQ (L:Loc)(cs:List SV)(pb:Option (Nat×Nat))(ps:List Int)(w:World):Prop where
 blk:∃vs,AE [] cs=some vs∧DR w L.b (L.pre++(vs++[J7 pb ps.length])++L.post).toArray L.t
 path:Wr pb ps w
 ne:∀q,pb=some q→q.1≠L.b
theorem Fh {G:Gr}{x:SV}{v:Value}(hx:den G x=some v):∀{l:List SV} {vs:List Value},AE G l=some vs→AE G (l++[x])=some (vs++[v])
 | [],vs,h=>by cases h;exact Az hx rfl
 |y::l,vs,h=>by
  obtain⟨u,ws,h1,h2,rfl⟩:=Au h
  exact Az h1 (Fh hx h2)
section
variable {P:Program}{Y:Tb}{n:Nat}{ks:List Nat}{G0:Gr}{w0:World}{T:List (Nat×SV)}{H:Hp}{G:Gr}{a:Act}{w:World}{ops:Array Oper}{o:Oper}{rest:List Oper}{Q:Exit→Act→World→Prop}{K:List Fr}{pos:Pos}
theorem Sy.takeT (A:Sy n T H ks G0 w0 G a w)(t:Nat){L:Loc}{cs:List SV}{pb:Option (Nat×Nat)}{ps:List Int}(ho:FQ L cs pb ps w)(jM:I3 H G (L.b::F4 pb))(jX:∀b,(L.b::F4 pb).contains b=true→ks.contains b=true∨w0.heap.size≤b)(ht:look T t=some (E3 L.b L.pre.length)):
  ∃p,Sy n ((t,.ptr (H.length+1) 0)::T) (H++[some (.row 3 1 ps.length 0 (DX ps))]++[some (.blk (cs++[.sl H.length ps.length 0]))]) ks G0 w0 (G++[p]++[some L]) a w∧∀M:Loc,p=some M→(F4 pb).contains M.b=true:=by
 have hlen:=A.mem.len
 obtain⟨vs,oP,hb⟩:=ho.blk
 have fin:∀(p:Option Loc) (A1:Sy n T (H++[some (.row 3 1 ps.length 0 (DX ps))]) ks G0 w0 (G++[p]) a w) (hp:∀M:Loc,p=some M→M.b≠L.b) (hd:den (G++[p]) (.sl H.length ps.length 0)=some (J7 pb ps.length)),Sy n ((t,.ptr (H.length+1) 0)::T) (H++[some (.row 3 1 ps.length 0 (DX ps))]++[some (.blk (cs++[.sl H.length ps.length 0]))]) ks G0 w0 (G++[p]++[some L]) a w:=by
  intro p A1 hp hd
  have A2:=A1.takeK (L:=L) (en:=.blk (cs++[.sl H.length ps.length 0])) ⟨L,_,rfl,Fh hd (by simpa using Al (G++[p]) cs oP),hb⟩ rfl (fun i e M h1 h2 h3=>by
   by_cases hi:i<H.length
   ·rw [List.getElem?_append_left hi]at h1
    rw [List.getElem?_append_left (by omega)]at h2
    have:=jM i e M h1 h2 h3
    intro z;rw [z]at this;simp at this
   ·have mB:i=H.length:=by
     have:=(List.getElem?_eq_some_iff.1 h1).1
     simp at this;omega
    subst mB
    rw [List.getElem?_append_right (by omega),hlen]at h2
    simp at h2
    exact hp M h2) (jX L.b (by simp))
  refine A2.slotEq t ht ?_
  unfold den
  rw [List.getElem?_append_right (by simp;omega)]
  simp [hlen]
 cases hpb:pb with
 |none=>
  subst hpb
  have pD:ps=[]:=ho.path
  subst pD
  refine⟨none,fin none (A.nilPlace 3 1 _ (Tq _)) (fun M h=>by cases h) ?_,fun M h=>by cases h⟩
  unfold den
  rw [List.getElem?_append_right (by omega),hlen]
  simp [rm,J7]
 | some q=>
  subst hpb
  obtain⟨p1,xs,p2,p3⟩:Bm 3 1 ps.length (DX ps) q.1 q.2 w:=ho.path
  have A1:=A.takeK (L:=⟨q.1,[],List.replicate q.2 undef,3⟩) (en:=.row 3 1 ps.length 0 (DX ps)) ⟨p1,fun L hL=>by cases hL;rfl,xs,p2,by simpa [rm]using p3⟩ rfl (fun i e M h1 h2 h3=>by
   have:=jM i e M h1 h2 h3
   intro z;rw [z]at this;simp [F4]at this) (jX q.1 (by simp [F4]))
  refine⟨_,fin _ A1 (fun M h=>by cases h;exact ho.ne q rfl) ?_,fun M h=>by cases h;simp [F4]⟩
  unfold den
  rw [List.getElem?_append_right (by omega),hlen]
  simp [rm,J7]
theorem Sy.giveT (A:Sy n T H ks G0 w0 G a w)(i q:Nat){cs:List SV}{ps:List Int}{L:Loc}{vs:List Value}(j0:G[i]?=some (some L))(hi:lg H i=some (some (.blk (cs++[.sl q ps.length 0]))))(hq:lg H q=some (some (.row 3 1 ps.length 0 (DX ps))))(nW:Nat.beq i q=false)(lT:AE [] cs=some vs):
  ∃pb,FQ L cs pb ps w∧∀b,(F4 pb).contains b=true→ks.contains b=true∨w0.heap.size≤b:=by
 have jF:i≠q:=fun e=>by subst e;rw [Nat.beq_refl]at nW;cases nW
 rw [Ah]at hi hq
 obtain⟨L',us,p1,p2,p3⟩:=A.mem.ent i _ hi
 rw [j0]at p1
 cases p1
 obtain⟨h1,h2,xs,h3,h4⟩:=A.mem.ent q _ hq
 have hu:∀v,den G (.sl q ps.length 0)=some v→us=vs++[v]:=fun v hv=>by
  have:=Fh hv (by simpa using Al G cs lT)
  rw [this]at p2;exact(Option.some.inj p2).symm
 have nil:(G[q]?).getD none=none→∃pb,FQ L cs pb ps w∧∀b,(F4 pb).contains b=true→ks.contains b=true∨w0.heap.size≤b:=fun hz=>by
  rw [hz]at h4
  have pD:ps=[]:=by
   rcases h4.2 with⟨_,h⟩|⟨g,cap,cur,h,_⟩
   ·exact List.eq_nil_of_length_eq_zero (by omega)
   ·cases h
  subst pD
  refine⟨none,⟨⟨vs,lT,?_⟩,rfl,fun q h=>by cases h⟩,fun b h=>by simp [F4]at h⟩
  have i7:q<G.length:=by rw [←A.mem.len];exact(List.getElem?_eq_some_iff.1 hq).1
  have mC:G[q]?=some none:=by
   rw [List.getElem?_eq_getElem i7]at hz⊢
   simpa using hz
  rw [hu (.slice none 0 0) (by unfold den;rw [mC];simp [rm])]at p3
  exact p3
 cases hz:G[q]? with
 |none=>exact nil (by rw [hz];rfl)
 | some p=>
  cases p with
  |none=>exact nil (by rw [hz];rfl)
  | some M=>
   rw [hz]at h2 h4
   have jT:M.pre=[]:=h2 M rfl
   have qC:w.ownsRow 0 3 1 (.slice (some ⟨M.b,0,none⟩) ps.length (0+rm (some M))) ps.length xs:=by
    have:(Option.map (fun L:Loc=>(⟨L.b,L.pre.length,none⟩:Addr)) (some M))=some ⟨M.b,0,none⟩:=by simp [jT]
    rw [←this];exact h4
   refine⟨some (M.b,0+rm (some M)),⟨⟨vs,lT,?_⟩,⟨h1,xs,h3,qC⟩,fun q' h=>?_⟩,fun b h=>?_⟩
   ·rw [hu (.slice (some ⟨M.b,0,none⟩) ps.length (0+rm (some M))) (by unfold den;rw [hz];simp [jT])]at p3
    exact p3
   ·cases h;exact fun z=>A.mem.sep i q _ _ L M jF hi hq rfl j0 hz (fun h=>h) z.symm
   ·have:b=M.b:=by simpa [F4]using h
    subst this
    exact A.own q _ M hq rfl hz
theorem Sy.moveT (A:Sy n T H ks G0 w0 G a w)(i q:Nat){cs:List SV}{e s m:Nat}{f:Nat→List SV}{H':Hp}(hi:lg H i=some (some (.blk (cs++[.sl q m 0]))))(hq:lg H q=some (some (.row e s m 0 f)))(nW:Nat.beq i q=false)(hH:Br (Br H q none++[some (.row e s m 0 f)]) i (some (.blk (cs++[.sl H.length m 0])))=H'):
  ∃p,Sy n T H' ks G0 w0 (G++[p]) a w:=by
 have jF:i≠q:=fun e=>by subst e;rw [Nat.beq_refl]at nW;cases nW
 rw [Ah]at hi hq
 have kW:=(List.getElem?_eq_some_iff.1 hi).1
 have uF:=(List.getElem?_eq_some_iff.1 hq).1
 have hlen:=A.mem.len
 have nT:(Br H q none).length=H.length:=by rw [Ag];simp
 have B:=A.hide q
 obtain⟨h1,h2,xs,h3,h4⟩:=A.mem.ent q _ hq
 have tR:lg (Br H q none++[some (A6.row e s m 0 f)]) i=some (some (.blk (cs++[.sl q m 0]))):=by
  rw [Ah,List.getElem?_append_left (by omega),Ag,List.getElem?_set_ne (Ne.symm jF)];exact hi
 have fin:∀p,(G[q]?).getD none=p→Sy n T (Br H q none++[some (.row e s m 0 f)]) ks G0 w0 (G++[p]) a w→Sy n T H' ks G0 w0 (G++[p]) a w:=fun p hp A2=>by
  refine A2.cellEq i (cs:=cs++[.sl q m 0]) (cs':=cs++[.sl H.length m 0]) tR (IX ?_ cs []) hH
  have mC:G[q]?=some p:=by
   rw [List.getElem?_eq_getElem (by omega)]at hp⊢
   simpa using hp
  unfold den
  rw [List.getElem?_append_right (by omega),List.getElem?_append_left (by omega),mC,hlen]
  simp
 cases hz:(G[q]?).getD none with
 | none=>
  rw [hz]at h4
  have hm:m=0:=by
   rcases h4.2 with⟨_,h⟩|⟨g,cap,cur,h,_⟩
   ·omega
   ·cases h
  subst hm
  exact⟨none,fin none hz (B.nilPlace e s f h1)⟩
 | some M=>
  have mC:G[q]?=some (some M):=by
   rw [List.getElem?_eq_getElem (by omega)]at hz⊢
   simpa using hz
  refine⟨some M,fin (some M) hz (B.takeK (L:=M) (en:=.row e s m 0 f) (by have:=A.mem.ent q _ hq;rw [hz]at this;exact this) rfl (fun j x N g1 g2 g3=>?_) (A.own q _ M hq rfl mC))⟩
  rw [Ag]at g1
  by_cases hj:j=q
  ·subst hj;rw [List.getElem?_set_self uF]at g1;cases g1
  ·rw [List.getElem?_set_ne (Ne.symm hj)]at g1
   exact fun z=>A.mem.sep q j _ x M N (Ne.symm hj) hq g1 rfl mC g2 g3 z.symm
theorem Ws {b q0 s:Nat}{f:Nat→List SV}(t:Nat){H':Hp}(h0:AK (some ⟨b,q0,none⟩) s 1 f w0 ks)(A:Sy n T H ks G0 w0 G a w)(ht:look T t=some (E3 b q0))(hH:H++[some (.lst s 1 f)]=H')(k:∀{G},Sy n ((t,.el H.length s 0 0)::T) H' ks G0 w0 G a w→Goal P Q K pos a w):Goal P Q K pos a w:=by
 subst hH
 have A1:=A.adoptB (bo:=some (b,q0)) h0 (by decide) t ht (fun z hz=>by cases hz)
 have hlen:=A.mem.len
 have A2:=A1.slotEq t (x:=E3 b q0) (y:=.el H.length s 0 0) (by show look ((t,E3 b q0)::T) t=_;unfold look;rw [Nat.beq_refl];rfl) (by
  unfold den
  rw [List.getElem?_append_right (by omega),hlen]
  simp [DZ])
 refine k ⟨A2.size,A2.defers,fun q x hx=>A2.get q x ?_,A2.mem,A2.pre,A2.own,A2.mix⟩
 unfold look at hx⊢
 cases hb:Nat.beq t q with
 |true=>rw [hb]at hx;exact hx
 |false=>rw [hb]at hx;show look _ _=_;unfold look;rw [hb];exact hx
abbrev PJ (x:SV)(r:Rg)(at_:Int):List SV:=[x,.int .i64 (r 0),.int .i64 (r 1),.int .i64 (r 2),.int .i64 (r 3),.int .i64 (r 4),.int .i64 (r 5),.int .i64 (r 6),.int .i64 (r 7),.int .i64 at_]
theorem VF (t:Nat) {L:Loc} {cs:List SV} {pb:Option (Nat×Nat)} {ps:List Int} {H':Hp} (A:Sy n T [] (L.b::F4 pb) G0 w0 G a w) (ho:FQ L cs pb ps w) (ht:look T t=some (E3 L.b L.pre.length)) (hH:[some (.row 3 1 ps.length 0 (DX ps)),some (.blk (cs++[.sl 0 ps.length 0]))]=H')
  (k:∀{G},Sy n ((t,.ptr 1 0)::T) H' (L.b::F4 pb) G0 w0 G a w→G[1]?=some (some L)→(∀b,(keys H' G).contains b=true→(L.b::F4 pb).contains b=true∨w.heap.size≤b)→Goal P Q K pos a w):Goal P Q K pos a w:=by
 subst hH
 have hG:G=[]:=List.eq_nil_of_length_eq_zero (by rw [←A.mem.len];rfl)
 subst hG
 obtain⟨p,A1,hp⟩:=A.takeT t ho (fun i e M h=>by simp at h) (fun b hb=>.inl hb) ht
 refine k A1 rfl (fun b hb=>.inl ?_)
 obtain⟨i,en,M,g1,g2,g3,g4⟩:=mem_keys.1 hb
 match i,g1,g3 with
 |1,g1,g3=>cases g3;subst g4;simp
 |0,g1,g3=>
  have h:=hp M (by simpa using g3)
  subst g4
  rw [List.contains_cons,h,Bool.or_true]
 |i+2,g1,g3=>simp at g1
theorem VG (i q:Nat){cs:List SV}{e s m:Nat}{f:Nat→List SV}{H':Hp}(A:Sy n T H ks G0 w0 G a w)(hi:lg H i=some (some (.blk (cs++[.sl q m 0]))))(hq:lg H q=some (some (.row e s m 0 f)))(nW:Nat.beq i q=false)(hH:Br (Br H q none++[some (.row e s m 0 f)]) i (some (.blk (cs++[.sl H.length m 0])))=H')(k:∀{G},Sy n T H' ks G0 w0 G a w→Goal P Q K pos a w):Goal P Q K pos a w:=by
 obtain⟨p,A1⟩:=A.moveT i q hi hq nW hH
 exact k A1
end
def cL (ao:Option Addr)(s:Nat)(j:Int)(q:Nat):Option Addr:=ao.map fun a=>⟨a.block,a.off+j.toNat*s+q,none⟩
section
variable {P:Program}{Y:Tb}{n:Nat}{ks:List Nat}{G0:Gr}{w0:World}{T:List (Nat×SV)}{H:Hp}{G:Gr}{a:Act}{w:World}{ops:Array Oper}{o:Oper}{Q:Exit→Act→World→Prop}{K:List Fr}{pos:Pos}
theorem dY {x:Operand}{t fi s off nn:Nat}{j:Int}{ao:Option Addr}{f:Nat→List SV}(jG:o.op=.fieldAddr t x fi)(hg:iY ops T o.guard=some .run)(hx:jR T x=some (.v (.pointer (P8 ao s j))))(h0:AK ao s nn f w0 ks)(hj:0≤j∧j<((nn:Nat):Int))(hf:C2 P t fi=some off):
  Aw P n ops ks G0 w0 T H o (.v (.pointer (cL ao s j off))) H:=fun G a w A=>by
 rcases h0.2 with q|⟨b,q,rfl,_⟩
 ·omega
 have hw:=An (gd:=none) A hg
 obtain⟨d,op,ty,pos,af,gd⟩:=o
 simp only at jG
 subst jG
 have jB:=A.ev hx
 unfold den at jB
 simp only [Option.some.injEq]at jB
 exact DS hw jB.symm hf ⟨[],rfl,by simpa using A.ms⟩
theorem Kx {x:Operand}{ty s nn q:Nat}{j:Int}{ao:Option Addr}{f:Nat→List SV}{r:List SV}{v:SV}{z:Value}(hX:Y.ok P=true)(jG:o.op=.load ty x)(hg:iY ops T o.guard=some .run)(hx:jR T x=some (.v (.pointer (cL ao s j q))))(h0:AK ao s nn f w0 ks)(hj:0≤j∧j<((nn:Nat):Int))(hr:f j.toNat=r)(hc:CZ ⟨Y,true⟩ ty r q=some v)(hv:den [] v=some z):
  Aw P n ops ks G0 w0 T H o v H:=fun G a w A=>by
 have h1:=AK.ok w0 ks w ks h0 A.mix (fun b hb=>.inl hb)
 rcases h1.2 with q|⟨b,q',rfl,_,_,h4⟩
 ·omega
 have hw:=An (gd:=none) A hg
 obtain⟨d,op,ty,pos,af,gd⟩:=o
 simp only at jG
 subst jG
 have jB:=A.ev hx
 unfold den at jB
 simp only [Option.some.injEq]at jB
 obtain⟨vs,v1,v2⟩:=h4 j.toNat (by omega)
 rw [hr]at v1
 have v3:AE G r=some vs:=by simpa using Al G r v1
 have v4:den G v=some z:=by simpa using AP G v hv
 exact Eg (X:=⟨Y,true⟩) hX hc v3 v4 v2 hw jB.symm ⟨[],by simpa using v4,by simpa using A.ms⟩
theorem iB (p:Prop)(h1:p→Goal P Q K pos a w)(h2:¬p→Goal P Q K pos a w):Goal P Q K pos a w:=(Classical.em p).elim h1 h2
end
section
variable {P:Program}{n:Nat}{ks:List Nat}{G0:Gr}{w0:World}{T:List (Nat×SV)}{L:List Oper}{xs:List SV}{ef:List Nat}{tb:List (List Nat×List Nat×Hp)}{c rs:List Nat}{H:Hp}{bs:List Bool}{o:Oper}{l:List Oper}{i:Nat}
end
section
variable {P:Program}{n:Nat}{ks:List Nat}{G0:Gr}{w0:World}{T:List (Nat×SV)}{H:Hp}{G:Gr}{a:Act}{w:World}{l:List Oper}{Q:Exit→Act→World→Prop}{K:List Fr}{id:Nat}
end
end Go.Proofs.YtbbdanhpphlbpaaGreatDoor
namespace Go.Proofs.YtbbdanhpphlbpaaGreatDoor.Mc
open Go.RowKit
def Q5:List Int:=[0,1,56,2,57,49,28,3,61,58,42,50,38,29,17,4,62,47,59,36,45,43,51,22,53,39,33,30,24,18,12,5,63,55,48,27,60,41,37,16,46,35,44,21,52,32,23,11,54,26,40,15,34,20,31,10,25,14,19,9,13,8,7,6]
abbrev iC:Option Addr:=some ⟨3,0,none⟩
abbrev Hj:Dd:=AK iC 1 64 (fun j=>[.int .u8 (Q5.getD j 0)])
section
variable {P:Program}{Y:Tb}{n:Nat}{ks:List Nat}{G0:Gr}{w0:World}{T:List (Nat×SV)}{H:Hp}{G:Gr}{a:Act}{w:World}{ops:Array Oper}{o:Oper}
theorem dZ {x y:Operand}{t nn e s b q:Nat}{j:Int}(jG:o.op=.indexAddr t x y)(hg:iY ops T o.guard=some .run)(hx:jR T x=some (E3 b q))(hy:jR T y=some (.int .u64 j))(ht:LN P t nn e s=true)(hj:0≤j∧j<((nn:Nat):Int)):
  Aw P n ops ks G0 w0 T H o (.v (.pointer (cL (some ⟨b,q,none⟩) s j 0))) H:=fun G a w A=>by
 have hw:=An (gd:=none) A hg
 obtain⟨d,op,ty,pos,af,gd⟩:=o
 simp only at jG
 subst jG
 have jB:=A.ev hx
 have jN:=A.ev hy
 unfold den at jB jN
 simp only [Option.some.injEq]at jB jN
 refine AR (v:=.pointer (some ⟨b,q+j.toNat*s,none⟩)) hw ?_ ⟨[],rfl,by simpa using A.ms⟩
 have hq:(Instr.indexAt t (.pointer (some ⟨b,q,none⟩)) (.int .u64 j)).run P w=.ok (.pointer (some ⟨b,q+j.toNat*s,none⟩)) w:=by
  unfold Instr.indexAt
  simp only [asIntOf,Sem.run_bind,Sem.run_pure,Result.andThen_ok,run_underlying (Cv ht).1,if_pos hj,C3 (Cv ht).2,Int.toNat_natCast,Addr.add_mid,Instr.sureAddr]
 unfold execOp
 simp only [jB.symm,jN.symm,Sem.run_bind,hq,Sem.run_pure,Result.andThen_ok]
end
theorem wrap_u64 (x:Int):IntKind.wrap .u64 x=x % 18446744073709551616:=by
 simp only [IntKind.wrap,IntKind.signed,IntKind.bits];simp
theorem ZU {x:Int}:0≤Int.fdiv (IntKind.wrap .u64 x) (2^min ((58:Int)).toNat (IntKind.bits .u64))∧Int.fdiv (IntKind.wrap .u64 x) (2^min ((58:Int)).toNat (IntKind.bits .u64))<((64:Nat):Int):=by
 rw [wrap_u64]
 have e:(2:Int)^min ((58:Int)).toNat (IntKind.bits .u64)=288230376151711744:=by rfl
 rw [e,Int.fdiv_eq_ediv_of_nonneg _ (by decide)]
 omega
end Go.Proofs.YtbbdanhpphlbpaaGreatDoor.Mc
namespace Go.Proofs.YtbbdanhpphlbpaaGreatDoor.Mc
open Go.RowKit
set_option simprocs false
def ZV (v1:Int):Int:=(Int.fdiv (IntKind.wrap .u64 ((IntKind.wrap .u64 ((((BitVec.ofInt (IntKind.bits .u64) v1)&&&(BitVec.ofInt (IntKind.bits .u64) (IntKind.wrap .u64 (0 - v1)))).toNat:Nat):Int))*285870213051353865)) (2^min (58:Int).toNat (IntKind.bits .u64)))
theorem Q6 (v1:Int):0≤ZV v1∧ZV v1<((64:Nat):Int):=ZU
def ZW (v1:Int):Int:=if v1=0 then 64 else IntKind.wrap .i64 (Q5.getD (ZV v1).toNat 0)
abbrev kK (m k:Int):Int:=IntKind.wrap .i64 ((((BitVec.ofInt (IntKind.bits .i64) (Int.fdiv m (2^min (k).toNat (IntKind.bits .i64))))&&&(BitVec.ofInt (IntKind.bits .i64) 1)).toNat:Nat):Int)
def Lu (m:Int):Nat→Int
 |0=>0
 |k+1=>Lu m k+kK m (k:Int)
theorem IZ (m k:Int):0≤kK m k∧kK m k≤1:=by
 have h:∀x:BitVec (IntKind.bits .i64),(x&&&BitVec.ofInt (IntKind.bits .i64) 1).toNat≤1:=fun x=>by
  rw [BitVec.toNat_and];exact Nat.and_le_right
 unfold kK
 have:=h (BitVec.ofInt (IntKind.bits .i64) (Int.fdiv m (2^min (k).toNat (IntKind.bits .i64))))
 rw [GU (by omega)];omega
theorem Ia (m:Int):∀k:Nat,0≤Lu m k∧Lu m k≤(k:Int)
 |0=>by unfold Lu;omega
 |k+1=>by have h1:=Ia m k;have h2:=IZ m (k:Int);unfold Lu;omega
def OS (o s:Int):Prop:=(o=0∧s=1)∨(o=1∧s=1)∨(o=2∧s=1)∨(o=3∧s=1)∨(o=4∧s=1)∨(o=5∧s=1)∨(o=6∧s=1)∨(o=7∧s=1)∨(o=0∧s=2)∨(o=2∧s=2)∨(o=4∧s=2)∨(o=6∧s=2)∨(o=0∧s=4)∨(o=4∧s=4)∨(o=0∧s=8)
abbrev Bf (o s:Int):Int:=A7 (AU o 0 s) s
theorem ZX {o s:Int}(h:OS o s):ZW (IntKind.wrap .u64 (Bf o s))=o:=by
 rcases h with⟨rfl,rfl⟩|⟨rfl,rfl⟩|⟨rfl,rfl⟩|⟨rfl,rfl⟩|⟨rfl,rfl⟩|⟨rfl,rfl⟩|⟨rfl,rfl⟩|⟨rfl,rfl⟩|⟨rfl,rfl⟩|⟨rfl,rfl⟩|⟨rfl,rfl⟩|⟨rfl,rfl⟩|⟨rfl,rfl⟩|⟨rfl,rfl⟩|⟨rfl,rfl⟩<;>decide+kernel
theorem Wt {o s:Int}(h:OS o s):Lu (Bf o s) 8=s:=by
 rcases h with⟨rfl,rfl⟩|⟨rfl,rfl⟩|⟨rfl,rfl⟩|⟨rfl,rfl⟩|⟨rfl,rfl⟩|⟨rfl,rfl⟩|⟨rfl,rfl⟩|⟨rfl,rfl⟩|⟨rfl,rfl⟩|⟨rfl,rfl⟩|⟨rfl,rfl⟩|⟨rfl,rfl⟩|⟨rfl,rfl⟩|⟨rfl,rfl⟩|⟨rfl,rfl⟩<;>decide+kernel
theorem ZY {o s:Int}(h:OS o s):s=1∨s=2∨s=4∨s=8:=by unfold OS at h;omega
theorem Gt {o s:Int}(h:OS o s):0≤o∧o≤7:=by unfold OS at h;omega
theorem ZZ (v1:Int):Bi (Hj) Tryz.prog 215 [.int .u64 v1] [] (Rt (.int .i64 (ZW v1)) []):=
 Ab (n:=14) (by kernel_rfl) Tryz.func215 rfl rfl rfl fun G w a h0 hI A=>M hX 12 A rfl rfl fun A=>AN 4 A rfl
  (fun h1 A=>M hX 7 A rfl rfl fun A=>R9 A rfl h0 rfl (by unfold ZW;rw [if_pos h1]<;>rfl) rfl)
  (fun h1 A=>M hX 11 A rfl (iU (by omega)<|iT) fun A=>have A:=AB A 10 (.int .u64 (ZV v1)) rfl (fun _=>rfl);AW A rfl (dZ (nn:=64) (e:=5) rfl rfl rfl rfl (by kernel_rfl) (Q6 v1)) fun A=>AW A rfl (Kx (q:=0) (v:=.int .u8 (Q5.getD ((ZV v1)).toNat 0)) hX rfl rfl rfl hI (Q6 v1) rfl rfl rfl) fun A=>M hX 5 A rfl rfl fun A=>R9 A rfl h0 rfl (by unfold ZW;rw [if_neg h1]<;>rfl) rfl)
theorem iD (v1:Int):Bi (Hj) Tryz.prog 179 [.int .u64 v1] [] (Rt (.int .i64 (ZW v1)) []):=
 Ab (n:=8) (by kernel_rfl) Tryz.func179 rfl rfl rfl fun G w a h0 hI A=>M hX 12 A rfl rfl fun A=>I9 [] AK.ok hI (ZZ v1) A rfl fun A=>M hX 4 A rfl rfl fun A=>R9 A rfl h0 rfl rfl rfl
theorem Za (lc o s:Int)(hO:OS o s):Bi (Hj) Tryz.prog 139 [.agg [.int .i64 lc,.int .i64 (Bf o s)]] [] (Rt (.int .i64 o) []):=
 Ab (n:=7) (by kernel_rfl) Tryz.func139 rfl rfl rfl fun G w a h0 hI A=>N9 11 A rfl rfl fun A=>I9 [] AK.ok hI (iD (IntKind.wrap .u64 (Bf o s))) A rfl fun A=>N9 4 A rfl rfl fun A=>R9 A rfl h0 rfl (congrArg (SV.int .i64) (ZX hO)) rfl
theorem Wu (m:Int):Fn Tryz.prog 180 [.int .i64 m] [] (Rt (.int .i64 (Lu m 8)) []):=
 AG (n:=16) (by kernel_rfl) Tryz.func180 rfl rfl rfl fun G w a h0 A=>N9 17 A rfl rfl fun A=>Bk (fun(k:Nat)=>[(0,.int .i64 m),(2,.int .i64 0),(3,.int .i64 (Lu m k)),(5,.int .i64 (k:Int))]) (fun(k:Nat)=>[]) (fun(k:Nat)=>k≤8) (fun(k:Nat)=>8 - k) 0 (Nat.zero_le _) ((A.cut [0,2,3,5] rfl).trunc 0 rfl rfl rfl (iR h0 rfl)) fun k hK {G a w} A=>N9 6 A rfl rfl fun A=>AL 6 A rfl
   (fun h1 A=>N9 22 A rfl (iU (by have h1:=Ia m k;have h2:=IZ m (k:Int);unfold kK at h2;omega)<|iU (by have h1:=Ia m k;have h2:=IZ m (k:Int);unfold kK at h2;omega)<|iT) fun A=>N9 4 A rfl (iU (by have h1:=Ia m k;have h2:=IZ m (k:Int);unfold kK at h2;omega)<|iT) fun A=>⟨k+1,_,(by omega),(by omega),((A.cut [0,2,3,5] rfl).trunc 0 rfl rfl rfl (iR h0 rfl)).sayT (by rfl)⟩)
   (fun h1 A=>N9 10 A rfl rfl fun A=>R9 A rfl h0 rfl (by have:k=8:=(by omega);subst this;rfl) rfl)
theorem Zb (lc o s:Int)(hO:OS o s):Fn Tryz.prog 140 [.agg [.int .i64 lc,.int .i64 (Bf o s)]] [] (Rt (.int .i64 s) []):=
 AG (n:=6) (by kernel_rfl) Tryz.func140 rfl rfl rfl fun G w a h0 A=>N9 10 A rfl rfl fun A=>C9 [] (Wu (Bf o s)) A rfl fun A=>N9 4 A rfl rfl fun A=>R9 A rfl h0 rfl (congrArg (SV.int .i64) (Wt hO)) rfl
end Go.Proofs.YtbbdanhpphlbpaaGreatDoor.Mc
namespace Go.Proofs.YtbbdanhpphlbpaaGreatDoor
open Go.RowKit
section
variable {P:Program}{n:Nat}{ks:List Nat}{G0:Gr}{w0:World}{T:List (Nat×SV)}{H:Hp}{G:Gr}{a:Act}{w:World}{ops:Array Oper}{o:Oper}
theorem Eo {G:Gr}:∀{l m:List SV} {vs:List Value},AE G (l++m)=some vs→∃us ws,AE G l=some us∧AE G m=some ws∧vs=us++ws
 | [],m,vs,h=>⟨[],vs,rfl,h,rfl⟩
 |x::l,m,vs,h=>by
  obtain⟨v,us,h1,h2,rfl⟩:=Au h
  obtain⟨u1,u2,h3,h4,rfl⟩:=Eo h2
  exact⟨v::u1,u2,Az h1 h3,h4,rfl⟩
theorem EA {G G':Gr}{l:List SV}(h:Fw 0 l=true):AE G l=AE G' l:=by
 rw [←BH (G:=G) (k:=0) l h,←BH (G:=G') (k:=0) l h,List.take_zero,List.take_zero]
theorem Tt {I:Dd}{f i k:Nat}{args l b b' r:List SV}{x:SV}{H':Hp}(hI:I.OK)(h0:I w0 ks)(hf:Bi I P f (.ptr 0 0::args) [some (.blk b)] (Rt x [some (.blk b')]))(h1:BS n ops T o=some (f,.ptr i k::args))(hi:lg H i=some (some (.blk (l++b++r))))(hk:l.length=k)(lR:(Fw 0 args&&Fw 0 b&&Fw 0 b'&&JX 0 x)=true)(hH:Br H i (some (.blk (l++b'++r)))=H'):Aw P n ops ks G0 w0 T H o x H':=fun G a w A=>by
 subst hH;subst hk
 simp only [Bool.and_eq_true]at lR
 obtain⟨⟨⟨c1,c2⟩,c3⟩,c4⟩:=lR
 obtain⟨hd,us,hu,lK⟩:=Cb (P:=P) (ops:=ops) A h1 hf.1
 rw [Ah]at hi
 obtain⟨L,vs,p1,p2,p3⟩:=A.mem.ent i _ hi
 have j0:G[i]?=some (some L):=by
  cases hz:G[i]? with
  |none=>rw [hz]at p1;cases p1
  |some p=>rw [hz]at p1;simp only [Option.getD_some]at p1;rw [p1]
 obtain⟨v12,vr,e12,er,rfl⟩:=Eo p2
 obtain⟨vl,vb,el,eb,rfl⟩:=Eo e12
 have oQ:=Av el
 have lN:Mem [some (.blk b)] [some (⟨L.b,L.pre++vl,vr++L.post,L.t⟩:Loc)] w:=by
  refine⟨rfl,fun j e hj=>?_,fun j q e f M N xK h1 h2=>?_⟩
  ·match j,hj with
   |0,hj=>cases hj;exact⟨_,vb,rfl,by rw [EA (G':=G) c2];exact eb,by simpa [List.append_assoc]using p3⟩
   |j+1,hj=>simp at hj
  ·match j,q,h1,h2 with
   |0,0,_,_=>exact absurd rfl xK
   |j+1,_,h1,_=>simp at h1
   |0,q+1,_,h2=>simp at h2
 have mN:keys [some (A6.blk b)] [some (⟨L.b,L.pre++vl,vr++L.post,L.t⟩:Loc)]=[L.b]:=rfl
 have xL:I w (keys [some (A6.blk b)] [some (⟨L.b,L.pre++vl,vr++L.post,L.t⟩:Loc)]):=hI _ _ _ _ h0 A.mix fun c hc=>by
  have:c=L.b:=by simpa [mN]using hc
  subst this;exact A.own i _ L hi rfl j0
 have j6:AE [some (⟨L.b,L.pre++vl,vr++L.post,L.t⟩:Loc)] (.ptr 0 0::args)=some us:=by
  obtain⟨v,vs2,q1,q2,rfl⟩:=Au hu
  refine Az ?_ (by rw [EA (G':=G) c1];exact q2)
  unfold den at q1⊢
  rw [j0]at q1
  rw [←q1]
  simp [oQ]
 refine lK (hf.2 _ w us lN xL j6) ?_
 rintro en w' ⟨y,H2,Fr,v,⟨rfl,rfl⟩,d1,rfl,l7,jL,_,_,_⟩
 have hF:Fr=[]:=by
  have:=l7.len
  cases Fr with
  |nil=>rfl
  |cons _ _=>simp at this
 subst hF
 obtain⟨L2,vb',q1,q2,q3⟩:=l7.ent 0 _ rfl
 cases q1
 rw [mN]at jL
 have hx:den G y=some v:=by
  have e:AE G [y]=AE ([some (⟨L.b,L.pre++vl,vr++L.post,L.t⟩:Loc)]++[]) [y]:=EA (by unfold Fw;rw [c4];rfl)
  have e2:AE ([some (⟨L.b,L.pre++vl,vr++L.post,L.t⟩:Loc)]++[]) [y]=some [v]:=Az d1 rfl
  rw [e2]at e
  obtain⟨v',ws,g1,g2,g3⟩:=Au e
  cases g2;cases g3;exact g1
 have kW:i<H.length:=(List.getElem?_eq_some_iff.1 hi).1
 have hold:∀(j:Nat) (e:A6),(Br H i (some (.blk (l++b'++r))))[j]?=some (some e)→(j≠i∧H[j]?=some (some e))∨(j=i∧e=.blk (l++b'++r)):=by
  intro j e h
  rw [Ag]at h
  by_cases hj:j=i
  ·subst hj;rw [List.getElem?_set_self kW]at h;cases h;exact .inr ⟨rfl,rfl⟩
  ·rw [List.getElem?_set_ne (Ne.symm hj)]at h;exact .inl ⟨hj,h⟩
 refine⟨v,rfl,[],by rw [List.append_nil];exact hx,?_⟩
 rw [List.append_nil]
 refine⟨⟨by rw [Ag];simpa using A.mem.len,?_,?_⟩,A.pre,?_,A.mix.mix jL fun c hc hk=>?_⟩
 ·intro j e h
  rcases hold j e h with⟨k1,k2⟩|⟨rfl,rfl⟩
  ·refine(A.mem.ent j e k2).mix jL fun jF M hM=>?_
   have tD:G[j]?=some (some M):=by
    cases hq:G[j]? with
    |none=>rw [hq]at hM;cases hM
    |some p=>rw [hq]at hM;simp at hM;rw [hM]
   have:=A.mem.sep i j _ e L M (Ne.symm k1) hi k2 rfl j0 tD jF
   simp;exact fun e=>this e.symm
  ·rw [j0]
   refine⟨L,vl++vb'++vr,rfl,B9 (B9 el ?_) er,by simpa [List.append_assoc]using q3⟩
   rw [EA (G':=[some (⟨L.b,L.pre++vl,vr++L.post,L.t⟩:Loc)]++[]) c3];exact q2
 ·intro j q e f M N kQ h1 h2 h3 h4 h5 h6
  have a1:∃e',H[j]?=some (some e')∧e'.mut=e.mut:=by
   rcases hold j e h1 with⟨_,k2⟩|⟨rfl,rfl⟩
   ·exact⟨e,k2,rfl⟩
   ·exact⟨_,hi,rfl⟩
  have a2:∃e',H[q]?=some (some e')∧¬e'.empty:=by
   rcases hold q f h2 with⟨_,k2⟩|⟨rfl,rfl⟩
   ·exact⟨f,k2,h6⟩
   ·exact⟨_,hi,fun h=>h⟩
  obtain⟨e',b1,b2⟩:=a1
  obtain⟨f',b3,b4⟩:=a2
  exact A.mem.sep j q e' f' M N kQ b1 b3 (by rw [b2];exact h3) h4 h5 b4
 ·intro j e M h1 h2 h3
  rcases hold j e h1 with⟨_,k2⟩|⟨rfl,rfl⟩
  ·exact A.own j e M k2 h2 h3
  ·exact A.own j _ M hi rfl h3
 ·cases hq:[L.b].contains c with
  |false=>rfl
  |true=>
   have:c=L.b:=by simpa using hq
   subst this
   rcases A.own i _ L hi rfl j0 with h|h
   ·rw [h]at hk;cases hk
   ·omega
end
abbrev Wv (r:Rg):List SV:=[.int .i64 (r 0),.int .i64 (r 1),.int .i64 (r 2)]
theorem YW {j:Int}(h:0≤j∧j<3):j=0∨j=1∨j=2:=by omega
section
variable {P:Program}{Y:Tb}{n:Nat}{ks:List Nat}{G0:Gr}{w0:World}{T:List (Nat×SV)}{H:Hp}{G:Gr}{a:Act}{w:World}{ops:Array Oper}{o:Oper}
theorem eA {x y:Operand}{ty i:Nat}{j v:Int}{r:Rg}{ti:TI}(hX:Y.ok P=true)(jG:o.op=.store ty x y)(hg:iY ops T o.guard=some .run)(hx:jR T x=some (.ix (.ptr i 0) 1 3 j 0))(hy:jR T y=some (.int .i64 v))(hH:lg H i=some (some (.blk (Wv r))))(kO:Y.get ty=some ti)(jS:ti.row=none)(jD:ti.one=true)(hj:0≤j∧j<3):
  Aw P n ops ks G0 w0 T H o (.tup []) (Br H i (some (.blk (Wv (BA r j.toNat v))))):=fun G a w A=>by
 have hw:=An (gd:=none) A hg
 obtain⟨d,op,ty',pos,af,gd⟩:=o
 simp only at jG
 subst jG
 have jB:=A.ev hx
 have jN:=A.ev hy
 have key:∀k:Nat,j=(k:Int)→(∀q:List SV,sp (0+k) (Wv r) [.int .i64 v]=some q→q=Wv (BA r j.toNat v)→BG P ops {dst:=d,op:=.store ty x y,type:=ty',pos:=pos,after:=af,guard:=gd} a w fun v' w'=>∃F,den (G++F) (.tup [])=some v'∧Ms (Br H i (some (.blk (Wv (BA r j.toNat v))))) ks G0 w0 (G++F) w'):=by
  intro k hk q hr e
  rw [hk,B8 (q:=0+k) k (by omega)]at jB
  have hs:Cu ⟨Y,true⟩ H ty (.ptr i (0+k)) (.int .i64 v)=some (i,q,[]):=by
   have ht:Tx.get ⟨Y,true⟩ ty=some ti:=kO
   simp only [Cu,hH,ht,jS,jD,hr]
   rfl
  refine DF (X:=⟨Y,true⟩) hX A hs iT jB jN rfl rfl hw fun cs L vs' w' a1 a2 a3 a4 a5=>⟨[],rfl,?_⟩
  subst e
  simpa using (A.turn a1 a2 a3 a4 a5).ms
 rcases YW hj with rfl|rfl|rfl
 ·exact key 0 rfl _ rfl rfl
 ·exact key 1 rfl _ rfl rfl
 ·exact key 2 rfl _ rfl rfl
theorem Zc {x:Operand}{ty i:Nat}{j:Int}{r:Rg}{ti:TI}(hX:Y.ok P=true)(jG:o.op=.load ty x)(hg:iY ops T o.guard=some .run)(hx:jR T x=some (.ix (.ptr i 0) 1 3 j 0))(hH:lg H i=some (some (.blk (Wv r))))(kO:Y.get ty=some ti)(jS:ti.row=none)(jD:ti.one=true)(hj:0≤j∧j<3):
  Aw P n ops ks G0 w0 T H o (.int .i64 (r j.toNat)) H:=fun G a w A=>by
 have hw:=An (gd:=none) A hg
 obtain⟨d,op,ty',pos,af,gd⟩:=o
 simp only at jG
 subst jG
 have jB:=A.ev hx
 have key:∀k:Nat,j=(k:Int)→(lg (Wv r) (0+k)=some (.int .i64 (r j.toNat)))→BG P ops {dst:=d,op:=.load ty x,type:=ty',pos:=pos,after:=af,guard:=gd} a w fun v' w'=>∃F,den (G++F) (.int .i64 (r j.toNat))=some v'∧Ms H ks G0 w0 (G++F) w':=by
  intro k hk hr
  rw [hk,B8 (q:=0+k) k (by omega)]at jB
  have hs:Do ⟨Y,true⟩ H ty (.ptr i (0+k))=some (.int .i64 (r j.toNat),[]):=by
   have ht:Tx.get ⟨Y,true⟩ ty=some ti:=kO
   simp only [Do,FH,hH,Jb,CZ,ht,jS,jD,hr,cond_true]
  obtain⟨z,hz,h3⟩:=EP (X:=⟨Y,true⟩) (P:=P) (ops:=ops) (d:=d) (ty:=ty') (pos:=pos) (af:=af) (gd:=gd) (x:=x) hX A hs jB
  exact h3 (fun p hp=>by cases hp) rfl hw _ ⟨[],by simpa using hz,by simpa using A.ms⟩
 rcases YW hj with rfl|rfl|rfl
 ·exact key 0 rfl rfl
 ·exact key 1 rfl rfl
 ·exact key 2 rfl rfl
end
end Go.Proofs.YtbbdanhpphlbpaaGreatDoor
namespace Go.Proofs.YtbbdanhpphlbpaaGreatDoor.Mc
open Go.RowKit
set_option simprocs false
theorem Zd (m:Nat→Int)(lc:Int)(hl:0≤lc∧lc<3):Fn Tryz.prog 78 [.ptr 0 0,.int .i64 lc] [some (.blk [.int .i64 (m 0),.int .i64 (m 1),.int .i64 (m 2)])] (Rt (.int .i64 (m lc.toNat)) [some (.blk [.int .i64 (m 0),.int .i64 (m 1),.int .i64 (m 2)])]):=
 AG (n:=16) (by kernel_rfl) Tryz.func78 rfl rfl rfl fun G w a h0 A=>N9 16 A rfl rfl fun A=>fork 10 A rfl
  (fun h1 A=>absurd h1 (by simp;omega))
  (fun h1 A=>N9 9 A rfl (iU (by omega)<|iT) fun A=>AW A rfl (Zc (r:=m) hX rfl rfl rfl rfl rfl rfl rfl (by omega)) fun A=>N9 4 A rfl rfl fun A=>R9 A rfl h0 rfl rfl rfl)
theorem Q7 (m:Nat→Int)(lc o s:Int)(hl:0≤lc∧lc<3)(hO:OS o s):Bi (Hj) Tryz.prog 108 [.ptr 0 0,.agg [.int .i64 lc,.int .i64 (Bf o s)]] [some (.blk [.int .i64 (m 0),.int .i64 (m 1),.int .i64 (m 2)])] (Rt (.int .i64 (Ak (m lc.toNat) o s)) [some (.blk [.int .i64 (m 0),.int .i64 (m 1),.int .i64 (m 2)])]):=
 Ab (n:=14) (by kernel_rfl) Tryz.func108 rfl rfl rfl fun G w a h0 hI A=>N9 7 A rfl rfl fun A=>Hh BK [.ptr 0 0,.ptr 1 0,.int .i64 lc,.int .i64 (m (lc).toNat),.agg [.int .i64 lc,.int .i64 (Bf o s)],.int .i64 o,.agg [.int .i64 lc,.int .i64 (Bf o s)],.int .i64 s,.int .i64 (Ak (m (lc).toNat) o s),.int .i64 (Ak (m (lc).toNat) o s)] [3] [] 0 [([],[],[some (.blk [.int .i64 (m 0),.int .i64 (m 1),.int .i64 (m 2)]),some (.blk [.int .i64 lc,.int .i64 (Bf o s)])]),([3],[],[some (.blk [.int .i64 (m 0),.int .i64 (m 1),.int .i64 (m 2)]),some (.blk [.int .i64 lc,.int .i64 (Bf o s)])])] [[true,true,true,true,true,false,true,false,false,false],[false,true,false,false,true,true,true,true,true,true]] A rfl rfl rfl rfl (by kernel_rfl) rfl (by kernel_rfl) ⟨⟨iV 0 rfl rfl,⟨iV 0 rfl rfl,⟨iV 0 rfl rfl,⟨BT 1 rfl (DV [0] (Zd m lc hl) rfl rfl rfl rfl rfl rfl rfl),⟨iV 0 rfl rfl,⟨iV 0 rfl rfl,trivial⟩⟩⟩⟩⟩⟩,⟨⟨iV 1 rfl rfl,⟨iV 1 rfl rfl,⟨BT 1 rfl (C8 [] AK.ok hI (Za lc o s hO) rfl rfl rfl rfl rfl rfl rfl),⟨iV 1 rfl rfl,⟨BT 1 rfl (CG rfl rfl (Zb lc o s hO)),⟨BT 1 rfl (CG rfl rfl (Wn (m (lc).toNat) o s (ZY hO) (Gt hO))),⟨iV 1 rfl rfl,trivial⟩⟩⟩⟩⟩⟩⟩,trivial⟩⟩ fun A=>N9 2 A rfl rfl fun A=>R9 A rfl h0 rfl rfl rfl
theorem Tu (m:Nat→Int)(lc o s v:Int)(hl:0≤lc∧lc<3)(hO:OS o s):Bi (Hj) Tryz.prog 106 [.ptr 0 0,.agg [.int .i64 lc,.int .i64 (Bf o s)],.int .i64 v] [some (.blk [.int .i64 (m 0),.int .i64 (m 1),.int .i64 (m 2)])] (Rt (.tup []) [some (.blk [.int .i64 ((BA m lc.toNat (A8 (m lc.toNat) o s v)) 0),.int .i64 ((BA m lc.toNat (A8 (m lc.toNat) o s v)) 1),.int .i64 ((BA m lc.toNat (A8 (m lc.toNat) o s v)) 2)])]):=
 Ab (n:=31) (by kernel_rfl) Tryz.func106 rfl rfl rfl fun G w a h0 hI A=>N9 18 A rfl rfl fun A=>fork 13 A rfl
  (fun h1 A=>absurd h1 (by simp;omega))
  (fun h1 A=>N9 3 A rfl rfl fun A=>Hh BK [.ptr 0 0,.ptr 1 0,.int .i64 lc,.ptr 0 0,.ptr 1 0,.int .i64 lc,.ptr 0 0,.ix (.ptr 0 0) 1 3 lc 0,.int .i64 (m (lc).toNat),.agg [.int .i64 lc,.int .i64 (Bf o s)],.int .i64 o,.agg [.int .i64 lc,.int .i64 (Bf o s)],.int .i64 s,.int .i64 v,.int .i64 (A8 (m (lc).toNat) o s v),.ptr 0 0,.ix (.ptr 0 0) 1 3 lc 0,.tup []] [17] [] 0 [([],[],[some (.blk [.int .i64 (m 0),.int .i64 (m 1),.int .i64 (m 2)]),some (.blk [.int .i64 lc,.int .i64 (Bf o s)])]),([17],[],[some (.blk [.int .i64 ((BA m (lc).toNat (A8 (m (lc).toNat) o s v)) 0),.int .i64 ((BA m (lc).toNat (A8 (m (lc).toNat) o s v)) 1),.int .i64 ((BA m (lc).toNat (A8 (m (lc).toNat) o s v)) 2)]),some (.blk [.int .i64 lc,.int .i64 (Bf o s)])])] [[true,true,true,true,true,true,true,true,true,true,true,true,true,true,true,true,true,true],[false,false,false,false,false,false,false,false,false,false,false,false,false,false,false,true,false,false]] A rfl rfl rfl rfl (by kernel_rfl) rfl (by kernel_rfl) ⟨⟨iV 0 rfl rfl,⟨iV 0 rfl rfl,⟨iV 0 rfl rfl,⟨iV 0 rfl rfl,⟨iV 0 rfl rfl,⟨iV 0 rfl rfl,⟨iV 0 rfl rfl,⟨iV 0 rfl (iU (by omega)<|iT),⟨BT 0 rfl (Zc (r:=m) hX rfl rfl rfl rfl rfl rfl rfl (by omega)),⟨iV 0 rfl rfl,⟨BT 0 rfl (C8 [] AK.ok hI (Za lc o s hO) rfl rfl rfl rfl rfl rfl rfl),⟨iV 0 rfl rfl,⟨BT 0 rfl (CG rfl rfl (Zb lc o s hO)),⟨iV 0 rfl rfl,⟨BT 0 rfl (CG rfl rfl (Wo (m (lc).toNat) o s v (ZY hO) (Gt hO))),⟨iV 0 rfl rfl,⟨iV 0 rfl (iU (by omega)<|iT),⟨BT 1 rfl (eA (i:=0) (r:=m) hX rfl rfl rfl rfl rfl rfl rfl rfl (by omega)),trivial⟩⟩⟩⟩⟩⟩⟩⟩⟩⟩⟩⟩⟩⟩⟩⟩⟩⟩,⟨⟨iV 1 rfl rfl,trivial⟩,trivial⟩⟩ fun A=>Df (R9 A rfl h0 rfl rfl rfl))
end Go.Proofs.YtbbdanhpphlbpaaGreatDoor.Mc
namespace Go.Proofs.YtbbdanhpphlbpaaGreatDoor.Mc
open Go.RowKit
set_option simprocs false
def Hz (fn v1 a1 s1:Int):Int:=if fn=6 then BU a1 s1 else if fn=1 then BU (IntKind.wrap .i64 (v1+a1)) s1 else 0
theorem Ze (fn v1 a1 s1:Int)(hs:s1=1∨s1=2∨s1=4∨s1=8):Fn Tryz.prog 175 [.int .i64 fn,.int .i64 v1,.int .i64 a1,.int .i64 s1] [] (Rt (.int .i64 (Hz fn v1 a1 s1)) []):=
 AG (n:=22) (by kernel_rfl) Tryz.func175 rfl rfl rfl fun G w a h0 A=>M hX 18 A rfl rfl fun A=>AN 10 A rfl
  (fun h1 A=>M hX 5 A rfl rfl fun A=>C9 [] (OF a1 s1 hs) A rfl fun A=>M hX 4 A rfl rfl fun A=>R9 A rfl h0 rfl (by simp only [AX,nb,BY,BR,Hz,if_pos h1]) rfl)
  (fun h1 A=>M hX 7 A rfl rfl fun A=>AN 15 A rfl
   (fun h2 A=>M hX 7 A rfl rfl fun A=>C9 [] (OF (IntKind.wrap .i64 (v1+a1)) s1 hs) A rfl fun A=>M hX 4 A rfl rfl fun A=>R9 A rfl h0 rfl (by simp only [AX,nb,BY,BR,Hz,if_neg (h1),if_pos h2]) rfl)
   (fun h2 A=>M hX 10 A rfl rfl fun A=>R9 A rfl h0 rfl (by simp only [AX,nb,BY,BR,Hz,if_neg (h1),if_neg (h2)]) rfl))
def Fp (i:In)(old d:Int):Int:=if((i.op==4)||(i.op==6))=true then Hz i.fn old d i.sz else d
theorem eB (i:In)(old d:Int)(hs:i.sz=1∨i.sz=2∨i.sz=4∨i.sz=8):Fn Tryz.prog 133 [.agg (AS i),.int .i64 old,.int .i64 d] [] (Rt (.int .i64 (Fp i old d)) []):=
 AG (n:=17) (by kernel_rfl) Tryz.func133 rfl rfl rfl fun G w a h0 A=>N9 10 A rfl rfl fun A=>C9 [] (Kk i.op i.dst i.ra i.rb i.imm i.loc i.off i.ix i.sz i.fn i.acq i.weak i.rel i.pred i.succ i.to_ i.zero) A rfl fun A=>N9 2 A rfl rfl fun A=>fork 8 A rfl
  (fun h1 A=>N9 9 A rfl rfl fun A=>C9 [] (Ze i.fn old d i.sz hs) A rfl fun A=>N9 4 A rfl rfl fun A=>R9 A rfl h0 rfl (by unfold Fp;rw [if_pos h1]<;>rfl) rfl)
  (fun h1 A=>N9 10 A rfl rfl fun A=>R9 A rfl h0 rfl (by unfold Fp;rw [if_neg (ne_true_of_eq_false h1)]<;>rfl) rfl)
theorem Zf (m:Nat→Int)(lc:Int)(hl:¬(0≤lc∧lc<3)):Fn Tryz.prog 78 [.ptr 0 0,.int .i64 lc] [some (.blk [.int .i64 (m 0),.int .i64 (m 1),.int .i64 (m 2)])] (Rt (.int .i64 0) [some (.blk [.int .i64 (m 0),.int .i64 (m 1),.int .i64 (m 2)])]):=
 AG (n:=16) (by kernel_rfl) Tryz.func78 rfl rfl rfl fun G w a h0 A=>N9 16 A rfl rfl fun A=>fork 10 A rfl
  (fun h1 A=>N9 7 A rfl rfl fun A=>R9 A rfl h0 rfl rfl rfl)
  (fun h1 A=>absurd h1 (by simp;omega))
theorem eC (m:Nat→Int)(i:In)(lc o s d:Int)(hl:0≤lc∧lc<3)(hO:OS o s)(hs:i.sz=1∨i.sz=2∨i.sz=4∨i.sz=8)(hw:((i.op==5)||(i.op==6))=false):Bi (Hj) Tryz.prog 93 [.ptr 0 0,.agg (AS i),.agg [.int .i64 lc,.int .i64 (Bf o s)],.int .i64 d] [some (.blk [.int .i64 (m 0),.int .i64 (m 1),.int .i64 (m 2)])] (Rt (.int .i64 (Ak (m lc.toNat) o s)) [some (.blk [.int .i64 (m 0),.int .i64 (m 1),.int .i64 (m 2)])]):=
 Ab (n:=22) (by kernel_rfl) Tryz.func93 rfl rfl rfl fun G w a h0 hI A=>N9 11 A rfl rfl fun A=>I9 [0] AK.ok hI (Q7 m lc o s hl hO) A rfl fun A=>N9 7 A rfl rfl fun A=>C9 [] (IT i.op i.dst i.ra i.rb i.imm i.loc i.off i.ix i.sz i.fn i.acq i.weak i.rel i.pred i.succ i.to_ i.zero) A rfl fun A=>N9 2 A rfl rfl fun A=>fork 13 A rfl
  (fun h1 A=>absurd (hw.symm.trans h1) (by decide))
  (fun h1 A=>N9 10 A rfl rfl fun A=>R9 A rfl h0 rfl rfl rfl)
theorem eD (m:Nat→Int)(i:In)(lc o s d:Int)(hl:0≤lc∧lc<3)(hO:OS o s)(hs:i.sz=1∨i.sz=2∨i.sz=4∨i.sz=8)(hw:((i.op==5)||(i.op==6))=true):Bi (Hj) Tryz.prog 93 [.ptr 0 0,.agg (AS i),.agg [.int .i64 lc,.int .i64 (Bf o s)],.int .i64 d] [some (.blk [.int .i64 (m 0),.int .i64 (m 1),.int .i64 (m 2)])] (Rt (.int .i64 (Ak (m lc.toNat) o s)) [some (.blk [.int .i64 ((BA m lc.toNat (A8 (m lc.toNat) o s (Fp i (Ak (m lc.toNat) o s) d))) 0),.int .i64 ((BA m lc.toNat (A8 (m lc.toNat) o s (Fp i (Ak (m lc.toNat) o s) d))) 1),.int .i64 ((BA m lc.toNat (A8 (m lc.toNat) o s (Fp i (Ak (m lc.toNat) o s) d))) 2)])]):=
 Ab (n:=22) (by kernel_rfl) Tryz.func93 rfl rfl rfl fun G w a h0 hI A=>N9 11 A rfl rfl fun A=>I9 [0] AK.ok hI (Q7 m lc o s hl hO) A rfl fun A=>N9 7 A rfl rfl fun A=>C9 [] (IT i.op i.dst i.ra i.rb i.imm i.loc i.off i.ix i.sz i.fn i.acq i.weak i.rel i.pred i.succ i.to_ i.zero) A rfl fun A=>N9 2 A rfl rfl fun A=>fork 13 A rfl
  (fun h1 A=>N9 1 A rfl rfl fun A=>Aq hX BK [(5,.int .i64 (Fp i (Ak (m lc.toNat) o s) d))] [(6,.tup [],[some (.blk [.int .i64 ((BA m lc.toNat (A8 (m lc.toNat) o s (Fp i (Ak (m lc.toNat) o s) d))) 0),.int .i64 ((BA m lc.toNat (A8 (m lc.toNat) o s (Fp i (Ak (m lc.toNat) o s) d))) 1),.int .i64 ((BA m lc.toNat (A8 (m lc.toNat) o s (Fp i (Ak (m lc.toNat) o s) d))) 2)]),some (.blk (AS i)),some (.blk [.int .i64 lc,.int .i64 (Bf o s)])])] A rfl rfl rfl rfl (by kernel_rfl) ⟨C8 [0] AK.ok hI (Tu m lc o s (Fp i (Ak (m lc.toNat) o s) d) hl hO) rfl rfl rfl rfl rfl rfl rfl,trivial⟩ ⟨.inl ⟨_,_,rfl,rfl,eB i (Ak (m lc.toNat) o s) d hs⟩,trivial⟩ fun A=>N9 8 A rfl rfl fun A=>R9 A rfl h0 rfl rfl rfl)
  (fun h1 A=>absurd (hw.symm.trans h1) (by decide))
end Go.Proofs.YtbbdanhpphlbpaaGreatDoor.Mc
namespace Go.Proofs.YtbbdanhpphlbpaaGreatDoor.Mc
open Go.RowKit
set_option simprocs false
theorem OP (cp:Nat):Fn Tryz.prog 87 [.sla none (([]:List In).length) cp] [] (Rt (.sl 0 (([]:List In).length) 0) [some (.row 63 17 (([]:List In).length) 0 (fun zz=>CD (([]:List In).getD zz In.z)))]):=
 AG (n:=8) (by kernel_rfl) Tryz.func87 rfl rfl rfl fun G w a h0 A=>N9 9 A rfl rfl fun A=>We (r:=.tt) A rfl rfl rfl rfl rfl (e:=63) (by kernel_rfl) rfl fun A=>N9 9 A rfl rfl fun A=>have A:=A.nilRow 2 63 17 (fun zz=>CD (([]:List In).getD zz In.z)) rfl (fun z=>⟨_,rfl,rfl⟩);Mj hX [0] (x:=.sl 0 0 0) A ⟨rfl,rfl⟩ rfl rfl rfl rfl rfl rfl rfl rfl h0
theorem Tv (ad:Addr)(cp:Nat):Fn Tryz.prog 87 [.sla (some ad) (([]:List In).length) cp] [] (Rt (.sl 0 (([]:List In).length) 0) [some (.row 63 17 (([]:List In).length) 0 (fun zz=>CD (([]:List In).getD zz In.z)))]):=
 AG (n:=8) (by kernel_rfl) Tryz.func87 rfl rfl rfl fun G w a h0 A=>N9 9 A rfl rfl fun A=>We (r:=.ff) A rfl rfl rfl rfl rfl (e:=63) (by kernel_rfl) rfl fun A=>N9 9 A rfl rfl fun A=>dQ (e:=63) (s:=17) A rfl rfl rfl rfl rfl rfl (by kernel_rfl) fun A=>N9 4 A rfl rfl fun A=>have A:=A.rowAs 0 0 (fun zz=>CD (([]:List In).getD zz In.z)) rfl rfl (fun k hk=>by omega) (fun z=>⟨_,rfl,rfl⟩);Mj hX [0] (x:=.sl 0 0 0) A ⟨rfl,rfl⟩ rfl rfl rfl rfl rfl rfl rfl rfl h0
theorem Ty (l:List In)(ad:Addr)(cp:Nat)(hl:l.length≠0)(hn:l.length≤1000000):Bi (Em (some ad) l) Tryz.prog 87 [.sla (some ad) l.length cp] [] (Rt (.sl 0 l.length 0) [some (.row 63 17 l.length 0 (fun zz=>CD (l.getD zz In.z)))]):=
 Ab (n:=8) (by kernel_rfl) Tryz.func87 rfl rfl rfl fun G w a h0 hI A=>N9 9 A rfl rfl fun A=>We (r:=.ff) A rfl rfl rfl rfl rfl (e:=63) (by kernel_rfl) rfl fun A=>N9 9 A rfl rfl fun A=>Mp 6 hI hl A rfl rfl rfl rfl fun _ A=>WR hX l.length (fun zz=>CD (l.getD zz In.z)) A rfl rfl rfl rfl (Nat.le_refl _) (by omega) hn (by omega) (fun k hk=>by omega) (fun k hk=>by show CD _=CD _;rw [Nat.zero_add]) (fun z=>⟨_,rfl,rfl⟩) (fun k hk=>⟨_,rfl,iT⟩) fun A=>N9 4 A rfl rfl fun A=>Mj hX [2] (x:=.sl 0 l.length 0) A ⟨rfl,rfl⟩ rfl rfl rfl rfl rfl rfl rfl rfl h0
theorem M5 (l:List In)(ao:Option Addr)(cp:Nat)(hn:l.length≤1000000):Bi (Em ao l) Tryz.prog 87 [.sla ao l.length cp] [] (Rt (.sl 0 l.length 0) [some (.row 63 17 l.length 0 (fun zz=>CD (l.getD zz In.z)))]):=by
 by_cases h0:l.length=0
 ·have e:=List.eq_nil_of_length_eq_zero h0
  subst e
  cases ao with
  |none=>exact(OP cp).toI
  |some ad=>exact(Tv ad cp).toI
 ·cases ao with
  | none=>exact⟨(OP cp).1,fun G w vs hM hI hv=>by
    rcases hI.2 with h|⟨b,o,h,_⟩
    ·exact absurd h h0
    ·cases h⟩
  |some ad=>exact Ty l ad cp h0 hn
end Go.Proofs.YtbbdanhpphlbpaaGreatDoor.Mc
namespace Go.Proofs.YtbbdanhpphlbpaaGreatDoor.Mc
open Go.RowKit
set_option simprocs false
abbrev Du (x0:Int)(nm:List UInt8)(y0 y1 y2:Int)(rg:Nat→Nat→Int)(c:SV)(x1:Int)(k:SV):List SV:=[.int .i64 x0,.str nm,.int .i64 y0,.int .i64 y1,.int .i64 y2,.int .i64 (rg 0 0),.int .i64 (rg 0 1),.int .i64 (rg 0 2),.int .i64 (rg 0 3),.int .i64 (rg 0 4),.int .i64 (rg 0 5),.int .i64 (rg 0 6),.int .i64 (rg 0 7),.int .i64 (rg 1 0),.int .i64 (rg 1 1),.int .i64 (rg 1 2),.int .i64 (rg 1 3),.int .i64 (rg 1 4),.int .i64 (rg 1 5),.int .i64 (rg 1 6),.int .i64 (rg 1 7),.int .i64 (rg 2 0),.int .i64 (rg 2 1),.int .i64 (rg 2 2),.int .i64 (rg 2 3),.int .i64 (rg 2 4),.int .i64 (rg 2 5),.int .i64 (rg 2 6),.int .i64 (rg 2 7),c,.int .i64 x1,k]
def Ac (cs:List AD)(rg:Nat→Rg):List Th:=(List.range cs.length).map fun k=>EF (cs.getD k AD.z).l ⟨0,rg k⟩
theorem Lv {cs:List AD}{rg:Nat→Rg}:(Ac cs rg).length=cs.length:=by unfold Ac;simp
theorem Ib {cs:List AD}{rg:Nat→Rg}{k:Nat}(h:k<cs.length):(Ac cs rg).getD k Th.z=EF (cs.getD k AD.z).l ⟨0,rg k⟩:=by
 unfold Ac
 rw [List.getD_eq_getElem?_getD,List.getElem?_map,List.getElem?_range h]
 rfl
theorem Lw {cs:List AD}(h:∀c∈cs,E6 c.l){k:Nat}(hk:k<cs.length):E6 (cs.getD k AD.z).l:=h _ (by rw [List.getD_eq_getElem?_getD,List.getElem?_eq_getElem hk];exact List.getElem_mem hk)
theorem OQ {cs:List AD}{ao co:Option Addr}{cx cn cc:Nat}{rg:Nat→Rg}{x0 x1 y0 y1 y2:Int}{nm:List UInt8}{k:Nat}(h:k<3):CZ ⟨X,true⟩ 23 (Du x0 nm y0 y1 y2 rg (.sla ao cs.length cx) x1 (.sla co cn cc)) (5+k*8)=some (.agg [.int .i64 (rg k 0),.int .i64 (rg k 1),.int .i64 (rg k 2),.int .i64 (rg k 3),.int .i64 (rg k 4),.int .i64 (rg k 5),.int .i64 (rg k 6),.int .i64 (rg k 7)]):=by
 match k,h with
 |0,_=>rfl
 |1,_=>rfl
 |2,_=>rfl
theorem Ww {l:List AD}{x:AD}{m k:Nat}(hm:l.length=m)(h:k<m):(l++[x]).getD k AD.z=l.getD k AD.z:=by rw [List.getD_eq_getElem?_getD,List.getD_eq_getElem?_getD,List.getElem?_append_left (by omega)]
theorem Wx {l:List AD}{x:AD}{m:Nat}(hm:l.length=m):(l++[x]).getD m AD.z=x:=by subst hm;simp [List.getD]
structure NJ (cs:List AD)(N:Nat)(z:List AD×Nat)(w:World)(ks:List Nat):Prop where
 m:z.1.length=z.2
 le:z.2≤cs.length
 eq:∀k,k<z.2→(z.1.getD k AD.z).l=(cs.getD k AD.z).l
 at_:∀c∈z.1,c.lies w ks∧∀q:Addr,c.ao=some q→N≤q.block
theorem NJ.ok {cs:List AD}{N:Nat}{z:List AD×Nat}:Dd.OK (NJ cs N z):=fun w ks w' ks' h m hk=>⟨h.m,h.le,h.eq,fun c hc=>⟨AK.ok _ _ _ _ (h.at_ c hc).1 m hk,(h.at_ c hc).2⟩⟩
theorem NJ.i0 {cs:List AD}{N:Nat}{w:World}{ks:List Nat}:NJ cs N ([],0) w ks:=⟨rfl,Nat.zero_le _,fun k hk=>(by cases hk),fun c hc=>(by cases hc)⟩
theorem NJ.nx {cs:List AD}{N:Nat}{z:List AD×Nat}{w:World}{ks:List Nat}{ao:Option Addr}{cp:Nat}(h:NJ cs N z w ks)(i7:z.2<cs.length)(hl:AK ao 17 (cs.getD (((z.2:Nat):Int)).toNat AD.z).l.length (fun zz=>CD ((cs.getD (((z.2:Nat):Int)).toNat AD.z).l.getD zz In.z)) w ks)(hf:∀q:Addr,ao=some q→N≤q.block):NJ cs N (z.1++[(⟨ao,(cs.getD (((z.2:Nat):Int)).toNat AD.z).l,cp⟩:AD)],z.2+1) w ks:=by
 refine⟨by simp [h.m],by show z.2+1≤_;omega,fun k hk=>?_,fun c hc=>?_⟩
 ·by_cases e:k=z.2
  ·subst e;show((z.1++[_]).getD z.2 AD.z).l=_;rw [Wx h.m];rfl
  ·have jQ:k<z.2:=by have:k<z.2+1:=hk;omega
   show((z.1++[_]).getD k AD.z).l=_;rw [Ww h.m jQ];exact h.eq k jQ
 ·rcases List.mem_append.1 hc with hc|hc
  ·exact h.at_ c hc
  ·rw [List.mem_singleton]at hc;subst hc;exact⟨hl,hf⟩
theorem NJ.mv {cs:List AD}{N:Nat}{z:List AD×Nat}{w:World}{H H' l:Hp}{G:Gr}{m:List Nat}(h:NJ cs N z w (keys H G))(hlen:H.length=G.length)(h1:Ca H m=some l)(h2:Cm m H'=some l):NJ cs N z w (keys H' (AY m G)):=NJ.ok _ _ _ _ h (CR.refl _ _) (fun b hb=>.inl (BQ hlen h1 h2 b hb))
def Q8 (cs:List AD)(rg:Nat→Rg):SV→World→World→Prop:=fun x w w'=>∃(L:Loc) (bt cp:Nat) (cs':List AD),x=E3 L.b L.pre.length∧PE 125 10 cs.length (fun zz=>GJ (cs'.getD zz AD.z) ((Ac cs rg).getD zz Th.z)) L bt cp w.heap.size w'∧Ai cs' (Ac cs rg) cs.length∧(∀k,k<cs.length→(cs'.getD k AD.z).l=(cs.getD k AD.z).l)∧∀ks,(∀b,ks.contains b=true→b<w.heap.size∨b=L.b∨b=bt)→AH cs' w' ks
theorem Q9 {cs:List AD}{rg:Nat→Rg}{z:List AD×Nat}{w w':World}{ks:List Nat}{L:Loc}{bt cp:Nat}(kT:∀c∈cs,E6 c.l)(hz:NJ cs w.heap.size z w' ks)(mD:z.2=cs.length)(ho:PE 125 10 z.2 (fun zz=>GJ (z.1.getD zz AD.z) ((Ac cs rg).getD zz Th.z)) L bt cp w.heap.size w')(h1:ks.contains L.b=true)(h2:ks.contains bt=true):Q8 cs rg (E3 L.b L.pre.length) w w':=by
 have hm:=hz.m
 refine⟨L,bt,cp,z.1,rfl,by rw [←mD];exact ho,⟨by rw [Lv];omega,by omega,fun k hk=>?_,fun k hk=>?_⟩,fun k hk=>hz.eq k (by omega),fun ks' hk c hc=>?_⟩
 ·rw [hz.eq k (by omega)];exact Lw kT (by omega)
 ·rw [Ib (by omega),hz.eq k (by omega)];exact OH (Lw kT (by omega)) (Nat.zero_le _)
 ·obtain⟨h3,h4⟩:=hz.at_ c hc
  refine⟨h3.1,?_⟩
  rcases h3.2 with h|⟨b,o,e1,e2,e3,e4⟩
  ·exact .inl h
  ·refine .inr ⟨b,o,e1,e2,?_,e4⟩
   have hb:=h4 _ e1
   cases hq:ks'.contains b with
   |false=>rfl
   |true=>
    rcases hk b hq with h|h|h
    ·have:w.heap.size≤b:=hb;omega
    ·subst h;rw [h1]at e3;cases e3
    ·subst h;rw [h2]at e3;cases e3
theorem EW (cs:List AD)(ao:Option Addr)(cx:Nat)(rg:Nat→Rg)(x0 x1 y0 y1 y2:Int)(nm:List UInt8)(co:Option Addr)(cn cc:Nat)(kE:Km cs=0):MS Tryz.prog 53 [.agg (Du x0 nm y0 y1 y2 rg (.sla ao cs.length cx) x1 (.sla co cn cc))] [] [] (fun w=>AK ao 1 cs.length (fun zz=>He (cs.getD zz AD.z)) w []∧AH cs w []) (Q8 cs rg):=
 FN (n:=50) (by kernel_rfl) Tryz.func53 rfl rfl rfl (fun i e h=>by rw [List.getElem?_nil]at h;cases h) fun G w a h0 ho hp A=>have kT:=EE kE;N9 18 A rfl rfl fun A=>Mp 14 hp.1 (by omega) A rfl rfl rfl rfl fun _ A=>I9 [2] AH.ok hp.2 (IV cs cx (fun c hc=>Nat.le_trans (kT.2 c hc).n (by decide)) (fun hG hn=>TY cs cx (fun c hc=>Nat.le_trans (Gm hG c hc) (by decide)) (by omega))) A rfl fun A=>N9 15 A rfl rfl fun A=>Dc 20 A rfl
  (fun h1 A=>absurd kE h1)
  (fun h1 A=>N9 13 A rfl rfl fun A=>Mp 23 hp.1 (by omega) A rfl rfl rfl rfl fun _ A=>dR 1 125 10 (fun zz=>GJ (([]:List AD).getD zz AD.z) ((Ac cs rg).getD zz Th.z)) A rfl (fun z=>⟨_,rfl,rfl⟩) rfl fun A=>Ew (fun(z:List AD×Nat)=>[(1,.ptr 0 0),(3,.ptr 1 0),(23,.sl 2 cs.length cx),(24,.int .i64 ((cs.length:Nat):Int)),(25,.int .i64 ((z.2:Nat):Int))]) (fun(z:List AD×Nat)=>[some (.blk (Du x0 nm y0 y1 y2 rg (.sla ao cs.length cx) x1 (.sla co cn cc))),some (.blk [.sl 3 z.2 0]),some (Am cs),some (AZ z.1 (Ac cs rg) z.2)]) (fun z w' ks=>NJ cs w.heap.size z w' ks) (fun z=>cs.length - z.2) ([],0) ((A.cut [1,3,23,24,25] rfl).mv 0 [0,1,3,4] rfl rfl rfl rfl h0.symm) NJ.i0 fun z G a w hz lI A B=>have oL:=h0;have h0:=B.mem.len;N9 6 A rfl rfl fun A=>AL 26 A rfl
    (fun h2 A=>N9 6 A rfl rfl fun A=>have i7:z.2<cs.length:=(by omega);have pE:z.2<3:=(by omega);have jP:=(AH.ok.now B hp.2).at i7;N9 9 A rfl (iU (by have:=hz.le;omega)<|iU (by have:=hz.le;omega)<|iT) fun A=>Hh BK [.sla ((cs.getD ((((z.2:Nat):Int)).toNat) AD.z).ao) ((cs.getD ((((z.2:Nat):Int)).toNat) AD.z).l.length) ((cs.getD ((((z.2:Nat):Int)).toNat) AD.z).cp),.sl 4 ((cs.getD ((((z.2:Nat):Int)).toNat) AD.z).l.length) 0,.int .i64 ((z.2:Nat):Int),.ptr 0 5,.ix (.ptr 0 5) 8 3 ((z.2:Nat):Int) 0,.agg [.int .i64 (rg z.2 0),.int .i64 (rg z.2 1),.int .i64 (rg z.2 2),.int .i64 (rg z.2 3),.int .i64 (rg z.2 4),.int .i64 (rg z.2 5),.int .i64 (rg z.2 6),.int .i64 (rg z.2 7)],.agg [.sl 4 ((cs.getD ((((z.2:Nat):Int)).toNat) AD.z).l.length) 0,.z9,.int .i64 (rg z.2 0),.int .i64 (rg z.2 1),.int .i64 (rg z.2 2),.int .i64 (rg z.2 3),.int .i64 (rg z.2 4),.int .i64 (rg z.2 5),.int .i64 (rg z.2 6),.int .i64 (rg z.2 7)],.ptr 5 0,.tup []] [1,7,8] [4,5] 2 [([],[4,5],[some (.blk (Du x0 nm y0 y1 y2 rg (.sla ao cs.length cx) x1 (.sla co cn cc))),some (.blk [.sl 3 z.2 0]),some (Am cs),some (AZ z.1 (Ac cs rg) z.2),none,none]),([1],[5],[some (.blk (Du x0 nm y0 y1 y2 rg (.sla ao cs.length cx) x1 (.sla co cn cc))),some (.blk [.sl 3 z.2 0]),some (Am cs),some (AZ z.1 (Ac cs rg) z.2),some (.row 63 17 ((cs.getD ((((z.2:Nat):Int)).toNat) AD.z).l.length) 0 (fun zz=>CD ((cs.getD ((((z.2:Nat):Int)).toNat) AD.z).l.getD zz In.z))),none]),([7],[4],[some (.blk (Du x0 nm y0 y1 y2 rg (.sla ao cs.length cx) x1 (.sla co cn cc))),some (.blk [.sl 3 z.2 0]),some (Am cs),some (AZ z.1 (Ac cs rg) z.2),none,some (.blk [.sla none 0 0,.z9,.z9,.z9,.z9,.z9,.z9,.z9,.z9,.z9])]),([1,7],[],[some (.blk (Du x0 nm y0 y1 y2 rg (.sla ao cs.length cx) x1 (.sla co cn cc))),some (.blk [.sl 3 z.2 0]),some (Am cs),some (AZ z.1 (Ac cs rg) z.2),some (.row 63 17 ((cs.getD ((((z.2:Nat):Int)).toNat) AD.z).l.length) 0 (fun zz=>CD ((cs.getD ((((z.2:Nat):Int)).toNat) AD.z).l.getD zz In.z))),some (.blk [.sla none 0 0,.z9,.z9,.z9,.z9,.z9,.z9,.z9,.z9,.z9])]),([1,7,8],[],[some (.blk (Du x0 nm y0 y1 y2 rg (.sla ao cs.length cx) x1 (.sla co cn cc))),some (.blk [.sl 3 z.2 0]),some (Am cs),some (AZ z.1 (Ac cs rg) z.2),some (.row 63 17 ((cs.getD ((((z.2:Nat):Int)).toNat) AD.z).l.length) 0 (fun zz=>CD ((cs.getD ((((z.2:Nat):Int)).toNat) AD.z).l.getD zz In.z))),some (.blk [.sl 4 ((cs.getD ((((z.2:Nat):Int)).toNat) AD.z).l.length) 0,.z9,.int .i64 (rg z.2 0),.int .i64 (rg z.2 1),.int .i64 (rg z.2 2),.int .i64 (rg z.2 3),.int .i64 (rg z.2 4),.int .i64 (rg z.2 5),.int .i64 (rg z.2 6),.int .i64 (rg z.2 7)])])] [[true,true,true,true,true,true,false,true,false],[false,false,true,true,true,true,true,true,false],[true,true,true,true,true,true,false,false,false],[false,false,true,true,true,true,true,false,true],[false,false,false,false,false,false,false,false,false]] A rfl rfl rfl rfl (by kernel_rfl) rfl (by kernel_rfl) ⟨⟨iV 0 rfl rfl,⟨⟨_,_,_,_,1,rfl,rfl,rfl,rfl,Mx 4 (C8 [] AK.ok jP (M5 ((cs.getD ((((z.2:Nat):Int)).toNat) AD.z).l) ((cs.getD ((((z.2:Nat):Int)).toNat) AD.z).ao) ((cs.getD ((((z.2:Nat):Int)).toNat) AD.z).cp) (Nat.le_trans (Lw kT.2 i7).n (by decide))) rfl rfl rfl rfl rfl rfl rfl) rfl rfl (Mt h0 rfl) rfl rfl rfl rfl⟩,⟨iV 0 rfl rfl,⟨iV 0 rfl rfl,⟨iV 0 rfl (iU (by have:=hz.le;omega)<|iT),⟨BT 0 rfl (J5 (k:=z.2) hX rfl rfl rfl rfl (OQ pE)),⟨⟨_,_,_,_,2,rfl,rfl,rfl,rfl,Da 5 (X:=⟨_,true⟩) hX rfl rfl (Mt h0 rfl) rfl rfl rfl rfl⟩,trivial⟩⟩⟩⟩⟩⟩⟩,⟨⟨iV 1 rfl rfl,⟨iV 1 rfl rfl,⟨iV 1 rfl (iU (by have:=hz.le;omega)<|iT),⟨BT 1 rfl (J5 (k:=z.2) hX rfl rfl rfl rfl (OQ pE)),⟨iV 1 rfl rfl,⟨⟨_,_,_,_,3,rfl,rfl,rfl,rfl,Da 5 (X:=⟨_,true⟩) hX rfl rfl (Mt h0 rfl) rfl rfl rfl rfl⟩,trivial⟩⟩⟩⟩⟩⟩,⟨⟨iV 2 rfl rfl,⟨⟨_,_,_,_,3,rfl,rfl,rfl,rfl,Mx 4 (C8 [] AK.ok jP (M5 ((cs.getD ((((z.2:Nat):Int)).toNat) AD.z).l) ((cs.getD ((((z.2:Nat):Int)).toNat) AD.z).ao) ((cs.getD ((((z.2:Nat):Int)).toNat) AD.z).cp) (Nat.le_trans (Lw kT.2 i7).n (by decide))) rfl rfl rfl rfl rfl rfl rfl) rfl rfl (Mt h0 rfl) rfl rfl rfl rfl⟩,⟨iV 2 rfl rfl,⟨iV 2 rfl rfl,⟨iV 2 rfl (iU (by have:=hz.le;omega)<|iT),⟨BT 2 rfl (J5 (k:=z.2) hX rfl rfl rfl rfl (OQ pE)),trivial⟩⟩⟩⟩⟩⟩,⟨⟨iV 3 rfl rfl,⟨iV 3 rfl rfl,⟨iV 3 rfl (iU (by have:=hz.le;omega)<|iT),⟨BT 3 rfl (J5 (k:=z.2) hX rfl rfl rfl rfl (OQ pE)),⟨iV 3 rfl rfl,⟨BT 4 rfl (Aj (X:=⟨_,true⟩) (out:=.upd 5 [.sl 4 ((cs.getD ((((z.2:Nat):Int)).toNat) AD.z).l.length) 0,.z9,.int .i64 (rg z.2 0),.int .i64 (rg z.2 1),.int .i64 (rg z.2 2),.int .i64 (rg z.2 3),.int .i64 (rg z.2 4),.int .i64 (rg z.2 5),.int .i64 (rg z.2 6),.int .i64 (rg z.2 7)] _) hX rfl rfl),trivial⟩⟩⟩⟩⟩⟩,⟨trivial,trivial⟩⟩⟩⟩⟩ fun A=>N9 2 A rfl rfl fun A=>dT 4 5 (fun ao' cp'=>[some (.blk (Du x0 nm y0 y1 y2 rg (.sla ao cs.length cx) x1 (.sla co cn cc))),some (.blk [.sl 3 z.2 0]),some (Am cs),some (AZ z.1 (Ac cs rg) z.2),none,some (.blk (EV (.sla ao' ((cs.getD ((((z.2:Nat):Int)).toNat) AD.z).l.length) cp') 0 (rg z.2)))]) A rfl rfl rfl (fun _ _=>rfl) fun ao' cp' A hl l9=>have hz:=NJ.ok.now A hz;have l9:∀q:Addr,ao'=some q→_≤q.block:=fun q hq=>(l9 q hq).elim (fun h=>(B.keys_own _ h).elim (fun h=>by cases h) id) (fun h=>Nat.le_trans B.mix.size h);have B:=B.trans A;have A:=B.base;have h0:=B.mem.len;N9 1 A rfl rfl fun A=>I9 [5] AK.ok hl (Kw ((cs.getD ((((z.2:Nat):Int)).toNat) AD.z).l) ao' cp' (0:Int) (rg z.2) (Lw kT.2 i7) (by omega)) A rfl fun A=>N9 2 A rfl rfl fun A=>Aq hX BK [] [(7,.sl 7 (z.2+1) 0,[some (.blk (Du x0 nm y0 y1 y2 rg (.sla ao cs.length cx) x1 (.sla co cn cc))),some (.blk [.sl 3 z.2 0]),some (Am cs),none,none,some (.blk (EV (.sla ao' ((cs.getD ((((z.2:Nat):Int)).toNat) AD.z).l.length) cp') (((EF (cs.getD ((((z.2:Nat):Int)).toNat) AD.z).l ⟨((0:Int)).toNat,rg z.2⟩).at_:Nat):Int) ((EF (cs.getD ((((z.2:Nat):Int)).toNat) AD.z).l ⟨((0:Int)).toNat,rg z.2⟩).r))),some (.blk (EV (.sla ao' ((cs.getD ((((z.2:Nat):Int)).toNat) AD.z).l.length) cp') (((EF (cs.getD ((((z.2:Nat):Int)).toNat) AD.z).l ⟨((0:Int)).toNat,rg z.2⟩).at_:Nat):Int) ((EF (cs.getD ((((z.2:Nat):Int)).toNat) AD.z).l ⟨((0:Int)).toNat,rg z.2⟩).r))),some (.row 125 10 (z.2+1) 0 (fun zz=>GJ ((z.1++[(⟨ao',(cs.getD (((z.2:Nat):Int)).toNat AD.z).l,cp'⟩:AD)]).getD zz AD.z) ((Ac cs rg).getD zz Th.z)))])] A rfl rfl rfl rfl (by kernel_rfl) ⟨trivial,⟨Ll (i:=3) hX (z.2+1) (fun zz=>GJ ((z.1++[(⟨ao',(cs.getD (((z.2:Nat):Int)).toNat AD.z).l,cp'⟩:AD)]).getD zz AD.z) ((Ac cs rg).getD zz Th.z)) rfl rfl rfl rfl (by omega) rfl (fun k hk=>by show GJ _ _=GJ _ _;rw [Ww hz.m hk]) (by show GJ _ _=_;rw [Wx hz.m,Ib i7]<;>rfl) (fun z=>⟨_,rfl,rfl⟩),⟨trivial,trivial⟩⟩⟩ trivial fun A=>N9 6 A rfl (iU (by have:=hz.le;omega)<|iT) fun A=>⟨((z.1++[(⟨ao',(cs.getD (((z.2:Nat):Int)).toNat AD.z).l,cp'⟩:AD)]),z.2+1),_,(by show cs.length - (z.2+1)<cs.length - z.2;omega),((NJ.ok.now A hz).nx i7 (AK.ok.now A hl) l9).mv (m:=[0,1,2,7]) A.mem.len rfl rfl,(((B.trans A).cut [1,3,23,24,25] rfl).mv 0 [0,1,2,7] rfl rfl rfl rfl oL.symm)⟩)
    (fun h2 A=>N9 10 A rfl rfl fun A=>have mD:z.2=cs.length:=(by have:=hz.le;omega);match(B.trans A).giveCore 1 3 2 (by omega) rfl rfl rfl rfl with|⟨L,bt,cp,A',ho,mT,lE⟩=>kV hX A' rfl rfl rfl rfl (Q9 kT.2 (NJ.ok.now A hz) mD ho mT lE)))
end Go.Proofs.YtbbdanhpphlbpaaGreatDoor.Mc
namespace Go.Proofs.YtbbdanhpphlbpaaGreatDoor.Mc
open Go.RowKit
set_option simprocs false
theorem Ky {α:Type}(d:α)(cf:α→List SV)(s:Nat)(hs:∀x,(cf x).length=s)(lR:∀x,Fw 0 (cf x)=true)(jC:∀x,∃vs,AE [] (cf x)=some vs)(L:List α){b:Nat}{vs:List Value}{w:World}{ks:List Nat}(hl:Iv b 0 vs w ks)(hv:AE [] (L.flatMap cf)=some vs):AK (some ⟨b,0,none⟩) s L.length (fun zz=>cf (L.getD zz d)) w ks:=by
 refine⟨fun k=>jC _,.inr ⟨b,0,rfl,hl.1,hl.2.1,fun k hk=>?_⟩⟩
 obtain⟨r1,r2⟩:=Ff d cf s hs lR L k hk
 obtain⟨r3,r4⟩:=GS r1
 rw [Fu]at r3 r4
 have hd:AE [] (cf (L.getD k d))=some ((vs.drop (k*s)).take s):=by rw [r3];exact Bo s (Bp _ hv)
 refine⟨_,hd,fun q v hq=>?_⟩
 have i7:=(List.getElem?_eq_some_iff.1 hq).1
 simp only [List.length_take,List.length_drop]at i7
 rw [List.getElem?_take_of_lt (by omega),List.getElem?_drop]at hq
 have:=hl.2.2 _ v hq
 rwa [←Nat.add_assoc]at this
theorem M6 {I:Dd}{P:Program}{f:Nat}{args:List SV}{H H2:Hp}{x y:SV}(h:Bi I P f args H (Rt x H2))(e:∀{G},den G x=den G y):Bi I P f args H (Rt y H2):=⟨h.1,fun G w vs hM hI hv=>Calls.mono (h.2 G w vs hM hI hv) fun e' w' ⟨x',H',F,v,⟨q1,q2⟩,r⟩=>by subst q1;subst q2;exact⟨y,_,F,v,⟨rfl,rfl⟩,by rw [←e];exact r.1,r.2⟩⟩
end Go.Proofs.YtbbdanhpphlbpaaGreatDoor.Mc
