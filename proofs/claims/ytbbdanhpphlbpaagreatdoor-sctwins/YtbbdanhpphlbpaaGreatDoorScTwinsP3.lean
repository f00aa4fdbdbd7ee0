/- ScTwins, part 3: the engine, contracts, theory. -/
import Derived.Test.YtbbdanhpphlbpaaGreatDoorScTwinsP2
import Derived.Laws.Pointers
import Derived.Lib.LaidTab
set_option linter.unusedVariables false
set_option linter.unusedSimpArgs false
set_option linter.unusedSectionVars false
set_option maxRecDepth 100000
set_option maxHeartbeats 2000000
namespace Go.Proofs.YtbbdanhpphlbpaaGreatDoor
open Go.RowKit
theorem Ph {H:Hp}{G:Gr}{r:Nat}(h:H.length=G.length)(hb:Nat.ble H.length r=true):G.length≤r:=by rw [←h];exact ε1 hb
mutual
def RN (r:Nat):SV→Bool
 | .ptr i _=> !Nat.beq i r
 | .el i _ _ _=> !Nat.beq i r
 | .sl i _ _=> !Nat.beq i r
 | .agg l=>XM r l
 | .tup l=>XM r l
 | .fn _ l=>XM r l
 | .opt _ x=>RN r x
 | .ix p _ _ _ _=>RN r p
 | .sp p _ _=>RN r p
 | .st i _ _ _ _=> !Nat.beq i r
 |_=>true
def XM (r:Nat):List SV→Bool
 | []=>true
 |x::l=>RN r x&&XM r l
end
theorem M5 {D:List Nat}{i:Nat}(h:∀r∈D,(!Nat.beq i r)=true):i∉D:=fun hi=>by
 have:=h i hi
 rw [show Nat.beq i i=true from η7 i]at this
 cases this
mutual
theorem HD {G G':Gr}{D:List Nat}(e:∀i,i∉D→G'[i]?=G[i]?):∀(x:SV),(∀r∈D,RN r x=true)→den G' x=den G x
 | .ptr i _,h=>by unfold den;rw [e i (M5 h)]
 | .el i _ _ _,h=>by unfold den;rw [e i (M5 h)]
 | .sl i _ _,h=>by unfold den;rw [e i (M5 h)]
 | .agg l,h=>by unfold den;rw [Fe e l h]
 | .tup l,h=>by unfold den;rw [Fe e l h]
 | .fn _ l,h=>by unfold den;rw [Fe e l h]
 | .opt _ x,h=>by unfold den;rw [HD e x h]
 | .ix p _ _ _ _,h=>by unfold den;rw [HD e p h]
 | .sp p _ _,h=>by unfold den;rw [HD e p h]
 | .st i _ _ _ _,h=>by unfold den;rw [e i (M5 h)]
 | .int _ _,_=>rfl
 | .bool _,_=>rfl
 | .tt,_=>rfl
 | .ff,_=>rfl
 | .str _,_=>rfl
 | .sla _ _ _,_=>rfl
 | .v _,_=>rfl
theorem Fe {G G':Gr}{D:List Nat}(e:∀i,i∉D→G'[i]?=G[i]?):∀(l:List SV),(∀r∈D,XM r l=true)→Al G' l=Al G l
 | [],_=>rfl
 |x::l,h=>by
  unfold Al
  rw [HD e x fun r hr=>by have:=h r hr;simp only [XM,α3]at this;exact this.1,Fe e l fun r hr=>by have:=h r hr;simp only [XM,α3]at this;exact this.2]
end
def Xx (r:Nat):Option Bo→Bool
 |some (.blk cs)=>XM r cs
 |_=>true
def Zd (r:Nat):Hp→Bool
 | []=>true
 |e::H=>Xx r e&&Zd r H
theorem Pi {r:Nat}:∀{H:Hp},Zd r H=true→∀(i:Nat) (e:Option Bo),H[i]?=some e→Xx r e=true
 | [],_,i,e,h=>by cases h
 |f::H,hb,i,e,h=>by
  simp only [Zd,α3]at hb
  cases i with
  |zero=>cases h;exact hb.1
  |succ i=>exact Pi hb.2 i e (by simpa using h)
theorem BK.off {G G':Gr}{r:Nat}{w:World}{p:Option Loc}{e:Bo}(h:BK G w p e)(hG:∀i,i∉[r]→G'[i]?=G[i]?)(ha:Xx r (some e)=true):BK G' w p e:=by
 cases e with
 |blk cs=>obtain⟨M,vs,h1,h2,h3⟩:=h;exact⟨M,vs,h1,by rw [Fe hG cs (fun q hq=>by simp at hq;subst hq;exact ha)];exact h2,h3⟩
 |lst s n f=>exact h
 |fac b o=>exact h
 |row e s n c f=>exact h
section
variable {P:Program}{X:Tx}{n:Nat}{ks:List Nat}{G0:Gr}{w0:World}{T:List (Nat×SV)}{H:Hp}{G:Gr}{a:Act}{w w':World}{ops:Array Oper}{o:Oper}
theorem KB {r:Nat}{y:Option Loc}:∀i,i∉[r]→(G.set r y)[i]?=G[i]?:=fun i hi=>by
 simp at hi
 rw [γ0 (fun h=>hi h.symm)]
theorem Sy.place (A:Sy n T H ks G0 w0 G a w){r g:Nat}{t:TypeId}{en:Bo}(hr:H[r]?=some none)(a8:G0.length≤r)(SJ:Zd r H=true)(hg:g=w.heap.size)(SD:CI w w')(SE:BK G w' (some ⟨g,[],[],t⟩) en)(QY:en.mut=true)(hae:Xx r (some en)=true):
  Ms (Cd H r (some en)) ks G0 w0 (G.set r (some ⟨g,[],[],t⟩)) w':=by
 have hlen:=A.mem.len
 have MY:r<H.length:=(α0.1 hr).1
 have B:=A.ms.grow SD
 have hold:∀(i:Nat) (e:Bo),(Cd H r (some en))[i]?=some (some e)→(i≠r∧H[i]?=some (some e))∨(i=r∧e=en):=by
  intro i e h
  rw [BJ]at h
  by_cases hi:i=r
  ·subst hi;rw [γ7 MY]at h;cases h;exact .inr ⟨rfl,rfl⟩
  ·rw [γ0 (ζ1 hi)]at h;exact .inl ⟨hi,h⟩
 have SK:(G.set r (some (⟨g,[],[],t⟩:Loc)))[r]?=some (some ⟨g,[],[],t⟩):=γ7 (by omega)
 have Ch:∀{i:Nat},i≠r→(G.set r (some (⟨g,[],[],t⟩:Loc)))[i]?=G[i]?:=fun hi=>by rw [γ0 (ζ1 hi)]
 refine⟨⟨by rw [BJ];simpa using hlen,fun i e h=>?_,fun i j e f L M IA h1 h2 h3 h4 h5 h6=>?_⟩,?_,fun i e L h1 h2 h3=>?_,B.mix⟩
 ·rcases hold i e h with⟨h1,h2⟩|⟨rfl,rfl⟩
  ·rw [Ch h1];exact(B.mem.ent i e h2).off KB (Pi SJ i _ h2)
  ·rw [SK];exact SE.off KB hae
 ·rcases hold i e h1 with⟨a1,a2⟩|⟨rfl,rfl⟩
  ·rw [Ch a1]at h4
   rcases hold j f h2 with⟨b1,b2⟩|⟨rfl,rfl⟩
   ·rw [Ch b1]at h5;exact B.mem.sep i j e f L M IA a2 b2 h3 h4 h5 h6
   ·rw [SK]at h5;cases h5
    have:=A.mem.ent i e a2
    rw [h4]at this
    have:=BK.lt this (Bf h3)
    show L.b≠g;omega
  ·rw [SK]at h4;cases h4
   rcases hold j f h2 with⟨b1,b2⟩|⟨rfl,rfl⟩
   ·rw [Ch b1]at h5
    have:=A.mem.ent j f b2
    rw [h5]at this
    have:=BK.lt this h6
    show g≠M.b;omega
   ·exact absurd rfl IA
 ·obtain⟨F,hF⟩:=A.pre
  refine⟨F.set (r - G0.length) (some ⟨g,[],[],t⟩),?_⟩
  rw [hF,List.set_append_right _ _ a8]
 ·rcases hold i e h1 with⟨a1,a2⟩|⟨rfl,rfl⟩
  ·rw [Ch a1]at h3;exact B.own i e L a2 h2 h3
  ·rw [SK]at h3;cases h3
   have:=A.mix.size
   exact .inr (by show w0.heap.size≤g;omega)
def OW (P:Program)(n:Nat)(ops:Array Oper)(ks:List Nat)(G0:Gr)(w0:World)(Tw:List (Nat×SV))(H:Hp)(o:Oper)(x:SV)(H':Hp)(rs:List Nat):Prop:=
 ∀G a w,Sy n Tw H ks G0 w0 G a w→Bq P ops o a w fun v w'=>∃G',(∀i,i∉rs→G'[i]?=G[i]?)∧den G' x=some v∧Ms H' ks G0 w0 G' w'
theorem Uo {Tw:List (Nat×SV)}{x:SV}{H':Hp}{rs:List Nat}(h:Bd P n ops ks G0 w0 Tw H o x H')(hl:H'.length=H.length):OW P n ops ks G0 w0 Tw H o x H' rs:=by
 intro G a w A
 refine FX (h G a w A) fun v w' ⟨F,h1,h2⟩=>⟨G,fun _ _=>rfl,?_⟩
 have e1:=h2.mem.len
 have e2:=A.mem.len
 have:F=[]:=δ3 (by rw [α4]at e1;omega)
 subst this
 rw [ε9]at h1 h2
 exact⟨h1,h2⟩
theorem Eh (r:Nat){Tw:List (Nat×SV)}{x x0:SV}{H':Hp}{rs:List Nat}{t:TypeId}{en:Bo}(hX:X.ok P=true)(h:Dh X n ops Tw H o=some (.new t en x0))(hr:lg H r=some none)(a8:G0.length≤r)(SJ:(Zd r H&&Xx r (some en))=true)(XF:Dv (Cd (Bj 0 H.length) r H.length) x=some x0)(hH:Cd H r (some en)=H')(SC:rs.contains r=true):OW P n ops ks G0 w0 Tw H o x H' rs:=by
 intro G a w A
 rw [α3]at SJ
 rw [BI]at hr
 have MY:r<H.length:=(α0.1 hr).1
 unfold Dh at h
 split at h
 ·next hd=>
  split at h
  ·next hg=>
   refine IM (P:=P) (ops:=ops) hX A h (BQ (gd:=none) A hg) fun g w' v a1 a2 a3 a4 a5=>⟨G.set r (some ⟨g,[],[],t⟩),fun i hi=>KB i (fun hq=>?_),?_,?_⟩
   ·simp at hq;subst hq;exact hi (by simpa using SC)
   ·have hm:∀j∈(Bj 0 H.length).set r H.length,j<(G++[some (⟨g,[],[],t⟩:Loc)]).length:=fun j hj=>by
     have hle:j∈Bj 0 H.length∨j=H.length:=by
      rcases List.mem_or_eq_of_mem_set hj with h|h
      ·exact .inl h
      ·exact .inr h
     have:=A.mem.len
     rcases hle with h|h
     ·obtain⟨k,hk,he⟩:=ξ1 h
      rw [C6]at hk
      have:=ES H.length 0 k hk
      rw [β0 (by rw [C6];exact hk),he]at this
      cases this
      simp;omega
     ·simp;omega
    rw [BJ]at XF
    rw [←a5,←FB hm x XF]
    congr 1
    have hlen:=A.mem.len
    apply θ5
    intro i
    by_cases hi:i<H.length
    ·by_cases hir:i=r
     ·subst hir
      have h1:((Bj 0 H.length).set i H.length)[i]?=some H.length:=γ7 (by rw [C6];exact hi)
      rw [B5 hm h1,γ7 (by omega),α2 (by omega),hlen];simp
     ·have h1:((Bj 0 H.length).set r H.length)[i]?=some i:=by rw [γ0 (ζ1 hir),ES _ _ _ hi,ε0]
      rw [B5 hm h1,γ0 (ζ1 hir),α1 (by omega)]
    ·rw [γ4 (by simp;omega),γ4 (by simp [BW,C6];omega)]
   ·rw [←hH];exact A.place hr a8 SJ.1 a1 a2 a3 a4 SJ.2
  ·cases h
  ·split at h<;>cases h
  ·cases h
 ·cases h
end
section
variable {P:Program}{n:Nat}{ks:List Nat}{G0:Gr}{w0:World}{H:Hp}{G:Gr}{w w':World}{ops:Array Oper}{o:Oper}
theorem BK.offL {G G':Gr}{D:List Nat}{w:World}{p:Option Loc}{e:Bo}(h:BK G w p e)(hG:∀i,i∉D→G'[i]?=G[i]?)(ha:∀r∈D,Xx r (some e)=true):BK G' w p e:=by
 cases e with
 |blk cs=>obtain⟨M,vs,h1,h2,h3⟩:=h;exact⟨M,vs,h1,by rw [Fe hG cs ha];exact h2,h3⟩
 |lst s n f=>exact h
 |fac b o=>exact h
 |row e s n c f=>exact h
theorem Ms.put {r:Nat}{en:Bo}{p:Option Loc}(M:Ms (H++[some en]) ks G0 w0 (G++[p]) w')(hr:H[r]?=some none)(a8:G0.length≤r)(SJ:∀q∈[r,H.length],Zd q H=true∧Xx q (some en)=true):Ms (Cd H r (some en)) ks G0 w0 (G.set r p) w':=by
 have hlen:H.length=G.length:=by have:=M.mem.len;simpa using this
 have MY:r<H.length:=(α0.1 hr).1
 have hold:∀(i:Nat) (e:Bo),(Cd H r (some en))[i]?=some (some e)→∃j,(H++[some en])[j]?=some (some e)∧(G.set r p)[i]?=(G++[p])[j]?∧((i≠r∧j=i∧H[i]?=some (some e))∨(i=r∧j=H.length∧e=en)):=by
  intro i e h
  rw [BJ]at h
  by_cases hi:i=r
  ·subst hi;rw [γ7 MY]at h;cases h
   refine⟨H.length,by simp,?_,.inr ⟨rfl,rfl,rfl⟩⟩
   rw [γ7 (by omega),hlen];simp
  ·rw [γ0 (ζ1 hi)]at h
   have hl:=(α0.1 h).1
   refine⟨i,by rw [α1 hl];exact h,?_,.inl ⟨hi,rfl,h⟩⟩
   rw [γ0 (ζ1 hi),α1 (by omega)]
 have Dk:∀i,i∉[r,H.length]→(G.set r p)[i]?=(G++[p])[i]?:=fun i hi=>by
  simp at hi
  rw [γ0 (fun h=>hi.1 h.symm)]
  by_cases hg:i<G.length
  ·rw [α1 hg]
  ·rw [γ4 (by omega),γ4 (by simp;omega)]
 refine⟨⟨by rw [BJ];simpa using hlen,fun i e h=>?_,fun i j e f L N IA h1 h2 h3 h4 h5 h6=>?_⟩,?_,fun i e L h1 h2 h3=>?_,M.mix⟩
 ·obtain⟨j,g1,g2,g3⟩:=hold i e h
  rw [g2]
  refine(M.mem.ent j e g1).offL Dk fun q hq=>?_
  rcases g3 with⟨_,_,g⟩|⟨_,_,rfl⟩
  ·exact Pi (SJ q hq).1 i _ g
  ·exact(SJ q hq).2
 ·obtain⟨i',g1,g2,g3⟩:=hold i e h1
  obtain⟨j',k1,k2,k3⟩:=hold j f h2
  rw [g2]at h4
  rw [k2]at h5
  refine M.mem.sep i' j' e f L N ?_ g1 k1 h3 h4 h5 h6
  have hi:∀{i:Nat} {e:Bo},H[i]?=some (some e)→i<H.length:=fun h=>(α0.1 h).1
  rcases g3 with⟨a1,a2,a3⟩|⟨a1,a2,a3⟩<;>rcases k3 with⟨b1,b2,b3⟩|⟨b1,b2,b3⟩
  ·omega
  ·have:=hi a3;omega
  ·have:=hi b3;omega
  ·omega
 ·obtain⟨F,hF⟩:=M.pre
  refine⟨(G.set r p).drop G0.length,?_⟩
  have e:(G.set r p).take G0.length=G0:=by
   have h1:(G++[p]).take G0.length=G0:=by rw [hF];simp
   rw [ι3 (by omega)]at h1
   rw [List.take_set_of_le (by omega)];exact h1
  have:=(ι5 G0.length (G.set r p)).symm
  rw [e]at this;exact this
 ·obtain⟨i',g1,g2,g3⟩:=hold i e h1
  rw [g2]at h3
  exact M.own i' e L g1 h2 h3
theorem Pj (r:Nat){Tw:List (Nat×SV)}{x x0:SV}{H1 H':Hp}{rs:List Nat}{en:Bo}(h:Bd P n ops ks G0 w0 Tw H o x0 (H1++[some en]))(hl:H1.length=H.length)(hr:lg H1 r=some none)(a8:G0.length≤r)(SJ:(Zd r H1&&Xx r (some en)&&Zd H1.length H1&&Xx H1.length (some en))=true)(XF:Dv (Cd (Bj 0 H1.length) r H1.length) x=some x0)(hH:Cd H1 r (some en)=H')(SC:rs.contains r=true):OW P n ops ks G0 w0 Tw H o x H' rs:=by
 intro G a w A
 rw [BI]at hr
 have MY:r<H1.length:=(α0.1 hr).1
 simp only [α3]at SJ
 refine FX (h G a w A) fun v w' ⟨F,h1,h2⟩=>?_
 have e1:=h2.mem.len
 have e2:=A.mem.len
 have hF1:F.length=1:=by simp at e1;omega
 obtain⟨p,rfl⟩:=List.length_eq_one_iff.1 hF1
 refine⟨G.set r p,fun i hi=>KB i (fun hq=>?_),?_,?_⟩
 ·simp at hq;subst hq;exact hi (by simpa using SC)
 ·have hm:∀j∈(Bj 0 H1.length).set r H1.length,j<(G++[p]).length:=fun j hj=>by
   rcases List.mem_or_eq_of_mem_set hj with h|h
   ·obtain⟨k,hk,he⟩:=ξ1 h
    rw [C6]at hk
    have:=ES H1.length 0 k hk
    rw [β0 (by rw [C6];exact hk),he]at this
    cases this
    simp;omega
   ·simp;omega
  rw [BJ]at XF
  rw [←h1,←FB hm x XF]
  congr 1
  apply θ5
  intro i
  by_cases hi:i<H1.length
  ·by_cases hir:i=r
   ·subst hir
    have h1:((Bj 0 H1.length).set i H1.length)[i]?=some H1.length:=γ7 (by rw [C6];exact hi)
    rw [B5 hm h1,γ7 (by omega),α2 (by omega),hl,e2];simp
   ·have h1:((Bj 0 H1.length).set r H1.length)[i]?=some i:=by rw [γ0 (ζ1 hir),ES _ _ _ hi,ε0]
    rw [B5 hm h1,γ0 (ζ1 hir),α1 (by omega)]
  ·rw [γ4 (by simp;omega),γ4 (by simp [BW,C6];omega)]
 ·rw [←hH]
  refine h2.put hr a8 fun q hq=>?_
  simp at hq
  rcases hq with rfl|rfl
  ·exact⟨SJ.1.1.1,SJ.1.1.2⟩
  ·exact⟨SJ.1.2,SJ.2⟩
end
def Pk (ops:Array Oper)(ef c:List Nat)(i:Nat)(o:Oper):Bool:=
 !c.contains i&&ef.all (fun p=> !wt ops o p||c.contains p)&&c.all (fun p=>match ops[p]? with|some q=> !waits q i|none=>true)
section
variable {P:Program}{X:Tx}{n:Nat}{ks:List Nat}{G0:Gr}{w0:World}{T:List (Nat×SV)}{l:List Oper}{xs:List SV}{Q:Exit→Act→World→Prop}{ef rs0:List Nat}{tb:List (List Nat×List Nat×Hp)}
structure cJ (n:Nat)(ks:List Nat)(G0:Gr)(w0:World)(T:List (Nat×SV))(l:List Oper)(xs:List SV)(ef rs0:List Nat)(c rs:List Nat)(H:Hp)(listed:Array Bool)(G:Gr)(a:Act)(w:World):Prop where
 size:a.tmps.size=n
 defers:a.defers=[]
 base:∀t x,look T t=some x→(∀(j:Nat) (o:Oper),l[j]?=some o→o.dst=some t→listed.getD j false=false)→den G x=some (a.tmps.getD t undef)
 done:∀(j:Nat) (o:Oper) (x:SV),l[j]?=some o→listed.getD j false=true→xs[j]?=some x→(∀r∈rs,RN r x=true)∧∀d,o.dst=some d→den G x=some (a.tmps.getD d undef)
 ms:Ms H ks G0 w0 G w
 eff:∀p∈ef,(listed.getD p false=true↔p∈c)
 sub:∀p∈c,p∈ef
 rsub:∀r∈rs,r∈rs0
 closed:∀(j:Nat) (o:Oper) (p:Nat),l[j]?=some o→listed.getD j false=true→waits o p=true→listed.getD p false=true
theorem OX {o:Oper}{T:List (Nat×SV)}{t:Nat}{x:SV}:∀{l:List Oper} {xs:List SV} {k:Nat},xs.length=l.length→look (Kd o l xs k T) t=some x→(∃i p,l[i]?=some p∧xs[i]?=some x∧waits o (k+i)=true∧p.dst=some t)∨(look T t=some x∧∀(i:Nat) (p:Oper),l[i]?=some p→p.dst=some t→waits o (k+i)=false)
 | [],_,_,_,h=>.inr ⟨h,fun i p hi=>by cases hi⟩
 |_::_,[],_,hl,h=>by cases hl
 | p ::l,y::xs,k,hl,h=>by
  have rest:(p.dst=some t→waits o k=false)→look (Kd o l xs (k+1) T) t=some x→(∃i q,(p::l)[i]?=some q∧(y::xs)[i]?=some x∧waits o (k+i)=true∧q.dst=some t)∨(look T t=some x∧∀(i:Nat) (q:Oper),(p::l)[i]?=some q→q.dst=some t→waits o (k+i)=false):=fun h0 h=>by
   rcases OX (by simpa using hl) h with⟨i,q,h1,h2,h3,h4⟩|⟨h,hn⟩
   ·exact .inl ⟨i+1,q,by simpa using h1,by simpa using h2,by rw [show k+(i+1)=k+1+i by omega];exact h3,h4⟩
   ·refine .inr ⟨h,fun i q hi hd=>?_⟩
    cases i with
    |zero=>cases hi;simpa using h0 hd
    |succ i=>rw [show k+(i+1)=k+1+i by omega];exact hn i q (by simpa using hi) hd
  unfold Kd at h
  cases hb:waits o k with
  |false=>rw [hb]at h;exact rest (fun _=>hb) h
  | true=>
   rw [hb]at h
   simp only [θ3]at h
   cases hd:p.dst with
   |none=>rw [hd]at h;exact rest (fun e=>by rw [hd]at e;cases e) h
   | some d=>
    rw [hd]at h
    simp only [Bh,look]at h
    cases hk:Nat.beq d t with
    |false=>rw [hk]at h;exact rest (fun e=>by rw [hd]at e;cases e;rw [η7]at hk;cases hk) h
    |true=>
     rw [hk]at h
     cases h
     have:=α9 hk
     subst this
     exact .inl ⟨0,p,rfl,rfl,by simpa using hb,hd⟩
def JN (P:Program)(n:Nat)(ks:List Nat)(G0:Gr)(w0:World)(T:List (Nat×SV))(l:List Oper)(xs:List SV)(ef:List Nat)(tb:List (List Nat×List Nat×Hp))(c rs:List Nat)(H:Hp)(i:Nat)(o:Oper):Prop:=
 ∃(x:SV) (c' rs':List Nat) (H':Hp) (k':Nat),xs[i]?=some x∧tb[k']?=some (c',rs',H')∧((ef.all fun p=>c'.contains p==(Nat.beq p i||c.contains p))&&c'.all ef.contains)=true∧(rs'.all fun r=>rs.contains r&&RN r x)=true∧OW P n l.toArray ks G0 w0 (Kd o l xs 0 T) H o x H' rs
theorem RO (m:Nat) (p6:m≤l.length) (wW:∀S:Nat→Bool,(∀(j:Nat) (o:Oper) (p:Nat),l[j]?=some o→S j=true→waits o p=true→S p=true)→∀(i:Nat) (o:Oper),m≤i→l[i]?=some o→(∀p,waits o p=true→S p=true)→∀j,j<m→S j=true) (GN:KR l.toArray n []=true) (hT:∀t x,look T t=some x→∀(j:Nat) (o:Oper),l[j]?=some o→o.dst=some t→j<m→∀(i:Nat) (q:Oper),l[i]?=some q→i<m→i≠j→waits o i=true∨waits q j=true) (wX:∀t x,look T t=some x→∀r∈rs0,RN r x=true) (hl:xs.length=l.length)
  (ZI:∀(k:Nat) (c rs:List Nat) (H:Hp),tb[k]?=some (c,rs,H)→∀(i:Nat) (o:Oper),i<m→l[i]?=some o→Pk l.toArray ef c i o=true→JN P n ks G0 w0 T l xs ef tb c rs H i o)
  (XB:∀(k:Nat) (c rs:List Nat) (H:Hp),tb[k]?=some (c,rs,H)→(∀p∈ef,p<m→p∈c)→∀(fuel:Nat) (listed:Array Bool) (G:Gr) (a:Act) (w:World),listed.size=l.length→(∀i,listed.getD i false=decide (i<m))→l.length - m≤fuel→Sy n (JF (l.take m) (xs.take m) T) H ks G0 w0 G a w→wpAny P .any l.toArray Q fuel listed a w):
  ∀(fuel:Nat) (listed:Array Bool) (a:Act) (w:World) (k:Nat) (c rs:List Nat) (H:Hp) (G:Gr),listed.size=l.length→((List.range l.length).filter fun i=> !listed.getD i true).length≤fuel→tb[k]?=some (c,rs,H)→cJ n ks G0 w0 T l xs ef rs0 c rs H listed G a w→(∀i,m≤i→listed.getD i false=false)→wpAny P .any l.toArray Q fuel listed a w:=by
 have all0:∀(listed:Array Bool),listed.size=l.length→Region.ready .any l.toArray listed=[]→∀i,i<l.length→listed.getD i false=true:=by
  intro listed Jp hr i
  induction i using Nat.strongRecOn with
  | _ i ih=>
   intro hi
   cases hq:listed.getD i false with
   |true=>rfl
   | false=>
    exfalso
    have:i∈Region.ready .any l.toArray listed:=by
     rw [mem_ready]
     have wF:i<listed.size:=by omega
     have Nv:l.toArray[i]?=some l[i]:=by simp [hi]
     refine⟨by simpa [wF]using hq,l[i],Nv,fun e he hb=>?_⟩
     have Bn:=(IE GN Nv).2 e he hb
     exact ih e.on Bn (by omega)
    rw [hr]at this;cases this
 have fin:∀(fuel:Nat) (listed:Array Bool) (a:Act) (w:World) (k:Nat) (c rs:List Nat) (H:Hp) (G:Gr),listed.size=l.length→((List.range l.length).filter fun i=> !listed.getD i true).length≤fuel→tb[k]?=some (c,rs,H)→cJ n ks G0 w0 T l xs ef rs0 c rs H listed G a w→(∀i,m≤i→listed.getD i false=false)→(∀i,i<m→listed.getD i false=true)→wpAny P .any l.toArray Q fuel listed a w:=by
  intro fuel listed a w k c rs H G Jp hf hk I bA jB
  have ZJ:∀i,listed.getD i false=decide (i<m):=fun i=>by
   by_cases hi:i<m
   ·rw [jB i hi,η4 hi]
   ·rw [bA i (by omega),η8 hi]
  refine XB k c rs H hk (fun p hp KN=>(I.eff p hp).1 (jB p KN)) fuel listed G a w Jp ZJ ?_ (I.ms.sy I.size I.defers fun t x hx=>?_)
  ·refine β4 ?_ hf
   have JY:((List.range l.length).filter fun i=> !listed.getD i true)=(List.range l.length).filter fun i=>decide (m≤i):=by
    apply σ9
    intro i hi
    have XR:i<listed.size:=by rw [Jp];simpa using hi
    have h2:=ZJ i
    have h3:listed.getD i true=listed.getD i false:=by simp [Array.getD,XR]
    rw [h3,h2]
    by_cases q:i<m
    ·rw [η4 q,η8 (by omega)];rfl
    ·rw [η8 q,η4 (by omega)];rfl
   rw [JY]
   have jC:∀N,(List.filter (fun i=>decide (m≤i)) (List.range N)).length=N - m:=by
    intro N
    induction N with
    |zero=>simp
    |succ N ih=>
     rw [List.range_succ,List.filter_append,α4,ih]
     by_cases q:m≤N
     ·rw [List.filter_cons_of_pos (by simpa using q)];simp;omega
     ·rw [List.filter_cons_of_neg (by simpa using q)];simp;omega
   rw [jC]
   exact β7 _
  ·have Bn:(xs.take m).length=(l.take m).length:=by rw [δ8,δ8,hl]
   rcases Kh Bn hx with⟨i,p,q1,q2,q3⟩|⟨hx,T4⟩
   ·have qL:i<m:=by have:=(α0.1 q1).1;rw [δ8]at this;omega
    rw [γ1 qL]at q1 q2
    exact(I.done i p x q1 (jB i qL) q2).2 t q3
   ·refine I.base t x hx fun j o h1 h2=>?_
    by_cases hj:j<m
    ·exact absurd h2 (T4 j o (by rw [γ1 hj];exact h1))
    ·exact bA j (by omega)
 intro fuel
 induction fuel with
 |zero=>
  intro listed a w k c rs H G Jp hf hk I bA
  refine fin 0 listed a w k c rs H G Jp hf hk I bA fun i hi=>?_
  have XD:((List.range l.length).filter fun i=> !listed.getD i true)=[]:=δ3 (by omega)
  rw [ν2]at XD
  have:=XD i (by simp;omega)
  simp only [τ6,σ4]at this
  have XR:i<listed.size:=by omega
  simp [Array.getD,XR]at this⊢
  exact this
 | succ fuel ih=>
  intro listed a w k c rs H G Jp hf zD I bA
  by_cases jB:∀i,i<m→listed.getD i false=true
  ·exact fin (fuel+1) listed a w k c rs H G Jp hf zD I bA jB
  refine⟨fun hr=>absurd (fun i hi=>all0 listed Jp hr i (by omega)) jB,fun i hi=>?_⟩
  obtain⟨qF,o,Nv,AS⟩:=mem_ready.1 hi
  have XR:i<l.length:=by have:=(ε3.1 Nv).1;simpa using this
  have J3:l[i]?=some o:=by simpa using Nv
  obtain⟨qG,hfe⟩:=IE GN Nv
  have LO:listed.getD i false=false:=by
   have Bn:i<listed.size:=by omega
   simpa [Bn]using qF
  have hw:∀p,waits o p=true→listed.getD p false=true:=fun p hp=>by
   unfold waits at hp
   rw [μ0]at hp
   obtain⟨e,iS,hb⟩:=hp
   have he:e∈o.after:=by simpa using iS
   simp only [α3,ε4]at hb
   rw [←hb.2]
   exact AS e he hb.1
  have qL:i<m:=by
   by_cases q:i<m
   ·exact q
   ·exact absurd (wW (fun j=>listed.getD j false) (fun j o p h1 h2 h3=>I.closed j o p h1 h2 h3) i o (by omega) J3 hw) jB
  have A:Sy n (Kd o l xs 0 T) H ks G0 w0 G a w:=I.ms.sy I.size I.defers fun t x hx=>by
   rcases OX hl hx with⟨j,p,q1,q2,q3,q4⟩|⟨hx,hnw⟩
   ·exact(I.done j p x q1 (hw j (by simpa using q3)) q2).2 t q4
   ·refine I.base t x hx fun j p h1 h2=>?_
    by_cases Fu:j=i
    ·subst Fu;exact LO
    ·cases hlj:listed.getD j false with
     |false=>rfl
     | true=>
      have hjm:j<m:=by
       by_cases q:j<m
       ·exact q
       ·rw [bA j (by omega)]at hlj;cases hlj
      rcases hT t x hx j p h1 h2 hjm i o J3 qL (ζ1 Fu)with AP|AP
      ·have:=I.closed j p i h1 hlj AP
       rw [LO]at this;cases this
      ·have:=hnw j p h1 h2
       rw [ε0]at this
       rw [AP]at this;cases this
  have iW:Pk l.toArray ef c i o=true:=by
   unfold Pk
   simp only [α3,κ8,δ7,β9]
   refine⟨⟨?_,fun p hp=>?_⟩,fun p hp=>?_⟩
   ·cases hc:c.contains i with
    |false=>rfl
    |true=>
     have h1:i∈c:=by simpa using hc
     have:=(I.eff i (I.sub i h1)).2 h1
     rw [LO]at this;cases this
   ·cases hq:wt l.toArray o p with
    |false=>exact .inl rfl
    | true=>
     refine .inr ?_
     have hlp:listed.getD p false=true:=by
      unfold wt at hq
      cases hd:waits o p with
      |true=>exact hw p hd
      |false=>
       rw [hd]at hq
       exact F4 (ops:=l.toArray) (fun j o' p' h1 h2 h3=>I.closed j o' p' (by simpa using h1) h2 h3) 2 o.after.toList (fun e he hb=>AS e (by simpa using he) hb) hq
     have:=(I.eff p hp).1 hlp
     simpa using this
   ·split
    ·next q hq=>
     cases hd:waits q i with
     |false=>rfl
     |true=>
      have h1:=(I.eff p (I.sub p hp)).2 hp
      have:=I.closed p q i (by simpa using hq) h1 hd
      rw [LO]at this;cases this
    ·rfl
  obtain⟨x,c',rs',H',k',hx,EC,wZ,qM,he⟩:=ZI k c rs H zD i o qL J3 iW
  rw [α3,δ7,δ7]at wZ
  rw [δ7]at qM
  have kC:∀r∈rs',r∈rs∧RN r x=true:=fun r hr=>by
   have:=qM r hr
   rw [α3]at this
   exact⟨by simpa using this.1,this.2⟩
  have next:∀(v:Value) (w':World) (G':Gr),(∀i,i∉rs→G'[i]?=G[i]?)→den G' x=some v→Ms H' ks G0 w0 G' w'→wpAny P .any l.toArray Q fuel (listed.setIfInBounds i true) (a.put o.dst v) w':=by
   intro v w' G' hG hv kA
   have Bn:i<listed.size:=by omega
   have JX:∀j,(listed.setIfInBounds i true).getD j false=true↔(j=i∨listed.getD j false=true):=by
    intro j
    by_cases Fu:j=i
    ·subst Fu;simp [Bn]
    ·rw [KS false (ζ1 Fu)];simp [Fu]
   refine ih _ _ _ k' c' rs' H' G' (by simpa using Jp) ?_ EC ⟨?_,?_,fun t y hy T4=>?_,fun j p y q1 q2 q3=>?_,kA,fun p hp=>?_,fun p hp=>?_,fun r hr=>I.rsub r (kC r hr).1,fun j p r q1 q2 q3=>?_⟩ (fun j hj=>by rw [KS false (show i≠j by omega)];exact bA j hj)
   ·have:((List.range l.length).filter fun k=> !(listed.setIfInBounds i true).getD k true).length<((List.range l.length).filter fun k=> !listed.getD k true).length:=by
     have JY:((List.range l.length).filter fun k=> !(listed.setIfInBounds i true).getD k true)=((List.range l.length).filter fun k=> !listed.getD k true).filter (fun k=>k !=i):=by
      rw [List.filter_filter]
      apply σ9
      intro k _
      by_cases hk:k=i
      ·subst hk;simp [Bn]
      ·rw [KS true (ζ1 hk)];simp [hk]
     rw [JY]
     refine ν5.2 ⟨i,?_,by simp⟩
     simp only [ι7,ε8]
     exact⟨XR,by rw [qF];rfl⟩
    omega
   ·cases hd:o.dst<;>simp [Act.put,I.size]
   ·cases hd:o.dst<;>simp [Act.put,I.defers]
   ·have iV:∀(j:Nat) (q:Oper),l[j]?=some q→q.dst=some t→listed.getD j false=false:=fun j q h1 h2=>by
     have h3:=T4 j q h1 h2
     cases hlj:listed.getD j false with
     |false=>rfl
     |true=>rw [(JX j).2 (.inr hlj)]at h3;cases h3
    have h1:den G' y=some (a.tmps.getD t undef):=by rw [HD hG y fun r hr=>wX t y hy r (I.rsub r hr)];exact I.base t y hy iV
    cases hd:o.dst with
    |none=>exact h1
    | some d=>
     have Ch:d≠t:=fun e=>by
      have h3:=T4 i o J3 (by rw [hd,e])
      rw [(JX i).2 (.inl rfl)]at h3;cases h3
     simp only [Act.put,β3]
     rw [η0 Ch,←β3]
     exact h1
   ·by_cases Fu:j=i
    ·subst Fu
     rw [J3]at q1;cases q1
     rw [hx]at q3;cases q3
     refine⟨fun r hr=>(kC r hr).2,fun d q4=>?_⟩
     have wH:d<a.tmps.size:=by rw [I.size];exact(qG d q4).1
     rw [q4]
     simp [Act.put,wH,hv]
    ·have h2:listed.getD j false=true:=by
      rcases(JX j).1 q2 with h|h
      ·exact absurd h Fu
      ·exact h
     obtain⟨g1,g2⟩:=I.done j p y q1 h2 q3
     refine⟨fun r hr=>g1 r (kC r hr).1,fun d q4=>?_⟩
     have h1:den G' y=some (a.tmps.getD d undef):=by rw [HD hG y g1];exact g2 d q4
     cases hd:o.dst with
     |none=>exact h1
     | some d'=>
      have Ch:d'≠d:=fun e=>by
       subst e
       exact Fu ((qG d' hd).2.1 j (by simpa using (α0.1 q1).1) (by simp [KP,q1,q4]))
      simp only [Act.put,β3]
      rw [η0 Ch,←β3]
      exact h1
   ·rw [JX p,I.eff p hp]
    have:=wZ.1 p hp
    have hb:(p=i∨p∈c)↔(Nat.beq p i||c.contains p)=true:=by
     rw [β9]
     refine or_congr ⟨fun h=>by subst h;exact η7 p,α9⟩ (by simp)
    rw [hb]
    rw [ε4]at this
    rw [←this];simp
   ·have:=wZ.2 p hp;simpa using this
   ·rw [JX r]
    by_cases Fu:j=i
    ·subst Fu;rw [J3]at q1;cases q1;exact .inr (hw r q3)
    ·rcases(JX j).1 q2 with h|h
     ·exact absurd h Fu
     ·exact .inr (I.closed j p r q1 h q3)
  unfold wpOp
  rcases he G a w A with⟨XE,h⟩|⟨XE,G',h1,h2,h3⟩
  ·simp only [Nv,XE,υ9]
   refine .inl (κ6 (fun a2 w2 h=>?_) (h Q))
   obtain⟨v,rfl,G',h1,h2,h3⟩:=h
   exact next v w2 G' h1 h2 h3
  ·simp only [Nv,XE,θ1,ξ7]
   exact next undef w G' h1 h2 h3
theorem Up (GN:KR l.toArray n []=true) (hT:∀t x,look T t=some x→∀(j:Nat) (o:Oper),l[j]?=some o→o.dst=some t→∀(i:Nat) (q:Oper),l[i]?=some q→i≠j→waits o i=true∨waits q j=true) (wX:∀t x,look T t=some x→∀r∈rs0,RN r x=true) (hl:xs.length=l.length)
  (ZI:∀(k:Nat) (c rs:List Nat) (H:Hp),tb[k]?=some (c,rs,H)→∀(i:Nat) (o:Oper),l[i]?=some o→Pk l.toArray ef c i o=true→JN P n ks G0 w0 T l xs ef tb c rs H i o)
  (XB:∀(k:Nat) (c rs:List Nat) (H:Hp),tb[k]?=some (c,rs,H)→(∀p∈ef,p<l.length→p∈c)→∀G a w,Sy n (JF l xs T) H ks G0 w0 G a w→Q .normal a w):
  ∀(fuel:Nat) (listed:Array Bool) (a:Act) (w:World) (k:Nat) (c rs:List Nat) (H:Hp) (G:Gr),listed.size=l.length→((List.range l.length).filter fun i=> !listed.getD i true).length≤fuel→tb[k]?=some (c,rs,H)→cJ n ks G0 w0 T l xs ef rs0 c rs H listed G a w→wpAny P .any l.toArray Q fuel listed a w:=
 fun fuel listed a w k c rs H G Jp hf hk I=>RO l.length (β7 _) (fun S _ i o hi h=>by have:=(α0.1 h).1;omega) GN (fun t x hx j o h1 h2 _ i q h3 _=>hT t x hx j o h1 h2 i q h3) wX hl (fun k c rs H hk i o _=>ZI k c rs H hk i o) (fun k c rs H hk hp fuel listed G a w Jp hd _ A=>by
  have hr:Region.ready .any l.toArray listed=[]:=by
   unfold Region.ready
   rw [ν2]
   intro i hi
   have xA:i<l.length:=by simpa using hi
   have:=hd i
   have Ma:i<listed.size:=by omega
   simp [Array.getD,Ma,xA]at this⊢
   simp [this]
  rw [π6,←hl,π6]at A
  have hq:=XB k c rs H hk hp G a w A
  cases fuel with
  |zero=>exact⟨hr,hq⟩
  |succ fuel=>exact⟨fun _=>hq,fun i hi=>by rw [hr]at hi;cases hi⟩) fuel listed a w k c rs H G Jp hf hk I fun i hi=>by
   have:¬i<listed.size:=by omega
   simp [Array.getD,this]
def Kp (ops:Array Oper)(ef c:List Nat):List Oper→Nat→List Bool
 | [],_=>[]
 |o::l,i=>Pk ops ef c i o::Kp ops ef c l (i+1)
def Ze (P:Program)(n:Nat)(ks:List Nat)(G0:Gr)(w0:World)(T:List (Nat×SV))(L:List Oper)(xs:List SV)(ef:List Nat)(tb:List (List Nat×List Nat×Hp))(c rs:List Nat)(H:Hp):List Bool→List Oper→Nat→Prop
 |true::bs,o::l,i=>JN P n ks G0 w0 T L xs ef tb c rs H i o∧Ze P n ks G0 w0 T L xs ef tb c rs H bs l (i+1)
 |false::bs,o::l,i=>Ze P n ks G0 w0 T L xs ef tb c rs H bs l (i+1)
 |_,_,_=>True
def lP (P:Program)(n:Nat)(ks:List Nat)(G0:Gr)(w0:World)(T:List (Nat×SV))(L:List Oper)(xs:List SV)(ef:List Nat)(tb:List (List Nat×List Nat×Hp)):List (List Bool)→List (List Nat×List Nat×Hp)→Prop
 |bs::B,(c,rs,H)::ss=>Ze P n ks G0 w0 T L xs ef tb c rs H bs L 0∧lP P n ks G0 w0 T L xs ef tb B ss
 |_,_=>True
theorem M6 {c rs:List Nat}{H:Hp}{L:List Oper}:∀{m:List Oper} {j:Nat},Ze P n ks G0 w0 T L xs ef tb c rs H (Kp L.toArray ef c m j) m j→∀(i:Nat) (o:Oper),m[i]?=some o→Pk L.toArray ef c (j+i) o=true→JN P n ks G0 w0 T L xs ef tb c rs H (j+i) o
 | [],j,_,i,o,h,_=>by cases h
 | p::m,j,hO,i,o,h,hm=>by
  unfold Kp at hO
  cases i with
  |zero=>
   cases h
   rw [θ8]at hm⊢
   rw [hm]at hO
   exact hO.1
  | succ i=>
   have hO':Ze P n ks G0 w0 T L xs ef tb c rs H (Kp L.toArray ef c m (j+1)) m (j+1):=by
    cases hb:Pk L.toArray ef c j p with
    |true=>rw [hb]at hO;exact hO.2
    |false=>rw [hb]at hO;exact hO
   have:=M6 hO' i o (by simpa using h) (by rw [show j+1+i=j+(i+1) by omega];exact hm)
   rwa [show j+1+i=j+(i+1) by omega]at this
theorem Pm:∀{ss:List (List Nat×List Nat×Hp)},lP P n ks G0 w0 T l xs ef tb (ss.map fun s=>Kp l.toArray ef s.1 l 0) ss→∀(k:Nat) (c rs:List Nat) (H:Hp),ss[k]?=some (c,rs,H)→Ze P n ks G0 w0 T l xs ef tb c rs H (Kp l.toArray ef c l 0) l 0
 | [],_,k,c,rs,H,h=>by cases h
 |(c1,r1,H1)::ss,hO,k,c,rs,H,h=>by
  simp only [ζ4,lP]at hO
  cases k with
  |zero=>cases h;exact hO.1
  |succ k=>exact Pm hO.2 k c rs H (by simpa using h)
theorem Sy.pad {H:Hp}{G:Gr}{a:Act}{w:World}(A:Ms H ks G0 w0 G w)(m:Nat):Ms (H++List.replicate m none) ks G0 w0 (G++List.replicate m none) w:=by
 have hlen:=A.mem.len
 have hold:∀(i:Nat) (e:Bo),(H++List.replicate m none)[i]?=some (some e)→H[i]?=some (some e):=by
  intro i e h
  by_cases hi:i<H.length
  ·rwa [α1 hi]at h
  ·rw [α2 (by omega),List.getElem?_replicate]at h
   split at h<;>cases h
 have hg:∀(i:Nat) (e:Bo),H[i]?=some (some e)→(G++List.replicate m none)[i]?=G[i]?:=fun i e h=>by
  have:=(α0.1 h).1
  rw [α1 (by omega)]
 refine⟨⟨by simp [hlen],fun i e h=>?_,fun i j e f L M IA h1 h2 h3 h4 h5 h6=>?_⟩,?_,fun i e L h1 h2 h3=>?_,A.mix⟩
 ·rw [hg i e (hold i e h)];exact(A.mem.ent i e (hold i e h)).more _
 ·rw [hg i e (hold i e h1)]at h4
  rw [hg j f (hold j f h2)]at h5
  exact A.mem.sep i j e f L M IA (hold i e h1) (hold j f h2) h3 h4 h5 h6
 ·obtain⟨F,rfl⟩:=A.pre;exact⟨F++List.replicate m none,by simp⟩
 ·rw [hg i e (hold i e h1)]at h3;exact A.own i e L (hold i e h1) h2 h3
mutual
theorem OY {G : Gr} {r :Nat} (key:∀i,(∃p,G[i]?=some p)→(!Nat.beq i r)=true):∀(x:SV) {v:Value},den G x=some v→RN r x=true
  | .ptr i _, v, hx => by unfold den at hx;split at hx;·next L hL=>exact key i ⟨_,hL⟩
                          ·cases hx
  | .el i _ _ _, v, hx => by unfold den at hx;split at hx;·next L hL=>exact key i ⟨_,hL⟩
                             ·cases hx
  | .sl i _ _, v, hx => by unfold den at hx;split at hx;·next L hL=>exact key i ⟨_,hL⟩
                           ·cases hx
  | .st i _ _ _ _, v, hx => by unfold den at hx;split at hx;·next L hL=>exact key i ⟨_,hL⟩
                               ·cases hx
  | .agg l,v,hx=>by unfold den at hx;obtain⟨vs,h1,_⟩:=γ9.1 hx;exact M7 key l h1
  | .tup l,v,hx=>by unfold den at hx;obtain⟨vs,h1,_⟩:=γ9.1 hx;exact M7 key l h1
  | .fn _ l,v,hx=>by unfold den at hx;obtain⟨vs,h1,_⟩:=γ9.1 hx;exact M7 key l h1
  | .opt _ x,v,hx=>by unfold den at hx;obtain⟨vs,h1,_⟩:=γ9.1 hx;exact OY key x h1
  | .ix p _ _ _ _,v,hx=>by
    unfold den at hx
    cases hq:den G p with
    |none=>rw [hq]at hx;cases hx
    |some u=>exact OY key p hq
  | .sp p _ _,v,hx=>by
    unfold den at hx
    cases hq:den G p with
    |none=>rw [hq]at hx;cases hx
    |some u=>exact OY key p hq
  | .int _ _,_,_=>rfl
  | .bool _,_,_=>rfl
  | .tt,_,_=>rfl
  | .ff,_,_=>rfl
  | .str _,_,_=>rfl
  | .sla _ _ _,_,_=>rfl
  | .v _,_,_=>rfl
theorem M7 {G:Gr}{r:Nat}(key:∀i,(∃p,G[i]?=some p)→(!Nat.beq i r)=true):∀(l:List SV) {vs:List Value},Al G l=some vs→XM r l=true
 | [],_,_=>rfl
 |x::l,vs,hx=>by
  obtain⟨v,ws,h1,h2,_⟩:=Bg hx
  unfold XM
  rw [OY key x h1,M7 key l h2];rfl
end
theorem Pn {G:Gr}{r:Nat}(h:G.length≤r)(x:SV){v:Value}(hx:den G x=some v):RN r x=true:=
 OY (fun i ⟨p,hp⟩=>by
  have:=(α0.1 hp).1
  cases hb:Nat.beq i r with
  |false=>rfl
  |true=>have:=α9 hb;omega) x hx
def Sh (ef:List Nat):List (List Nat×List Nat×Hp)→Option Hp
 | []=>none
 | [(_,_,H)]=>some H
 |(c,_,_)::s=>bif ef.all c.contains then none else Sh ef s
theorem HF {HE:Hp}:∀{tb:List (List Nat×List Nat×Hp)},Sh ef tb=some HE→∀(k:Nat) (c rs:List Nat) (H:Hp),tb[k]?=some (c,rs,H)→ef.all c.contains=true→H=HE
 | [],h,k,c,rs,H,hk,_=>by cases hk
 | [(c1,r1,H1)],h,k,c,rs,H,hk,_=>by
  cases h
  cases k with
  |zero=>cases hk;rfl
  |succ k=>simp at hk
 | (c1,r1,H1)::s1::ss,h,k,c,rs,H,hk,hc=>by
  unfold Sh at h
  cases hb:ef.all c1.contains with
  |true=>rw [hb]at h;cases h
  |false=>
   rw [hb]at h
   cases k with
   |zero=>cases hk;rw [hc]at hb;cases hb
   |succ k=>exact HF (tb:=s1::ss) h k c rs H (by simpa using hk) hc
theorem JO {id:Nat} {H HE:Hp} {G:Gr} {a:Act} {w:World} {K:List Fr} (By:P.follows .mixedOrders=true) (xs:List SV) (ef rs0:List Nat) (m:Nat) (tb:List (List Nat×List Nat×Hp)) (B:List (List Bool)) (A:Sy n T H ks G0 w0 G a w)
  (h0:tb[0]?=some ([],rs0,H++List.replicate m none)) (hE:Sh ef tb=some HE) (SC:(rs0.all fun r=>Nat.ble H.length r)=true) (bB:(ef.all fun p=>Nat.blt p l.length)=true) (hB:(tb.map fun s=>Kp l.toArray ef s.1 l 0)=B) (hl:xs.length=l.length) (GN:KR l.toArray n []=true)
  (hO:lP P n ks G0 w0 (Dt l T) l xs ef tb B tb) (hk:∀{G a w},Sy n (JF l xs (Dt l T)) HE ks G0 w0 G a w→Goal P Q K .norm a w):Goal P Q K (.code (.region id l.toArray true)) a w:=by
 refine ρ0 By ?_
 have jD:Ms H ks G0 w0 G w.drew:=A.ms.grow (CI.refl w).drew
 rw [δ7]at SC bB
 refine Up (P:=P) (xs:=xs) (T:=Dt l T) (ef:=ef) (rs0:=rs0) (tb:=tb) GN (fun t x hx j o h3 h4 i q hq Ch=>.inl<|Mu (by have:=Hs (EG hx).2 j o h3 h4;rwa [ε0]at this) i (α0.1 hq).1 Ch) (fun t x hx r hr=>?_) hl (fun k c rs H hk i o hi hm=>?_) (fun k c rs H' EC AS G a w A'=>?_) _ _ _ _ 0 [] rs0 _ (G++List.replicate m none) (by simp) (by
  refine β4 (κ3 _ _) (by simp)) h0 ⟨A.size,A.defers,fun t x hx _=>BF _ x (A.get t x (EG hx).1),fun j o x _ hj=>?_,Sy.pad (a:=a) jD m,fun p hp=>?_,fun p hp=>absurd hp (by simp),fun r hr=>hr,fun j o p _ hj=>?_⟩
 ·have:=SC r hr
  rw [A.mem.len]at this
  exact Pn (G:=G) (ε1 this) x (A.get t x (EG hx).1)
 ·have:=M6 (Pm (by rw [hB];exact hO) k c rs H hk) i o hi (by rw [ε0];exact hm)
  rwa [ε0]at this
 ·have h2:(ef.all c.contains)=true:=by
   rw [δ7]
   intro p hp
   have:=AS p hp (by have:=bB p hp;simpa [μ7]using this)
   simpa using this
  cases HF hE k c rs H' EC h2
  exact hk A'
 ·exfalso;simp [β3,ζ0]at hj;split at hj<;>simp at hj
 ·constructor
  ·intro hj;exfalso;simp [β3,ζ0]at hj;split at hj<;>simp at hj
  ·intro hj;cases hj
 ·exfalso;simp [β3,ζ0]at hj;split at hj<;>simp at hj
theorem HG {α:Type}(d:α)(cf:α→List SV)(s:Nat)(hs:∀x,(cf x).length=s)(KO:∀x,Hf 0 (cf x)=true):∀(L:List α) (k:Nat),k<L.length→tk s (dp (k*s) (L.flatMap cf))=some (cf (L.getD k d))∧Hf 0 (cf (L.getD k d))=true
 | [],k,h=>by simp at h
 | x::L,0,_=>by
  refine⟨?_,KO _⟩
  have tkl:∀(a b:List SV),tk a.length (a++b)=some a:=by
   intro a b
   induction a with
   |nil=>rfl
   |cons y a ih=>simp [tk,ih]
  rw [Nat.zero_mul,←hs x]
  exact tkl _ _
 |x::L,k+1,h=>by
  have:=HG d cf s hs KO L k (by simpa using h)
  rw [Hd]at this⊢
  have e:(k+1)*s=(cf x).length+k*s:=by rw [hs,ι9];omega
  rw [List.flatMap_cons,e,←μ2,List.drop_left]
  exact this
theorem Sy.asT {H:Hp}{G:Gr}{a:Act}{w:World}(A:Sy n T H ks G0 w0 G a w){α:Type}(d:α)(cf:α→List SV)(s:Nat)(hs:∀x,(cf x).length=s)(KO:∀x,Hf 0 (cf x)=true)(CD:∀x,∃vs,Al [] (cf x)=some vs)(L:List α)(i:Nat)(hi:lg H i=some (some (.blk (L.flatMap cf)))):Sy n T (Cd H i (some (.lst s L.length fun zz=>cf (L.getD zz d)))) ks G0 w0 G a w:=
 A.asList i (f:=fun zz=>cf (L.getD zz d)) (by rw [BI]at hi;exact hi) (.inr ⟨_,rfl,HG d cf s hs KO L⟩) (fun _ _=>rfl) (fun k=>CD _)
end
section
variable {n:Nat}{ks:List Nat}{G0:Gr}{w0:World}{T T':List (Nat×SV)}{H H':Hp}{G:Gr}{a:Act}{w:World}{Q:Exit→Act→World→Prop}{K K':List Fr}{pos pos':Pos}{E:Ob}
theorem Ao {l:List Oper}{xs:List SV}{ef:List Nat}{tb:List (List Nat×List Nat×Hp)}{c rs:List Nat}{i:Nat}{o:Oper}{x:SV}{c' rs':List Nat}(k':Nat)(h:(xs[i]?,tb[k']?,((ef.all fun p=>c'.contains p==(Nat.beq p i||c.contains p))&&c'.all ef.contains),(rs'.all fun r=>rs.contains r&&RN r x),Dh ⟨X,true⟩ n l.toArray (Kd o l xs 0 T) H o)=(some x,some (c',rs',H),true,true,some (.val x E)))(hE:Dr E):JN Tryz.prog n ks G0 w0 T l xs ef tb c rs H i o:=by
 simp only [κ0]at h
 exact⟨x,c',rs',H,k',h.1,h.2.1,h.2.2.1,h.2.2.2.1,Uo (BN (X:=⟨X,true⟩) (out:=.val x E) hX h.2.2.2.2 hE) rfl⟩
theorem CF {l:List Oper}{xs:List SV}{ef:List Nat}{tb:List (List Nat×List Nat×Hp)}{c rs:List Nat}{i:Nat}{o:Oper}{x:SV}{c' rs':List Nat}(k':Nat)(h:(xs[i]?,tb[k']?,((ef.all fun p=>c'.contains p==(Nat.beq p i||c.contains p))&&c'.all ef.contains),(rs'.all fun r=>rs.contains r&&RN r x),H'.length)=(some x,some (c',rs',H'),true,true,H.length))(e:Bd Tryz.prog n l.toArray ks G0 w0 (Kd o l xs 0 T) H o x H'):JN Tryz.prog n ks G0 w0 T l xs ef tb c rs H i o:=by
 simp only [κ0]at h
 exact⟨x,c',rs',H',k',h.1,h.2.1,h.2.2.1,h.2.2.2.1,Uo e h.2.2.2.2⟩
end
def Cb (e s m:Nat)(f:Nat→List SV)(b cp:Nat)(w:World):Prop:=(∀k,∃vs,Al [] (f k)=some vs∧vs.length=s)∧∃xs,CX f m=some xs∧w.ownsRow 0 e s (.slice (some ⟨b,0,none⟩) m cp) m xs
section
variable {P:Program}{n:Nat}{ks:List Nat}{G0:Gr}{w0:World}{T:List (Nat×SV)}{H:Hp}{G:Gr}{a:Act}{w w':World}
theorem Sy.giveRow (A:Sy n T H ks G0 w0 G a w)(i t:Nat){e s m c:Nat}{f:Nat→List SV}{H':Hp}(hm:0<m)(hi:lg H i=some (some (.row e s m c f)))(ht:look T t=some (.sl i m c))(hH:Cd H i none=H'):
  ∃b cp,Sy n ((t,.sla (some ⟨b,0,none⟩) m cp)::T) H' ks G0 w0 G a w∧Cb e s m f b cp w∧(ks.contains b=true∨w0.heap.size≤b)∧(keys H' G).contains b=false:=by
 subst hH
 rw [BI]at hi
 obtain⟨h1,h2,xs,h3,h4⟩:=A.mem.ent i _ hi
 have h5:∃L,G[i]?=some (some L):=by
  cases hq:G[i]? with
  |none=>
   rw [hq]at h4
   rcases h4.2 with⟨_,h⟩|⟨g,cap,cur,h,_⟩
   ·omega
   ·cases h
  | some p=>
   cases p with
   |none=>
    rw [hq]at h4
    rcases h4.2 with⟨_,h⟩|⟨g,cap,cur,h,_⟩
    ·omega
    ·cases h
   |some L=>exact⟨L,rfl⟩
 obtain⟨L,Fq⟩:=h5
 rw [Fq]at h2 h4
 have AM:L.pre=[]:=h2 L rfl
 have jE:w.ownsRow 0 e s (.slice (some ⟨L.b,0,none⟩) m (c+rm (some L))) m xs:=by
  have:(Option.map (fun L:Loc=>(⟨L.b,L.pre.length,none⟩:Addr)) (some L))=some ⟨L.b,0,none⟩:=by simp [AM]
  rw [←this];exact h4
 have hold:∀(j:Nat) (e:Bo),(Cd H i none)[j]?=some (some e)→j≠i∧H[j]?=some (some e):=by
  intro j e h
  rw [BJ]at h
  by_cases hj:j=i
  ·subst hj;rw [γ7 (α0.1 hi).1]at h;cases h
  ·rw [γ0 (ζ1 hj)]at h;exact⟨hj,h⟩
 refine⟨L.b,c+rm (some L),⟨A.size,A.defers,fun q x hx=>?_,⟨by rw [BJ];simpa using A.mem.len,fun j e he=>A.mem.ent j e (hold j e he).2,fun j k e f L' M HY g1 g2 g3 g4 g5 g6=>A.mem.sep j k e f L' M HY (hold j e g1).2 (hold k f g2).2 g3 g4 g5 g6⟩,A.pre,fun j e L' g1 g2 g3=>A.own j e L' (hold j e g1).2 g2 g3,A.mix⟩,⟨h1,xs,h3,jE⟩,A.own i _ L hi rfl Fq,?_⟩
 ·unfold look at hx
  cases hb:Nat.beq t q with
  |true=>
   rw [hb]at hx;cases hx
   have:=α9 hb
   subst this
   have:=A.get t _ ht
   unfold den at this
   rw [Fq]at this
   rw [←this]
   simp [den,AM]
  |false=>rw [hb]at hx;exact A.get q x hx
 ·cases hq:(keys (Cd H i none) G).contains L.b with
  |false=>rfl
  |true=>
   obtain⟨j,e,L',g1,g2,g3,g4⟩:=mem_keys.1 hq
   obtain⟨k1,k2⟩:=hold j e g1
   exact absurd g4.symm (A.mem.sep i j _ e L L' (ζ1 k1) hi k2 rfl Fq g3 (Bf g2))
theorem Sy.takeRowG (A:Sy n T H ks G0 w0 G a w)(t:Nat){e s m b cp:Nat}{f:Nat→List SV}{x y:SV}(hg:Cb e s m f b cp w)(hn:∀(i:Nat) (e:Bo) (L:Loc),H[i]?=some (some e)→G[i]?=some (some L)→¬e.empty→L.b≠b)(ho:w0.heap.size≤b)(ht:look T t=some x)(hy:den (G++[some ⟨b,[],List.replicate cp undef,e⟩]) y=den (G++[some ⟨b,[],List.replicate cp undef,e⟩]) x):
  Sy n ((t,y)::T) (H++[some (.row e s m 0 f)]) ks G0 w0 (G++[some ⟨b,[],List.replicate cp undef,e⟩]) a w:=by
 obtain⟨p1,xs,p2,p3⟩:=hg
 refine(A.addE (p:=some ⟨b,[],List.replicate cp undef,e⟩) (en:=.row e s m 0 f) ⟨p1,fun L hL=>by cases hL;rfl,xs,p2,by simpa [rm]using p3⟩ (fun i e M N h1 h2 h3 h=>by cases h3;exact hn i e M h1 h2 (h.elim (·.1) fun q=>Bf q.1)) fun _ M h=>by cases h;exact .inr ho).slotEq t ht hy
theorem Sy.takeRow (A:Sy n T H ks G0 w0 G a w)(t:Nat){e s m b cp:Nat}{f:Nat→List SV}(hg:Cb e s m f b cp w)(hn:∀(i:Nat) (e:Bo) (L:Loc),H[i]?=some (some e)→G[i]?=some (some L)→¬e.empty→L.b≠b)(ho:w0.heap.size≤b)(ht:look T t=some (.sla (some ⟨b,0,none⟩) m cp)):
  Sy n ((t,.sl H.length m 0)::T) (H++[some (.row e s m 0 f)]) ks G0 w0 (G++[some ⟨b,[],List.replicate cp undef,e⟩]) a w:=A.takeRowG t hg hn ho ht (by
  unfold den
  rw [α2 (by rw [A.mem.len];exact β7 _),A.mem.len];simp [rm])
theorem Sy.adoptL (A:Sy n T H ks G0 w0 G a w){α:Type}(d:α)(cf:α→List SV)(s:Nat)(hs:∀x,(cf x).length=s)(KO:∀x,Hf 0 (cf x)=true)(CD:∀x,∃vs,Al [] (cf x)=some vs)(R:List α){b cp:Nat}{vs:List Value}(h0:Kk b 0 vs w0 ks)(hv:Al [] (R.flatMap cf)=some vs)(t:Nat)(hx:look T t=some (.sla (some ⟨b,0,none⟩) R.length cp)):
  Sy n ((t,.sl H.length R.length cp)::T) (H++[some (.lst s R.length fun zz=>cf (R.getD zz d))]) ks G0 w0 (G++[some ⟨b,[],[],0⟩]) a w:=by
 have hl:=h0.go A.mix (ks':=ks) fun b hb=>.inl hb
 refine(A.addE (p:=some ⟨b,[],[],0⟩) (en:=.lst s R.length fun zz=>cf (R.getD zz d)) ⟨fun k=>CD _,.inr ⟨_,rfl,hl.1,fun k hk=>?_⟩⟩ (fun i e L M h1 h2 h3 h=>by cases h3;exact A.apart h0.1 h0.2.1 h1 h2 (h.elim (fun z=>by cases z.2) (·.1))) fun h=>by cases h).slotEq t hx (by
  unfold den
  rw [α2 (by rw [A.mem.len];exact β7 _),A.mem.len];simp [rm])
 obtain⟨r1,r2⟩:=HG d cf s hs KO R k hk
 obtain⟨r3,r4⟩:=IG r1
 rw [Hd]at r3 r4
 have hd:Al [] (cf (R.getD k d))=some ((vs.drop (k*s)).take s):=by rw [r3];exact Cf s (Cg _ hv)
 refine⟨_,hd,fun q v hq=>?_⟩
 have ZB:vs[k*s+q]?=some v:=by
  rw [σ5]at hq
  split at hq
  ·rw [η1]at hq;exact hq
  ·cases hq
 simpa using hl.2.2 (k*s+q) v ZB
end
section
variable {P:Program}{n:Nat}{ks:List Nat}{G0:Gr}{w0:World}{T:List (Nat×SV)}{H:Hp}{G:Gr}{a:Act}{w w':World}{Q:Exit→Act→World→Prop}{K:List Fr}{ops:Array Oper}{o:Oper}{rest:List Oper}
theorem Kq {β:Type} {e s m t f:Nat} {az:List SV} {F:β→Nat→List SV} {R:β→Nat→World→World→Prop} (hf:Ly P f az [] (fun x w w'=>∃(L:β) (b cp:Nat),x=.sla (some ⟨b,0,none⟩) m cp∧R L b w w'∧w.heap.size≤b∧Cb e s m (F L) b cp w')) (A:Sy n T H ks G0 w0 G a w) (hd:o.dst=some t) (h1:B6 n ops T o=some (f,az)) (h2:EB [] az=some az)
  (k:∀L b cp a' w' G',R L b w w'→w.heap.size≤b→(∀k,(keys (H++[some (.row e s m 0 (F L))]) G').contains k=true→k<w.heap.size∨k=b)→Sy n ((t,.sl H.length m 0)::Bh T o.dst (.sla (some ⟨b,0,none⟩) m cp)) (H++[some (.row e s m 0 (F L))]) ks G0 w0 G' a' w'→Goal P Q K (.ops ops rest) a' w'):Goal P Q K (.ops ops (o::rest)) a w:=by
 refine OR [] hf A h1 h2 rfl rfl rfl fun x a' w' hJ hk A'=>?_
 obtain⟨L,b,cp,rfl,hR,Dl,hg⟩:=hJ
 have hl:look (Bh T o.dst (.sla (some ⟨b,0,none⟩) m cp)) t=some (.sla (some ⟨b,0,none⟩) m cp):=by rw [hd];simp [Bh,look,η7]
 have A2:=A'.takeRow t hg (fun i e L q1 q2 q3=>by
  have:=A.mem.ent i e q1
  rw [q2]at this
  have:=BK.lt this q3
  omega) (β4 A.mix.size Dl) hl
 refine k L b cp a' w' _ hR Dl (fun k EC=>?_) A2
 obtain⟨i,e',M,q1,q2,q3,q4⟩:=mem_keys.1 EC
 have hlen:=A.mem.len
 by_cases hi:i<H.length
 ·rw [α1 hi]at q1
  rw [α1 (by omega)]at q3
  exact .inl (hk k (mem_keys.2 ⟨i,e',M,q1,q2,q3,q4⟩))
 ·right
  have Qf:i=G.length:=by
   have:=(α0.1 q3).1
   simp at this
   omega
  subst Qf
  rw [α2 (β7 _)]at q3
  simp at q3
  rw [←q4,←q3]
theorem HH {β:Type} {e s m t f:Nat} {F:β→Nat→List SV} {R:β→Nat→World→World→Prop} (hf:Ly P f [] [] (fun x w w'=>∃(L:β) (b cp:Nat),x=.sla (some ⟨b,0,none⟩) m cp∧R L b w w'∧w.heap.size≤b∧Cb e s m (F L) b cp w')) (A:Sy n T H ks G0 w0 G a w) (hd:o.dst=some t) (h1:B6 n ops T o=some (f,[]))
  (k:∀L b cp a' w' G',R L b w w'→w.heap.size≤b→(∀k,(keys (H++[some (.row e s m 0 (F L))]) G').contains k=true→k<w.heap.size∨k=b)→Sy n ((t,.sl H.length m 0)::Bh T o.dst (.sla (some ⟨b,0,none⟩) m cp)) (H++[some (.row e s m 0 (F L))]) ks G0 w0 G' a' w'→Goal P Q K (.ops ops rest) a' w'):Goal P Q K (.ops ops (o::rest)) a w:=
 Kq hf A hd h1 rfl k
end
def bl:Option Addr→List Nat
 |some a=>[a.block]
 |none=>[]
abbrev Ro (e:Nat)(w:World)(ao:Option Addr)(n cp:Nat)(xs:List Value):Prop:=w.ownsRow 0 e 1 (.slice ao n cp) n xs
theorem cK {ao:Option Addr}{n cp k:Nat}:(bl ao).contains k=true↔(Value.slice ao n cp).ownBlock=some k:=by
 cases ao with
 |none=>simp [bl,Value.ownBlock]
 |some a=>simp [bl,Value.ownBlock];exact⟨fun h=>h.symm,fun h=>h.symm⟩
theorem Ro.lt {e:Nat}{w:World}{ao:Option Addr}{n cp:Nat}{xs:List Value}(h:Ro e w ao n cp xs){k:Nat}(hk:(bl ao).contains k=true):k<w.heap.size:=(Mg h k (cK.1 hk)).2
theorem Ro.cell {e:Nat}{w:World}{b n cp:Nat}{xs:List Value}(h:Ro e w (some ⟨b,0,none⟩) n cp xs):∀j u,xs[j]?=some u→w.cell? ((⟨b,0,none⟩:Addr).add j)=some u:=h.cells (g:=b) rfl
theorem Ro.range {e:Nat}{w:World}{b n cp:Nat}{xs:List Value}(h:Ro e w (some ⟨b,0,none⟩) n cp xs):w.rangeAt b 0 xs:=fun j u hu=>by
 have:=h.cell j u hu
 rw [η3,ε0]at this;simpa using this
theorem Ro.cut {e:Nat}{w:World}{ao:Option Addr}{n m cp:Nat}{xs ys:List Value}(h:Ro e w ao n cp (xs++ys))(hm:xs.length=m)(h0:m≤n)(hn:ao≠none):Ro e w ao m cp xs:=by
 obtain⟨h1,h2⟩:=h
 refine⟨by simpa using hm,?_⟩
 rcases h2 with⟨q1,q2⟩|⟨g,cap,cur,q1,q2,q3,q4,q5,q6,q7⟩
 ·cases q1;exact absurd rfl hn
 ·cases q1
  refine .inr ⟨g,_,cur,rfl,q2,q3,by omega,q5,q6,?_⟩
  rw [Nat.mul_one]at q7⊢
  have:=congrArg (List.take m) q7
  rw [υ6,Nat.min_eq_left h0]at this
  rw [this,←hm];simp
section
variable {P:Program}{X:Tx}{n:Nat}{ks:List Nat}{G0:Gr}{w0:World}{T:List (Nat×SV)}{H:Hp}{G:Gr}{a:Act}{w w':World}{ops:Array Oper}{o:Oper}{rest:List Oper}{Q:Exit→Act→World→Prop}{K:List Fr}
def Kr (H:Hp)(G:Gr)(ks:List Nat):Prop:=∀(i:Nat) (e:Bo) (L:Loc),H[i]?=some (some e)→G[i]?=some (some L)→¬e.empty→ks.contains L.b=false
theorem Sy.mixed (A:Sy n T H ks G0 w0 G a w){ks':List Nat}(m:DO ks' w w')(Dk:Kr H G ks')(hk:∀b,ks'.contains b=true→ks.contains b=true∨w0.heap.size≤b):Sy n T H ks G0 w0 G a w':=by
 refine⟨A.size,A.defers,A.get,⟨A.mem.len,fun i e h=>(A.mem.ent i e h).mix m (fun Ch L hL=>Dk i e L h ?_ Ch),A.mem.sep⟩,A.pre,A.own,A.mix.mix m fun k hl hc=>?_⟩
 ·cases hq:G[i]? with
  |none=>rw [hq]at hL;cases hL
  |some p=>rw [hq]at hL;simp at hL;rw [hL]
 ·cases hz:ks'.contains k with
  |false=>rfl
  |true=>
   rcases hk k hz with h|h
   ·rw [h]at hc;cases hc
   ·omega
theorem cL {x y:Operand} {t rt:Nat} {ao:Option Addr} {nn cp:Nat} (A:Sy n T H ks G0 w0 G a w) (hg:BE ops T o.guard=some .run) (hd:DD n o.dst=true) (CJ:o.op=.binOp .eql t x y rt) (hx:Db T x=some (.sla ao nn cp)) (hy:Db T y=some (.sla none 0 0)) {e:Nat} (ht:P.underlying t=some (.slice e)) {r:SV} (hr:den [] r=some (.bool ao.isNone))
  (k:∀{a},Sy n (Bh T o.dst r) H ks G0 w0 G a w→Goal P Q K (.ops ops rest) a w):Goal P Q K (.ops ops (o::rest)) a w:=by
 have hw:=BQ (gd:=none) A hg
 obtain⟨d,op,ty,pos,af,gd⟩:=o
 simp only at CJ
 subst CJ
 have CH:=A.ev hx
 have Dp:=A.ev hy
 unfold den at CH Dp
 simp only [β2]at CH Dp
 exact Cm (Q:=Fz P Q K) (Lp (u:=.slice ao nn cp) (v:=.slice none 0 0) hw CH.symm Dp.symm ⟨by simp [eqGuard],Lib.run_eql_slice_nil w t e ao nn cp 0 0 ht⟩ (k (Sy.put A hd (by simpa using BF G r hr))))
end
def PG (P:Program)(f:Nat)(args:List SV)(H:Hp)(ks:List Nat)(pre:World→Prop)(J:SV→World→World→Prop):Prop:=
 F3 P f=some (false,false)∧(∀(i:Nat) (e:Bo),H[i]?=some (some e)→e.mut=false)∧∀G w vs,Mem H G w→Kr H G ks→pre w→Al G args=some vs→Calls P f vs.toArray w fun e w'=>∃x v,den [] x=some v∧e=.returned v∧DO ks w w'∧J x w w'
section
variable {P:Program}{n:Nat}{ks:List Nat}{G0:Gr}{w0:World}{T:List (Nat×SV)}{H:Hp}{G:Gr}{a:Act}{w:World}{Q:Exit→Act→World→Prop}{K:List Fr}{pos:Pos}{ops:Array Oper}{o:Oper}{rest:List Oper}{pre:World→Prop}
theorem Gq {f:Nat} {fn:Func} {c:Code} {args:List SV} {J:SV→World→World→Prop} (Ca:F3 P f=some (false,false)) (hf:P.funcs[f]?=some fn) (hb:fn.body=some c) (hn:fn.ntmps=n) (hl:Nat.ble args.length n=true) (SG:∀(i:Nat) (e:Bo),H[i]?=some (some e)→e.mut=false)
  (h:∀G w a,H.length=G.length→Kr H G ks→pre w→Sy n (Mt args 0) H ks G w G a w→Goal P (bodyPost P fn fun e w'=>∃x v,den [] x=some v∧e=.returned v∧DO ks w w'∧J x w w') [] (.code c) a w):PG P f args H ks pre J:=by
 refine⟨Ca,SG,fun G w vs hM ho hp hv=>?_⟩
 refine ξ6 hf hb (h G w _ hM.len ho hp ⟨?_,rfl,fun t x hx=>?_,hM,⟨[],by simp⟩,fun i e L h1 h2 h3=>(by rw [SG i e h1]at h2;cases h2),DO.refl _ _⟩)
 ·have:=Be hv
  have:=ε1 hl
  simp [hn];omega
 ·obtain⟨_,h2⟩:=EF hx
  simp only [ν9]at h2
  obtain⟨v,h3,h4⟩:=C5 hv h2
  have Bn:t<vs.length:=(α0.1 h3).1
  rw [h4]
  simp [β3,ι4,Bn]at h3⊢
  exact h3.symm
theorem Hw {Y:Tb}{fn:Func}{J:SV→World→World→Prop}(hX:Y.ok P=true){y:SV}{r:List SV}{rv:List ResultVar}{v':Value}(A:Sy n T H ks G0 w0 G a w)(hr:fn.results.toList=rv)(hv:JE ⟨Y,false⟩ T H rv=some r)(hy:BA r=y)(hc:den [] y=some v')(hJ:J y w0 w):bodyPost P fn (fun e w'=>∃x v,den [] x=some v∧e=.returned v∧DO ks w0 w'∧J x w0 w') .ret a w:=by
 obtain⟨v,h1,h2⟩:=G9 (X:=⟨Y,false⟩) (fn:=fn) hX A hr hv hy
 have h3:den G y=some v':=by simpa using BF G y hc
 rw [h3]at h1
 cases h1
 exact⟨A.defers,v',h2,y,v',hc,rfl,A.mix,hJ⟩
theorem L7 {f:Nat} {args az:List SV} {H' l:Hp} {ks':List Nat} {J:SV→World→World→Prop} (m:List Nat) (hf:PG P f args H' ks' pre J) (A:Sy n T H ks G0 w0 G a w) (hp:pre w) (Dk:Kr H G ks') (hk:∀b,ks'.contains b=true→ks.contains b=true∨w0.heap.size≤b) (h1:B6 n ops T o=some (f,az)) (h2:EB m args=some az) (h3:DE m H'=some l) (h4:DA H m=some l) (h5:Jt m=true)
  (k:∀{x a' w'},DO ks' w w'→J x w w'→Sy n (Bh T o.dst x) H ks G0 w0 G a' w'→Goal P Q K (.ops ops rest) a' w'):Goal P Q K (.ops ops (o::rest)) a w:=by
 obtain⟨hd,us,hu,I2⟩:=Ci (P:=P) (ops:=ops) A h1 hf.1
 obtain⟨p1,p2,p3⟩:=D5 h4
 obtain⟨r1,r2⟩:=ER h3
 have hm:∀j∈m,j<G.length:=fun j hj=>by rw [←A.mem.len];exact p2 j hj
 have hM:=A.mem.sub h4 h3 h5
 have Qb:Al (BW m G) args=some us:=by rw [D4 hm args h2];exact hu
 have xB:Kr H' (BW m G) ks':=fun i e L q1 q2 q3=>by
  obtain⟨f,s1,s2⟩:=r2 i _ q1
  obtain⟨f',rfl⟩:=Ds s2
  have hi:i<m.length:=by rw [←p1];exact(α0.1 s1).1
  have hj:m[i]?=some m[i]:=by simp [hi]
  rw [B5 hm hj]at q2
  rw [p3 i _ hj]at s1
  exact Dk _ f' L s1 q2 fun h=>q3 ((C1 s2).2.1 h)
 refine Cm (Q:=Fz P Q K) (I2 (hf.2.2 _ w us hM xB hp Qb) fun e w' he=>?_)
 obtain⟨x,v,e1,rfl,hg,hJ⟩:=he
 exact⟨v,rfl,k hg hJ (Sy.put (A.mixed hg Dk hk) hd (by simpa using BF G x e1))⟩
theorem cM {ks':List Nat}(A:Sy n T H ks G0 w0 G a w)(h1:∀b,ks'.contains b=true→(keys H G).contains b=false)(h2:∀(i:Nat) (e:Bo) (L:Loc),H[i]?=some (some e)→e.mut=false→G[i]?=some (some L)→¬e.empty→ks'.contains L.b=false):Kr H G ks':=fun i e L q1 q2 q3=>by
 cases hm:e.mut with
 |false=>exact h2 i e L q1 hm q2 q3
 | true=>
  cases hz:ks'.contains L.b with
  |false=>rfl
  |true=>
   have:=h1 _ hz
   rw [mem_keys.2 ⟨i,e,L,q1,hm,q2,rfl⟩]at this;cases this
theorem Kr.nil:Kr H G []:=fun _ _ _ _ _ _=>rfl
end
section
variable {P:Program}{n:Nat}{ks:List Nat}{G0:Gr}{w0:World}{T:List (Nat×SV)}{H:Hp}{G:Gr}{a:Act}{w:World}{Q:Exit→Act→World→Prop}{K:List Fr}
theorem lQ {c:Code} (T1:List (Nat×SV)) (H1:Hp) (I:Prop) (A:Sy n T H ks G0 w0 G a w) (r0:∀{G a w},Sy n T H ks G0 w0 G a w→Goal P Q (.lp (fun a' w'=>∃G',I∧Sy n T1 H1 ks G0 w0 G' a' w')::K) (.code c) a w)
  (r1:I→∀{G a w},Sy n T1 H1 ks G0 w0 G a w→Goal P Q (.lp (fun _ _=>False)::K) (.code c) a w):Goal P Q K (.code (.loop c)) a w:=by
 refine Mf (fun m a w=>(m=1∧∃G,Sy n T H ks G0 w0 G a w)∨(m=0∧I∧∃G,Sy n T1 H1 ks G0 w0 G a w)) 1 (.inl ⟨rfl,G,A⟩) ?_
 rintro m a w (⟨rfl,G,A⟩|⟨rfl,hI,G,A⟩)
 ·refine ξ8 (fun e a' w' h=>?_) (r0 A)
  cases e with
  |normal=>obtain⟨G',h1,h2⟩:=h;exact⟨0,by omega,.inr ⟨rfl,h1,G',h2⟩⟩
  |_=>exact h
 ·refine ξ8 (fun e a' w' h=>?_) (r1 hI A)
  cases e with
  |normal=>exact absurd h (fun h=>h)
  |_=>exact h
end
theorem Cy {i o s m k:Nat}(j:Nat){q:Nat}(hq:o+j*s+k=q):∀G,den G (.ix (.ptr i o) s m (j:Int) k)=den G (.ptr i q):=fun G=>by
 subst hq
 unfold den
 cases hG:G[i]? with
 |none=>unfold den;rw [hG]
 |some p=>cases p with
  |none=>unfold den;rw [hG]
  |some L=>unfold den;rw [hG];simp [θ4]
section
variable {P:Program}{Y:Tb}{n:Nat}{ks:List Nat}{G0:Gr}{w0:World}{T:List (Nat×SV)}{H:Hp}{G:Gr}{a:Act}{w w':World}{Q:Exit→Act→World→Prop}{K:List Fr}{ops:Array Oper}{o:Oper}{rest:List Oper}
end
theorem lR {j:Int}(h:0≤j∧j<8):j=0∨j=1∨j=2∨j=3∨j=4∨j=5∨j=6∨j=7:=by omega
section
variable {P:Program}{Y:Tb}{n:Nat}{ks:List Nat}{G0:Gr}{w0:World}{T:List (Nat×SV)}{H:Hp}{ops:Array Oper}{o:Oper}{rest:List Oper}{Q:Exit→Act→World→Prop}{K:List Fr}
end
abbrev Rg:=Nat→Int
def Bk (r:Rg)(k:Nat)(x:Int):Rg:=fun j=>if j=k then x else r j
section
variable {P:Program}{Y:Tb}{n:Nat}{ks:List Nat}{G0:Gr}{w0:World}{T:List (Nat×SV)}{H:Hp}{ops:Array Oper}{o:Oper}{rest:List Oper}{Q:Exit→Act→World→Prop}{K:List Fr}
end
abbrev Zf (x:SV)(at_:Int)(r:Rg):List SV:=[x,.int .i64 at_,.int .i64 (r 0),.int .i64 (r 1),.int .i64 (r 2),.int .i64 (r 3),.int .i64 (r 4),.int .i64 (r 5),.int .i64 (r 6),.int .i64 (r 7)]
section
variable {P:Program}{Y:Tb}{n:Nat}{ks:List Nat}{G0:Gr}{w0:World}{T:List (Nat×SV)}{H:Hp}{ops:Array Oper}{o:Oper}{rest:List Oper}{Q:Exit→Act→World→Prop}{K:List Fr}
theorem Xy {x y:Operand}{ty i:Nat}{j v at_:Int}{r:Rg}{s1:SV}{ti:TI}(hX:Y.ok P=true)(CJ:o.op=.store ty x y)(hg:BE ops T o.guard=some .run)(hx:Db T x=some (.ix (.ptr i 2) 1 8 j 0))(hy:Db T y=some (.int .i64 v))(hH:lg H i=some (some (.blk (Zf s1 at_ r))))(HZ:Y.get ty=some ti)(Df:ti.row=none)(CA:ti.one=true)(hj:0≤j∧j<8):
  Bd P n ops ks G0 w0 T H o (.tup []) (Cd H i (some (.blk (Zf s1 at_ (Bk r j.toNat v))))):=fun G a w A=>by
 have hw:=BQ (gd:=none) A hg
 obtain⟨d,op,ty',pos,af,gd⟩:=o
 simp only at CJ
 subst CJ
 have CH:=A.ev hx
 have Dp:=A.ev hy
 have key:∀k:Nat,j=(k:Int)→(∀q:List SV,sp (2+k) (Zf s1 at_ r) [.int .i64 v]=some q→q=Zf s1 at_ (Bk r j.toNat v)→Bq P ops {dst:=d,op:=.store ty x y,type:=ty',pos:=pos,after:=af,guard:=gd} a w fun v' w'=>∃F,den (G++F) (.tup [])=some v'∧Ms (Cd H i (some (.blk (Zf s1 at_ (Bk r j.toNat v))))) ks G0 w0 (G++F) w'):=by
  intro k hk q hr e
  rw [hk,Cy (q:=2+k) k (by omega)]at CH
  have hs:Do ⟨Y,true⟩ H ty (.ptr i (2+k)) (.int .i64 v)=some (i,q,[]):=by
   have ht:Tx.get ⟨Y,true⟩ ty=some ti:=HZ
   simp only [Do,hH,ht,Df,CA,hr]
   rfl
  refine EE (X:=⟨Y,true⟩) hX A hs Ah CH Dp rfl rfl hw fun cs L vs' w' a1 a2 a3 a4 a5=>⟨[],rfl,?_⟩
  subst e
  simpa using (A.turn a1 a2 a3 a4 a5).ms
 rcases lR hj with rfl|rfl|rfl|rfl|rfl|rfl|rfl|rfl
 ·exact key 0 rfl _ rfl rfl
 ·exact key 1 rfl _ rfl rfl
 ·exact key 2 rfl _ rfl rfl
 ·exact key 3 rfl _ rfl rfl
 ·exact key 4 rfl _ rfl rfl
 ·exact key 5 rfl _ rfl rfl
 ·exact key 6 rfl _ rfl rfl
 ·exact key 7 rfl _ rfl rfl
theorem Si {x:Operand}{ty i:Nat}{j at_:Int}{r:Rg}{s1:SV}{ti:TI}(hX:Y.ok P=true)(CJ:o.op=.load ty x)(hg:BE ops T o.guard=some .run)(hx:Db T x=some (.ix (.ptr i 2) 1 8 j 0))(hH:lg H i=some (some (.blk (Zf s1 at_ r))))(HZ:Y.get ty=some ti)(Df:ti.row=none)(CA:ti.one=true)(hj:0≤j∧j<8):
  Bd P n ops ks G0 w0 T H o (.int .i64 (r j.toNat)) H:=fun G a w A=>by
 have hw:=BQ (gd:=none) A hg
 obtain⟨d,op,ty',pos,af,gd⟩:=o
 simp only at CJ
 subst CJ
 have CH:=A.ev hx
 have key:∀k:Nat,j=(k:Int)→(lg (Zf s1 at_ r) (2+k)=some (.int .i64 (r j.toNat)))→Bq P ops {dst:=d,op:=.load ty x,type:=ty',pos:=pos,after:=af,guard:=gd} a w fun v' w'=>∃F,den (G++F) (.int .i64 (r j.toNat))=some v'∧Ms H ks G0 w0 (G++F) w':=by
  intro k hk hr
  rw [hk,Cy (q:=2+k) k (by omega)]at CH
  have hs:Ev ⟨Y,true⟩ H ty (.ptr i (2+k))=some (.int .i64 (r j.toNat),[]):=by
   have ht:Tx.get ⟨Y,true⟩ ty=some ti:=HZ
   simp only [Ev,Gg,hH,LV,DX,ht,Df,CA,hr,θ3]
  obtain⟨z,hz,h3⟩:=FZ (X:=⟨Y,true⟩) (P:=P) (ops:=ops) (d:=d) (ty:=ty') (pos:=pos) (af:=af) (gd:=gd) (x:=x) hX A hs CH
  exact h3 (fun p hp=>by cases hp) rfl hw _ ⟨[],by simpa using hz,by simpa using A.ms⟩
 rcases lR hj with rfl|rfl|rfl|rfl|rfl|rfl|rfl|rfl
 ·exact key 0 rfl rfl
 ·exact key 1 rfl rfl
 ·exact key 2 rfl rfl
 ·exact key 3 rfl rfl
 ·exact key 4 rfl rfl
 ·exact key 5 rfl rfl
 ·exact key 6 rfl rfl
 ·exact key 7 rfl rfl
def Ty (ao:Option Addr)(s:Nat)(j:Int):Option Addr:=ao.map fun a=>⟨a.block,a.off+j.toNat*s,none⟩
theorem Hz {x y:Operand}{t e nn cp s:Nat}{j:Int}{ao:Option Addr}{f:Nat→List SV}(CJ:o.op=.indexAddr t x y)(hg:BE ops T o.guard=some .run)(hx:Db T x=some (.sla ao nn cp))(hy:Db T y=some (.int .i64 j))(h0:At ao s nn f w0 ks)(ht:sliceB P t e s=true)(hj:0≤j∧j<((nn:Nat):Int)):
  Bd P n ops ks G0 w0 T H o (.v (.pointer (Ty ao s j))) H:=fun G a w A=>by
 rcases h0.2 with q|⟨b,q,rfl,_⟩
 ·omega
 have hw:=BQ (gd:=none) A hg
 obtain⟨d,op,ty,pos,af,gd⟩:=o
 simp only at CJ
 subst CJ
 have CH:=A.ev hx
 have Dp:=A.ev hy
 unfold den at CH Dp
 simp only [β2]at CH Dp
 exact FW (n:=nn) (s:=s) (b:=b) (o:=q+j.toNat*s) (j:=j.toNat) hw CH.symm (by rw [←Dp];congr 1;omega) ht ⟨q,cp,rfl,rfl⟩ (by omega) ⟨[],rfl,by simpa using A.ms⟩
theorem Po {x:Operand}{ty s nn:Nat}{j:Int}{ao:Option Addr}{f:Nat→List SV}(r:List SV)(hX:Y.ok P=true)(CJ:o.op=.load ty x)(hg:BE ops T o.guard=some .run)(hx:Db T x=some (.v (.pointer (Ty ao s j))))(h0:At ao s nn f w0 ks)(hj:0≤j∧j<((nn:Nat):Int))(hr:f j.toNat=r)(hc:DX ⟨Y,true⟩ ty r 0=some (.agg r)):
  Bd P n ops ks G0 w0 T H o (.agg r) H:=fun G a w A=>by
 have h1:=At.ok w0 ks w ks h0 A.mix (fun b hb=>.inl hb)
 rcases h1.2 with q|⟨b,q,rfl,_,_,h4⟩
 ·omega
 have hw:=BQ (gd:=none) A hg
 obtain⟨d,op,ty,pos,af,gd⟩:=o
 simp only at CJ
 subst CJ
 have CH:=A.ev hx
 unfold den at CH
 simp only [β2]at CH
 obtain⟨vs,v1,v2⟩:=h4 j.toNat (by omega)
 rw [hr]at v1
 have v3:Al G r=some vs:=by simpa using BT G r v1
 exact Fx (X:=⟨Y,true⟩) hX hc v3 (by show(Al G r).map _=_;rw [v3];rfl) v2 hw CH.symm ⟨[],by simp only [ε9];show(Al G r).map _=_;rw [v3];rfl,by simpa using A.ms⟩
end
theorem Pp {I:Ef} {P:Program} {f:Nat} {args:List SV} {x:SV} {e s m c:Nat} {F F':Nat→List SV} {j:Int} (k:Nat) (HY:j.toNat=k) (hj:k<m)
  (h:CE I P f (.ptr 0 0::args) [some (.blk (F k))] (Rt x [some (.blk (F' k))])) (KO:Hf 0 args=true) (qN:LQ 0 x=true) (Ch:∀q,q≠k→F' q=F q) (W9:∃vs,Al [] (F' k)=some vs∧vs.length=s):
  CE I P f (.el 0 s j 0::args) [some (.row e s m c F)] (Rt x [some (.row e s m c F')]):=by
 refine⟨h.1,fun G w vs hM hI hv=>?_⟩
 have T6:G.length=1:=hM.len.symm
 obtain⟨p,rfl⟩:∃p,G=[p]:=by
  cases G with
  |nil=>cases T6
  |cons p G=>cases G with
   |nil=>exact⟨p,rfl⟩
   |cons _ _=>simp at T6
 obtain⟨CD,AM,xs,sO,EA⟩:=hM.ent 0 _ rfl
 obtain⟨us,Y9,Aaf⟩:=CD k
 have iO:=EY CD sO
 have sM:(k+1)*s≤m*s:=θ6 s (by omega)
 have Tq:(k+1)*s=k*s+s:=by rw [ι9,Nat.one_mul]
 rcases EA.2 with⟨_,h0⟩|⟨g,cap,cur,Qa,hb,hg,sP,hcm,Ab,zE⟩
 ·omega
 obtain⟨L,rfl⟩:∃L,p=some L:=by
  cases p with
  |none=>simp at Qa
  |some L=>exact⟨L,rfl⟩
 have zF:=AM L rfl
 simp only [ν1,γ8,δ4,ι2,β2,κ9,true_and]at Qa
 have zG:L.b=g:=Qa.1.1
 have j9:m*s≤cap*s:=θ6 s sP
 have Aah:cur.toList.length=cap*s:=by simpa using Ab
 have xC:(cur.toList.drop (k*s)).take s=us:=by
  obtain⟨us2,e1,e2⟩:=J5 CD sO k hj
  rw [Y9]at e1;cases e1
  apply θ5
  intro q
  by_cases hq:q<s
  ·rw [γ1 hq,η1]
   have sQ:q<us.length:=by omega
   have:=e2 q us[q] (β0 sQ)
   rw [←zE,γ1 (by omega)]at this
   rw [this,β0 sQ]
  ·rw [γ4 (by rw [δ8];omega),γ4 (by omega)]
 have GM:cur.toList.take (k*s)++us++cur.toList.drop ((k+1)*s)=cur.toList:=by
  rw [←xC,Tq,←μ2,γ2,ι5,ι5]
 have KN:(cur.toList.take (k*s)).length=k*s:=by rw [δ8];omega
 let L':Loc:=⟨g,cur.toList.take (k*s),cur.toList.drop ((k+1)*s),e⟩
 have IB:∀{l:List SV} {vs:List Value} {G:Gr},Al [] l=some vs→Al G l=some vs:=fun{l vs G} h=>by simpa using BT G l h
 have Tn:Mem [some (.blk (F k))] [some L'] w:=by
  refine⟨rfl,fun i e' he=>?_,fun i q e1 e2 L1 L2 jF h1 h2=>?_⟩
  ·cases i with
   |succ i=>cases he
   |zero=>
    cases he
    refine⟨L',us,rfl,IB Y9,?_⟩
    show EV w g (cur.toList.take (k*s)++us++cur.toList.drop ((k+1)*s)).toArray e
    rw [GM]
    exact hg
  ·cases i with
   |succ i=>cases h1
   |zero=>cases q with
    |zero=>exact absurd rfl jF
    |succ q=>cases h2
 have PD:keys [some (.row e s m c F)] [some L]=keys [some (.blk (F k))] [some L']:=by
  show [L.b]=[g]
  rw [zG]
 have AV:Al [some L'] (.ptr 0 0::args)=some vs:=by
  obtain⟨v,ws,e1,e2,rfl⟩:=Bg hv
  refine Bb ?_ ?_
  ·rw [←e1]
   show some (Value.pointer (some ⟨g,(cur.toList.take (k*s)).length+0,none⟩))=some (Value.pointer (some ⟨L.b,L.pre.length+j.toNat*s+0,none⟩))
   rw [KN,zG,zF,HY]
   simp
  ·have a1:=Bv (G:=[some L]) (k:=0) args KO
   have a2:=Bv (G:=[some L']) (k:=0) args KO
   rw [ι6]at a1 a2
   rw [←a2,a1,e2]
 refine ν6 (h.2 [some L'] w vs Tn (PD▸hI) AV) ?_
 rintro en w' ⟨y,H',Fr,v,⟨rfl,rfl⟩,d1,rfl,Qc,DN,_,_,_⟩
 have hF:Fr=[]:=by
  have:=Qc.len
  cases Fr with
  |nil=>rfl
  |cons _ _=>simp at this
 subst hF
 obtain⟨L2,vs',q1,q2,q3⟩:=Qc.ent 0 _ rfl
 cases q1
 obtain⟨vs2,r1,r2⟩:=W9
 have r3:=IB (G:=[some L']++[]) r1
 rw [r3]at q2
 cases q2
 have qO:∀k,∃vs,Al [] (F' k)=some vs∧vs.length=s:=fun q=>by
  by_cases hq:q=k
  ·subst hq;exact⟨vs',r1,r2⟩
  ·rw [Ch q hq];exact CD q
 have xD:=Ki CD Ch r1 r2 sO hj
 rw [←PD]at DN
 refine⟨y,_,[],v,⟨rfl,rfl⟩,?_,rfl,⟨rfl,fun i e' he=>?_,fun i q e1 e2 L1 L2 jF h1 h2=>?_⟩,DN,β7 _,fun i e' he hm=>?_,fun i e' he hm L1 hL1=>?_⟩
 ·have a1:=DZ (G:=[some L]++[]) (k:=0) y qN
  have a2:=DZ (G:=[some L']++[]) (k:=0) y qN
  rw [ι6]at a1 a2
  rw [←a1,a2];exact d1
 ·cases i with
  |succ i=>cases he
  | zero=>
   cases he
   refine⟨qO,fun M hM=>by cases hM;exact zF,_,xD,?_,.inr ⟨g,cap,(cur.toList.take (k*s)++vs'++cur.toList.drop ((k+1)*s)).toArray,?_,hb,q3,sP,hcm,?_,?_⟩⟩
   ·simp only [α4,δ8,γ5];omega
   ·simp only [ε9,ν1,γ8,δ4,ι2,β2,κ9,true_and]
    exact Qa
   ·simp only [σ8,α4,δ8,γ5];omega
   ·have e1:(cur.toList.take (k*s)++vs').length=(k+1)*s:=by rw [α4,KN,r2,Tq]
    show(cur.toList.take (k*s)++vs'++cur.toList.drop ((k+1)*s)).take (m*s)=_
    rw [List.take_append,ε7 (l:=cur.toList.take (k*s)++vs') (by omega),e1,←zE,υ6,Nat.min_eq_left (by omega),List.drop_take]
 ·cases i with
  |succ i=>cases h1
  |zero=>cases q with
   |zero=>exact absurd rfl jF
   |succ q=>cases h2
 ·cases i with
  |succ i=>cases he
  |zero=>cases he;cases hm
 ·cases i with
  |succ i=>cases he
  |zero=>
   cases he
   cases hL1
   exact .inl (by show [L.b].contains L.b=true;simp)
section
variable {P:Program}{n:Nat}{ks:List Nat}{G0:Gr}{w0:World}{H:Hp}{G:Gr}{w w':World}{ops:Array Oper}{o:Oper}
end
theorem L9 {G:Gr}{x y:SV}(h:den G x=den G y):∀{l:List SV},Al G (l++[x])=Al G (l++[y])
 | []=>by
  show Al G [x]=Al G [y]
  unfold Al
  rw [h]
 |z::l=>by
  show Al G (z::(l++[x]))=Al G (z::(l++[y]))
  unfold Al
  rw [L9 h]
section
variable {P:Program}{n:Nat}{ks:List Nat}{G0:Gr}{w0:World}{T:List (Nat×SV)}{H:Hp}{G:Gr}{a:Act}{w w':World}{Q:Exit→Act→World→Prop}{K:List Fr}{ops:Array Oper}{o:Oper}{rest:List Oper}
end
section
variable {P:Program}{Y:Tb}{n:Nat}{ks:List Nat}{G0:Gr}{w0:World}{T:List (Nat×SV)}{H:Hp}{G:Gr}{a:Act}{w:World}{Q:Exit→Act→World→Prop}{K:List Fr}{ops:Array Oper}{o:Oper}{rest:List Oper}
theorem M8 {x y:SV}{H':Hp}(e:∀G,den G x=den G y)(h:Bd P n ops ks G0 w0 T H o x H'):Bd P n ops ks G0 w0 T H o y H':=fun G a w A=>
 FX (h G a w A) fun v w' ⟨F,h1,h2⟩=>⟨F,by rw [←e];exact h1,h2⟩
theorem HT {i e s m c nn cc mm mb mc:Nat} {f g:Nat→List SV} (hY:Y.ok P=true) (m':Nat) (f':Nat→List SV) (h:Xp Y n ops T H o=some ((i,e,s,m,c),f,(mm,mb,mc),g,(nn,cc))) (h1:nn=m) (h2:cc=c) (xE:c=0) (zH:mm≤mb) (hb:m≤1000000) (T3:mm≤1000000) (To:m'=m+mm)
  (hf:∀k,k<m→f' k=f k) (hn:∀k,k<mm→f' (m+k)=g k) (CD:∀k,∃vs,Al [] (f' k)=some vs∧vs.length=s) (CA:∀k,k<mm→∃E,He (g k)=some E∧Dr E):
  Bd P n ops ks G0 w0 T H o (.sl H.length m' 0) (Cd H i none++[some (.row e s m' 0 f')]):=by
 subst To
 intro G a w A
 obtain⟨d,op,ty,pos,af,gd⟩:=o
 unfold Xp at h
 split at h
 ·next hd =>
  split at h
  ·next i7 =>
   have hw:=BQ (gd:=none) A i7
   split at h
   ·next ca qH=>
    simp only at qH
    subst qH
    obtain⟨callee,args,ats⟩:=ca
    simp only at h
    split at h
    ·next x y t t' ha ht=>
     split at h
     ·next i' nn' cc' j mm' mc' hx hy T2=>
      split at h
      ·next e' s' m' c1 f1 s2 mb' g' ti hi hj HZ=>
       split at h
       ·next e2 s3 b QZ=>
        split at h
        ·next GX=>
         cases h
         subst h1;subst h2
         simp only [α3]at GX
         obtain⟨⟨⟨c1,c2⟩,c3⟩,c4⟩:=GX
         have e1:=α9 c1
         have e2':=α9 c2
         have e3:=α9 c3
         have e4:=α9 T2
         have iY:=ε1 c4
         subst e1;subst e2';subst e3;subst e4
         rw [BI]at hi
         have AV:args= #[x,y]:=by have:=congrArg List.toArray ha;simpa using this
         have iZ:ats= #[t,t]:=by have:=congrArg List.toArray ht;simpa using this
         subst AV;subst iZ
         obtain⟨r1,r2,xs,r3,r4⟩:=A.mem.ent i _ hi
         obtain⟨g1,g2⟩:=Gh A.mem hj
         obtain⟨ie,z,f1',f2',f3',f4',f5',f6',f7'⟩:=Dn (D0 (Tb.at hY HZ) QZ)
         have CH:=A.ev hx
         have Dp:=A.ev hy
         obtain⟨q,hq⟩:∃q,G[i]?=some q:=by
          have:i<G.length:=by rw [←A.mem.len];exact(α0.1 hi).1
          exact⟨G[i],by simp [this]⟩
         rw [hq]at r2 r4
         simp only [γ8]at r2 r4
         unfold den at CH Dp
         rw [hq]at CH
         simp only [β2]at CH
         have htg:∀k,k<mm→∃vs,Al [] (g k)=some vs∧vs.length=s:=fun k hk=>by rw [←hn k hk];exact CD _
         obtain⟨ys,XG⟩:=Mk (f:=fun k=>f' (nn+k)) (fun k=>CD _) mm
         have iP:=EY (f:=fun k=>f' (nn+k)) (fun k=>CD _) XG
         have Mb:CX f' (nn+mm)=some (xs++ys):=Lw mm nn (by rw [Eu hf];exact r3) XG
         have ZI:Value.ownBlock (.slice (q.map fun L=>⟨L.b,L.pre.length,none⟩) nn (cc+rm q))=q.map (·.b):=by cases q<;>rfl
         by_cases h0:mm=0
         ·subst h0
          cases XG
          have XH:Src P ie.size t (a.eval y) 0 [] w:=by
           split at Dp
           ·next p hp=>
            rw [←β6 Dp]
            cases p with
            |none=>exact Src.ofNil w f1' mc
            |some L=>exact Src.ofSlice w f1' _ 0 _ [] (by simp) (fun j u hj=>by simp at hj) (fun u hu=>by cases hu)
           ·cases Dp
          have sP:nn≤cc+rm q:=by
           rcases r4.2 with⟨q1,q2⟩|⟨g,cap,cur,q1,_,_,q4,_⟩
           ·omega
           ·cases q<;>simp at q1;omega
          have hr:=σ6 (P:=P) w t t ty e ie f1' f2' (q.map fun L=>⟨L.b,L.pre.length,none⟩) nn (cc+rm q) sP _ XH
          refine A6 (v:=.slice (q.map fun L=>⟨L.b,L.pre.length,none⟩) nn (cc+rm q)) (w':=w) hw ?_ ?_
          ·unfold execOp
           simp only [resolve,invoke,builtin,γ3,γ6,β1,θ9,ζ4,κ5,←CH,hr]
          ·have A2:=A.rowMove (w':=w) (p':=q) (m':=nn+0) (c':=cc) (xs':=xs++[]) hi ⟨rfl,rfl,rfl,β7 _,fun _ _ _=>rfl⟩ (by simpa using r4) r2 (.inl (by rw [hq];rfl)) Mb CD
           subst xE
           refine⟨_,?_,A2.ms⟩
           unfold den
           rw [α2 (by rw [A.mem.len];exact β7 _),A.mem.len]
           simp
         ·obtain⟨L,vs0,b1,_⟩:=g2 0 (by omega)
          rw [DS b1]at Dp
          simp only [δ4,β2]at Dp
          have hmul:(nn+mm)*b≤2000000*10000:=ν7 (by omega) iY
          obtain⟨v',w',hr,k1,k2,_,k4⟩:=τ0 (P:=P) w 0 t ty e ie z s b f1' f2' f3' f4' f5' f6' f7' _ nn xs r4 ⟨L.b,L.pre.length,none⟩ mm (mc+rm (some L)) ys iP
           (fun j u hj=>by
            obtain⟨k,r,us,d1,d2,d3,d4⟩:=Gk (f:=fun k=>f' (nn+k)) (fun k=>CD _) XG j u hj
            obtain⟨L',us',b1',b2',b3'⟩:=g2 k (by omega)
            rw [b1]at b1';cases b1'
            rw [hn k d1,b2']at d2
            cases d2
            have:=b3' r u d3
            rw [η3,d4,←θ4]
            exact this)
           (fun u hu=>by
            obtain⟨j,hj⟩:=κ2.1 hu
            obtain⟨k,r,us,d1,d2,d3,d4⟩:=Gk (f:=fun k=>f' (nn+k)) (fun k=>CD _) XG j u hj
            rw [hn k d1]at d2
            obtain⟨E,o1,o2⟩:=CA k d1
            exact δ7.1 (DY o1 o2 d2) u (θ0 d3))
           (by simp only [maxLen];omega) (by omega) (β8 _)
          obtain⟨p',o1,o2,o3⟩:=HA k1
          rw [ZI]at k2 k4
          rw [o3]at k4
          rw [o1]at k1
          refine A6 (v:=v') (w':=w') hw ?_ ?_
          ·unfold execOp
           simp only [resolve,invoke,builtin,γ3,γ6,β1,θ9,ζ4,κ5,←CH,←Dp,hr]
          ·have A2:=A.rowMove (p':=p') hi (by rw [hq];exact k2) k1 o2 (by rw [hq];exact k4) Mb CD
           refine⟨_,?_,A2.ms⟩
           unfold den
           rw [α2 (by rw [A.mem.len];exact β7 _),A.mem.len]
           simp [o1]
        ·cases h
       ·cases h
      ·cases h
     ·cases h
    ·cases h
   ·cases h
  ·cases h
 ·cases h
theorem Xz {i e s m c nn cc mm mb mc:Nat} {f g:Nat→List SV} (hY:Y.ok P=true) (m':Nat) (f':Nat→List SV) (A:Sy n T H ks G0 w0 G a w) (h:Xp Y n ops T H o=some ((i,e,s,m,c),f,(mm,mb,mc),g,(nn,cc))) (h1:nn=m) (h2:cc=c) (xE:c=0) (zH:mm≤mb) (hb:m≤1000000) (T3:mm≤1000000) (To:m'=m+mm)
  (hf:∀k,k<m→f' k=f k) (hn:∀k,k<mm→f' (m+k)=g k) (CD:∀k,∃vs,Al [] (f' k)=some vs∧vs.length=s) (CA:∀k,k<mm→∃E,He (g k)=some E∧Dr E)
  (hk:∀{G a w},Sy n (Bh T o.dst (.sl H.length m' 0)) (Cd H i none++[some (.row e s m' 0 f')]) ks G0 w0 G a w→Goal P Q K (.ops ops rest) a w):Goal P Q K (.ops ops (o::rest)) a w:=
 A9 A (by unfold Xp at h;split at h<;>first|assumption|cases h) (HT hY m' f' h h1 h2 xE zH hb T3 To hf hn CD CA) hk
end
end Go.Proofs.YtbbdanhpphlbpaaGreatDoor
namespace Go.Proofs.YtbbdanhpphlbpaaGreatDoor
open Go.RowKit
section
variable {n:Nat}{T:List (Nat×SV)}{H:Hp}{ks:List Nat}{G0:Gr}{w0:World}{G:Gr}{a:Act}{w:World}
end
section
variable {n:Nat}{T:List (Nat×SV)}{H:Hp}{ks:List Nat}{G0:Gr}{w0:World}{G:Gr}{a:Act}{w:World}
theorem KC {G:Gr}{x y:SV}(h:den G x=den G y):∀(l r:List SV),Al G (l++x::r)=Al G (l++y::r)
 | [],r=>by
  show Al G (x::r)=Al G (y::r)
  unfold Al;rw [h]
 |z::l,r=>by
  show Al G (z::(l++x::r))=Al G (z::(l++y::r))
  unfold Al;rw [KC h l r]
end
end Go.Proofs.YtbbdanhpphlbpaaGreatDoor
namespace Go.Proofs.YtbbdanhpphlbpaaGreatDoor.Mc
open Go.RowKit
set_option simprocs false
abbrev Ff (x:SV)(a:Int)(r:Nat→Int):List SV:=[x,.int .i64 a,.int .i64 (r 0),.int .i64 (r 1),.int .i64 (r 2),.int .i64 (r 3),.int .i64 (r 4),.int .i64 (r 5),.int .i64 (r 6),.int .i64 (r 7)]
theorem yI {a b:Bool}{o1:Int}{c:Bool}(h:(!(((a&&(decide (o1≥0)))&&b)&&c))=false):0≤o1:=by
 simp at h;exact h.1.1.2
theorem Uq (s1:Int)(hs:s1=1∨s1=2∨s1=4∨s1=8):Fn Tryz.prog 172 [.int .i64 s1] [] (Rt (.int .i64 (IntKind.wrap .i64 ((IntKind.wrap .i64 (1*2^min ((IntKind.wrap .i64 (8*s1))).toNat (IntKind.bits .i64))) - 1))) []):=
 Am (n:=7) (by kernel_rfl) Tryz.func172 rfl rfl rfl fun G w a h0 A=>M hX 15 A rfl (Aj (by first|omega|(rcases hs with rfl|rfl|rfl|rfl<;>decide))<|Ah) fun A=>R9 A rfl h0 rfl rfl rfl
def A7 (o1 x1 s1:Int):Int:=if(!((((s1==1)||(s1==2))||(s1==4))||(s1==8)))=true then(-1)else IntKind.wrap .i64 ((((BitVec.ofInt (IntKind.bits .i64) (IntKind.wrap .i64 ((((BitVec.ofInt (IntKind.bits .i64) (IntKind.wrap .i64 (o1+x1)))&&&(BitVec.ofInt (IntKind.bits .i64) 7)).toNat:Nat):Int)))&&& ~~~ (BitVec.ofInt (IntKind.bits .i64) (IntKind.wrap .i64 (s1 - 1)))).toNat:Nat):Int)
theorem M9 (o1 x1 s1:Int):Fn Tryz.prog 173 [.int .i64 o1,.int .i64 x1,.int .i64 s1] [] (Rt (.int .i64 (A7 o1 x1 s1)) []):=
 Am (n:=19) (by kernel_rfl) Tryz.func173 rfl rfl rfl fun G w a h0 A=>M hX 9 A rfl rfl fun A=>C9 [] (M1 s1) A rfl fun A=>M hX 3 A rfl rfl fun A=>fork 10 A rfl
  (fun h1 A=>M hX 7 A rfl rfl fun A=>R9 A rfl h0 rfl (by simp only [BA,nb,CK,CC,A7,if_pos h1]) rfl)
  (fun h1 A=>M hX 22 A rfl rfl fun A=>R9 A rfl h0 rfl (by simp only [BA,nb,CK,CC,A7,if_neg (α8 h1)]) rfl)
def Bl (o1 s1:Int):Int:=if(!(((((((s1==1)||(s1==2))||(s1==4))||(s1==8))&&(decide (o1≥0)))&&(decide (o1≤(IntKind.wrap .i64 (8 - s1)))))&&((Int.tmod o1 s1)==0)))=true then 0 else IntKind.wrap .i64 ((IntKind.wrap .i64 ((IntKind.wrap .i64 (1*2^min (s1).toNat (IntKind.bits .i64))) - 1))*2^min (o1).toNat (IntKind.bits .i64))
theorem Pq (o1 s1:Int)(hs:s1=1∨s1=2∨s1=4∨s1=8):Fn Tryz.prog 174 [.int .i64 o1,.int .i64 s1] [] (Rt (.int .i64 (Bl o1 s1)) []):=
 Am (n:=14) (by kernel_rfl) Tryz.func174 rfl rfl rfl fun G w a h0 A=>M hX 10 A rfl rfl fun A=>C9 [] (JJ o1 s1) A rfl fun A=>M hX 3 A rfl rfl fun A=>fork 8 A rfl
  (fun h1 A=>M hX 7 A rfl rfl fun A=>R9 A rfl h0 rfl (by simp only [BA,nb,CK,CC,Bl,if_pos h1]) rfl)
  (fun h1 A=>M hX 14 A rfl (Aj (by have:=yI h1;omega)<|Aj (by have:=yI h1;omega)<|Ah) fun A=>R9 A rfl h0 rfl (by simp only [BA,nb,CK,CC,Bl,if_neg (α8 h1)]) rfl)
def Bz (v1 s1:Int):Int:=if(!(((((((s1==1)||(s1==2))||(s1==4))||(s1==8))&&(decide ((0:Int)≥0)))&&(decide (0≤(IntKind.wrap .i64 (8 - s1)))))&&((Int.tmod 0 s1)==0)))=true then 0 else IntKind.wrap .i64 ((((BitVec.ofInt (IntKind.bits .i64) (Int.fdiv v1 (2^min ((IntKind.wrap .i64 (8*0))).toNat (IntKind.bits .i64))))&&&(BitVec.ofInt (IntKind.bits .i64) (IntKind.wrap .i64 ((IntKind.wrap .i64 (1*2^min ((IntKind.wrap .i64 (8*s1))).toNat (IntKind.bits .i64))) - 1)))).toNat:Nat):Int)
theorem RP (v1 s1:Int)(hs:s1=1∨s1=2∨s1=4∨s1=8):Fn Tryz.prog 130 [.int .i64 v1,.z9,.int .i64 s1] [] (Rt (.int .i64 (Bz v1 s1)) []):=
 Am (n:=18) (by kernel_rfl) Tryz.func130 rfl rfl rfl fun G w a h0 A=>M hX 10 A rfl rfl fun A=>C9 [] (JJ 0 s1) A rfl fun A=>M hX 3 A rfl rfl fun A=>fork 10 A rfl
  (fun h1 A=>M hX 7 A rfl rfl fun A=>R9 A rfl h0 rfl (by simp only [BA,nb,CK,CC,Bz,if_pos h1]) rfl)
  (fun h1 A=>M hX 4 A rfl rfl fun A=>b0 hX By [(5,.int .i64 (IntKind.wrap .i64 ((IntKind.wrap .i64 (1*2^min ((IntKind.wrap .i64 (8*s1))).toNat (IntKind.bits .i64))) - 1)))] [] A rfl (Aj (by first|decide|omega)<|Ah) rfl rfl (by kernel_rfl) (A8 _ _) ⟨.inl ⟨_,_,rfl,rfl,Uq s1 hs⟩,trivial⟩ fun A=>M hX 2 A rfl rfl fun A=>R9 A rfl h0 rfl (by simp only [BA,nb,CK,CC,Bz,if_neg (α8 h1)]) rfl)
def Fg (fn a1 b1:Int):Int:=if fn=1 then IntKind.wrap .i64 (a1+b1)else if fn=2 then IntKind.wrap .i64 (a1 - b1)else if fn=3 then IntKind.wrap .i64 ((((BitVec.ofInt (IntKind.bits .i64) a1)^^^(BitVec.ofInt (IntKind.bits .i64) b1)).toNat:Nat):Int)else if fn=4 then IntKind.wrap .i64 ((((BitVec.ofInt (IntKind.bits .i64) a1)&&&(BitVec.ofInt (IntKind.bits .i64) b1)).toNat:Nat):Int)else if fn=5 then IntKind.wrap .i64 ((((BitVec.ofInt (IntKind.bits .i64) a1)|||(BitVec.ofInt (IntKind.bits .i64) b1)).toNat:Nat):Int)else 0
theorem lS (fn a1 b1:Int):Fn Tryz.prog 169 [.int .i64 fn,.int .i64 a1,.int .i64 b1] [] (Rt (.int .i64 (Fg fn a1 b1)) []):=
 Am (n:=33) (by kernel_rfl) Tryz.func169 rfl rfl rfl fun G w a h0 A=>M hX 18 A rfl rfl fun A=>Au 8 A rfl
  (fun h1 A=>M hX 10 A rfl rfl fun A=>R9 A rfl h0 rfl (by simp only [BA,nb,CK,CC,Fg,if_pos h1]) rfl)
  (fun h1 A=>M hX 7 A rfl rfl fun A=>Au 13 A rfl
   (fun h2 A=>M hX 10 A rfl rfl fun A=>R9 A rfl h0 rfl (by simp only [BA,nb,CK,CC,Fg,if_neg (h1),if_pos h2]) rfl)
   (fun h2 A=>M hX 7 A rfl rfl fun A=>Au 18 A rfl
    (fun h3 A=>M hX 10 A rfl rfl fun A=>R9 A rfl h0 rfl (by simp only [BA,nb,CK,CC,Fg,if_neg (h1),if_neg (h2),if_pos h3]) rfl)
    (fun h3 A=>M hX 7 A rfl rfl fun A=>Au 23 A rfl
     (fun h4 A=>M hX 10 A rfl rfl fun A=>R9 A rfl h0 rfl (by simp only [BA,nb,CK,CC,Fg,if_neg (h1),if_neg (h2),if_neg (h3),if_pos h4]) rfl)
     (fun h4 A=>M hX 7 A rfl rfl fun A=>Au 28 A rfl
      (fun h5 A=>M hX 10 A rfl rfl fun A=>R9 A rfl h0 rfl (by simp only [BA,nb,CK,CC,Fg,if_neg (h1),if_neg (h2),if_neg (h3),if_neg (h4),if_pos h5]) rfl)
      (fun h5 A=>M hX 10 A rfl rfl fun A=>R9 A rfl h0 rfl (by simp only [BA,nb,CK,CC,Fg,if_neg (h1),if_neg (h2),if_neg (h3),if_neg (h4),if_neg (h5)]) rfl)))))
abbrev F9 (ao:Option Addr)(l:List In):Ef:=At ao 17 l.length (fun zz=>C3 (l.getD zz In.z))
def DT (r:Rg)(g o1:Int):Int:=if g= -1 then o1 else r g.toNat
theorem Ks (l:List In)(ao:Option Addr)(cp:Nat)(at_:Int)(r:Rg)(g o1:Int)(hg: -1≤g∧g<8):Fn Tryz.prog 170 [.ptr 0 0,.int .i64 g,.int .i64 o1] [some (.blk (Ff (.sla ao l.length cp) at_ r))] (Rt (.int .i64 (DT r g o1)) [some (.blk (Ff (.sla ao l.length cp) at_ r))]):=
 Am (n:=16) (by kernel_rfl) Tryz.func170 rfl rfl rfl fun G w a h0 A=>N9 12 A rfl rfl fun A=>Au 8 A rfl
  (fun h1 A=>N9 8 A rfl rfl fun A=>R9 A rfl h0 rfl (by unfold DT;rw [if_pos h1]<;>rfl) rfl)
  (fun h1 A=>N9 10 A rfl (Aj (by omega)<|Ah) fun A=>A9 A rfl (Si (r:=r) hX rfl rfl rfl rfl rfl rfl rfl (by omega)) fun A=>N9 4 A rfl rfl fun A=>R9 A rfl h0 rfl (by unfold DT;rw [if_neg h1]<;>rfl) rfl)
theorem Kt (l:List In)(ao:Option Addr)(cp:Nat)(at_:Int)(r:Rg)(Et:0≤at_∧at_≤((l.length:Nat):Int)):CE (F9 ao l) Tryz.prog 104 [.ptr 0 0] [some (.blk (Ff (.sla ao l.length cp) at_ r))] (Rt (.tup [.agg (A5 (l.getD (at_).toNat In.z)),.bool (!(at_==((l.length:Nat):Int)))]) [some (.blk (Ff (.sla ao l.length cp) at_ r))]):=
 BB (n:=25) (by kernel_rfl) Tryz.func104 rfl rfl rfl fun G w a h0 hI A=>N9 8 A rfl rfl fun A=>Ba hX By [] [] A rfl rfl rfl rfl (by kernel_rfl) (A8 _ _) trivial fun A=>N9 1 A rfl rfl fun A=>Au 13 A rfl
  (fun h1 A=>N9 9 A rfl rfl fun A=>R9 A rfl h0 rfl (by rw [h1,β5,α6,γ4 (β7 _),beq_self_eq_true];rfl) rfl)
  (fun h1 A=>N9 4 A rfl rfl fun A=>JO By [.ptr 0 0,.ptr 0 0,.ptr 0 0,.sla ao l.length cp,.ptr 0 0,.ptr 0 0,.ptr 0 1,.int .i64 at_,.v (.pointer (Ty ao 17 at_)),.agg (A5 (l.getD (at_).toNat In.z)),.tup [],.tt] [10] [] 0 [([],[],[some (.blk (Ff (.sla ao l.length cp) at_ r)),some (.blk [.z9,.z9,.z9,.z9,.z9,.z9,.z9,.z9,.z9,.z9,.ff,.ff,.ff,.z9,.z9,.z9,.ff])]),([10],[],[some (.blk (Ff (.sla ao l.length cp) at_ r)),some (.blk (A5 (l.getD (at_).toNat In.z)))])] [[true,true,true,true,true,true,true,true,true,true,true,false],[false,false,false,false,false,false,false,false,false,false,false,true]] A rfl rfl rfl rfl (by kernel_rfl) rfl (by kernel_rfl) ⟨⟨Ao 0 rfl rfl,⟨Ao 0 rfl rfl,⟨Ao 0 rfl rfl,⟨Ao 0 rfl rfl,⟨Ao 0 rfl rfl,⟨Ao 0 rfl rfl,⟨Ao 0 rfl rfl,⟨Ao 0 rfl rfl,⟨CF 0 rfl (Hz (e:=63) rfl rfl rfl rfl hI (by kernel_rfl) (by omega)),⟨CF 0 rfl (Po (C3 (l.getD (at_).toNat In.z)) hX rfl rfl rfl hI (by omega) rfl rfl),⟨CF 1 rfl (BN (X:=⟨_,true⟩) (out:=.upd 1 (A5 (l.getD (at_).toNat In.z)) _) hX rfl rfl),trivial⟩⟩⟩⟩⟩⟩⟩⟩⟩⟩⟩,⟨⟨Ao 1 rfl rfl,trivial⟩,trivial⟩⟩ fun A=>N9 2 A rfl rfl fun A=>R9 A rfl h0 rfl (by rw [δ1.2 h1];rfl) rfl)
end Go.Proofs.YtbbdanhpphlbpaaGreatDoor.Mc
namespace Go.Proofs.YtbbdanhpphlbpaaGreatDoor.Mc
open Go.RowKit
def NA (i:In):Bool:=B8 i.op i.dst i.ra i.rb i.imm i.loc i.off i.ix i.sz i.fn i.acq i.weak i.rel i.pred i.succ i.to_ i.zero
def Sj (i:In):Bool:=CZ i.op i.dst i.ra i.rb i.imm i.loc i.off i.ix i.sz i.fn i.acq i.weak i.rel i.pred i.succ i.to_ i.zero
theorem FH {i:In}{a n:Int}(h:Zc i a n=0):NA i=true∧(i.op=9→a<i.to_∧i.to_≤n):=by
 unfold Zc F7 at h
 split at h
 ·omega
 ·next h1=>
  split at h
  ·omega
  ·next h2=>
   refine⟨?_,fun h9=>?_⟩
   ·cases hs:NA i with
    |true=>rfl
    |false=>unfold NA at hs;rw [hs]at h1;simp at h1
   ·rw [h9]at h2
    simp at h2
    omega
structure X0 (i:In):Prop where
 op:1≤i.op∧i.op≤9
 d:(i.op=1∨i.op=2∨i.op=3∨i.op=4∨i.op=6)→0≤i.dst∧i.dst<8
 a:(i.op=2∨i.op=3∨i.op=6∨i.op=9)→0≤i.ra∧i.ra<8
 a5:i.op=5→ -1≤i.ra∧i.ra<8
 b:i.op=3→ -1≤i.rb∧i.rb<8
 x:(i.op=4∨i.op=5∨i.op=6)→ -1≤i.ix∧i.ix<8
theorem Ur {r:Int}(h:C2 r=true): -1≤r∧r<8:=by
 unfold C2 at h
 split at h
 ·omega
 ·simp at h;omega
theorem Pr {i:In}(h:Sj i=true): -1≤i.ix∧i.ix<8:=by
 unfold Sj CZ at h
 split at h
 ·split at h
  ·split at h
   ·next h1=>exact Ur h1
   ·cases h
  ·cases h
 ·cases h
theorem cN {i:In}(h:NA i=true):X0 i:=by
 unfold NA B8 at h
 by_cases h1:i.op=1
 ·rw [if_pos h1]at h;simp at h
  exact⟨by omega,fun _=>by omega,fun h=>by omega,fun h=>by omega,fun h=>by omega,fun h=>by omega⟩
 rw [if_neg h1]at h
 by_cases h2:i.op=2
 ·rw [if_pos h2]at h
  split at h
  ·next q=>simp at h q;exact⟨by omega,fun _=>by omega,fun _=>by omega,fun h=>by omega,fun h=>by omega,fun h=>by omega⟩
  ·cases h
 rw [if_neg h2]at h
 by_cases h3:i.op=3
 ·rw [if_pos h3]at h
  split at h
  ·next q=>
   split at h
   ·next q2=>simp at h q q2;have:=Ur h.1.1;exact⟨by omega,fun _=>by omega,fun _=>by omega,fun h=>by omega,fun _=>by omega,fun h=>by omega⟩
   ·cases h
  ·cases h
 rw [if_neg h3]at h
 by_cases h4:i.op=4
 ·rw [if_pos h4]at h
  split at h
  ·next q=>rw [α3]at h;simp at q;have:=Pr h.1;exact⟨by omega,fun _=>by omega,fun h=>by omega,fun h=>by omega,fun h=>by omega,fun _=>by omega⟩
  ·cases h
 rw [if_neg h4]at h
 by_cases h5:i.op=5
 ·rw [if_pos h5]at h
  split at h
  ·next q=>have:=Ur q;have:=Pr h;exact⟨by omega,fun h=>by omega,fun h=>by omega,fun _=>by omega,fun h=>by omega,fun _=>by omega⟩
  ·cases h
 rw [if_neg h5]at h
 by_cases h6:i.op=6
 ·rw [if_pos h6]at h
  split at h
  ·next q=>
   split at h
   ·next q2=>rw [α3]at h;simp at q q2;have:=Pr h.1;exact⟨by omega,fun _=>by omega,fun _=>by omega,fun h=>by omega,fun h=>by omega,fun _=>by omega⟩
   ·cases h
  ·cases h
 rw [if_neg h6]at h
 by_cases h7:i.op=7
 ·exact⟨by omega,fun h=>by omega,fun h=>by omega,fun h=>by omega,fun h=>by omega,fun h=>by omega⟩
 rw [if_neg h7]at h
 by_cases h8:i.op=8
 ·exact⟨by omega,fun h=>by omega,fun h=>by omega,fun h=>by omega,fun h=>by omega,fun h=>by omega⟩
 rw [if_neg h8]at h
 by_cases h9:i.op=9
 ·rw [if_pos h9]at h;simp at h
  exact⟨by omega,fun h=>by omega,fun _=>by omega,fun h=>by omega,fun h=>by omega,fun h=>by omega⟩
 rw [if_neg h9]at h
 cases h
theorem Us {i:In}(h:Sj i=true):i.sz=1∨i.sz=2∨i.sz=4∨i.sz=8:=by
 unfold Sj CZ at h
 split at h
 ·split at h
  ·split at h
   ·unfold Kn at h
    split at h
    ·cases h
    ·next h1=>
     rw [τ6,σ4,α3,α3,α3,β9,β9,β9]at h1
     simp only [ε4]at h1
     rcases h1.1.1.1 with((h|h)|h)|h
     ·exact .inl h
     ·exact .inr (.inl h)
     ·exact .inr (.inr (.inl h))
     ·exact .inr (.inr (.inr h))
   ·cases h
  ·cases h
 ·cases h
theorem cO {i:In}(h:NA i=true)(ho:i.op=4∨i.op=5∨i.op=6):i.sz=1∨i.sz=2∨i.sz=4∨i.sz=8:=by
 unfold NA B8 at h
 rw [if_neg (by omega),if_neg (by omega),if_neg (by omega)]at h
 rcases ho with ho|ho|ho
 ·rw [if_pos ho]at h
  split at h
  ·rw [α3]at h;exact Us h.1
  ·cases h
 ·rw [if_neg (by omega),if_pos ho]at h
  split at h
  ·exact Us h
  ·cases h
 ·rw [if_neg (by omega),if_neg (by omega),if_pos ho]at h
  split at h
  ·split at h
   ·rw [α3]at h;exact Us h.1
   ·cases h
  ·cases h
structure Fs (l:List In):Prop where
 n:l.length≤8
 r:∀k,k<l.length→Zc (l.getD k In.z) (k:Int) ((l.length:Nat):Int)=0
theorem Fs.snd {l:List In}(h:Fs l){k:Nat}(hk:k<l.length):X0 (l.getD k In.z):=cN (FH (h.r k hk)).1
theorem Fs.brs {l:List In}(h:Fs l){k:Nat}(hk:k<l.length)(h9:(l.getD k In.z).op=9):(k:Int)<(l.getD k In.z).to_∧(l.getD k In.z).to_≤((l.length:Nat):Int):=(FH (h.r k hk)).2 h9
theorem Fs.szs {l:List In}(h:Fs l){k:Nat}(hk:k<l.length)(ho:(l.getD k In.z).op=4∨(l.getD k In.z).op=5∨(l.getD k In.z).op=6):(l.getD k In.z).sz=1∨(l.getD k In.z).sz=2∨(l.getD k In.z).sz=4∨(l.getD k In.z).sz=8:=cO (FH (h.r k hk)).1 ho
theorem GA {cs:List Ak}(h:M2 cs=0):(1≤cs.length∧cs.length≤3)∧∀c∈cs,Fs c.l:=by
 unfold M2 at h
 split at h
 ·omega
 ·next h0=>
  simp at h0
  refine⟨by omega,?_⟩
  cases h1:IX cs with
  |some k=>rw [h1]at h;simp at h
  | none=>
   rw [h1]at h
   have hb1:=IY h1
   cases h2:JM cs with
   | some k=>
    rw [h2]at h
    exfalso
    unfold JM at h2
    have h3:=υ4 h2
    cases h4:GR (cs.getD k Ak.z)with
    |none=>rw [h4]at h3;cases h3
    |some q=>
     simp only [h4,γ8]at h
     unfold GR at h4
     have h5:=υ4 h4
     rw [h]at h5
     cases h5
   | none=>
    intro c hc
    refine⟨hb1 c hc,fun k hk=>?_⟩
    obtain⟨j,hj⟩:=List.getElem?_of_mem hc
    have hl:=(α0.1 hj).1
    unfold JM at h2
    rw [ι8]at h2
    have h3:=h2 j (ε8.2 hl)
    rw [α6,hj]at h3
    simp only [γ8]at h3
    cases h4:GR c with
    |some q=>rw [h4]at h3;exact absurd rfl h3
    |none=>
     unfold GR at h4
     rw [ι8]at h4
     have h5:=h4 k (ε8.2 hk)
     simpa using h5
def Ft (at_:Int)(r:Rg)(i:In):Int:=if i.op=9 then(if(r i.ra.toNat==0)=i.zero then i.to_ else at_+1)else at_+1
def HI (r:Rg)(i:In):Rg:=if i.op=1 then Bk r i.dst.toNat i.imm else if i.op=2 then Bk r i.dst.toNat (r i.ra.toNat)else if i.op=3 then Bk r i.dst.toNat (Fg i.fn (r i.ra.toNat) (DT r i.rb i.imm))else r
def HU (i:In):Bool:=(i.op==4)||(i.op==5)||(i.op==6)||(i.op==7)||(i.op==8)
structure Th where (at_:Nat) (r:Rg)
def GS (l:List In):Nat→Th→Th
 |0,s=>s
 |f+1,s=>if s.at_<l.length∧HU (l.getD s.at_ In.z)=false then GS l f ⟨(Ft (s.at_:Int) s.r (l.getD s.at_ In.z)).toNat,HI s.r (l.getD s.at_ In.z)⟩else s
def FQ (l:List In)(s:Th):Th:=GS l l.length s
def GY (l:List In)(z:Th):Th:=⟨(Ft ((z.at_:Nat):Int) z.r (l.getD ((z.at_:Nat):Int).toNat In.z)).toNat,HI z.r (l.getD ((z.at_:Nat):Int).toNat In.z)⟩
theorem KD {l:List In}{z:Th}(hc:Fs l)(h1:z.at_<l.length):(z.at_:Int)<Ft ((z.at_:Nat):Int) z.r (l.getD z.at_ In.z)∧Ft ((z.at_:Nat):Int) z.r (l.getD z.at_ In.z)≤((l.length:Nat):Int):=by
 unfold Ft
 split
 ·next h9=>
  have:=hc.brs h1 h9
  split<;>omega
 ·omega
structure SI (l:List In)(s z:Th):Prop where
 le:z.at_≤l.length
 eq:∃f,l.length - z.at_≤f∧GS l f z=FQ l s
theorem SI.i0 {l:List In}{s:Th}(h:s.at_≤l.length):SI l s s:=⟨h,l.length,Nat.sub_le _ _,rfl⟩
theorem SI.nx {l:List In}{s z:Th}(h:SI l s z)(hc:Fs l)(h1:((z.at_:Nat):Int)≠((l.length:Nat):Int))(h2:(!(HU (l.getD ((z.at_:Nat):Int).toNat In.z)))=true):SI l s (GY l z)∧l.length - (GY l z).at_<l.length - z.at_:=by
 have Bn:z.at_<l.length:=by have:=h.le;omega
 have hr:=KD (z:=z) hc Bn
 have e:(GY l z).at_=(Ft ((z.at_:Nat):Int) z.r (l.getD z.at_ In.z)).toNat:=rfl
 have hb:z.at_<(GY l z).at_∧(GY l z).at_≤l.length:=by rw [e];omega
 have LS:HU (l.getD z.at_ In.z)=false:=by
  have:HU (l.getD ((z.at_:Nat):Int).toNat In.z)=false:=by simpa using h2
  exact this
 obtain⟨f,hf,he⟩:=h.eq
 refine⟨⟨hb.2,?_⟩,by omega⟩
 cases f with
 |zero=>omega
 |succ f=>
  refine⟨f,by omega,?_⟩
  rw [←he]
  show _=GS l (f+1) z
  rw [GS,if_pos ⟨Bn,LS⟩]
  rfl
theorem Sk {l:List In}{z:Th}(h:¬(z.at_<l.length∧HU (l.getD z.at_ In.z)=false)):∀f,GS l f z=z
 |0=>rfl
 |f+1=>by rw [GS,if_neg h]
theorem SI.fin {l:List In}{s z:Th}(h:SI l s z)(hn:¬(z.at_<l.length∧HU (l.getD z.at_ In.z)=false)):FQ l s=z:=by
 obtain⟨f,_,he⟩:=h.eq
 rw [←he,Sk hn]
theorem SI.f1 {l:List In}{s z:Th}(h:SI l s z)(h1:((z.at_:Nat):Int)=((l.length:Nat):Int)):FQ l s=z:=h.fin (by omega)
theorem SI.f2 {l:List In}{s z:Th}(h:SI l s z)(h2:(!(HU (l.getD ((z.at_:Nat):Int).toNat In.z)))=false):FQ l s=z:=h.fin (fun q=>by
 have e:HU (l.getD ((z.at_:Nat):Int).toNat In.z)=false:=q.2
 rw [e]at h2;cases h2)
theorem RQ {l:List In}(hc:Fs l):∀f s,s.at_≤l.length→(GS l f s).at_≤l.length
 |0,s,h=>h
 | f+1,s,h=>by
  rw [GS]
  split
  ·next q=>
   have hr:=KD (z:=s) hc q.1
   exact RQ hc f _ (by show(Ft _ _ _).toNat≤_;omega)
  ·exact h
theorem RR {l:List In}(hc:Fs l){s:Th}(h:s.at_≤l.length):(FQ l s).at_≤l.length:=RQ hc _ s h
def IC (r:Rg)(i:In)(old:Int):Rg:=if((i.op==4)||(i.op==6))=true then Bk r i.dst.toNat (Bz old i.sz)else r
def Sm (l:List In)(s:Th)(old:Int):Th:=if s.at_=l.length then s else FQ l ⟨s.at_+1,IC s.r (l.getD s.at_ In.z) old⟩
theorem cP {l:List In}(hc:Fs l){s:Th}(h:s.at_≤l.length)(old:Int):(Sm l s old).at_≤l.length:=by
 unfold Sm
 split
 ·exact h
 ·exact RR hc (by show s.at_+1≤_;omega)
def C4 (i:In):Bool:=(i.op==4)||(i.op==5)||(i.op==6)
def RS (i:In):Int:=if C4 i=true then i.loc else 0
def RT (r:Rg)(i:In):Int:=if C4 i=true then Bl (A7 i.off (DT r i.ix 0) i.sz) i.sz else 0
def Gs (r:Rg)(i:In):Int:=if C4 i=true then(if i.op=5 then Bz (DT r i.ra i.imm) i.sz else if i.op=6 then r i.ra.toNat else 0)else 0
end Go.Proofs.YtbbdanhpphlbpaaGreatDoor.Mc
namespace Go.Proofs.YtbbdanhpphlbpaaGreatDoor.Mc
open Go.RowKit
set_option simprocs false
theorem lT (i:In):Fn Tryz.prog 168 [.agg (A5 i)] [] (Rt (.bool (C4 i)) []):=
 Am (n:=9) (by kernel_rfl) Tryz.func168 rfl rfl rfl fun G w a h0 A=>N9 9 A rfl rfl fun A=>C9 [] (Mz i.op i.dst i.ra i.rb i.imm i.loc i.off i.ix i.sz i.fn i.acq i.weak i.rel i.pred i.succ i.to_ i.zero) A rfl fun A=>N9 1 A rfl rfl fun A=>fork 5 A rfl
  (fun h1 A=>N9 7 A rfl rfl fun A=>R9 A rfl h0 rfl (by rw [show C4 i=true from(by revert h1;simp only [C4,HU]<;>(cases(i.op==4)<;>cases(i.op==5)<;>cases(i.op==6)<;>cases(i.op==7)<;>cases(i.op==8)<;>first|rfl|simp))];rfl) rfl)
  (fun h1 A=>N9 1 A rfl rfl fun A=>C9 [] (J8 i.op i.dst i.ra i.rb i.imm i.loc i.off i.ix i.sz i.fn i.acq i.weak i.rel i.pred i.succ i.to_ i.zero) A rfl fun A=>N9 5 A rfl rfl fun A=>R9 A rfl h0 rfl (congrArg SV.bool (by revert h1;simp only [C4,HU]<;>(cases(i.op==4)<;>cases(i.op==5)<;>cases(i.op==6)<;>cases(i.op==7)<;>cases(i.op==8)<;>first|rfl|simp))) rfl)
theorem cQ (i:In):Fn Tryz.prog 127 [.agg (A5 i)] [] (Rt (.bool (HU i)) []):=
 Am (n:=15) (by kernel_rfl) Tryz.func127 rfl rfl rfl fun G w a h0 A=>N9 9 A rfl rfl fun A=>C9 [] (lT i) A rfl fun A=>N9 14 A rfl rfl fun A=>R9 A rfl h0 rfl (congrArg SV.bool (by simp only [C4,HU]<;>(cases(i.op==4)<;>cases(i.op==5)<;>cases(i.op==6)<;>cases(i.op==7)<;>cases(i.op==8)<;>first|rfl|simp))) rfl
theorem Ut (l:List In)(ao:Option Addr)(cp:Nat)(at_:Int)(r:Rg)(i:In)(Et:0≤at_∧at_≤1000)(hd:i.op=1∨i.op=2∨i.op=3→0≤i.dst∧i.dst<8)(ha:i.op=2∨i.op=3∨i.op=9→0≤i.ra∧i.ra<8)(hb:i.op=3→ -1≤i.rb∧i.rb<8):Fn Tryz.prog 128 [.ptr 0 0,.agg (A5 i)] [some (.blk (Ff (.sla ao l.length cp) at_ r))] (Rt (.tup []) [some (.blk (Ff (.sla ao l.length cp) (Ft at_ r i) (HI r i)))]):=
 Am (n:=80) (by kernel_rfl) Tryz.func128 rfl rfl rfl fun G w a h0 A=>N9 18 A rfl (Aj (by omega)<|Ah) fun A=>N9 12 A rfl rfl fun A=>Au 13 A rfl
  (fun h1 A=>N9 1 A rfl rfl fun A=>Ba hX By [] [(8,.tup [],[some (.blk (Ff (.sla ao l.length cp) (at_+1) (Bk r (i.dst).toNat i.imm))),some (.blk (A5 i))])] A rfl (Aj (by omega)<|Ah) rfl rfl (by kernel_rfl) ⟨Xy (i:=0) (r:=r) hX rfl rfl rfl rfl rfl rfl rfl rfl (by first|exact hd (by omega)|exact ha (by omega)|exact hb (by omega)),trivial⟩ trivial fun A=>N9 1 A rfl rfl fun A=>Ee (R9 A rfl h0 rfl rfl (by have e1:Ft at_ r i=_:=(by unfold Ft;rw [if_neg (by omega)]<;>rfl);have e2:HI r i=_:=(by unfold HI;rw [if_pos h1]<;>rfl);rw [e1,e2]<;>rfl)))
  (fun h1 A=>N9 7 A rfl rfl fun A=>Au 23 A rfl
   (fun h2 A=>N9 1 A rfl rfl fun A=>JO By [.ptr 0 0,.ptr 1 1,.int .i64 i.dst,.ptr 0 0,.ptr 1 2,.int .i64 i.ra,.ptr 0 0,.ptr 0 2,.ix (.ptr 0 2) 1 8 i.ra 0,.int .i64 (r (i.ra).toNat),.ptr 0 0,.ptr 0 2,.ix (.ptr 0 2) 1 8 i.dst 0,.tup []] [13] [] 0 [([],[],[some (.blk (Ff (.sla ao l.length cp) (at_+1) r)),some (.blk (A5 i))]),([13],[],[some (.blk (Ff (.sla ao l.length cp) (at_+1) (Bk r (i.dst).toNat (r (i.ra).toNat)))),some (.blk (A5 i))])] [[true,true,true,true,true,true,true,true,true,true,true,true,true,true],[false,false,false,false,false,false,false,false,false,false,true,true,false,false]] A rfl rfl rfl rfl (by kernel_rfl) rfl (by kernel_rfl) ⟨⟨Ao 0 rfl rfl,⟨Ao 0 rfl rfl,⟨Ao 0 rfl rfl,⟨Ao 0 rfl rfl,⟨Ao 0 rfl rfl,⟨Ao 0 rfl rfl,⟨Ao 0 rfl rfl,⟨Ao 0 rfl rfl,⟨Ao 0 rfl (Aj (by omega)<|Ah),⟨CF 0 rfl (Si (r:=r) hX rfl rfl rfl rfl rfl rfl rfl (by first|exact hd (by omega)|exact ha (by omega)|exact hb (by omega))),⟨Ao 0 rfl rfl,⟨Ao 0 rfl rfl,⟨Ao 0 rfl (Aj (by omega)<|Ah),⟨CF 1 rfl (Xy (i:=0) (r:=r) hX rfl rfl rfl rfl rfl rfl rfl rfl (by first|exact hd (by omega)|exact ha (by omega)|exact hb (by omega))),trivial⟩⟩⟩⟩⟩⟩⟩⟩⟩⟩⟩⟩⟩⟩,⟨⟨Ao 1 rfl rfl,⟨Ao 1 rfl rfl,trivial⟩⟩,trivial⟩⟩ fun A=>N9 1 A rfl rfl fun A=>Ee (R9 A rfl h0 rfl rfl (by have e1:Ft at_ r i=_:=(by unfold Ft;rw [if_neg (by omega)]<;>rfl);have e2:HI r i=_:=(by unfold HI;rw [if_neg (by omega),if_pos h2]<;>rfl);rw [e1,e2]<;>rfl)))
   (fun h2 A=>N9 7 A rfl rfl fun A=>Au 38 A rfl
    (fun h3 A=>N9 1 A rfl rfl fun A=>JO By [.ptr 0 0,.ptr 1 1,.int .i64 i.dst,.ptr 1 9,.int .i64 i.fn,.ptr 0 0,.ptr 1 2,.int .i64 i.ra,.ptr 0 0,.ptr 0 2,.ix (.ptr 0 2) 1 8 i.ra 0,.int .i64 (r (i.ra).toNat),.ptr 0 0,.ptr 1 3,.int .i64 i.rb,.ptr 1 4,.int .i64 i.imm,.int .i64 (DT r i.rb i.imm),.int .i64 (Fg i.fn (r (i.ra).toNat) (DT r i.rb i.imm)),.ptr 0 0,.ptr 0 2,.ix (.ptr 0 2) 1 8 i.dst 0,.tup []] [17,22] [] 0 [([],[],[some (.blk (Ff (.sla ao l.length cp) (at_+1) r)),some (.blk (A5 i))]),([17],[],[some (.blk (Ff (.sla ao l.length cp) (at_+1) r)),some (.blk (A5 i))]),([17,22],[],[some (.blk (Ff (.sla ao l.length cp) (at_+1) (Bk r (i.dst).toNat (Fg i.fn (r (i.ra).toNat) (DT r i.rb i.imm))))),some (.blk (A5 i))])] [[true,true,true,true,true,true,true,true,true,true,true,true,true,true,true,true,true,true,false,true,true,false,false],[true,true,true,true,true,true,true,true,true,true,true,true,false,true,false,true,false,false,true,true,true,true,true],[false,false,false,false,false,false,false,false,false,false,false,false,false,false,false,false,false,false,false,true,true,false,false]] A rfl rfl rfl rfl (by kernel_rfl) rfl (by kernel_rfl) ⟨⟨Ao 0 rfl rfl,⟨Ao 0 rfl rfl,⟨Ao 0 rfl rfl,⟨Ao 0 rfl rfl,⟨Ao 0 rfl rfl,⟨Ao 0 rfl rfl,⟨Ao 0 rfl rfl,⟨Ao 0 rfl rfl,⟨Ao 0 rfl rfl,⟨Ao 0 rfl rfl,⟨Ao 0 rfl (Aj (by omega)<|Ah),⟨CF 0 rfl (Si (r:=r) hX rfl rfl rfl rfl rfl rfl rfl (by first|exact hd (by omega)|exact ha (by omega)|exact hb (by omega))),⟨Ao 0 rfl rfl,⟨Ao 0 rfl rfl,⟨Ao 0 rfl rfl,⟨Ao 0 rfl rfl,⟨Ao 0 rfl rfl,⟨CF 1 rfl (ED [0] (Ks l ao cp (at_+1) r i.rb i.imm (by first|exact hd (by omega)|exact ha (by omega)|exact hb (by omega))) rfl rfl rfl rfl rfl rfl rfl),⟨Ao 0 rfl rfl,⟨Ao 0 rfl rfl,trivial⟩⟩⟩⟩⟩⟩⟩⟩⟩⟩⟩⟩⟩⟩⟩⟩⟩⟩⟩⟩,⟨⟨Ao 1 rfl rfl,⟨Ao 1 rfl rfl,⟨Ao 1 rfl rfl,⟨Ao 1 rfl rfl,⟨Ao 1 rfl rfl,⟨Ao 1 rfl rfl,⟨Ao 1 rfl rfl,⟨Ao 1 rfl rfl,⟨Ao 1 rfl rfl,⟨Ao 1 rfl rfl,⟨Ao 1 rfl (Aj (by omega)<|Ah),⟨CF 1 rfl (Si (r:=r) hX rfl rfl rfl rfl rfl rfl rfl (by first|exact hd (by omega)|exact ha (by omega)|exact hb (by omega))),⟨Ao 1 rfl rfl,⟨Ao 1 rfl rfl,⟨CF 1 rfl (C7 rfl rfl (lS i.fn (r (i.ra).toNat) (DT r i.rb i.imm))),⟨Ao 1 rfl rfl,⟨Ao 1 rfl rfl,⟨Ao 1 rfl (Aj (by omega)<|Ah),⟨CF 2 rfl (Xy (i:=0) (r:=r) hX rfl rfl rfl rfl rfl rfl rfl rfl (by first|exact hd (by omega)|exact ha (by omega)|exact hb (by omega))),trivial⟩⟩⟩⟩⟩⟩⟩⟩⟩⟩⟩⟩⟩⟩⟩⟩⟩⟩⟩,⟨⟨Ao 2 rfl rfl,⟨Ao 2 rfl rfl,trivial⟩⟩,trivial⟩⟩⟩ fun A=>N9 1 A rfl rfl fun A=>Ee (R9 A rfl h0 rfl rfl (by have e1:Ft at_ r i=_:=(by unfold Ft;rw [if_neg (by omega)]<;>rfl);have e2:HI r i=_:=(by unfold HI;rw [if_neg (by omega),if_neg (by omega),if_pos h3]<;>rfl);rw [e1,e2]<;>rfl)))
    (fun h3 A=>N9 7 A rfl rfl fun A=>Au 62 A rfl
     (fun h4 A=>N9 2 A rfl rfl fun A=>JO By [.ptr 0 0,.ptr 1 2,.int .i64 i.ra,.ptr 0 0,.ptr 0 2,.ix (.ptr 0 2) 1 8 i.ra 0,.int .i64 (r (i.ra).toNat),.bool ((r (i.ra).toNat)==0),.ptr 1 16,.bool i.zero,.bool (((r (i.ra).toNat)==0)==i.zero)] [] [] 0 [([],[],[some (.blk (Ff (.sla ao l.length cp) (at_+1) r)),some (.blk (A5 i))])] [[true,true,true,true,true,true,true,true,true,true,true]] A rfl rfl rfl rfl (by kernel_rfl) rfl (by kernel_rfl) ⟨⟨Ao 0 rfl rfl,⟨Ao 0 rfl rfl,⟨Ao 0 rfl rfl,⟨Ao 0 rfl rfl,⟨Ao 0 rfl rfl,⟨Ao 0 rfl (Aj (by omega)<|Ah),⟨CF 0 rfl (Si (r:=r) hX rfl rfl rfl rfl rfl rfl rfl (by first|exact hd (by omega)|exact ha (by omega)|exact hb (by omega))),⟨Ao 0 rfl rfl,⟨Ao 0 rfl rfl,⟨Ao 0 rfl rfl,⟨Ao 0 rfl rfl,trivial⟩⟩⟩⟩⟩⟩⟩⟩⟩⟩⟩,trivial⟩ fun A=>N9 1 A rfl rfl fun A=>Au 74 A rfl
      (fun h5 A=>N9 10 A rfl rfl fun A=>Ee (R9 A rfl h0 rfl rfl (by have e1:Ft at_ r i=_:=(by unfold Ft;rw [if_pos h4,if_pos h5]<;>rfl);have e2:HI r i=_:=(by unfold HI;rw [if_neg (by omega),if_neg (by omega),if_neg (by omega)]<;>rfl);rw [e1,e2]<;>rfl)))
      (fun h5 A=>N9 3 A rfl rfl fun A=>Ee (R9 A rfl h0 rfl rfl (by have e1:Ft at_ r i=_:=(by unfold Ft;rw [if_pos h4,if_neg h5]<;>rfl);have e2:HI r i=_:=(by unfold HI;rw [if_neg (by omega),if_neg (by omega),if_neg (by omega)]<;>rfl);rw [e1,e2]<;>rfl))))
     (fun h4 A=>N9 3 A rfl rfl fun A=>Ee (R9 A rfl h0 rfl rfl (by have e1:Ft at_ r i=_:=(by unfold Ft;rw [if_neg (by omega)]<;>rfl);have e2:HI r i=_:=(by unfold HI;rw [if_neg (by omega),if_neg (by omega),if_neg (by omega)]<;>rfl);rw [e1,e2]<;>rfl))))))
end Go.Proofs.YtbbdanhpphlbpaaGreatDoor.Mc
namespace Go.Proofs.YtbbdanhpphlbpaaGreatDoor
open Go.RowKit
def lU (o:Oper)(j:Nat):List Oper→Nat→Bool
 | [],_=>true
 |q::r,i=>(Nat.beq i j||waits o i||waits q j)&&lU o j r (i+1)
def lV (l:List Oper)(t:Nat):List Oper→Nat→Bool
 | [],_=>true
 |o::r,j=>(match o.dst with|some d=> !Nat.beq d t||lU o j l 0|none=>true)&&lV l t r (j+1)
def jT (l:List Oper):List (Nat×SV)→Bool
 | []=>true
 |p::T=>lV l p.1 l 0&&jT l T
theorem OZ {o:Oper}{j:Nat}:∀{r:List Oper} {k:Nat},lU o j r k=true→∀(i:Nat) (q:Oper),r[i]?=some q→k+i≠j→waits o (k+i)=true∨waits q j=true
 | [],_,_,_,_,h,_=>by cases h
 | p::r,k,h,i,q,hi,Ch=>by
  simp only [lU,α3,β9]at h
  cases i with
  |zero=>
   cases hi
   rcases h.1 with(h1|h1)|h1
   ·exact absurd (α9 h1) (by simpa using Ch)
   ·exact .inl (by simpa using h1)
   ·exact .inr h1
  |succ i=>rw [show k+(i+1)=k+1+i by omega]at Ch⊢;exact OZ h.2 i q (by simpa using hi) Ch
theorem Oa {l:List Oper}{t:Nat}:∀{r:List Oper} {k:Nat},lV l t r k=true→∀(j:Nat) (o:Oper),r[j]?=some o→o.dst=some t→lU o (k+j) l 0=true
 | [],_,_,_,_,h,_=>by cases h
 |p::r,k,h,j,o,hj,hd=>by
  simp only [lV,α3]at h
  cases j with
  |zero=>cases hj;have:=h.1;rw [hd]at this;simpa using this
  |succ j=>rw [show k+(j+1)=k+1+j by omega];exact Oa h.2 j o (by simpa using hj) hd
theorem Oc {l:List Oper}:∀{T:List (Nat×SV)} {t:Nat} {x:SV},jT l T=true→look T t=some x→lV l t l 0=true
 | [],_,_,_,h=>by cases h
 |(k,y)::T,t,x,hT,h=>by
  simp only [jT,α3]at hT
  unfold look at h
  cases hk:Nat.beq k t with
  |true=>have:=α9 hk;subst this;exact hT.1
  |false=>rw [hk]at h;exact Oc hT.2 h
theorem RU {l:List Oper}{T:List (Nat×SV)}{t:Nat}{x:SV}{j i:Nat}{o q:Oper}(ZE:jT l T=true)(hx:look T t=some x)(h3:l[j]?=some o)(h4:o.dst=some t)(hq:l[i]?=some q)(Ch:i≠j):waits o i=true∨waits q j=true:=by
 have:=OZ (Oa (Oc ZE hx) j o h3 h4) i q hq (by simpa using Ch)
 simpa using this
section
variable {P:Program}{X:Tx}{n:Nat}{ks:List Nat}{G0:Gr}{w0:World}{T:List (Nat×SV)}{l:List Oper}{xs:List SV}{Q:Exit→Act→World→Prop}{ef rs0:List Nat}{tb:List (List Nat×List Nat×Hp)}
theorem cR {id:Nat} {H HE:Hp} {G:Gr} {a:Act} {w:World} {K:List Fr} (By:P.follows .mixedOrders=true) (xs:List SV) (ef rs0:List Nat) (m:Nat) (tb:List (List Nat×List Nat×Hp)) (B:List (List Bool)) (A:Sy n T H ks G0 w0 G a w)
  (h0:tb[0]?=some ([],rs0,H++List.replicate m none)) (hE:Sh ef tb=some HE) (SC:(rs0.all fun r=>Nat.ble H.length r)=true) (bB:(ef.all fun p=>Nat.blt p l.length)=true) (hB:(tb.map fun s=>Kp l.toArray ef s.1 l 0)=B) (hl:xs.length=l.length) (GN:KR l.toArray n []=true)
  (ZE:jT l T=true) (hO:lP P n ks G0 w0 T l xs ef tb B tb) (hk:∀{G a w},Sy n (JF l xs T) HE ks G0 w0 G a w→Goal P Q K .norm a w):Goal P Q K (.code (.region id l.toArray true)) a w:=by
 refine ρ0 By ?_
 have jD:Ms H ks G0 w0 G w.drew:=A.ms.grow (CI.refl w).drew
 rw [δ7]at SC bB
 refine Up (P:=P) (xs:=xs) (T:=T) (ef:=ef) (rs0:=rs0) (tb:=tb) GN (fun t x hx j o h3 h4 i q hq Ch=>RU ZE hx h3 h4 hq Ch) (fun t x hx r hr=>?_) hl (fun k c rs H hk i o hi hm=>?_) (fun k c rs H' EC AS G a w A'=>?_) _ _ _ _ 0 [] rs0 _ (G++List.replicate m none) (by simp) (by
  refine β4 (κ3 _ _) (by simp)) h0 ⟨A.size,A.defers,fun t x hx _=>BF _ x (A.get t x hx),fun j o x _ hj=>?_,Sy.pad (a:=a) jD m,fun p hp=>?_,fun p hp=>absurd hp (by simp),fun r hr=>hr,fun j o p _ hj=>?_⟩
 ·have:=SC r hr
  rw [A.mem.len]at this
  exact Pn (G:=G) (ε1 this) x (A.get t x hx)
 ·have:=M6 (Pm (by rw [hB];exact hO) k c rs H hk) i o hi (by rw [ε0];exact hm)
  rwa [ε0]at this
 ·have h2:(ef.all c.contains)=true:=by
   rw [δ7]
   intro p hp
   have:=AS p hp (by have:=bB p hp;simpa [μ7]using this)
   simpa using this
  cases HF hE k c rs H' EC h2
  exact hk A'
 ·exfalso;simp [β3,ζ0]at hj;split at hj<;>simp at hj
 ·constructor
  ·intro hj;exfalso;simp [β3,ζ0]at hj;split at hj<;>simp at hj
  ·intro hj;cases hj
 ·exfalso;simp [β3,ζ0]at hj;split at hj<;>simp at hj
end
end Go.Proofs.YtbbdanhpphlbpaaGreatDoor
namespace Go.Proofs.YtbbdanhpphlbpaaGreatDoor.Mc
open Go.RowKit
set_option simprocs false
theorem Sn (l:List In)(ao:Option Addr)(cp:Nat)(z:Th)(hc:Fs l)(hle:z.at_≤l.length)(h1:((z.at_:Nat):Int)≠((l.length:Nat):Int))(h2:(!(HU (l.getD ((z.at_:Nat):Int).toNat In.z)))=true):Fn Tryz.prog 128 [.ptr 0 0,.agg (C3 (l.getD ((z.at_:Nat):Int).toNat In.z))] [some (.blk (Ff (.sla ao l.length cp) ((z.at_:Nat):Int) z.r))] (Rt (.tup []) [some (.blk (Ff (.sla ao l.length cp) (((GY l z).at_:Nat):Int) ((GY l z).r)))]):=by
 have Bn:z.at_<l.length:=by omega
 have hr:=KD (z:=z) hc Bn
 have hs:=hc.snd Bn
 have hn:=hc.n
 have e:Ft ((z.at_:Nat):Int) z.r (l.getD ((z.at_:Nat):Int).toNat In.z)=(((GY l z).at_:Nat):Int):=by
  show Ft ((z.at_:Nat):Int) z.r (l.getD z.at_ In.z)=(((Ft ((z.at_:Nat):Int) z.r (l.getD z.at_ In.z)).toNat:Nat):Int)
  omega
 have h:=Ut l ao cp ((z.at_:Nat):Int) z.r (l.getD ((z.at_:Nat):Int).toNat In.z) (by omega) (fun q=>hs.d (by show _∨_;have q':(l.getD z.at_ In.z).op=1∨(l.getD z.at_ In.z).op=2∨(l.getD z.at_ In.z).op=3:=q;omega)) (fun q=>hs.a (by show _∨_;have q':(l.getD z.at_ In.z).op=2∨(l.getD z.at_ In.z).op=3∨(l.getD z.at_ In.z).op=9:=q;omega)) (fun q=>hs.b q)
 rw [e]at h
 exact h
abbrev Ap (l:List In)(s:Th):In:=l.getD (((s.at_:Nat):Int)).toNat In.z
theorem Uu (l:List In)(ao:Option Addr)(cp:Nat)(s:Th)(hc:Fs l)(Et:s.at_≤l.length):CE (F9 ao l) Tryz.prog 88 [.ptr 0 0] [some (.blk (Ff (.sla ao l.length cp) ((s.at_:Nat):Int) s.r))] (Rt (.tup []) [some (.blk (Ff (.sla ao l.length cp) (((FQ l s).at_:Nat):Int) ((FQ l s).r)))]):=
 BB (n:=24) (by kernel_rfl) Tryz.func88 rfl rfl rfl fun G w a h0 hI A=>N9 3 A rfl rfl fun A=>I9 [0] At.ok hI (Kt l ao cp ((s.at_:Nat):Int) s.r (by omega)) A rfl fun A=>N9 9 A rfl rfl fun A=>B7 (fun(z:Th)=>[(0,.ptr 0 0),(2,.ptr 1 0),(3,.bool (!(((z.at_:Nat):Int)==((l.length:Nat):Int))))]) (fun(z:Th)=>[some (.blk (Ff (.sla ao l.length cp) ((z.at_:Nat):Int) z.r)),some (.blk (A5 (l.getD (((z.at_:Nat):Int)).toNat In.z)))]) (fun(z:Th)=>SI l s z) (fun(z:Th)=>l.length - z.at_) s (SI.i0 Et) ((A.cut [0,2,3] rfl).trunc 2 rfl rfl rfl (by simp only [α5,α7]at h0;omega)) fun z hJ {G a w} A=>N9 5 A rfl rfl fun A=>EZ 10 A rfl
   (fun h1 A=>N9 1 A rfl rfl fun A=>C9 [] (cQ (l.getD (((z.at_:Nat):Int)).toNat In.z)) A rfl fun A=>N9 4 A rfl rfl fun A=>fork 14 A rfl
    (fun h2 A=>N9 8 A rfl rfl fun A=>C9 [0] (Sn l ao cp z hc hJ.le h1 h2) A rfl fun A=>N9 16 A rfl rfl fun A=>I9 [0] At.ok hI (Kt l ao cp (((GY l z).at_:Nat):Int) ((GY l z).r) (by have hq:=(hJ.nx hc h1 h2).1.le;omega)) A rfl fun A=>N9 6 A rfl rfl fun A=>⟨GY l z,_,(hJ.nx hc h1 h2).2,(hJ.nx hc h1 h2).1,((A.cut [0,2,3] rfl).mv 1 [2] rfl rfl rfl rfl (by simp only [α5,α7]at h0;omega))⟩)
    (fun h2 A=>N9 2 A rfl rfl fun A=>Ee (R9 A rfl h0 rfl rfl (by rw [hJ.f2 h2]<;>rfl))))
   (fun h1 A=>N9 8 A rfl rfl fun A=>Ee (R9 A rfl h0 rfl rfl (by rw [hJ.f1 h1]<;>rfl)))
theorem NB (l:List In)(ao:Option Addr)(cp:Nat)(at_:Int)(r:Rg)(hc:Fs l)(Et:0≤at_∧at_≤((l.length:Nat):Int)):CE (F9 ao l) Tryz.prog 88 [.ptr 0 0] [some (.blk (Ff (.sla ao l.length cp) at_ r))] (Rt (.tup []) [some (.blk (Ff (.sla ao l.length cp) (((FQ l ⟨at_.toNat,r⟩).at_:Nat):Int) ((FQ l ⟨at_.toNat,r⟩).r)))]):=by
 obtain⟨k,rfl⟩:=Int.eq_ofNat_of_zero_le Et.1
 exact Uu l ao cp ⟨k,r⟩ hc (by show k≤_;omega)
theorem tO {a b:Int}(h:(!(!(a==b)))=true):a=b:=by simpa using h
theorem Ld {a b:Int}(h:(!(!(a==b)))=false):a≠b:=by simpa using h
theorem X1 {i:In}(h:(!(C4 i))=false):C4 i=true:=by simpa using h
theorem Uv {i:In}(h:(!(C4 i))=false):i.op=4∨i.op=5∨i.op=6:=by
 have h:=X1 h
 unfold C4 at h
 simp at h
 omega
theorem zZ {l:List In}{s:Th}(h:((s.at_:Nat):Int)=((l.length:Nat):Int)):(SV.tup [.agg [.int .i64 (RS (l.getD ((s.at_:Nat):Int).toNat In.z)),.int .i64 (RT s.r (l.getD ((s.at_:Nat):Int).toNat In.z))],.int .i64 (Gs s.r (l.getD ((s.at_:Nat):Int).toNat In.z)),.bool (C4 (l.getD ((s.at_:Nat):Int).toNat In.z))])=.tup [.agg [.z9,.z9],.z9,.bool false]:=by
 have e:l.getD ((s.at_:Nat):Int).toNat In.z=In.z:=by rw [α6,γ4 (by omega)];rfl
 rw [e];rfl
theorem z6 {i:In}{r:Rg}(h:(!(C4 i))=true):(SV.tup [.agg [.int .i64 (RS i),.int .i64 (RT r i)],.int .i64 (Gs r i),.bool (C4 i)])=.tup [.agg [.z9,.z9],.z9,.bool false]:=by
 have e:C4 i=false:=by simpa using h
 unfold RS RT Gs
 rw [e];rfl
theorem tP {l:List In}{s:Th}(hc:Fs l)(Et:s.at_≤l.length)(h1:((s.at_:Nat):Int)≠((l.length:Nat):Int))(h2:(!(C4 (l.getD ((s.at_:Nat):Int).toNat In.z)))=false):((l.getD ((s.at_:Nat):Int).toNat In.z).sz=1∨(l.getD ((s.at_:Nat):Int).toNat In.z).sz=2∨(l.getD ((s.at_:Nat):Int).toNat In.z).sz=4∨(l.getD ((s.at_:Nat):Int).toNat In.z).sz=8)∧(-1≤(l.getD ((s.at_:Nat):Int).toNat In.z).ix∧(l.getD ((s.at_:Nat):Int).toNat In.z).ix<8)∧((l.getD ((s.at_:Nat):Int).toNat In.z).op=5→ -1≤(l.getD ((s.at_:Nat):Int).toNat In.z).ra∧(l.getD ((s.at_:Nat):Int).toNat In.z).ra<8)∧((l.getD ((s.at_:Nat):Int).toNat In.z).op=6→0≤(l.getD ((s.at_:Nat):Int).toNat In.z).ra∧(l.getD ((s.at_:Nat):Int).toNat In.z).ra<8):=by
 have Bn:s.at_<l.length:=by omega
 have ho:=Uv h2
 have hs:=hc.snd Bn
 exact⟨hc.szs Bn ho,hs.x ho,fun q=>hs.a5 q,fun q=>hs.a (.inr (.inr (.inl q)))⟩
theorem Hi {l:List In}{s:Th}(hc:Fs l)(Et:s.at_≤l.length)(h1:((s.at_:Nat):Int)≠((l.length:Nat):Int))(h2:(!(C4 (Ap l s)))=false):((Ap l s).sz=1∨(Ap l s).sz=2∨(Ap l s).sz=4∨(Ap l s).sz=8)∧(-1≤(Ap l s).ix∧(Ap l s).ix<8)∧((Ap l s).op=5→ -1≤(Ap l s).ra∧(Ap l s).ra<8)∧((Ap l s).op=6→0≤(Ap l s).ra∧(Ap l s).ra<8):=tP hc Et h1 h2
theorem lW (l:List In)(ao:Option Addr)(cp:Nat)(s:Th)(hc:Fs l)(Et:s.at_≤l.length):CE (F9 ao l) Tryz.prog 131 [.ptr 0 0] [some (.blk (Ff (.sla ao l.length cp) ((s.at_:Nat):Int) s.r))] (Rt (.tup [.agg [.int .i64 (RS (Ap l s)),.int .i64 (RT s.r (Ap l s))],.int .i64 (Gs s.r (Ap l s)),.bool (C4 (Ap l s))]) [some (.blk (Ff (.sla ao l.length cp) ((s.at_:Nat):Int) s.r))]):=
 BB (n:=59) (by kernel_rfl) Tryz.func131 rfl rfl rfl fun G w a h0 hI A=>N9 10 A rfl rfl fun A=>I9 [0] At.ok hI (Kt l ao cp ((s.at_:Nat):Int) s.r (by omega)) A rfl fun A=>N9 14 A rfl rfl fun A=>fork 14 A rfl
  (fun h1 A=>N9 16 A rfl rfl fun A=>R9 A rfl h0 rfl (by rw [zZ (tO h1)]<;>rfl) rfl)
  (fun h1 A=>N9 1 A rfl rfl fun A=>C9 [] (lT (Ap l s)) A rfl fun A=>N9 4 A rfl rfl fun A=>fork 18 A rfl
   (fun h2 A=>N9 10 A rfl rfl fun A=>R9 A rfl h0 rfl (by rw [z6 h2]<;>rfl) rfl)
   (fun h2 A=>N9 17 A rfl rfl fun A=>Au 22 A rfl
    (fun h3 A=>N9 1 A rfl rfl fun A=>Ba hX By [(8,.int .i64 (Bz (DT s.r ((Ap l s).ra) ((Ap l s).imm)) ((Ap l s).sz)))] [(5,.int .i64 (DT s.r ((Ap l s).ra) ((Ap l s).imm)),[some (.blk (Ff (.sla ao l.length cp) ((s.at_:Nat):Int) s.r)),some (.blk [.z9,.z9]),some (.blk (A5 (Ap l s)))])] A rfl rfl rfl rfl (by kernel_rfl) ⟨ED [0] (Ks l ao cp ((s.at_:Nat):Int) s.r ((Ap l s).ra) ((Ap l s).imm) (by have q:=Hi hc Et (Ld h1) h2;have o:=Uv h2;first|exact q.1|exact q.2.1|exact q.2.2.1 (by assumption)|exact q.2.2.2 (by omega)|omega)) rfl rfl rfl rfl rfl rfl rfl,trivial⟩ ⟨.inl ⟨_,_,rfl,rfl,RP (DT s.r ((Ap l s).ra) ((Ap l s).imm)) ((Ap l s).sz) (by have q:=Hi hc Et (Ld h1) h2;have o:=Uv h2;first|exact q.1|exact q.2.1|exact q.2.2.1 (by assumption)|exact q.2.2.2 (by omega)|omega)⟩,trivial⟩ fun A=>N9 3 A rfl rfl fun A=>Ba hX By [(8,.int .i64 (A7 ((Ap l s).off) (DT s.r ((Ap l s).ix) 0) ((Ap l s).sz)))] [(5,.int .i64 (DT s.r ((Ap l s).ix) 0),[some (.blk (Ff (.sla ao l.length cp) ((s.at_:Nat):Int) s.r)),some (.blk [.z9,.z9]),some (.blk (A5 (Ap l s)))])] A rfl rfl rfl rfl (by kernel_rfl) ⟨ED [0] (Ks l ao cp ((s.at_:Nat):Int) s.r ((Ap l s).ix) 0 (by have q:=Hi hc Et (Ld h1) h2;have o:=Uv h2;first|exact q.1|exact q.2.1|exact q.2.2.1 (by assumption)|exact q.2.2.2 (by omega)|omega)) rfl rfl rfl rfl rfl rfl rfl,trivial⟩ ⟨.inl ⟨_,_,rfl,rfl,M9 ((Ap l s).off) (DT s.r ((Ap l s).ix) 0) ((Ap l s).sz)⟩,trivial⟩ fun A=>N9 2 A rfl rfl fun A=>have A:=A.cut [0,2,3,4,5,6,7,8,9,10,11,12,13,14,15,16,17,18,20,21,22,23,24,25,26,27,28,29,30,31,32,42,43,44,45,46,47,48,49,50] rfl;cR By [.ptr 2 5,.int .i64 ((Ap l s).loc),.int .i64 (A7 ((Ap l s).off) (DT s.r ((Ap l s).ix) 0) ((Ap l s).sz)),.ptr 2 8,.int .i64 ((Ap l s).sz),.int .i64 (Bl (A7 ((Ap l s).off) (DT s.r ((Ap l s).ix) 0) ((Ap l s).sz)) ((Ap l s).sz)),.agg [.int .i64 ((Ap l s).loc),.int .i64 (Bl (A7 ((Ap l s).off) (DT s.r ((Ap l s).ix) 0) ((Ap l s).sz)) ((Ap l s).sz))],.int .i64 (Bz (DT s.r ((Ap l s).ra) ((Ap l s).imm)) ((Ap l s).sz)),.tup [],.int .i64 (Bz (DT s.r ((Ap l s).ra) ((Ap l s).imm)) ((Ap l s).sz)),.tt] [8] [] 0 [([],[],[some (.blk (Ff (.sla ao l.length cp) ((s.at_:Nat):Int) s.r)),some (.blk [.z9,.z9]),some (.blk (A5 (Ap l s)))]),([8],[],[some (.blk (Ff (.sla ao l.length cp) ((s.at_:Nat):Int) s.r)),some (.blk [.int .i64 ((Ap l s).loc),.int .i64 (Bl (A7 ((Ap l s).off) (DT s.r ((Ap l s).ix) 0) ((Ap l s).sz)) ((Ap l s).sz))]),some (.blk (A5 (Ap l s)))])] [[true,true,true,true,true,true,true,true,true,false,false],[false,false,false,false,false,false,false,true,false,true,true]] A rfl rfl rfl rfl (by kernel_rfl) rfl (by kernel_rfl) (by kernel_rfl) ⟨⟨Ao 0 rfl rfl,⟨Ao 0 rfl rfl,⟨Ao 0 rfl rfl,⟨Ao 0 rfl rfl,⟨Ao 0 rfl rfl,⟨CF 0 rfl (C7 rfl rfl (Pq (A7 ((Ap l s).off) (DT s.r ((Ap l s).ix) 0) ((Ap l s).sz)) ((Ap l s).sz) (by have q:=Hi hc Et (Ld h1) h2;have o:=Uv h2;first|exact q.1|exact q.2.1|exact q.2.2.1 (by assumption)|exact q.2.2.2 (by omega)|omega))),⟨Ao 0 rfl rfl,⟨Ao 0 rfl rfl,⟨CF 1 rfl (BN (X:=⟨_,true⟩) (out:=.upd 1 [.int .i64 ((Ap l s).loc),.int .i64 (Bl (A7 ((Ap l s).off) (DT s.r ((Ap l s).ix) 0) ((Ap l s).sz)) ((Ap l s).sz))] _) hX rfl rfl),trivial⟩⟩⟩⟩⟩⟩⟩⟩⟩,⟨⟨Ao 1 rfl rfl,⟨Ao 1 rfl rfl,⟨Ao 1 rfl rfl,trivial⟩⟩⟩,trivial⟩⟩ fun A=>N9 2 A rfl rfl fun A=>R9 A rfl h0 rfl (by have hm:=X1 h2;unfold RS RT Gs;rw [hm,if_pos rfl,if_pos rfl,if_pos rfl,if_pos h3]<;>rfl) rfl)
    (fun h3 A=>N9 7 A rfl rfl fun A=>Au 33 A rfl
     (fun h4 A=>N9 1 A rfl rfl fun A=>JO By [.ptr 0 0,.ptr 2 2,.int .i64 ((Ap l s).ra),.ptr 0 0,.ptr 0 2,.ix (.ptr 0 2) 1 8 ((Ap l s).ra) 0,.int .i64 (s.r ((Ap l s).ra).toNat),.int .i64 (s.r ((Ap l s).ra).toNat)] [] [] 0 [([],[],[some (.blk (Ff (.sla ao l.length cp) ((s.at_:Nat):Int) s.r)),some (.blk [.z9,.z9]),some (.blk (A5 (Ap l s)))])] [[true,true,true,true,true,true,true,true]] A rfl rfl rfl rfl (by kernel_rfl) rfl (by kernel_rfl) ⟨⟨Ao 0 rfl rfl,⟨Ao 0 rfl rfl,⟨Ao 0 rfl rfl,⟨Ao 0 rfl rfl,⟨Ao 0 rfl rfl,⟨Ao 0 rfl (Aj (by have q:=Hi hc Et (Ld h1) h2;have o:=Uv h2;first|exact q.1|exact q.2.1|exact q.2.2.1 (by assumption)|exact q.2.2.2 (by omega)|omega)<|Ah),⟨CF 0 rfl (Si (r:=s.r) hX rfl rfl rfl rfl rfl rfl rfl (by have q:=Hi hc Et (Ld h1) h2;have o:=Uv h2;first|exact q.1|exact q.2.1|exact q.2.2.1 (by assumption)|exact q.2.2.2 (by omega)|omega)),⟨Ao 0 rfl rfl,trivial⟩⟩⟩⟩⟩⟩⟩⟩,trivial⟩ fun A=>N9 3 A rfl rfl fun A=>Ba hX By [(8,.int .i64 (A7 ((Ap l s).off) (DT s.r ((Ap l s).ix) 0) ((Ap l s).sz)))] [(5,.int .i64 (DT s.r ((Ap l s).ix) 0),[some (.blk (Ff (.sla ao l.length cp) ((s.at_:Nat):Int) s.r)),some (.blk [.z9,.z9]),some (.blk (A5 (Ap l s)))])] A rfl rfl rfl rfl (by kernel_rfl) ⟨ED [0] (Ks l ao cp ((s.at_:Nat):Int) s.r ((Ap l s).ix) 0 (by have q:=Hi hc Et (Ld h1) h2;have o:=Uv h2;first|exact q.1|exact q.2.1|exact q.2.2.1 (by assumption)|exact q.2.2.2 (by omega)|omega)) rfl rfl rfl rfl rfl rfl rfl,trivial⟩ ⟨.inl ⟨_,_,rfl,rfl,M9 ((Ap l s).off) (DT s.r ((Ap l s).ix) 0) ((Ap l s).sz)⟩,trivial⟩ fun A=>N9 2 A rfl rfl fun A=>have A:=A.cut [0,2,3,4,5,6,7,8,9,10,11,12,13,14,15,16,17,18,20,21,22,23,33,34,35,36,37,38,39,40,41,42,43,44,45,46,47,48,49,50] rfl;cR By [.ptr 2 5,.int .i64 ((Ap l s).loc),.int .i64 (A7 ((Ap l s).off) (DT s.r ((Ap l s).ix) 0) ((Ap l s).sz)),.ptr 2 8,.int .i64 ((Ap l s).sz),.int .i64 (Bl (A7 ((Ap l s).off) (DT s.r ((Ap l s).ix) 0) ((Ap l s).sz)) ((Ap l s).sz)),.agg [.int .i64 ((Ap l s).loc),.int .i64 (Bl (A7 ((Ap l s).off) (DT s.r ((Ap l s).ix) 0) ((Ap l s).sz)) ((Ap l s).sz))],.int .i64 (s.r ((Ap l s).ra).toNat),.tup [],.int .i64 (s.r ((Ap l s).ra).toNat),.tt] [8] [] 0 [([],[],[some (.blk (Ff (.sla ao l.length cp) ((s.at_:Nat):Int) s.r)),some (.blk [.z9,.z9]),some (.blk (A5 (Ap l s)))]),([8],[],[some (.blk (Ff (.sla ao l.length cp) ((s.at_:Nat):Int) s.r)),some (.blk [.int .i64 ((Ap l s).loc),.int .i64 (Bl (A7 ((Ap l s).off) (DT s.r ((Ap l s).ix) 0) ((Ap l s).sz)) ((Ap l s).sz))]),some (.blk (A5 (Ap l s)))])] [[true,true,true,true,true,true,true,true,true,false,false],[false,false,false,false,false,false,false,true,false,true,true]] A rfl rfl rfl rfl (by kernel_rfl) rfl (by kernel_rfl) (by kernel_rfl) ⟨⟨Ao 0 rfl rfl,⟨Ao 0 rfl rfl,⟨Ao 0 rfl rfl,⟨Ao 0 rfl rfl,⟨Ao 0 rfl rfl,⟨CF 0 rfl (C7 rfl rfl (Pq (A7 ((Ap l s).off) (DT s.r ((Ap l s).ix) 0) ((Ap l s).sz)) ((Ap l s).sz) (by have q:=Hi hc Et (Ld h1) h2;have o:=Uv h2;first|exact q.1|exact q.2.1|exact q.2.2.1 (by assumption)|exact q.2.2.2 (by omega)|omega))),⟨Ao 0 rfl rfl,⟨Ao 0 rfl rfl,⟨CF 1 rfl (BN (X:=⟨_,true⟩) (out:=.upd 1 [.int .i64 ((Ap l s).loc),.int .i64 (Bl (A7 ((Ap l s).off) (DT s.r ((Ap l s).ix) 0) ((Ap l s).sz)) ((Ap l s).sz))] _) hX rfl rfl),trivial⟩⟩⟩⟩⟩⟩⟩⟩⟩,⟨⟨Ao 1 rfl rfl,⟨Ao 1 rfl rfl,⟨Ao 1 rfl rfl,trivial⟩⟩⟩,trivial⟩⟩ fun A=>N9 2 A rfl rfl fun A=>R9 A rfl h0 rfl (by have hm:=X1 h2;unfold RS RT Gs;rw [hm,if_pos rfl,if_pos rfl,if_pos rfl,if_neg h3,if_pos h4]<;>rfl) rfl)
     (fun h4 A=>N9 5 A rfl rfl fun A=>Ba hX By [(8,.int .i64 (A7 ((Ap l s).off) (DT s.r ((Ap l s).ix) 0) ((Ap l s).sz)))] [(5,.int .i64 (DT s.r ((Ap l s).ix) 0),[some (.blk (Ff (.sla ao l.length cp) ((s.at_:Nat):Int) s.r)),some (.blk [.z9,.z9]),some (.blk (A5 (Ap l s)))])] A rfl rfl rfl rfl (by kernel_rfl) ⟨ED [0] (Ks l ao cp ((s.at_:Nat):Int) s.r ((Ap l s).ix) 0 (by have q:=Hi hc Et (Ld h1) h2;have o:=Uv h2;first|exact q.1|exact q.2.1|exact q.2.2.1 (by assumption)|exact q.2.2.2 (by omega)|omega)) rfl rfl rfl rfl rfl rfl rfl,trivial⟩ ⟨.inl ⟨_,_,rfl,rfl,M9 ((Ap l s).off) (DT s.r ((Ap l s).ix) 0) ((Ap l s).sz)⟩,trivial⟩ fun A=>N9 2 A rfl rfl fun A=>have A:=A.cut [0,2,3,4,5,6,7,8,9,10,11,12,13,14,15,16,17,18,20,21,22,23,33,34,42,43,44,45,46,47,48,49,50] rfl;cR By [.ptr 2 5,.int .i64 ((Ap l s).loc),.int .i64 (A7 ((Ap l s).off) (DT s.r ((Ap l s).ix) 0) ((Ap l s).sz)),.ptr 2 8,.int .i64 ((Ap l s).sz),.int .i64 (Bl (A7 ((Ap l s).off) (DT s.r ((Ap l s).ix) 0) ((Ap l s).sz)) ((Ap l s).sz)),.agg [.int .i64 ((Ap l s).loc),.int .i64 (Bl (A7 ((Ap l s).off) (DT s.r ((Ap l s).ix) 0) ((Ap l s).sz)) ((Ap l s).sz))],.z9,.tup [],.z9,.tt] [8] [] 0 [([],[],[some (.blk (Ff (.sla ao l.length cp) ((s.at_:Nat):Int) s.r)),some (.blk [.z9,.z9]),some (.blk (A5 (Ap l s)))]),([8],[],[some (.blk (Ff (.sla ao l.length cp) ((s.at_:Nat):Int) s.r)),some (.blk [.int .i64 ((Ap l s).loc),.int .i64 (Bl (A7 ((Ap l s).off) (DT s.r ((Ap l s).ix) 0) ((Ap l s).sz)) ((Ap l s).sz))]),some (.blk (A5 (Ap l s)))])] [[true,true,true,true,true,true,true,true,true,false,false],[false,false,false,false,false,false,false,true,false,true,true]] A rfl rfl rfl rfl (by kernel_rfl) rfl (by kernel_rfl) (by kernel_rfl) ⟨⟨Ao 0 rfl rfl,⟨Ao 0 rfl rfl,⟨Ao 0 rfl rfl,⟨Ao 0 rfl rfl,⟨Ao 0 rfl rfl,⟨CF 0 rfl (C7 rfl rfl (Pq (A7 ((Ap l s).off) (DT s.r ((Ap l s).ix) 0) ((Ap l s).sz)) ((Ap l s).sz) (by have q:=Hi hc Et (Ld h1) h2;have o:=Uv h2;first|exact q.1|exact q.2.1|exact q.2.2.1 (by assumption)|exact q.2.2.2 (by omega)|omega))),⟨Ao 0 rfl rfl,⟨Ao 0 rfl rfl,⟨CF 1 rfl (BN (X:=⟨_,true⟩) (out:=.upd 1 [.int .i64 ((Ap l s).loc),.int .i64 (Bl (A7 ((Ap l s).off) (DT s.r ((Ap l s).ix) 0) ((Ap l s).sz)) ((Ap l s).sz))] _) hX rfl rfl),trivial⟩⟩⟩⟩⟩⟩⟩⟩⟩,⟨⟨Ao 1 rfl rfl,⟨Ao 1 rfl rfl,⟨Ao 1 rfl rfl,trivial⟩⟩⟩,trivial⟩⟩ fun A=>N9 2 A rfl rfl fun A=>R9 A rfl h0 rfl (by have hm:=X1 h2;unfold RS RT Gs;rw [hm,if_pos rfl,if_pos rfl,if_pos rfl,if_neg h3,if_neg h4]<;>rfl) rfl))))
theorem Uw {l:List In}{s:Th}(hc:Fs l)(Et:s.at_≤l.length)(h1:((s.at_:Nat):Int)≠((l.length:Nat):Int))(h2:(((l.getD ((s.at_:Nat):Int).toNat In.z).op==4)||((l.getD ((s.at_:Nat):Int).toNat In.z).op==6))=true):((l.getD ((s.at_:Nat):Int).toNat In.z).sz=1∨(l.getD ((s.at_:Nat):Int).toNat In.z).sz=2∨(l.getD ((s.at_:Nat):Int).toNat In.z).sz=4∨(l.getD ((s.at_:Nat):Int).toNat In.z).sz=8)∧(0≤(l.getD ((s.at_:Nat):Int).toNat In.z).dst∧(l.getD ((s.at_:Nat):Int).toNat In.z).dst<8):=by
 have Bn:s.at_<l.length:=by omega
 have ho:(l.getD s.at_ In.z).op=4∨(l.getD s.at_ In.z).op=6:=by
  have h3:(((l.getD s.at_ In.z).op==4)||((l.getD s.at_ In.z).op==6))=true:=h2
  simp at h3
  exact h3
 have hs:=hc.snd Bn
 exact⟨hc.szs Bn (by rcases ho with h|h;exact .inl h;exact .inr (.inr h)),hs.d (by rcases ho with h|h;exact .inr (.inr (.inr (.inl h)));exact .inr (.inr (.inr (.inr h))))⟩
theorem lX (l:List In)(ao:Option Addr)(cp:Nat)(s:Th)(old:Int)(hc:Fs l)(Et:s.at_≤l.length):CE (F9 ao l) Tryz.prog 91 [.ptr 0 0,.int .i64 old] [some (.blk (Ff (.sla ao l.length cp) ((s.at_:Nat):Int) s.r))] (Rt (.bool (!(((s.at_:Nat):Int)==((l.length:Nat):Int)))) [some (.blk (Ff (.sla ao l.length cp) (((Sm l s old).at_:Nat):Int) ((Sm l s old).r)))]):=
 BB (n:=35) (by kernel_rfl) Tryz.func91 rfl rfl rfl fun G w a h0 hI A=>N9 8 A rfl rfl fun A=>I9 [0] At.ok hI (Kt l ao cp ((s.at_:Nat):Int) s.r (by omega)) A rfl fun A=>N9 15 A rfl rfl fun A=>fork 13 A rfl
  (fun h1 A=>N9 7 A rfl rfl fun A=>R9 A rfl h0 rfl (by rw [ε4.2 (tO h1)];rfl) (by unfold Sm;rw [if_pos (show s.at_=l.length from(by have e:=(tO h1);omega))]<;>rfl))
  (fun h1 A=>N9 7 A rfl rfl fun A=>C9 [] (Mz ((Ap l s).op) ((Ap l s).dst) ((Ap l s).ra) ((Ap l s).rb) ((Ap l s).imm) ((Ap l s).loc) ((Ap l s).off) ((Ap l s).ix) ((Ap l s).sz) ((Ap l s).fn) ((Ap l s).acq) ((Ap l s).weak) ((Ap l s).rel) ((Ap l s).pred) ((Ap l s).succ) ((Ap l s).to_) ((Ap l s).zero)) A rfl fun A=>N9 2 A rfl rfl fun A=>fork 15 A rfl
   (fun h2 A=>N9 1 A rfl rfl fun A=>Ba hX By [(6,.int .i64 (Bz old ((Ap l s).sz)))] [(10,.tup [],[some (.blk (Ff (.sla ao l.length cp) ((s.at_:Nat):Int) (Bk s.r ((Ap l s).dst).toNat (Bz old ((Ap l s).sz))))),some (.blk (A5 (Ap l s)))])] A rfl (Aj (by have hn:=hc.n;(try have q:=Uw hc Et (Ld h1) h2);first|exact q.1|exact q.2|omega)<|Ah) rfl rfl (by kernel_rfl) ⟨Xy (i:=0) (r:=s.r) hX rfl rfl rfl rfl rfl rfl rfl rfl (by have hn:=hc.n;(try have q:=Uw hc Et (Ld h1) h2);first|exact q.1|exact q.2|omega),trivial⟩ ⟨.inl ⟨_,_,rfl,rfl,RP old ((Ap l s).sz) (by have hn:=hc.n;(try have q:=Uw hc Et (Ld h1) h2);first|exact q.1|exact q.2|omega)⟩,trivial⟩ fun A=>N9 14 A rfl (Aj (by have hn:=hc.n;(try have q:=Uw hc Et (Ld h1) h2);first|exact q.1|exact q.2|omega)<|Ah) fun A=>N9 2 A rfl rfl fun A=>I9 [0] At.ok hI (NB l ao cp (((s.at_:Nat):Int)+1) (Bk s.r ((Ap l s).dst).toNat (Bz old ((Ap l s).sz))) hc (by have e:=(Ld h1);omega)) A rfl fun A=>N9 8 A rfl rfl fun A=>R9 A rfl h0 rfl (by rw [δ1.2 (Ld h1)];rfl) (by rw [show Sm l s old=FQ l ⟨s.at_+1,IC s.r (Ap l s) old⟩from if_neg (show s.at_≠l.length from(by have e:=(Ld h1);omega))];unfold IC;rw [if_pos h2]<;>rfl))
   (fun h2 A=>N9 16 A rfl (Aj (by have hn:=hc.n;(try have q:=Uw hc Et (Ld h1) h2);first|exact q.1|exact q.2|omega)<|Ah) fun A=>N9 2 A rfl rfl fun A=>I9 [0] At.ok hI (NB l ao cp (((s.at_:Nat):Int)+1) s.r hc (by have e:=(Ld h1);omega)) A rfl fun A=>N9 8 A rfl rfl fun A=>R9 A rfl h0 rfl (by rw [δ1.2 (Ld h1)];rfl) (by rw [show Sm l s old=FQ l ⟨s.at_+1,IC s.r (Ap l s) old⟩from if_neg (show s.at_≠l.length from(by have e:=(Ld h1);omega))];unfold IC;rw [if_neg (α8 h2)]<;>rfl)))
end Go.Proofs.YtbbdanhpphlbpaaGreatDoor.Mc
namespace Go.Proofs.YtbbdanhpphlbpaaGreatDoor
open Go.RowKit
section
variable {P:Program}{Y:Tb}{n:Nat}{ks:List Nat}{G0:Gr}{w0:World}{T:List (Nat×SV)}{H:Hp}{G:Gr}{a:Act}{w:World}{Q:Exit→Act→World→Prop}{K:List Fr}{pos:Pos}{ops:Array Oper}{o:Oper}{rest:List Oper}
theorem tQ {x y:Operand} {t e s i m c cp:Nat} {ao:Option Addr} {f:Nat→List SV} (A:Sy n T H ks G0 w0 G a w) (hg:BE ops T o.guard=some .run) (hd:DD n o.dst=true) (CJ:o.op=.call {callee:=.builtin .append,args:= #[x,y],argTypes:= #[t,t]}) (hx:Db T x=some (.sl i m c)) (hi:lg H i=some (some (.row e s m c f))) (hy:Db T y=some (.sla ao 0 cp)) (ht:sliceB P t e s=true)
  (hk:∀{G a w},Sy n (Bh T o.dst (.sl i m c)) H ks G0 w0 G a w→Goal P Q K (.ops ops rest) a w):Goal P Q K (.ops ops (o::rest)) a w:=by
 have hw:=BQ (gd:=none) A hg
 obtain⟨d,op,ty,pos,af,gd⟩:=o
 simp only at CJ
 subst CJ
 obtain⟨hu,hs⟩:=EX ht
 obtain⟨ie,yY,_⟩:=γ9.1 hs
 rw [BI]at hi
 obtain⟨p,hp⟩:∃p,G[i]?=some p:=by
  have:i<G.length:=by rw [←A.mem.len];exact(α0.1 hi).1
  exact⟨G[i],by simp [this]⟩
 obtain⟨_,AM,xs,sO,EA⟩:=A.mem.ent i _ hi
 rw [hp]at EA
 simp only [γ8]at EA
 have CH:=A.ev hx
 have Dp:=A.ev hy
 have IB:den G (.sl i m c)=some (.slice (p.map fun L=>⟨L.b,L.pre.length,none⟩) m (c+rm p)):=by unfold den;rw [hp]
 rw [IB]at CH
 unfold den at Dp
 simp only [β2]at CH Dp
 have XH:Src P ie.size t (.slice ao 0 cp) 0 [] w:=by
  cases ao with
  |none=>exact Src.ofNil w hu cp
  |some x0=>exact Src.ofSlice w hu x0 0 cp [] (by simp) (fun j u hj=>by simp at hj) (fun u hu=>by cases hu)
 have hle:m≤c+rm p:=by
  rcases EA.2 with⟨q1,q2⟩|⟨g,cap,cur,q1,_,_,q4,_⟩
  ·omega
  ·cases p<;>simp at q1;omega
 have hr:=σ6 (P:=P) w t t ty e ie hu yY (p.map fun L=>⟨L.b,L.pre.length,none⟩) m (c+rm p) hle _ XH
 refine Cm (Q:=Fz P Q K) (A6 (v:=.slice (p.map fun L=>⟨L.b,L.pre.length,none⟩) m (c+rm p)) (w':=w) hw ?_ ?_)
 ·unfold execOp
  simp only [resolve,invoke,builtin,γ3,γ6,β1,θ9,ζ4,κ5,←CH,←Dp,hr]
 ·exact hk (Sy.put A hd IB)
theorem Sy.hide (A:Sy n T H ks G0 w0 G a w)(i:Nat):Sy n T (Cd H i none) ks G0 w0 G a w:=by
 have hold:∀(j:Nat) (e:Bo),(Cd H i none)[j]?=some (some e)→H[j]?=some (some e):=by
  intro j e h
  rw [BJ]at h
  by_cases hj:j=i
  ·subst hj
   by_cases hl:j<H.length
   ·rw [γ7 hl]at h;cases h
   ·rw [γ4 (by simp;omega)]at h;cases h
  ·rw [γ0 (ζ1 hj)]at h;exact h
 exact⟨A.size,A.defers,A.get,⟨by rw [BJ];simpa using A.mem.len,fun j e he=>A.mem.ent j e (hold j e he),fun j k e f L' M HY g1 g2 g3 g4 g5 g6=>A.mem.sep j k e f L' M HY (hold j e g1) (hold k f g2) g3 g4 g5 g6⟩,A.pre,fun j e L' g1 g2 g3=>A.own j e L' (hold j e g1) g2 g3,A.mix⟩
theorem Sy.layAt (A:Sy n T H ks G0 w0 G a w)(i:Nat){e s m c:Nat}{f:Nat→List SV}{H':Hp}(hi:lg H i=some (some (.row e s m c f)))(hH:Cd H i none=H'):
  ∃ao cp,(den G (.sl i m c)=some (.slice ao m cp))∧Sy n T H' ks G0 w0 G a w∧At ao s m f w (keys H' G)∧(∀q:Addr,ao=some q→ks.contains q.block=true∨w0.heap.size≤q.block):=by
 subst hH
 rw [BI]at hi
 obtain⟨p,hp⟩:∃p,G[i]?=some p:=by
  have:i<G.length:=by rw [←A.mem.len];exact(α0.1 hi).1
  exact⟨G[i],by simp [this]⟩
 have Ca:=A.mem.ent i _ hi
 have CD:=Ca.1
 refine⟨p.map fun L=>⟨L.b,L.pre.length,none⟩,c+rm p,by unfold den;rw [hp],A.hide i,⟨fun k=>?_,?_⟩,fun q hq=>?_⟩
 ·obtain⟨vs,h,_⟩:=CD k;exact⟨vs,h⟩
 ·by_cases h0:m=0
  ·exact .inl h0
  ·right
   obtain⟨L,_,q1,_⟩:=DP Ca (k:=0) (by omega)
   rw [hp]at q1
   simp only [γ8]at q1
   subst q1
   have Bn:L.b<w.heap.size:=by rw [hp]at Ca;exact BK.lt Ca (fun h=>h)
   refine⟨L.b,L.pre.length,rfl,Bn,?_,fun k hk=>?_⟩
   ·cases hq:(keys (Cd H i none) G).contains L.b with
    |false=>rfl
    | true=>
     obtain⟨j,e',L',g1,g2,g3,g4⟩:=mem_keys.1 hq
     have Fu:j≠i:=by
      intro e;subst e
      rw [BJ,γ7 (α0.1 hi).1]at g1;cases g1
     have g1':H[j]?=some (some e'):=by rw [BJ,γ0 (ζ1 Fu)]at g1;exact g1
     exact absurd g4.symm (A.mem.sep i j _ e' L L' (ζ1 Fu) hi g1' rfl hp g3 (Bf g2))
   ·obtain⟨L',vs,r1,r2,_,r4⟩:=DP Ca hk
    rw [hp]at r1
    simp only [γ8,β2]at r1
    subst r1
    exact⟨vs,r2,r4⟩
 ·cases p with
  |none=>cases hq
  |some L=>cases hq;exact A.own i _ L hi rfl hp
theorem Sy.cellEq (A:Sy n T H ks G0 w0 G a w)(i:Nat){cs cs':List SV}{H':Hp}(hi:lg H i=some (some (.blk cs)))(hd:Al G cs'=Al G cs)(hH:Cd H i (some (.blk cs'))=H'):Sy n T H' ks G0 w0 G a w:=by
 subst hH
 rw [BI]at hi
 have G6:=(α0.1 hi).1
 have hold:∀(j:Nat) (e:Bo),(Cd H i (some (.blk cs')))[j]?=some (some e)→(j≠i∧H[j]?=some (some e))∨(j=i∧e=.blk cs'):=by
  intro j e h
  rw [BJ]at h
  by_cases hj:j=i
  ·subst hj;rw [γ7 G6]at h;cases h;exact .inr ⟨rfl,rfl⟩
  ·rw [γ0 (ζ1 hj)]at h;exact .inl ⟨hj,h⟩
 refine⟨A.size,A.defers,A.get,⟨by rw [BJ];simpa using A.mem.len,fun j e he=>?_,fun j k e f L M HY g1 g2 g3 g4 g5 g6=>?_⟩,A.pre,fun j e L g1 g2 g3=>?_,A.mix⟩
 ·rcases hold j e he with⟨_,h⟩|⟨rfl,rfl⟩
  ·exact A.mem.ent j e h
  ·obtain⟨L,vs,h1,h2,h3⟩:=A.mem.ent j _ hi
   exact⟨L,vs,h1,by rw [hd];exact h2,h3⟩
 ·rcases hold j e g1 with⟨_,h1⟩|⟨rfl,rfl⟩
  ·rcases hold k f g2 with⟨_,h2⟩|⟨rfl,rfl⟩
   ·exact A.mem.sep j k e f L M HY h1 h2 g3 g4 g5 g6
   ·exact A.mem.sep j k e _ L M HY h1 hi g3 g4 g5 (fun h=>h)
  ·rcases hold k f g2 with⟨_,h2⟩|⟨rfl,rfl⟩
   ·exact A.mem.sep j k _ f L M HY hi h2 rfl g4 g5 g6
   ·exact absurd rfl HY
 ·rcases hold j e g1 with⟨_,h1⟩|⟨rfl,rfl⟩
  ·exact A.own j e L h1 g2 g3
  ·exact A.own j _ L hi rfl g3
theorem Sy.takeEnt (A:Sy n T H ks G0 w0 G a w){L:Loc}{en:Bo}(SE:BK G w (some L) en)(QY:en.mut=true)(hn:∀(i:Nat) (e:Bo) (M:Loc),H[i]?=some (some e)→G[i]?=some (some M)→¬e.empty→M.b≠L.b)(ho:w0.heap.size≤L.b):
  Sy n T (H++[some en]) ks G0 w0 (G++[some L]) a w:=A.addE SE (fun i e M N h1 h2 h3 h=>by cases h3;exact hn i e M h1 h2 (h.elim (·.1) fun q=>Bf q.1)) fun _ M h=>by cases h;exact .inr ho
theorem MA {x:Operand}{ty i q s m k:Nat}{cs r:List SV}(hX:Y.ok P=true)(CJ:o.op=.load ty x)(hg:BE ops T o.guard=some .run)(hx:Db T x=some (.ix (.ptr i q) s m (k:Int) 0))(hH:lg H i=some (some (.blk cs)))(hc:DX ⟨Y,true⟩ ty cs (q+k*s)=some (.agg r)):
  Bd P n ops ks G0 w0 T H o (.agg r) H:=fun G a w A=>by
 have hw:=BQ (gd:=none) A hg
 obtain⟨d,op,ty',pos,af,gd⟩:=o
 simp only at CJ
 subst CJ
 have CH:=A.ev hx
 rw [Cy (q:=q+k*s) k (by omega)]at CH
 have hs:Ev ⟨Y,true⟩ H ty (.ptr i (q+k*s))=some (.agg r,[]):=by
  simp only [Ev,Gg,hH,LV,hc]
 obtain⟨z,hz,h3⟩:=FZ (X:=⟨Y,true⟩) (P:=P) (ops:=ops) (d:=d) (ty:=ty') (pos:=pos) (af:=af) (gd:=gd) (x:=x) hX A hs CH
 exact h3 (fun p hp=>by cases hp) rfl hw _ ⟨[],by simpa using hz,by simpa using A.ms⟩
theorem Zg {x y:Operand}{t rt i q:Nat}{en:Bo}(CJ:o.op=.binOp .eql t x y rt)(hg:BE ops T o.guard=some .run)(hx:Db T x=some (.ptr i q))(hy:Db T y=some (.v (.pointer none)))(hi:lg H i=some (some en))(ht:P.underlying t=some (.pointer (P.pointee t))):Bd P n ops ks G0 w0 T H o .ff H:=fun G a w A=>by
 have hw:=BQ (gd:=none) A hg
 obtain⟨d,op,ty,pos,af,gd⟩:=o
 simp only at CJ
 subst CJ
 have CH:=A.ev hx
 have Dp:=A.ev hy
 unfold den at CH Dp
 split at CH
 ·next L hL=>
  simp only [β2]at CH Dp
  exact Lp hw CH.symm Dp.symm ⟨by simp [eqGuard],run_eql_pointer_nil w t _ ht⟩ ⟨[],rfl,by simpa using A.ms⟩
 ·cases CH
theorem lY {x:Operand}{i s m e c q:Nat}{j:Int}{f:Nat→List SV}(CJ:o.op=.nilCheck x)(hg:BE ops T o.guard=some .run)(hx:Db T x=some (.el i s j q))(hi:lg H i=some (some (.row e s m c f)))(hj:j.toNat<m):Bd P n ops ks G0 w0 T H o (.el i s j q) H:=fun G a w A=>by
 have hw:=BQ (gd:=none) A hg
 obtain⟨d,op,ty,pos,af,gd⟩:=o
 simp only at CJ
 subst CJ
 have CH:=A.ev hx
 rw [BI]at hi
 obtain⟨L,vs,q1,_⟩:=DP (A.mem.ent i _ hi) hj
 have hp:G[i]?=some (some L):=by
  cases hq:G[i]? with
  |none=>rw [hq]at q1;cases q1
  |some p=>rw [hq]at q1;simp only [γ8]at q1;rw [q1]
 have IB:den G (.el i s j q)=some (.pointer (some ⟨L.b,L.pre.length+j.toNat*s+q,none⟩)):=by unfold den;rw [hp];rfl
 rw [IB]at CH
 exact Fw hw (by rw [←β6 CH]) ⟨[],by simpa using IB,by simpa using A.ms⟩
theorem Sy.nilPlace (A:Sy n T H ks G0 w0 G a w)(e s:Nat)(f:Nat→List SV)(CD:∀k,∃vs,Al [] (f k)=some vs∧vs.length=s):Sy n T (H++[some (.row e s 0 0 f)]) ks G0 w0 (G++[none]) a w:=A.noRow e s f CD
theorem Sy.nilCel1 (A:Sy n T H ks G0 w0 G a w)(i e s:Nat)(f:Nat→List SV){H':Hp}(hi:lg H i=some (some (.blk [.sla none 0 0])))(CD:∀k,∃vs,Al [] (f k)=some vs∧vs.length=s)(hH:Cd (H++[some (.row e s 0 0 f)]) i (some (.blk [.sl H.length 0 0]))=H'):∃G',Sy n T H' ks G0 w0 G' a w:=by
 have B:=A.nilPlace e s f CD
 rw [BI]at hi
 refine⟨_,B.cellEq i (cs:=[.sla none 0 0]) (by rw [BI,α1 (α0.1 hi).1];exact hi) ?_ hH⟩
 have:den (G++[none]) (.sl H.length 0 0)=some (.slice none 0 0):=by
  unfold den
  rw [α2 (by rw [A.mem.len];exact β7 _),A.mem.len]
  simp [rm]
 unfold Al
 rw [this]
 rfl
theorem Sy.layCell (A:Sy n T H ks G0 w0 G a w)(i j:Nat){e s m c:Nat}{f:Nat→List SV}{cs:List SV}{H':Option Addr→Nat→Hp}(hi:lg H i=some (some (.row e s m c f)))(hj:lg H j=some (some (.blk (.sl i m c::cs))))(IA:Nat.beq i j=false)(hH:∀ao cp,Cd (Cd H i none) j (some (.blk (.sla ao m cp::cs)))=H' ao cp):
  ∃ao cp,Sy n T (H' ao cp) ks G0 w0 G a w∧At ao s m f w (keys (H' ao cp) G)∧(∀q:Addr,ao=some q→ks.contains q.block=true∨w0.heap.size≤q.block):=by
 obtain⟨ao,cp,hd,A1,hl,Qd⟩:=A.layAt i hi rfl
 have Ch:i≠j:=fun e=>by subst e;rw [η7]at IA;cases IA
 have Nn:lg (Cd H i none) j=some (some (.blk (.sl i m c::cs))):=by
  rw [BI]at hj⊢
  rw [BJ,γ0 Ch];exact hj
 have A2:=A1.cellEq j (cs':=.sla ao m cp::cs) Nn (by
  unfold Al
  rw [hd]
  rfl) (hH ao cp)
 refine⟨ao,cp,A2,At.ok w _ w _ hl (DO.refl _ _) (fun b hb=>.inl ?_),Qd⟩
 obtain⟨k,en,L,g1,g2,g3,g4⟩:=mem_keys.1 hb
 rw [←hH ao cp,BJ]at g1
 by_cases hk:k=j
 ·subst hk
  rw [BI]at Nn
  exact mem_keys.2 ⟨k,_,L,Nn,rfl,g3,g4⟩
 ·rw [γ0 (ζ1 hk)]at g1
  exact mem_keys.2 ⟨k,en,L,g1,g2,g3,g4⟩
theorem tR (i e s:Nat)(f:Nat→List SV){H':Hp}(A:Sy n T H ks G0 w0 G a w)(hi:lg H i=some (some (.blk [.sla none 0 0])))(CD:∀k,∃vs,Al [] (f k)=some vs∧vs.length=s)(hH:Cd (H++[some (.row e s 0 0 f)]) i (some (.blk [.sl H.length 0 0]))=H')(k:∀{G},Sy n T H' ks G0 w0 G a w→Goal P Q K pos a w):Goal P Q K pos a w:=by
 obtain⟨G',h⟩:=A.nilCel1 i e s f hi CD hH
 exact k h
theorem tS (i j:Nat) {e s m c:Nat} {f:Nat→List SV} {cs:List SV} (H':Option Addr→Nat→Hp) (A:Sy n T H ks G0 w0 G a w) (hi:lg H i=some (some (.row e s m c f))) (hj:lg H j=some (some (.blk (.sl i m c::cs)))) (IA:Nat.beq i j=false) (hH:∀ao cp,Cd (Cd H i none) j (some (.blk (.sla ao m cp::cs)))=H' ao cp)
  (k:∀ao cp,Sy n T (H' ao cp) ks G0 w0 G a w→At ao s m f w (keys (H' ao cp) G)→(∀q:Addr,ao=some q→ks.contains q.block=true∨w0.heap.size≤q.block)→Goal P Q K pos a w):Goal P Q K pos a w:=by
 obtain⟨ao,cp,h1,h2,h3⟩:=A.layCell i j hi hj IA hH
 exact k ao cp h1 h2 h3
structure So (e s m:Nat)(f:Nat→List SV)(L:Loc)(bt cp N:Nat)(w:World):Prop where
 blk:EV w L.b (L.pre++[Value.slice (some ⟨bt,0,none⟩) m cp]++L.post).toArray L.t
 row:Cb e s m f bt cp w
 ne:L.b≠bt
 lo:N≤L.b
 lt:N≤bt
theorem Sy.giveCore (A:Sy n T H [] G0 w0 G a w)(i q t:Nat){e s m c:Nat}{f:Nat→List SV}(hm:0<m)(hi:lg H i=some (some (.blk [.sl q m c])))(hq:lg H q=some (some (.row e s m c f)))(T7:Nat.beq i q=false)(ht:look T t=some (.ptr i 0)):
  ∃L bt cp,Sy n ((t,GP L.b L.pre.length)::T) H [] G0 w0 G a w∧So e s m f L bt cp w0.heap.size w∧(keys H G).contains L.b=true∧(keys H G).contains bt=true:=by
 have Ch:i≠q:=fun e=>by subst e;rw [η7]at T7;cases T7
 rw [BI]at hi hq
 obtain⟨L,vs,p1,p2,p3⟩:=A.mem.ent i _ hi
 have Fq:G[i]?=some (some L):=by
  cases hz:G[i]? with
  |none=>rw [hz]at p1;cases p1
  |some p=>rw [hz]at p1;simp only [γ8]at p1;rw [p1]
 obtain⟨h1,h2,xs,h3,h4⟩:=A.mem.ent q _ hq
 obtain⟨M,_,q1,_⟩:=DP (A.mem.ent q _ hq) (k:=0) hm
 have Np:G[q]?=some (some M):=by
  cases hz:G[q]? with
  |none=>rw [hz]at q1;cases q1
  |some p=>rw [hz]at q1;simp only [γ8]at q1;rw [q1]
 rw [Np]at h2 h4
 have AM:M.pre=[]:=h2 M rfl
 have jE:w.ownsRow 0 e s (.slice (some ⟨M.b,0,none⟩) m (c+rm (some M))) m xs:=by
  have:(Option.map (fun L:Loc=>(⟨L.b,L.pre.length,none⟩:Addr)) (some M))=some ⟨M.b,0,none⟩:=by simp [AM]
  rw [←this];exact h4
 have XP:vs=[.slice (some ⟨M.b,0,none⟩) m (c+rm (some M))]:=by
  have:Al G [.sl q m c]=some [.slice (some ⟨M.b,0,none⟩) m (c+rm (some M))]:=by
   unfold Al den
   rw [Np]
   simp [AM,Al]
  rw [this]at p2;exact(β6 p2).symm
 subst XP
 have own:∀{k:Nat} {en:Bo} {L:Loc},H[k]?=some (some en)→en.mut=true→G[k]?=some (some L)→w0.heap.size≤L.b:=fun h1 h2 h3=>(A.own _ _ _ h1 h2 h3).elim (fun h=>by cases h) id
 refine⟨L,M.b,c+rm (some M),A.slotEq t ht (by unfold den;rw [Fq];rfl),⟨p3,⟨h1,xs,h3,jE⟩,A.mem.sep i q _ _ L M Ch hi hq rfl Fq Np (fun h=>h),own hi rfl Fq,own hq rfl Np⟩,mem_keys.2 ⟨i,_,L,hi,rfl,Fq,rfl⟩,mem_keys.2 ⟨q,_,M,hq,rfl,Np,rfl⟩⟩
theorem Sy.takeCore (A:Sy n T H ks G0 w0 G a w)(t:Nat){e s m bt cp N:Nat}{f:Nat→List SV}{L:Loc}{H':Hp}(ho:So e s m f L bt cp N w)(hN:w0.heap.size≤N)(hold:∀(i:Nat) (e:Bo) (M:Loc),H[i]?=some (some e)→G[i]?=some (some M)→¬e.empty→M.b<N)(ht:look T t=some (GP L.b L.pre.length))(hH:H++[some (.row e s m 0 f)]++[some (.blk [.sl H.length m 0])]=H'):
  ∃G',Sy n ((t,.ptr (H.length+1) 0)::T) H' ks G0 w0 G' a w∧∀b,(keys H' G').contains b=true→b<N∨b=L.b∨b=bt:=by
 subst hH
 have hlen:=A.mem.len
 obtain⟨p1,xs,p2,p3⟩:=ho.row
 have A1:=A.takeEnt (L:=⟨bt,[],List.replicate cp undef,e⟩) (en:=.row e s m 0 f) ⟨p1,fun L hL=>by cases hL;rfl,xs,p2,by simpa [rm]using p3⟩ rfl (fun i e M h1 h2 h3=>by have:=hold i e M h1 h2 h3;have:=ho.lt;show M.b≠bt;omega) (β4 hN ho.lt)
 have SL:(G++[some (⟨bt,[],List.replicate cp undef,e⟩:Loc)])[H.length]?=some (some ⟨bt,[],List.replicate cp undef,e⟩):=by rw [α2 (by omega),hlen];simp
 have hd:Al (G++[some (⟨bt,[],List.replicate cp undef,e⟩:Loc)]) [.sl H.length m 0]=some [.slice (some ⟨bt,0,none⟩) m cp]:=by
  unfold Al den
  rw [SL]
  simp [rm,Al]
 have A2:=A1.takeEnt (L:=L) (en:=.blk [.sl H.length m 0]) ⟨L,_,rfl,hd,ho.blk⟩ rfl (fun i e' M h1 h2 h3=>by
  by_cases hi:i<H.length
  ·rw [α1 hi]at h1
   rw [α1 (by omega)]at h2
   have:=hold i e' M h1 h2 h3;have:=ho.lo;omega
  ·have Qf:i=H.length:=by
    have:=(α0.1 h1).1
    simp at this;omega
   subst Qf
   rw [SL]at h2
   cases h2
   exact fun z=>ho.ne z.symm) (β4 hN ho.lo)
 refine⟨_,A2.slotEq t ht ?_,fun b hb=>?_⟩
 ·unfold den
  rw [α2 (by simp;omega)]
  simp [hlen]
 ·obtain⟨i,en,M,g1,g2,g3,g4⟩:=mem_keys.1 hb
  by_cases hi:i<H.length
  ·rw [γ2,α1 hi]at g1
   rw [γ2,α1 (by omega)]at g3
   exact .inl (by rw [←g4];exact hold i en M g1 g3 (Bf g2))
  ·by_cases Qf:i=H.length
   ·subst Qf
    rw [α1 (by simp;omega),SL]at g3
    cases g3
    exact .inr (.inr g4.symm)
   ·have ZK:i=H.length+1:=by
     have:=(α0.1 g1).1
     simp at this;omega
    subst ZK
    rw [α2 (by simp;omega)]at g3
    simp [hlen]at g3
    subst g3
    exact .inr (.inl g4.symm)
end
end Go.Proofs.YtbbdanhpphlbpaaGreatDoor
namespace Go.Proofs.YtbbdanhpphlbpaaGreatDoor.Mc
open Go.RowKit
set_option simprocs false
def Th.z:Th:=⟨0,fun _=>0⟩
abbrev HJ (c:Ak)(s:Th):List SV:=Zf (.sla c.ao c.l.length c.cp) ((s.at_:Nat):Int) s.r
structure BR (cs:List Ak)(ts:List Th)(nn:Nat):Prop where
 n:ts.length=cs.length
 m:cs.length=nn
 r:∀k,k<cs.length→Fs (cs.getD k Ak.z).l
 a:∀k,k<cs.length→(ts.getD k Th.z).at_≤(cs.getD k Ak.z).l.length
def CR (cs:List Ak)(ts:List Th)(j old:Int):List Th:=ts.set j.toNat (Sm (cs.getD j.toNat Ak.z).l (ts.getD j.toNat Th.z) old)
theorem Sp {cs:List Ak}{ts:List Th}{j old:Int}:(CR cs ts j old).length=ts.length:=by unfold CR;simp
theorem Jc {α:Type}{l:List α}{k:Nat}{x d:α}(h:k<l.length):(l.set k x).getD k d=x:=by simp [List.getD,h]
theorem RV {α:Type}{l:List α}{j k:Nat}{x d:α}(h:j≠k):(l.set k x).getD j d=l.getD j d:=by simp [List.getD,γ0 (ζ1 h)]
theorem BR.set {cs:List Ak}{ts:List Th}{nn:Nat}(h:BR cs ts nn){j:Int}(hj:0≤j∧j<((nn:Nat):Int))(old:Int):BR cs (CR cs ts j old) nn:=by
 have hn:=h.n
 have hm:=h.m
 refine⟨by rw [Sp];exact h.n,h.m,h.r,fun k hk=>?_⟩
 unfold CR
 by_cases e:k=j.toNat
 ·subst e;rw [Jc (by omega)];exact cP (h.r _ hk) (h.a _ hk) old
 ·rw [RV e];exact h.a k hk
abbrev _root_.Go.Proofs.YtbbdanhpphlbpaaGreatDoor.Ay (cs:List Ak)(ts:List Th)(nn:Nat):Bo:=.row 125 10 nn 0 (fun zz=>HJ (cs.getD zz Ak.z) (ts.getD zz Th.z))
theorem cT (cs:List Ak)(ts:List Th)(nn:Nat)(hC:BR cs ts nn)(j:Int)(hj:0≤j∧j<((nn:Nat):Int)):CE (An cs) Tryz.prog 131 [.el 0 10 j 0] [some (Ay cs ts nn)] (Rt (.tup [.agg [.int .i64 (RS ((cs.getD ((j).toNat) Ak.z).l.getD ((((ts.getD ((j).toNat) Th.z).at_:Nat):Int)).toNat In.z)),.int .i64 (RT (ts.getD ((j).toNat) Th.z).r ((cs.getD ((j).toNat) Ak.z).l.getD ((((ts.getD ((j).toNat) Th.z).at_:Nat):Int)).toNat In.z))],.int .i64 (Gs (ts.getD ((j).toNat) Th.z).r ((cs.getD ((j).toNat) Ak.z).l.getD ((((ts.getD ((j).toNat) Th.z).at_:Nat):Int)).toNat In.z)),.bool (C4 ((cs.getD ((j).toNat) Ak.z).l.getD ((((ts.getD ((j).toNat) Th.z).at_:Nat):Int)).toNat In.z))]) [some (Ay cs ts nn)]):=by
 have hn:=hC.n
 have hm:=hC.m
 have hk:(j).toNat<ts.length:=by omega
 exact CE.mono (Pp (F:=fun zz=>HJ (cs.getD zz Ak.z) (ts.getD zz Th.z)) (F':=fun zz=>HJ (cs.getD zz Ak.z) (ts.getD zz Th.z)) (j).toNat rfl (by omega) (lW (cs.getD ((j).toNat) Ak.z).l (cs.getD ((j).toNat) Ak.z).ao (cs.getD ((j).toNat) Ak.z).cp (ts.getD ((j).toNat) Th.z) (hC.r _ (by omega)) (hC.a _ (by omega))) rfl rfl (fun q hq=>rfl) ⟨_,rfl,rfl⟩) (fun w ks h=>h.at (by omega))
theorem cU (cs:List Ak)(ts:List Th)(nn:Nat)(hC:BR cs ts nn)(j old:Int)(hj:0≤j∧j<((nn:Nat):Int)):CE (An cs) Tryz.prog 91 [.el 0 10 j 0,.int .i64 old] [some (Ay cs ts nn)] (Rt (.bool (!((((ts.getD ((j).toNat) Th.z).at_:Nat):Int)==(((cs.getD ((j).toNat) Ak.z).l.length:Nat):Int)))) [some (Ay cs (CR cs ts j old) nn)]):=by
 have hn:=hC.n
 have hm:=hC.m
 have hk:(j).toNat<ts.length:=by omega
 exact CE.mono (Pp (F:=fun zz=>HJ (cs.getD zz Ak.z) (ts.getD zz Th.z)) (F':=fun zz=>HJ (cs.getD zz Ak.z) ((CR cs ts j old).getD zz Th.z)) (j).toNat rfl (by omega) (by
   have e:HJ (cs.getD ((j).toNat) Ak.z) ((CR cs ts j old).getD (j).toNat Th.z)=HJ (cs.getD ((j).toNat) Ak.z) (Sm (cs.getD ((j).toNat) Ak.z).l (ts.getD ((j).toNat) Th.z) old):=by unfold CR;rw [Jc hk]
   show CE _ _ _ _ _ (Rt _ [some (.blk (HJ (cs.getD ((j).toNat) Ak.z) ((CR cs ts j old).getD (j).toNat Th.z)))])
   rw [e]
   exact lX (cs.getD ((j).toNat) Ak.z).l (cs.getD ((j).toNat) Ak.z).ao (cs.getD ((j).toNat) Ak.z).cp (ts.getD ((j).toNat) Th.z) old (hC.r _ (by omega)) (hC.a _ (by omega))) rfl rfl (fun q hq=>by show HJ _ _=HJ _ _;unfold CR;rw [RV hq]) ⟨_,rfl,rfl⟩) (fun w ks h=>h.at (by omega))
theorem X2 (cs:List Ak)(ts:List Th)(nn:Nat)(hC:BR cs ts nn)(j:Int)(hj:0≤j∧j<((nn:Nat):Int)):CE (An cs) Tryz.prog 104 [.el 0 10 j 0] [some (Ay cs ts nn)] (Rt (.tup [.agg (A5 ((cs.getD ((j).toNat) Ak.z).l.getD ((((ts.getD ((j).toNat) Th.z).at_:Nat):Int)).toNat In.z)),.bool (!((((ts.getD ((j).toNat) Th.z).at_:Nat):Int)==(((cs.getD ((j).toNat) Ak.z).l.length:Nat):Int)))]) [some (Ay cs ts nn)]):=by
 have hn:=hC.n
 have hm:=hC.m
 have hk:(j).toNat<ts.length:=by omega
 exact CE.mono (Pp (F:=fun zz=>HJ (cs.getD zz Ak.z) (ts.getD zz Th.z)) (F':=fun zz=>HJ (cs.getD zz Ak.z) (ts.getD zz Th.z)) (j).toNat rfl (by omega) (Kt (cs.getD ((j).toNat) Ak.z).l (cs.getD ((j).toNat) Ak.z).ao (cs.getD ((j).toNat) Ak.z).cp (((ts.getD ((j).toNat) Th.z).at_:Nat):Int) (ts.getD ((j).toNat) Th.z).r (by have:=hC.a (j).toNat (by omega);omega)) rfl rfl (fun q hq=>rfl) ⟨_,rfl,rfl⟩) (fun w ks h=>h.at (by omega))
theorem Zh {P:Program}{f:Nat}{args:List SV}{H H2:Hp}{x y:SV}(h:Fn P f args H (Rt x H2))(e:∀{G},den G x=den G y):Fn P f args H (Rt y H2):=⟨h.1,fun G w vs hM hv=>ν6 (h.2 G w vs hM hv) fun e' w' ⟨x',H',F,v,⟨q1,q2⟩,r⟩=>by subst q1;subst q2;exact⟨y,_,F,v,⟨rfl,rfl⟩,by rw [←e];exact r.1,r.2⟩⟩
theorem Ux (cs:List Ak)(ts:List Th)(nn:Nat)(th:Int)(Eb:0≤th∧th<((nn:Nat):Int)):Fn Tryz.prog 79 [.ptr 0 0,.int .i64 th] [some (.blk [.sl 1 nn 0]),some (Ay cs ts nn)] (Rt (.el 1 10 th 0) [some (.blk [.sl 1 nn 0]),some (Ay cs ts nn)]):=
 Am (n:=24) (by kernel_rfl) Tryz.func79 rfl rfl rfl fun G w a h0 A=>N9 21 A rfl rfl fun A=>fork 15 A rfl
  (fun h1 A=>absurd h1 (by simp;omega))
  (fun h1 A=>N9 15 A rfl (Aj (by omega)<|Ah) fun A=>R9 A rfl h0 rfl rfl rfl)
theorem Zi (cs:List Ak)(ts:List Th)(nn:Nat)(th:Int)(Eb:0≤th∧th<((nn:Nat):Int)):Fn Tryz.prog 45 [.ptr 0 0,.int .i64 th] [some (.blk [.sl 1 nn 0]),some (Ay cs ts nn)] (Rt (.int .i64 (((ts.getD ((th).toNat) Th.z).at_:Nat):Int)) [some (.blk [.sl 1 nn 0]),some (Ay cs ts nn)]):=
 Am (n:=11) (by kernel_rfl) Tryz.func45 rfl rfl rfl fun G w a h0 A=>N9 9 A rfl rfl fun A=>C9 [0,1] (Ux cs ts nn th Eb) A rfl fun A=>A9 A rfl (lY rfl rfl rfl rfl (by omega)) fun A=>N9 6 A rfl (Aj (by omega)<|Aj (by omega)<|Ah) fun A=>R9 A rfl h0 rfl rfl rfl
theorem RW (cs:List Ak)(ts:List Th)(nn:Nat)(th:Int)(hC:BR cs ts nn)(Eb:0≤th∧th<((nn:Nat):Int)):CE (An cs) Tryz.prog 92 [.ptr 0 0,.int .i64 th] [some (.blk [.sl 1 nn 0]),some (Ay cs ts nn)] (Rt (.tup [.agg [.int .i64 (RS ((cs.getD ((th).toNat) Ak.z).l.getD ((((ts.getD ((th).toNat) Th.z).at_:Nat):Int)).toNat In.z)),.int .i64 (RT (ts.getD ((th).toNat) Th.z).r ((cs.getD ((th).toNat) Ak.z).l.getD ((((ts.getD ((th).toNat) Th.z).at_:Nat):Int)).toNat In.z))],.int .i64 (Gs (ts.getD ((th).toNat) Th.z).r ((cs.getD ((th).toNat) Ak.z).l.getD ((((ts.getD ((th).toNat) Th.z).at_:Nat):Int)).toNat In.z)),.bool (C4 ((cs.getD ((th).toNat) Ak.z).l.getD ((((ts.getD ((th).toNat) Th.z).at_:Nat):Int)).toNat In.z))]) [some (.blk [.sl 1 nn 0]),some (Ay cs ts nn)]):=
 BB (n:=14) (by kernel_rfl) Tryz.func92 rfl rfl rfl fun G w a h0 hI A=>N9 11 A rfl rfl fun A=>C9 [0,1] (Ux cs ts nn th Eb) A rfl fun A=>I9 [1] An.ok hI (cT cs ts nn hC th Eb) A rfl fun A=>N9 9 A rfl rfl fun A=>R9 A rfl h0 rfl rfl rfl
theorem X3 (cs:List Ak)(ts:List Th)(nn:Nat)(th old:Int)(hC:BR cs ts nn)(Eb:0≤th∧th<((nn:Nat):Int)):CE (An cs) Tryz.prog 58 [.ptr 0 0,.int .i64 th,.int .i64 old] [some (.blk [.sl 1 nn 0]),some (Ay cs ts nn)] (Rt (.bool (!((((ts.getD ((th).toNat) Th.z).at_:Nat):Int)==(((cs.getD ((th).toNat) Ak.z).l.length:Nat):Int)))) [some (.blk [.sl 1 nn 0]),some (Ay cs (CR cs ts th old) nn)]):=
 BB (n:=12) (by kernel_rfl) Tryz.func58 rfl rfl rfl fun G w a h0 hI A=>N9 9 A rfl rfl fun A=>C9 [0,1] (Ux cs ts nn th Eb) A rfl fun A=>N9 1 A rfl rfl fun A=>I9 [1] An.ok hI (cU cs ts nn hC th old Eb) A rfl fun A=>N9 4 A rfl rfl fun A=>R9 A rfl h0 rfl rfl rfl
theorem MB (cs:List Ak)(ts:List Th)(nn:Nat):Fn Tryz.prog 68 [.ptr 0 0] [some (.blk [.sl 1 nn 0]),some (Ay cs ts nn)] (Rt (.int .i64 ((nn:Nat):Int)) [some (.blk [.sl 1 nn 0]),some (Ay cs ts nn)]):=
 Am (n:=8) (by kernel_rfl) Tryz.func68 rfl rfl rfl fun G w a h0 A=>N9 16 A rfl rfl fun A=>R9 A rfl h0 rfl rfl rfl
theorem Ku (cs:List Ak)(ts:List Th)(nn:Nat)(th:Int)(hC:BR cs ts nn)(Eb:0≤th∧th<((nn:Nat):Int)):CE (An cs) Tryz.prog 69 [.ptr 0 0,.int .i64 th] [some (.blk [.sl 1 nn 0]),some (Ay cs ts nn)] (Rt (.tup [.agg (A5 ((cs.getD ((th).toNat) Ak.z).l.getD ((((ts.getD ((th).toNat) Th.z).at_:Nat):Int)).toNat In.z)),.bool (!((((ts.getD ((th).toNat) Th.z).at_:Nat):Int)==(((cs.getD ((th).toNat) Ak.z).l.length:Nat):Int)))]) [some (.blk [.sl 1 nn 0]),some (Ay cs ts nn)]):=
 BB (n:=12) (by kernel_rfl) Tryz.func69 rfl rfl rfl fun G w a h0 hI A=>N9 10 A rfl rfl fun A=>C9 [0,1] (Ux cs ts nn th Eb) A rfl fun A=>I9 [1] An.ok hI (X2 cs ts nn hC th Eb) A rfl fun A=>N9 7 A rfl rfl fun A=>R9 A rfl h0 rfl rfl rfl
end Go.Proofs.YtbbdanhpphlbpaaGreatDoor.Mc
namespace Go.Proofs.YtbbdanhpphlbpaaGreatDoor.Mc
open Go.RowKit
set_option simprocs false
theorem JJ (o1 s1:Int):Fn Tryz.prog 171 [.int .i64 o1,.int .i64 s1] [] (Rt (.bool (((((((s1==1)||(s1==2))||(s1==4))||(s1==8))&&(decide (o1≥0)))&&(decide (o1≤(IntKind.wrap .i64 (8 - s1)))))&&((Int.tmod o1 s1)==0))) []):=
 Am (n:=23) (by kernel_rfl) Tryz.func171 rfl rfl rfl fun G w a h0 A=>M hX 8 A rfl rfl fun A=>C9 [] (M1 s1) A rfl fun A=>M hX 20 A rfl (Bw<|Bw<|Bw<|Bw<|Bw<|Bw<|Bw<|Bw<|Hu (fun hg=>(by first|omega|(simp at hg;omega)))<|Bw<|Bw<|Ah) fun A=>R9 A rfl h0 rfl rfl rfl
theorem Uy (a1 b1 m1:Int):Fn Tryz.prog 178 [.int .i64 a1,.int .i64 b1,.int .i64 m1] [] (Rt (.int .i64 (IntKind.wrap .i64 ((((BitVec.ofInt (IntKind.bits .i64) (IntKind.wrap .i64 ((((BitVec.ofInt (IntKind.bits .i64) a1)&&& ~~~ (BitVec.ofInt (IntKind.bits .i64) m1)).toNat:Nat):Int)))|||(BitVec.ofInt (IntKind.bits .i64) (IntKind.wrap .i64 ((((BitVec.ofInt (IntKind.bits .i64) b1)&&&(BitVec.ofInt (IntKind.bits .i64) m1)).toNat:Nat):Int)))).toNat:Nat):Int))) []):=
 Am (n:=14) (by kernel_rfl) Tryz.func178 rfl rfl rfl fun G w a h0 A=>M hX 18 A rfl rfl fun A=>R9 A rfl h0 rfl rfl rfl
def BS (v1 o1 s1:Int):Int:=if(!(((((((s1==1)||(s1==2))||(s1==4))||(s1==8))&&(decide (o1≥0)))&&(decide (o1≤(IntKind.wrap .i64 (8 - s1)))))&&((Int.tmod o1 s1)==0)))=true then 0 else IntKind.wrap .i64 ((((BitVec.ofInt (IntKind.bits .i64) (Int.fdiv v1 (2^min ((IntKind.wrap .i64 (8*o1))).toNat (IntKind.bits .i64))))&&&(BitVec.ofInt (IntKind.bits .i64) (IntKind.wrap .i64 ((IntKind.wrap .i64 (1*2^min ((IntKind.wrap .i64 (8*s1))).toNat (IntKind.bits .i64))) - 1)))).toNat:Nat):Int)
theorem cV (v1 o1 s1:Int)(hs:s1=1∨s1=2∨s1=4∨s1=8)(ho:0≤o1∧o1≤7):Fn Tryz.prog 130 [.int .i64 v1,.int .i64 o1,.int .i64 s1] [] (Rt (.int .i64 (BS v1 o1 s1)) []):=
 Am (n:=18) (by kernel_rfl) Tryz.func130 rfl rfl rfl fun G w a h0 A=>M hX 10 A rfl rfl fun A=>C9 [] (JJ o1 s1) A rfl fun A=>M hX 3 A rfl rfl fun A=>fork 10 A rfl
  (fun h1 A=>M hX 7 A rfl rfl fun A=>R9 A rfl h0 rfl (by simp only [BA,nb,CK,CC,BS,if_pos h1]) rfl)
  (fun h1 A=>M hX 4 A rfl rfl fun A=>b0 hX By [(5,.int .i64 (IntKind.wrap .i64 ((IntKind.wrap .i64 (1*2^min ((IntKind.wrap .i64 (8*s1))).toNat (IntKind.bits .i64))) - 1)))] [] A rfl (Aj (by rw [II (by omega)];omega)<|Ah) rfl rfl (by kernel_rfl) (A8 _ _) ⟨.inl ⟨_,_,rfl,rfl,Uq s1 hs⟩,trivial⟩ fun A=>M hX 2 A rfl rfl fun A=>R9 A rfl h0 rfl (by simp only [BA,nb,CK,CC,BS,if_neg (α8 h1)]) rfl)
def Bm (v1 o1 s1 x1:Int):Int:=if(!(((((((s1==1)||(s1==2))||(s1==4))||(s1==8))&&(decide (o1≥0)))&&(decide (o1≤(IntKind.wrap .i64 (8 - s1)))))&&((Int.tmod o1 s1)==0)))=true then v1 else IntKind.wrap .i64 ((((BitVec.ofInt (IntKind.bits .i64) (IntKind.wrap .i64 ((((BitVec.ofInt (IntKind.bits .i64) v1)&&& ~~~ (BitVec.ofInt (IntKind.bits .i64) (IntKind.wrap .i64 ((IntKind.wrap .i64 ((IntKind.wrap .i64 (1*2^min ((IntKind.wrap .i64 (8*s1))).toNat (IntKind.bits .i64))) - 1))*2^min ((IntKind.wrap .i64 (8*o1))).toNat (IntKind.bits .i64))))).toNat:Nat):Int)))|||(BitVec.ofInt (IntKind.bits .i64) (IntKind.wrap .i64 ((((BitVec.ofInt (IntKind.bits .i64) (IntKind.wrap .i64 (x1*2^min ((IntKind.wrap .i64 (8*o1))).toNat (IntKind.bits .i64))))&&&(BitVec.ofInt (IntKind.bits .i64) (IntKind.wrap .i64 ((IntKind.wrap .i64 ((IntKind.wrap .i64 (1*2^min ((IntKind.wrap .i64 (8*s1))).toNat (IntKind.bits .i64))) - 1))*2^min ((IntKind.wrap .i64 (8*o1))).toNat (IntKind.bits .i64))))).toNat:Nat):Int)))).toNat:Nat):Int)
theorem cW (v1 o1 s1 x1:Int)(hs:s1=1∨s1=2∨s1=4∨s1=8)(ho:0≤o1∧o1≤7):Fn Tryz.prog 138 [.int .i64 v1,.int .i64 o1,.int .i64 s1,.int .i64 x1] [] (Rt (.int .i64 (Bm v1 o1 s1 x1)) []):=
 Am (n:=25) (by kernel_rfl) Tryz.func138 rfl rfl rfl fun G w a h0 A=>M hX 10 A rfl rfl fun A=>C9 [] (JJ o1 s1) A rfl fun A=>M hX 3 A rfl rfl fun A=>fork 12 A rfl
  (fun h1 A=>M hX 8 A rfl rfl fun A=>R9 A rfl h0 rfl (by simp only [BA,nb,CK,CC,Bm,if_pos h1]) rfl)
  (fun h1 A=>M hX 4 A rfl rfl fun A=>b0 hX By [(6,.int .i64 (IntKind.wrap .i64 ((IntKind.wrap .i64 (1*2^min ((IntKind.wrap .i64 (8*s1))).toNat (IntKind.bits .i64))) - 1))),(10,.int .i64 (IntKind.wrap .i64 ((((BitVec.ofInt (IntKind.bits .i64) (IntKind.wrap .i64 ((((BitVec.ofInt (IntKind.bits .i64) v1)&&& ~~~ (BitVec.ofInt (IntKind.bits .i64) (IntKind.wrap .i64 ((IntKind.wrap .i64 ((IntKind.wrap .i64 (1*2^min ((IntKind.wrap .i64 (8*s1))).toNat (IntKind.bits .i64))) - 1))*2^min ((IntKind.wrap .i64 (8*o1))).toNat (IntKind.bits .i64))))).toNat:Nat):Int)))|||(BitVec.ofInt (IntKind.bits .i64) (IntKind.wrap .i64 ((((BitVec.ofInt (IntKind.bits .i64) (IntKind.wrap .i64 (x1*2^min ((IntKind.wrap .i64 (8*o1))).toNat (IntKind.bits .i64))))&&&(BitVec.ofInt (IntKind.bits .i64) (IntKind.wrap .i64 ((IntKind.wrap .i64 ((IntKind.wrap .i64 (1*2^min ((IntKind.wrap .i64 (8*s1))).toNat (IntKind.bits .i64))) - 1))*2^min ((IntKind.wrap .i64 (8*o1))).toNat (IntKind.bits .i64))))).toNat:Nat):Int)))).toNat:Nat):Int)))] [] A rfl (Aj (by rw [II (by omega)];omega)<|Aj (by rw [II (by omega)];omega)<|Ah) rfl rfl (by kernel_rfl) (A8 _ _) ⟨.inl ⟨_,_,rfl,rfl,Uq s1 hs⟩,⟨.inl ⟨_,_,rfl,rfl,Uy v1 (IntKind.wrap .i64 (x1*2^min ((IntKind.wrap .i64 (8*o1))).toNat (IntKind.bits .i64))) (IntKind.wrap .i64 ((IntKind.wrap .i64 ((IntKind.wrap .i64 (1*2^min ((IntKind.wrap .i64 (8*s1))).toNat (IntKind.bits .i64))) - 1))*2^min ((IntKind.wrap .i64 (8*o1))).toNat (IntKind.bits .i64)))⟩,trivial⟩⟩ fun A=>M hX 2 A rfl rfl fun A=>R9 A rfl h0 rfl (by simp only [BA,nb,CK,CC,Bm,if_neg (α8 h1)]) rfl)
end Go.Proofs.YtbbdanhpphlbpaaGreatDoor.Mc
namespace Go.Proofs.YtbbdanhpphlbpaaGreatDoor
open Go.RowKit
section
variable {P:Program}{n:Nat}{ks:List Nat}{G0:Gr}{w0:World}{T:List (Nat×SV)}{H:Hp}{G:Gr}{a:Act}{w w':World}{Q:Exit→Act→World→Prop}{K:List Fr}{ops:Array Oper}{o:Oper}{rest:List Oper}{fuel i:Nat}{listed:Array Bool}
theorem NC {id:Nat}(f:Nat)(By:P.follows .mixedOrders=true)(hf:ops.size=f)(A:Sy n T H ks G0 w0 G a w)(h:∀{w},Sy n T H ks G0 w0 G a w→wpAny P .any ops (Fz P Q K) f (Array.replicate f false) a w):Goal P Q K (.code (.region id ops true)) a w:=by
 subst hf
 refine ρ0 By ?_
 have jD:Ms H ks G0 w0 G w.drew:=A.ms.grow (CI.refl w).drew
 exact h (jD.sy A.size A.defers A.get)
theorem KE {p q:Prop}(h:p→q)(t:p):q:=h t
theorem Aw {rs:List Nat}(hr:Region.ready .any ops listed=rs)(Ch:rs≠[])(h:∀i∈rs,wpOp P ops Q i (wpAny P .any ops Q fuel (listed.setIfInBounds i true)) a w):wpAny P .any ops Q (fuel+1) listed a w:=by
 unfold wpAny
 rw [hr]
 exact⟨fun e=>absurd e Ch,h⟩
theorem El (hr:Region.ready .any ops listed=[])(h:Goal P Q K .norm a w):wpAny P .any ops (Fz P Q K) fuel listed a w:=by
 cases fuel with
 |zero=>exact⟨hr,h⟩
 |succ f=>
  unfold wpAny
  rw [hr]
  exact⟨fun _=>h,fun i hi=>by cases hi⟩
theorem Kv (ho:ops[i]?=some o)(h:Bq P ops o a w fun v w'=>wpAny P .any ops Q fuel (listed.setIfInBounds i true) (a.put o.dst v) w'):wpOp P ops Q i (wpAny P .any ops Q fuel (listed.setIfInBounds i true)) a w:=by
 unfold wpOp
 rcases h with⟨hw,h⟩|⟨hw,h⟩
 ·simp only [ho,hw,υ9]
  refine .inl (κ6 (fun a2 w2 h=>?_) (h Q))
  obtain⟨v,rfl,h1⟩:=h
  exact h1
 ·simp only [ho,hw,θ1,ξ7]
  exact h
theorem Em {x:SV}{H':Hp}(ho:ops[i]?=some o)(A:Sy n T H ks G0 w0 G a w)(hd:DD n o.dst=true)(h:Bd P n ops ks G0 w0 T H o x H')(hk:∀{G a w},Sy n (Bh T o.dst x) H' ks G0 w0 G a w→wpAny P .any ops Q fuel (listed.setIfInBounds i true) a w):wpOp P ops Q i (wpAny P .any ops Q fuel (listed.setIfInBounds i true)) a w:=by
 refine Kv ho ?_
 rcases h G a w A with⟨hw,h⟩|⟨hw,F,h1,h2⟩
 ·refine .inl ⟨hw,fun Q'=>?_⟩
  refine κ6 (fun a' w' hh=>?_) (h Q')
  obtain⟨v,rfl,F,h1,h2⟩:=hh
  exact⟨v,rfl,hk (Sy.put (h2.sy A.size A.defers fun t y hy=>BF F y (A.get t y hy)) hd h1)⟩
 ·exact .inr ⟨hw,hk (Sy.put (h2.sy A.size A.defers fun t y hy=>BF F y (A.get t y hy)) hd h1)⟩
theorem cX {f:Nat} {J:SV→World→World→Prop} {K:Value→World→Prop} (hf:Ly P f [] [] J) (A:Sy n T H ks G0 w0 G a w) (h1:B6 n ops T o=some (f,[]))
  (hk:∀x v w',J x w w'→(∀k,(keys H G).contains k=true→k<w.heap.size)→Sy n (Bh T o.dst x) H ks G0 w0 G (a.put o.dst v) w'→K v w'):Bq P ops o a w K:=by
 obtain⟨hd,us,hu,I2⟩:=Ci (P:=P) (ops:=ops) A h1 hf.1
 have hu':us=[]:=by cases hu;rfl
 subst hu'
 have hM:Mem [] [] w:=⟨rfl,fun i e h=>by simp at h,fun i j e f L M _ h=>by simp at h⟩
 refine I2 (hf.2 [] w [] hM rfl) fun e w' he=>?_
 obtain⟨x,v,e1,rfl,hg,hJ⟩:=he
 refine⟨v,rfl,hk x v _ hJ (fun k hz=>?_) (Sy.put ⟨A.size,A.defers,A.get,⟨A.mem.len,fun i e hi=>(A.mem.ent i e hi).mix hg.mix (fun _ _ _=>rfl),A.mem.sep⟩,A.pre,A.own,A.mix.grow hg⟩ hd (by simpa using BF G x e1))⟩
 obtain⟨i,e,L,q1,q2,q3,q4⟩:=mem_keys.1 hz
 have:=A.mem.ent i e q1
 rw [q3]at this
 rw [←q4];exact BK.lt this (Bf q2)
theorem DC {β:Type} {e s m t f:Nat} {l:List SV} {F:β→Nat→List SV} {R:β→Nat→World→World→Prop} (ho:ops[i]?=some o) (hf:Ly P f [] [] (fun x w w'=>∃(L:β) (b cp:Nat),x=.agg (l++[.sla (some ⟨b,0,none⟩) m cp])∧R L b w w'∧w.heap.size≤b∧Cb e s m (F L) b cp w')) (A:Sy n T H ks G0 w0 G a w) (hd:o.dst=some t) (h1:B6 n ops T o=some (f,[]))
  (k:∀L b cp a' w' G',R L b w w'→w.heap.size≤b→(∀k,(keys (H++[some (.row e s m 0 (F L))]) G').contains k=true→k<w.heap.size∨k=b)→Sy n ((t,.agg (l++[.sl H.length m 0]))::Bh T o.dst (.agg (l++[.sla (some ⟨b,0,none⟩) m cp]))) (H++[some (.row e s m 0 (F L))]) ks G0 w0 G' a' w'→wpAny P .any ops Q fuel (listed.setIfInBounds i true) a' w'):wpOp P ops Q i (wpAny P .any ops Q fuel (listed.setIfInBounds i true)) a w:=by
 refine Kv ho (cX hf A h1 fun x v w' hJ hk A'=>?_)
 obtain⟨L,b,cp,rfl,hR,Dl,hg⟩:=hJ
 have hl:look (Bh T o.dst (.agg (l++[.sla (some ⟨b,0,none⟩) m cp]))) t=some (.agg (l++[.sla (some ⟨b,0,none⟩) m cp])):=by rw [hd];simp [Bh,look,η7]
 have hlen:=A'.mem.len
 have A2:=A'.takeRowG t (y:=.agg (l++[.sl H.length m 0])) hg (fun i e L q1 q2 q3=>by
  have:=A.mem.ent i e q1
  rw [q2]at this
  have:=BK.lt this q3
  omega) (β4 A.mix.size Dl) hl (by
   unfold den
   rw [L9 (y:=.sla (some ⟨b,0,none⟩) m cp)]
   unfold den
   rw [α2 (by omega),hlen]
   simp [rm])
 refine k L b cp _ w' _ hR Dl (fun q hq=>?_) A2
 obtain⟨i,e',L',q1,q2,q3,q4⟩:=mem_keys.1 hq
 by_cases hi:i<H.length
 ·rw [α1 hi]at q1
  rw [α1 (by omega)]at q3
  exact .inl (hk q (mem_keys.2 ⟨i,e',L',q1,q2,q3,q4⟩))
 ·have Qf:i=H.length:=by
   have:=(α0.1 q1).1
   simp at this;omega
  subst Qf
  rw [α2 (by omega),hlen]at q3
  simp at q3
  subst q3
  exact .inr q4.symm
end
section
variable {n:Nat}{ks:List Nat}{G0:Gr}{w0:World}{T T':List (Nat×SV)}{H H':Hp}{G:Gr}{a:Act}{w:World}{Q:Exit→Act→World→Prop}{K K':List Fr}{pos pos':Pos}{E:Ob}
theorem Da {ops:Array Oper}{o:Oper}{i fuel:Nat}{listed:Array Bool}{QQ:Exit→Act→World→Prop}(x:SV)(ho:ops[i]?=some o)(A:Sy n T H ks G0 w0 G a w)(h:(DD n o.dst,Dh ⟨X,true⟩ n ops T H o)=(true,some (.val x E)))(hE:Dr E)(hk:∀{G a w},Sy n (Bh T o.dst x) H ks G0 w0 G a w→wpAny Tryz.prog .any ops QQ fuel (listed.setIfInBounds i true) a w):wpOp Tryz.prog ops QQ i (wpAny Tryz.prog .any ops QQ fuel (listed.setIfInBounds i true)) a w:=by
 simp only [κ0]at h
 exact Em ho A h.1 (BN (X:=⟨X,true⟩) (out:=.val x E) hX h.2 hE) hk
theorem Cc {p:Nat→Prop}{a:Nat}{l:List Nat}(h:p a∧∀x∈l,p x):∀x∈a::l,p x:=List.forall_mem_cons.2 h
theorem DF {p:Nat→Prop}:∀x∈([]:List Nat),p x:=List.forall_mem_nil _
end
section
variable {P:Program}{X:Tx}{n:Nat}{ks:List Nat}{G0:Gr}{w0:World}{T:List (Nat×SV)}{l:List Oper}{xs:List SV}{Q:Exit→Act→World→Prop}{ef rs0:List Nat}{tb:List (List Nat×List Nat×Hp)}
def X4 (P:Program)(n:Nat)(ks:List Nat)(G0:Gr)(w0:World)(T:List (Nat×SV))(L:List Oper)(m:Nat)(xs:List SV)(ef:List Nat)(tb:List (List Nat×List Nat×Hp)):List (List Bool)→List (List Nat×List Nat×Hp)→Prop
 |bs::B,(c,rs,H)::ss=>Ze P n ks G0 w0 T L xs ef tb c rs H bs (L.take m) 0∧X4 P n ks G0 w0 T L m xs ef tb B ss
 |_,_=>True
theorem Uz {m:Nat}:∀{ss:List (List Nat×List Nat×Hp)},X4 P n ks G0 w0 T l m xs ef tb (ss.map fun s=>Kp l.toArray ef s.1 (l.take m) 0) ss→∀(k:Nat) (c rs:List Nat) (H:Hp),ss[k]?=some (c,rs,H)→Ze P n ks G0 w0 T l xs ef tb c rs H (Kp l.toArray ef c (l.take m) 0) (l.take m) 0
 | [],_,k,c,rs,H,h=>by cases h
 |(c1,r1,H1)::ss,hO,k,c,rs,H,h=>by
  simp only [ζ4,X4]at hO
  cases k with
  |zero=>cases h;exact hO.1
  |succ k=>exact Uz hO.2 k c rs H (by simpa using h)
def X5 (l:List Oper):Nat→List Nat→List Nat
 |0,s=>s
 |f+1,s=>X5 l f (s++(s.flatMap fun j=>match l[j]? with|some o=>(List.range l.length).filter (fun p=>waits o p)|none=>[]))
theorem RX {l:List Oper}{S:Nat→Bool}(hS:∀(j:Nat) (o:Oper) (p:Nat),l[j]?=some o→S j=true→waits o p=true→S p=true):∀f s,(∀j∈s,S j=true)→∀j∈X5 l f s,S j=true
 |0,s,h=>h
 | f+1,s,h=>RX hS f _ fun j hj=>by
  rcases ζ6.1 hj with hj|hj
  ·exact h j hj
  ·obtain⟨q,hq,hj⟩:=List.mem_flatMap.1 hj
   split at hj
   ·next o ho=>exact hS q o j ho (h q hq) (ι7.1 hj).2
   ·cases hj
def RY (l:List Oper)(m f:Nat):List Oper→Nat→Bool
 | [],_=>true
 |o::r,i=>(Nat.blt i m||((List.range m).all fun j=>(X5 l f ((List.range l.length).filter fun p=>waits o p)).contains j))&&RY l m f r (i+1)
theorem Kw {l:List Oper}{m f:Nat}:∀{r:List Oper} {k:Nat},RY l m f r k=true→∀(i:Nat) (o:Oper),r[i]?=some o→m≤k+i→∀j,j<m→j∈X5 l f ((List.range l.length).filter fun p=>waits o p)
 | [],_,_,_,_,h,_,_,_=>by cases h
 | p::r,k,h,i,o,hi,hm,j,hj=>by
  simp only [RY,α3,β9]at h
  cases i with
  |zero=>
   cases hi
   rcases h.1 with h1|h1
   ·rw [μ7]at h1;omega
   ·have:=δ7.1 h1 j (by simpa using hj);simpa using this
  |succ i=>exact Kw h.2 i o (by simpa using hi) (by omega) j hj
theorem lZ {id:Nat} {H HE:Hp} {G:Gr} {a:Act} {w:World} {K:List Fr} (m f:Nat) (By:P.follows .mixedOrders=true) (xs:List SV) (ef rs0:List Nat) (nw:Nat) (tb:List (List Nat×List Nat×Hp)) (B:List (List Bool)) (A:Sy n T H ks G0 w0 G a w)
  (h0:tb[0]?=some ([],rs0,H++List.replicate nw none)) (hE:Sh ef tb=some HE) (SC:(rs0.all fun r=>Nat.ble H.length r)=true) (bB:(ef.all fun p=>Nat.blt p m)=true) (hB:(tb.map fun s=>Kp l.toArray ef s.1 (l.take m) 0)=B) (hl:xs.length=l.length) (GN:KR l.toArray n []=true) (p6:Nat.ble m l.length=true) (AM:RY l m f l 0=true)
  (ZE:jT (l.take m) T=true) (hO:X4 P n ks G0 w0 T l m xs ef tb B tb) (hk:∀(fuel:Nat) (listed:Array Bool) {G a w},listed=Array.ofFn (n:=l.length) (fun i=>decide (i.val<m))→l.length - m≤fuel→Sy n (JF (l.take m) (xs.take m) T) HE ks G0 w0 G a w→wpAny P .any l.toArray (Fz P Q K) fuel listed a w):Goal P Q K (.code (.region id l.toArray true)) a w:=by
 refine ρ0 By ?_
 have jD:Ms H ks G0 w0 G w.drew:=A.ms.grow (CI.refl w).drew
 rw [δ7]at SC bB
 have xF:=ε1 p6
 refine RO (P:=P) (xs:=xs) (T:=T) (ef:=ef) (rs0:=rs0) (tb:=tb) m xF (fun S hS i o hi ho hw j hj=>RX hS f _ (fun p hp=>hw p (ι7.1 hp).2) j (Kw AM i o ho (by omega) j hj)) GN (fun t x hx j o h3 h4 hj i q hq hi Ch=>RU ZE hx (by rw [γ1 hj];exact h3) h4 (by rw [γ1 hi];exact hq) Ch) (fun t x hx r hr=>?_) hl (fun k c rs H hk i o hi ho hm=>?_) (fun k c rs H' EC AS fuel listed G a w Jp ZJ qP A'=>?_) _ _ _ _ 0 [] rs0 _ (G++List.replicate nw none) (by simp) (by
  refine β4 (κ3 _ _) (by simp)) h0 ⟨A.size,A.defers,fun t x hx _=>BF _ x (A.get t x hx),fun j o x _ hj=>?_,Sy.pad (a:=a) jD nw,fun p hp=>?_,fun p hp=>absurd hp (by simp),fun r hr=>hr,fun j o p _ hj=>?_⟩ (fun i hi=>by simp [β3,ζ0];split<;>rfl)
 ·have:=SC r hr
  rw [A.mem.len]at this
  exact Pn (G:=G) (ε1 this) x (A.get t x hx)
 ·have:=M6 (Uz (by rw [hB];exact hO) k c rs H hk) i o (by rw [γ1 hi];exact ho) (by rw [ε0];exact hm)
  rwa [ε0]at this
 ·have h2:(ef.all c.contains)=true:=by
   rw [δ7]
   intro p hp
   have:=AS p hp (by have:=bB p hp;simpa [μ7]using this)
   simpa using this
  cases HF hE k c rs H' EC h2
  refine hk fuel listed ?_ qP A'
  apply Array.ext
  ·simp [Jp]
  ·intro i h1 h2
   have:=ZJ i
   simp [Array.getD,h1]at this⊢
   exact this
 ·exfalso;simp [β3,ζ0]at hj;split at hj<;>simp at hj
 ·constructor
  ·intro hj;exfalso;simp [β3,ζ0]at hj;split at hj<;>simp at hj
  ·intro hj;cases hj
 ·exfalso;simp [β3,ζ0]at hj;split at hj<;>simp at hj
end
section
variable {P:Program}{Y:Tb}{n:Nat}{ks:List Nat}{G0:Gr}{w0:World}{T:List (Nat×SV)}{H:Hp}{G:Gr}{a:Act}{w:World}{Q:Exit→Act→World→Prop}{K:List Fr}{pos:Pos}{ops:Array Oper}{o:Oper}{rest:List Oper}
theorem tT {x y:Operand}{t i e s mm mc b:Nat}{ti:TI}{f0 f:Nat→List SV}{ao:Option Addr}(hY:Y.ok P=true)(CJ:o.op=.call {callee:=.builtin .append,args:= #[x,y],argTypes:= #[t,t]})(i7:BE ops T o.guard=some .run)(hx:Db T x=some (.sl i 0 0))(hi:lg H i=some (some (.row e s 0 0 f0)))(hy:Db T y=some (.sla ao mm mc))(HZ:Y.get t=some ti)(QZ:ti.elm=some (e,s,b))(iY:Nat.ble b 10000=true)(h0':At ao s mm f w0 ks)(T3:mm≤1000000)(CD:∀k,∃vs,Al [] (f k)=some vs∧vs.length=s)(CA:∀k,k<mm→∃E,He (f k)=some E∧Dr E):
  Bd P n ops ks G0 w0 T H o (.sl H.length mm 0) (Cd H i none++[some (.row e s mm 0 f)]):=by
 intro G a w A
 have hl:=At.ok w0 ks w ks h0' A.mix (fun b hb=>.inl hb)
 obtain⟨d,op,ty,pos,af,gd⟩:=o
 have hw:=BQ (gd:=none) A i7
 simp only at CJ
 subst CJ
 have iY:=ε1 iY
 rw [BI]at hi
 obtain⟨r1,r2,xs,r3,r4⟩:=A.mem.ent i _ hi
 obtain⟨ie,z,f1',f2',f3',f4',f5',f6',f7'⟩:=Dn (D0 (Tb.at hY HZ) QZ)
 have CH:=A.ev hx
 have Dp:=A.ev hy
 obtain⟨q,hq⟩:∃q,G[i]?=some q:=by
  have:i<G.length:=by rw [←A.mem.len];exact(α0.1 hi).1
  exact⟨G[i],by simp [this]⟩
 rw [hq]at r2 r4
 simp only [γ8]at r2 r4
 unfold den at CH Dp
 rw [hq]at CH
 simp only [β2]at CH Dp
 cases r3
 obtain⟨ys,XG⟩:=Mk (f:=f) CD mm
 have iP:=EY (f:=f) CD XG
 have ZI:Value.ownBlock (.slice (q.map fun L=>⟨L.b,L.pre.length,none⟩) 0 (0+rm q))=q.map (·.b):=by cases q<;>rfl
 by_cases h0:mm=0
 ·subst h0
  cases XG
  have XH:Src P ie.size t (.slice ao 0 mc) 0 [] w:=by
   cases ao with
   |none=>exact Src.ofNil w f1' mc
   |some x0=>exact Src.ofSlice w f1' x0 0 mc [] (by simp) (fun j u hj=>by simp at hj) (fun u hu=>by cases hu)
  have hr:=σ6 (P:=P) w t t ty e ie f1' f2' (q.map fun L=>⟨L.b,L.pre.length,none⟩) 0 (0+rm q) (β8 _) _ XH
  refine A6 (v:=.slice (q.map fun L=>⟨L.b,L.pre.length,none⟩) 0 (0+rm q)) (w':=w) hw ?_ ?_
  ·unfold execOp
   simp only [resolve,invoke,builtin,γ3,γ6,β1,θ9,ζ4,κ5,←CH,←Dp,hr]
  ·have A2:=A.rowMove (w':=w) (p':=q) (m':=0) (c':=0) (xs':=[]) (f':=f) hi ⟨rfl,rfl,rfl,β7 _,fun _ _ _=>rfl⟩ r4 r2 (.inl (by rw [hq];rfl)) rfl CD
   refine⟨_,?_,A2.ms⟩
   unfold den
   rw [α2 (by rw [A.mem.len];exact β7 _),A.mem.len]
   simp
 ·rcases hl.2 with hh|⟨bb,oo,rfl,Bn,_,FM⟩
  ·exact absurd hh h0
  have hmul:(0+mm)*b≤2000000*10000:=ν7 (by omega) iY
  obtain⟨v',w',hr,k1,k2,_,k4⟩:=τ0 (P:=P) w 0 t ty e ie z s b f1' f2' f3' f4' f5' f6' f7' _ 0 [] r4 ⟨bb,oo,none⟩ mm mc ys iP
   (fun j u hj=>by
    obtain⟨k,r,us,d1,d2,d3,d4⟩:=Gk (f:=f) CD XG j u hj
    obtain⟨us',b2',b3'⟩:=FM k (by omega)
    rw [b2']at d2
    cases d2
    have:=b3' r u d3
    rw [η3,d4,←θ4]
    exact this)
   (fun u hu=>by
    obtain⟨j,hj⟩:=κ2.1 hu
    obtain⟨k,r,us,d1,d2,d3,d4⟩:=Gk (f:=f) CD XG j u hj
    obtain⟨E,o1,o2⟩:=CA k d1
    exact δ7.1 (DY o1 o2 d2) u (θ0 d3))
   (by simp only [maxLen];omega) (by omega) (β8 _)
  obtain⟨p',o1,o2,o3⟩:=HA k1
  rw [ZI]at k2 k4
  rw [o3]at k4
  rw [o1]at k1
  simp only [ε0,List.nil_append]at k1
  refine A6 (v:=v') (w':=w') hw ?_ ?_
  ·unfold execOp
   have xG:Value.slice (some ⟨bb,oo,none⟩) mm mc=a.eval y:=Dp
   simp only [resolve,invoke,builtin,γ3,γ6,β1,θ9,ζ4,κ5,←CH,←xG,hr]
  ·have A2:=A.rowMove (p':=p') (m':=mm) (c':=0) (f':=f) hi (by rw [hq];exact k2) (by simpa using k1) o2 (by rw [hq];exact k4) XG CD
   refine⟨_,?_,A2.ms⟩
   unfold den
   rw [α2 (by rw [A.mem.len];exact β7 _),A.mem.len]
   simp [o1]
theorem tU {R:Prop} (i j:Nat) {e s m c:Nat} {f:Nat→List SV} {cs:List SV} (H':Option Addr→Nat→Hp) (A:Sy n T H ks G0 w0 G a w) (hi:lg H i=some (some (.row e s m c f))) (hj:lg H j=some (some (.blk (.sl i m c::cs)))) (IA:Nat.beq i j=false) (hH:∀ao cp,Cd (Cd H i none) j (some (.blk (.sla ao m cp::cs)))=H' ao cp)
  (k:∀ao cp,Sy n T (H' ao cp) ks G0 w0 G a w→At ao s m f w (keys (H' ao cp) G)→(∀q:Addr,ao=some q→ks.contains q.block=true∨w0.heap.size≤q.block)→R):R:=by
 obtain⟨ao,cp,h1,h2,h3⟩:=A.layCell i j hi hj IA hH
 exact k ao cp h1 h2 h3
theorem RZ {fuel k:Nat}{listed l0:Array Bool}(e:listed=l0)(h:k≤fuel)(hh:∀f,wpAny P .any ops Q (f+k) l0 a w):wpAny P .any ops Q fuel listed a w:=by
 subst e
 obtain⟨f,rfl⟩:∃f,fuel=f+k:=⟨fuel - k,by omega⟩
 exact hh f
theorem cY {R:Prop} (i j:Nat) (l r:List SV) {e s m c:Nat} {f:Nat→List SV} (H':Option Addr→Nat→Hp) (A:Sy n T H ks G0 w0 G a w) (hi:lg H i=some (some (.row e s m c f))) (hj:lg H j=some (some (.blk (l++.sl i m c::r)))) (IA:Nat.beq i j=false) (hH:∀ao cp,Cd (Cd H i none) j (some (.blk (l++.sla ao m cp::r)))=H' ao cp)
  (k:∀ao cp,Sy n T (H' ao cp) ks G0 w0 G a w→At ao s m f w (keys (H' ao cp) G)→(∀q:Addr,ao=some q→ks.contains q.block=true∨w0.heap.size≤q.block)→R):R:=by
 obtain⟨ao,cp,hd,A1,hl,Qd⟩:=A.layAt i hi rfl
 have Ch:i≠j:=fun e=>by subst e;rw [η7]at IA;cases IA
 have Nn:lg (Cd H i none) j=some (some (.blk (l++.sl i m c::r))):=by
  rw [BI]at hj⊢
  rw [BJ,γ0 Ch];exact hj
 have A2:=A1.cellEq j (cs':=l++.sla ao m cp::r) Nn (KC (by rw [hd];rfl) l r) (hH ao cp)
 refine k ao cp A2 (At.ok w _ w _ hl (DO.refl _ _) (fun b hb=>.inl ?_)) Qd
 obtain⟨q,en,L,g1,g2,g3,g4⟩:=mem_keys.1 hb
 rw [←hH ao cp,BJ]at g1
 by_cases hk:q=j
 ·subst hk
  rw [BI]at Nn
  exact mem_keys.2 ⟨q,_,L,Nn,rfl,g3,g4⟩
 ·rw [γ0 (ζ1 hk)]at g1
  exact mem_keys.2 ⟨q,en,L,g1,g2,g3,g4⟩
theorem l4 (i e s:Nat)(f:Nat→List SV)(l r:List SV){H':Hp}(A:Sy n T H ks G0 w0 G a w)(hi:lg H i=some (some (.blk (l++.sla none 0 0::r))))(CD:∀k,∃vs,Al [] (f k)=some vs∧vs.length=s)(hH:Cd (H++[some (.row e s 0 0 f)]) i (some (.blk (l++.sl H.length 0 0::r)))=H')(k:∀{G},Sy n T H' ks G0 w0 G a w→Goal P Q K pos a w):Goal P Q K pos a w:=by
 have B:=A.nilPlace e s f CD
 rw [BI]at hi
 refine k (B.cellEq i (cs:=l++.sla none 0 0::r) (by rw [BI,α1 (α0.1 hi).1];exact hi) (KC ?_ l r) hH)
 have:den (G++[none]) (.sl H.length 0 0)=some (.slice none 0 0):=by
  unfold den
  rw [α2 (by rw [A.mem.len];exact β7 _),A.mem.len]
  simp [rm]
 rw [this]
 rfl
end
section
variable {P:Program}{Y:Tb}{n:Nat}{ks:List Nat}{G0:Gr}{w0:World}{T:List (Nat×SV)}{H:Hp}{G:Gr}{a:Act}{w:World}{Q:Exit→Act→World→Prop}{K:List Fr}{pos:Pos}{ops:Array Oper}{o:Oper}{rest:List Oper}{pre:World→Prop}
theorem Zj (h:∀(i:Nat) (e:Bo),H[i]?=some (some e)→e.mut=false)(b:Nat):(keys H G).contains b=false:=by
 cases hz:(keys H G).contains b with
 |false=>rfl
 |true=>
  obtain⟨i,e',L,q1,q2,_⟩:=mem_keys.1 hz
  rw [h i e' q1]at q2;cases q2
end
abbrev FR (x:SV)(r:Rg)(at_:Int)(p:SV):List SV:=[x,.int .i64 (r 0),.int .i64 (r 1),.int .i64 (r 2),.int .i64 (r 3),.int .i64 (r 4),.int .i64 (r 5),.int .i64 (r 6),.int .i64 (r 7),.int .i64 at_,p]
section
variable {P:Program}{Y:Tb}{n:Nat}{ks:List Nat}{G0:Gr}{w0:World}{T:List (Nat×SV)}{H:Hp}{G:Gr}{a:Act}{w:World}{ops:Array Oper}{o:Oper}{rest:List Oper}{Q:Exit→Act→World→Prop}{K:List Fr}{pos:Pos}
theorem Sq {x y:Operand}{ty i:Nat}{j v at_:Int}{r:Rg}{s1 s2:SV}{ti:TI}(hX:Y.ok P=true)(CJ:o.op=.store ty x y)(hg:BE ops T o.guard=some .run)(hx:Db T x=some (.ix (.ptr i 1) 1 8 j 0))(hy:Db T y=some (.int .i64 v))(hH:lg H i=some (some (.blk (FR s1 r at_ s2))))(HZ:Y.get ty=some ti)(Df:ti.row=none)(CA:ti.one=true)(hj:0≤j∧j<8):
  Bd P n ops ks G0 w0 T H o (.tup []) (Cd H i (some (.blk (FR s1 (Bk r j.toNat v) at_ s2)))):=fun G a w A=>by
 have hw:=BQ (gd:=none) A hg
 obtain⟨d,op,ty',pos,af,gd⟩:=o
 simp only at CJ
 subst CJ
 have CH:=A.ev hx
 have Dp:=A.ev hy
 have key:∀k:Nat,j=(k:Int)→(∀q:List SV,sp (1+k) (FR s1 r at_ s2) [.int .i64 v]=some q→q=FR s1 (Bk r j.toNat v) at_ s2→Bq P ops {dst:=d,op:=.store ty x y,type:=ty',pos:=pos,after:=af,guard:=gd} a w fun v' w'=>∃F,den (G++F) (.tup [])=some v'∧Ms (Cd H i (some (.blk (FR s1 (Bk r j.toNat v) at_ s2)))) ks G0 w0 (G++F) w'):=by
  intro k hk q hr e
  rw [hk,Cy (q:=1+k) k (by omega)]at CH
  have hs:Do ⟨Y,true⟩ H ty (.ptr i (1+k)) (.int .i64 v)=some (i,q,[]):=by
   have ht:Tx.get ⟨Y,true⟩ ty=some ti:=HZ
   simp only [Do,hH,ht,Df,CA,hr]
   rfl
  refine EE (X:=⟨Y,true⟩) hX A hs Ah CH Dp rfl rfl hw fun cs L vs' w' a1 a2 a3 a4 a5=>⟨[],rfl,?_⟩
  subst e
  simpa using (A.turn a1 a2 a3 a4 a5).ms
 rcases lR hj with rfl|rfl|rfl|rfl|rfl|rfl|rfl|rfl
 ·exact key 0 rfl _ rfl rfl
 ·exact key 1 rfl _ rfl rfl
 ·exact key 2 rfl _ rfl rfl
 ·exact key 3 rfl _ rfl rfl
 ·exact key 4 rfl _ rfl rfl
 ·exact key 5 rfl _ rfl rfl
 ·exact key 6 rfl _ rfl rfl
 ·exact key 7 rfl _ rfl rfl
theorem Sr {x:Operand}{ty i:Nat}{j at_:Int}{r:Rg}{s1 s2:SV}{ti:TI}(hX:Y.ok P=true)(CJ:o.op=.load ty x)(hg:BE ops T o.guard=some .run)(hx:Db T x=some (.ix (.ptr i 1) 1 8 j 0))(hH:lg H i=some (some (.blk (FR s1 r at_ s2))))(HZ:Y.get ty=some ti)(Df:ti.row=none)(CA:ti.one=true)(hj:0≤j∧j<8):
  Bd P n ops ks G0 w0 T H o (.int .i64 (r j.toNat)) H:=fun G a w A=>by
 have hw:=BQ (gd:=none) A hg
 obtain⟨d,op,ty',pos,af,gd⟩:=o
 simp only at CJ
 subst CJ
 have CH:=A.ev hx
 have key:∀k:Nat,j=(k:Int)→(lg (FR s1 r at_ s2) (1+k)=some (.int .i64 (r j.toNat)))→Bq P ops {dst:=d,op:=.load ty x,type:=ty',pos:=pos,after:=af,guard:=gd} a w fun v' w'=>∃F,den (G++F) (.int .i64 (r j.toNat))=some v'∧Ms H ks G0 w0 (G++F) w':=by
  intro k hk hr
  rw [hk,Cy (q:=1+k) k (by omega)]at CH
  have hs:Ev ⟨Y,true⟩ H ty (.ptr i (1+k))=some (.int .i64 (r j.toNat),[]):=by
   have ht:Tx.get ⟨Y,true⟩ ty=some ti:=HZ
   simp only [Ev,Gg,hH,LV,DX,ht,Df,CA,hr,θ3]
  obtain⟨z,hz,h3⟩:=FZ (X:=⟨Y,true⟩) (P:=P) (ops:=ops) (d:=d) (ty:=ty') (pos:=pos) (af:=af) (gd:=gd) (x:=x) hX A hs CH
  exact h3 (fun p hp=>by cases hp) rfl hw _ ⟨[],by simpa using hz,by simpa using A.ms⟩
 rcases lR hj with rfl|rfl|rfl|rfl|rfl|rfl|rfl|rfl
 ·exact key 0 rfl rfl
 ·exact key 1 rfl rfl
 ·exact key 2 rfl rfl
 ·exact key 3 rfl rfl
 ·exact key 4 rfl rfl
 ·exact key 5 rfl rfl
 ·exact key 6 rfl rfl
 ·exact key 7 rfl rfl
theorem Sy.takeK (A:Sy n T H ks G0 w0 G a w){L:Loc}{en:Bo}(SE:BK G w (some L) en)(QY:en.mut=true)(hn:∀(i:Nat) (e:Bo) (M:Loc),H[i]?=some (some e)→G[i]?=some (some M)→¬e.empty→M.b≠L.b)(ho:ks.contains L.b=true∨w0.heap.size≤L.b):
  Sy n T (H++[some en]) ks G0 w0 (G++[some L]) a w:=A.addE SE (fun i e M N h1 h2 h3 h=>by cases h3;exact hn i e M h1 h2 (h.elim (·.1) fun q=>Bf q.1)) fun _ M h=>by cases h;exact ho
end
abbrev Ec (ps:List Int):Nat→List SV:=fun j=>[.int .i64 (ps.getD j 0)]
theorem X6 (ps:List Int):∀k,∃vs,Al [] (Ec ps k)=some vs∧vs.length=1:=fun k=>⟨_,rfl,rfl⟩
def PH (pb:Option (Nat×Nat))(n:Nat):Value:=match pb with
 |none=>.slice none 0 0
 |some q=>.slice (some ⟨q.1,0,none⟩) n q.2
def Hj (pb:Option (Nat×Nat)):List Nat:=match pb with
 |none=>[]
 |some q=>[q.1]
def cZ (pb:Option (Nat×Nat))(ps:List Int)(w:World):Prop:=match pb with
 |none=>ps=[]
 |some q=>Cb 3 1 ps.length (Ec ps) q.1 q.2 w
structure Gt (L:Loc)(cs:List SV)(pb:Option (Nat×Nat))(ps:List Int)(w:World):Prop where
 blk:∃vs,Al [] cs=some vs∧EV w L.b (L.pre++(vs++[PH pb ps.length])++L.post).toArray L.t
 path:cZ pb ps w
 ne:∀q,pb=some q→q.1≠L.b
theorem HK {G:Gr}{x:SV}{v:Value}(hx:den G x=some v):∀{l:List SV} {vs:List Value},Al G l=some vs→Al G (l++[x])=some (vs++[v])
 | [],vs,h=>by cases h;exact Bb hx rfl
 |y::l,vs,h=>by
  obtain⟨u,ws,h1,h2,rfl⟩:=Bg h
  exact Bb h1 (HK hx h2)
section
variable {P:Program}{Y:Tb}{n:Nat}{ks:List Nat}{G0:Gr}{w0:World}{T:List (Nat×SV)}{H:Hp}{G:Gr}{a:Act}{w:World}{ops:Array Oper}{o:Oper}{rest:List Oper}{Q:Exit→Act→World→Prop}{K:List Fr}{pos:Pos}
theorem Sy.takeT (A:Sy n T H ks G0 w0 G a w)(t:Nat){L:Loc}{cs:List SV}{pb:Option (Nat×Nat)}{ps:List Int}(ho:Gt L cs pb ps w)(Dk:Kr H G (L.b::Hj pb))(EA:∀b,(L.b::Hj pb).contains b=true→ks.contains b=true∨w0.heap.size≤b)(ht:look T t=some (GP L.b L.pre.length)):
  ∃p,Sy n ((t,.ptr (H.length+1) 0)::T) (H++[some (.row 3 1 ps.length 0 (Ec ps))]++[some (.blk (cs++[.sl H.length ps.length 0]))]) ks G0 w0 (G++[p]++[some L]) a w∧∀M:Loc,p=some M→(Hj pb).contains M.b=true:=by
 have hlen:=A.mem.len
 obtain⟨vs,XP,hb⟩:=ho.blk
 have fin:∀(p:Option Loc) (A1:Sy n T (H++[some (.row 3 1 ps.length 0 (Ec ps))]) ks G0 w0 (G++[p]) a w) (hp:∀M:Loc,p=some M→M.b≠L.b) (hd:den (G++[p]) (.sl H.length ps.length 0)=some (PH pb ps.length)),Sy n ((t,.ptr (H.length+1) 0)::T) (H++[some (.row 3 1 ps.length 0 (Ec ps))]++[some (.blk (cs++[.sl H.length ps.length 0]))]) ks G0 w0 (G++[p]++[some L]) a w:=by
  intro p A1 hp hd
  have A2:=A1.takeK (L:=L) (en:=.blk (cs++[.sl H.length ps.length 0])) ⟨L,_,rfl,HK hd (by simpa using BT (G++[p]) cs XP),hb⟩ rfl (fun i e M h1 h2 h3=>by
   by_cases hi:i<H.length
   ·rw [α1 hi]at h1
    rw [α1 (by omega)]at h2
    have:=Dk i e M h1 h2 h3
    intro z;rw [z]at this;simp at this
   ·have Qf:i=H.length:=by
     have:=(α0.1 h1).1
     simp at this;omega
    subst Qf
    rw [α2 (by omega),hlen]at h2
    simp at h2
    exact hp M h2) (EA L.b (by simp))
  refine A2.slotEq t ht ?_
  unfold den
  rw [α2 (by simp;omega)]
  simp [hlen]
 cases hpb:pb with
 |none=>
  subst hpb
  have ZL:ps=[]:=ho.path
  subst ZL
  refine⟨none,fin none (A.nilPlace 3 1 _ (X6 _)) (fun M h=>by cases h) ?_,fun M h=>by cases h⟩
  unfold den
  rw [α2 (by omega),hlen]
  simp [rm,PH]
 | some q=>
  subst hpb
  obtain⟨p1,xs,p2,p3⟩:Cb 3 1 ps.length (Ec ps) q.1 q.2 w:=ho.path
  have A1:=A.takeK (L:=⟨q.1,[],List.replicate q.2 undef,3⟩) (en:=.row 3 1 ps.length 0 (Ec ps)) ⟨p1,fun L hL=>by cases hL;rfl,xs,p2,by simpa [rm]using p3⟩ rfl (fun i e M h1 h2 h3=>by
   have:=Dk i e M h1 h2 h3
   intro z;rw [z]at this;simp [Hj]at this) (EA q.1 (by simp [Hj]))
  refine⟨_,fin _ A1 (fun M h=>by cases h;exact ho.ne q rfl) ?_,fun M h=>by cases h;simp [Hj]⟩
  unfold den
  rw [α2 (by omega),hlen]
  simp [rm,PH]
theorem Sy.giveT (A:Sy n T H ks G0 w0 G a w)(i q:Nat){cs:List SV}{ps:List Int}{L:Loc}{vs:List Value}(Fq:G[i]?=some (some L))(hi:lg H i=some (some (.blk (cs++[.sl q ps.length 0]))))(hq:lg H q=some (some (.row 3 1 ps.length 0 (Ec ps))))(T7:Nat.beq i q=false)(Ab:Al [] cs=some vs):
  ∃pb,Gt L cs pb ps w∧∀b,(Hj pb).contains b=true→ks.contains b=true∨w0.heap.size≤b:=by
 have Ch:i≠q:=fun e=>by subst e;rw [η7]at T7;cases T7
 rw [BI]at hi hq
 obtain⟨L',us,p1,p2,p3⟩:=A.mem.ent i _ hi
 rw [Fq]at p1
 cases p1
 obtain⟨h1,h2,xs,h3,h4⟩:=A.mem.ent q _ hq
 have hu:∀v,den G (.sl q ps.length 0)=some v→us=vs++[v]:=fun v hv=>by
  have:=HK hv (by simpa using BT G cs Ab)
  rw [this]at p2;exact(β6 p2).symm
 have nil:(G[q]?).getD none=none→∃pb,Gt L cs pb ps w∧∀b,(Hj pb).contains b=true→ks.contains b=true∨w0.heap.size≤b:=fun hz=>by
  rw [hz]at h4
  have ZL:ps=[]:=by
   rcases h4.2 with⟨_,h⟩|⟨g,cap,cur,h,_⟩
   ·exact δ3 (by omega)
   ·cases h
  subst ZL
  refine⟨none,⟨⟨vs,Ab,?_⟩,rfl,fun q h=>by cases h⟩,fun b h=>by simp [Hj]at h⟩
  have Bn:q<G.length:=by rw [←A.mem.len];exact(α0.1 hq).1
  have Np:G[q]?=some none:=by
   rw [β0 Bn]at hz⊢
   simpa using hz
  rw [hu (.slice none 0 0) (by unfold den;rw [Np];simp [rm])]at p3
  exact p3
 cases hz:G[q]? with
 |none=>exact nil (by rw [hz];rfl)
 | some p=>
  cases p with
  |none=>exact nil (by rw [hz];rfl)
  | some M=>
   rw [hz]at h2 h4
   have AM:M.pre=[]:=h2 M rfl
   have jE:w.ownsRow 0 3 1 (.slice (some ⟨M.b,0,none⟩) ps.length (0+rm (some M))) ps.length xs:=by
    have:(Option.map (fun L:Loc=>(⟨L.b,L.pre.length,none⟩:Addr)) (some M))=some ⟨M.b,0,none⟩:=by simp [AM]
    rw [←this];exact h4
   refine⟨some (M.b,0+rm (some M)),⟨⟨vs,Ab,?_⟩,⟨h1,xs,h3,jE⟩,fun q' h=>?_⟩,fun b h=>?_⟩
   ·rw [hu (.slice (some ⟨M.b,0,none⟩) ps.length (0+rm (some M))) (by unfold den;rw [hz];simp [AM])]at p3
    exact p3
   ·cases h;exact fun z=>A.mem.sep i q _ _ L M Ch hi hq rfl Fq hz (fun h=>h) z.symm
   ·have:b=M.b:=by simpa [Hj]using h
    subst this
    exact A.own q _ M hq rfl hz
theorem Sy.moveT (A:Sy n T H ks G0 w0 G a w)(i q:Nat){cs:List SV}{e s m:Nat}{f:Nat→List SV}{H':Hp}(hi:lg H i=some (some (.blk (cs++[.sl q m 0]))))(hq:lg H q=some (some (.row e s m 0 f)))(T7:Nat.beq i q=false)(hH:Cd (Cd H q none++[some (.row e s m 0 f)]) i (some (.blk (cs++[.sl H.length m 0])))=H'):
  ∃p,Sy n T H' ks G0 w0 (G++[p]) a w:=by
 have Ch:i≠q:=fun e=>by subst e;rw [η7]at T7;cases T7
 rw [BI]at hi hq
 have G6:=(α0.1 hi).1
 have xH:=(α0.1 hq).1
 have hlen:=A.mem.len
 have Qa:(Cd H q none).length=H.length:=by rw [BJ];simp
 have B:=A.hide q
 obtain⟨h1,h2,xs,h3,h4⟩:=A.mem.ent q _ hq
 have wS:lg (Cd H q none++[some (Bo.row e s m 0 f)]) i=some (some (.blk (cs++[.sl q m 0]))):=by
  rw [BI,α1 (by omega),BJ,γ0 (ζ1 Ch)];exact hi
 have fin:∀p,(G[q]?).getD none=p→Sy n T (Cd H q none++[some (.row e s m 0 f)]) ks G0 w0 (G++[p]) a w→Sy n T H' ks G0 w0 (G++[p]) a w:=fun p hp A2=>by
  refine A2.cellEq i (cs:=cs++[.sl q m 0]) (cs':=cs++[.sl H.length m 0]) wS (KC ?_ cs []) hH
  have Np:G[q]?=some p:=by
   rw [β0 (by omega)]at hp⊢
   simpa using hp
  unfold den
  rw [α2 (by omega),α1 (by omega),Np,hlen]
  simp
 cases hz:(G[q]?).getD none with
 | none=>
  rw [hz]at h4
  have hm:m=0:=by
   rcases h4.2 with⟨_,h⟩|⟨g,cap,cur,h,_⟩
   ·omega
   ·cases h
  subst hm
  exact⟨none,fin none hz (B.nilPlace e s f h1)⟩
 | some M=>
  have Np:G[q]?=some (some M):=by
   rw [β0 (by omega)]at hz⊢
   simpa using hz
  refine⟨some M,fin (some M) hz (B.takeK (L:=M) (en:=.row e s m 0 f) (by have:=A.mem.ent q _ hq;rw [hz]at this;exact this) rfl (fun j x N g1 g2 g3=>?_) (A.own q _ M hq rfl Np))⟩
  rw [BJ]at g1
  by_cases hj:j=q
  ·subst hj;rw [γ7 xH]at g1;cases g1
  ·rw [γ0 (ζ1 hj)]at g1
   exact fun z=>A.mem.sep q j _ x M N (ζ1 hj) hq g1 rfl Np g2 g3 z.symm
theorem dA {b q0 s:Nat}{f:Nat→List SV}(t:Nat){H':Hp}(h0:At (some ⟨b,q0,none⟩) s 1 f w0 ks)(A:Sy n T H ks G0 w0 G a w)(ht:look T t=some (GP b q0))(hH:H++[some (.lst s 1 f)]=H')(k:∀{G},Sy n ((t,.el H.length s 0 0)::T) H' ks G0 w0 G a w→Goal P Q K pos a w):Goal P Q K pos a w:=by
 subst hH
 have A1:=A.adoptB (bo:=some (b,q0)) h0 (by decide) t ht (fun z hz=>by cases hz)
 have hlen:=A.mem.len
 have A2:=A1.slotEq t (x:=GP b q0) (y:=.el H.length s 0 0) (by show look ((t,GP b q0)::T) t=_;unfold look;rw [η7];rfl) (by
  unfold den
  rw [α2 (by omega),hlen]
  simp [Eg])
 refine k ⟨A2.size,A2.defers,fun q x hx=>A2.get q x ?_,A2.mem,A2.pre,A2.own,A2.mix⟩
 unfold look at hx⊢
 cases hb:Nat.beq t q with
 |true=>rw [hb]at hx;exact hx
 |false=>rw [hb]at hx;show look _ _=_;unfold look;rw [hb];exact hx
abbrev Ss (x:SV)(r:Rg)(at_:Int):List SV:=[x,.int .i64 (r 0),.int .i64 (r 1),.int .i64 (r 2),.int .i64 (r 3),.int .i64 (r 4),.int .i64 (r 5),.int .i64 (r 6),.int .i64 (r 7),.int .i64 at_]
theorem Zk (t:Nat) {L:Loc} {cs:List SV} {pb:Option (Nat×Nat)} {ps:List Int} {H':Hp} (A:Sy n T [] (L.b::Hj pb) G0 w0 G a w) (ho:Gt L cs pb ps w) (ht:look T t=some (GP L.b L.pre.length)) (hH:[some (.row 3 1 ps.length 0 (Ec ps)),some (.blk (cs++[.sl 0 ps.length 0]))]=H')
  (k:∀{G},Sy n ((t,.ptr 1 0)::T) H' (L.b::Hj pb) G0 w0 G a w→G[1]?=some (some L)→(∀b,(keys H' G).contains b=true→(L.b::Hj pb).contains b=true∨w.heap.size≤b)→Goal P Q K pos a w):Goal P Q K pos a w:=by
 subst hH
 have hG:G=[]:=δ3 (by rw [←A.mem.len];rfl)
 subst hG
 obtain⟨p,A1,hp⟩:=A.takeT t ho (fun i e M h=>by simp at h) (fun b hb=>.inl hb) ht
 refine k A1 rfl (fun b hb=>.inl ?_)
 obtain⟨i,en,M,g1,g2,g3,g4⟩:=mem_keys.1 hb
 match i,g1,g3 with
 |1,g1,g3=>cases g3;subst g4;simp
 |0,g1,g3=>
  have h:=hp M (by simpa using g3)
  subst g4
  rw [ζ3,h,σ0]
 |i+2,g1,g3=>simp at g1
theorem Zl (i q:Nat){cs:List SV}{e s m:Nat}{f:Nat→List SV}{H':Hp}(A:Sy n T H ks G0 w0 G a w)(hi:lg H i=some (some (.blk (cs++[.sl q m 0]))))(hq:lg H q=some (some (.row e s m 0 f)))(T7:Nat.beq i q=false)(hH:Cd (Cd H q none++[some (.row e s m 0 f)]) i (some (.blk (cs++[.sl H.length m 0])))=H')(k:∀{G},Sy n T H' ks G0 w0 G a w→Goal P Q K pos a w):Goal P Q K pos a w:=by
 obtain⟨p,A1⟩:=A.moveT i q hi hq T7 hH
 exact k A1
end
def rY (ao:Option Addr)(s:Nat)(j:Int)(q:Nat):Option Addr:=ao.map fun a=>⟨a.block,a.off+j.toNat*s+q,none⟩
section
variable {P:Program}{Y:Tb}{n:Nat}{ks:List Nat}{G0:Gr}{w0:World}{T:List (Nat×SV)}{H:Hp}{G:Gr}{a:Act}{w:World}{ops:Array Oper}{o:Oper}{Q:Exit→Act→World→Prop}{K:List Fr}{pos:Pos}
theorem tV {x:Operand}{t fi s off nn:Nat}{j:Int}{ao:Option Addr}{f:Nat→List SV}(CJ:o.op=.fieldAddr t x fi)(hg:BE ops T o.guard=some .run)(hx:Db T x=some (.v (.pointer (Ty ao s j))))(h0:At ao s nn f w0 ks)(hj:0≤j∧j<((nn:Nat):Int))(hf:Dy P t fi=some off):
  Bd P n ops ks G0 w0 T H o (.v (.pointer (rY ao s j off))) H:=fun G a w A=>by
 rcases h0.2 with q|⟨b,q,rfl,_⟩
 ·omega
 have hw:=BQ (gd:=none) A hg
 obtain⟨d,op,ty,pos,af,gd⟩:=o
 simp only at CJ
 subst CJ
 have CH:=A.ev hx
 unfold den at CH
 simp only [β2]at CH
 exact EW hw CH.symm hf ⟨[],rfl,by simpa using A.ms⟩
theorem ND {x:Operand}{ty s nn q:Nat}{j:Int}{ao:Option Addr}{f:Nat→List SV}{r:List SV}{v:SV}{z:Value}(hX:Y.ok P=true)(CJ:o.op=.load ty x)(hg:BE ops T o.guard=some .run)(hx:Db T x=some (.v (.pointer (rY ao s j q))))(h0:At ao s nn f w0 ks)(hj:0≤j∧j<((nn:Nat):Int))(hr:f j.toNat=r)(hc:DX ⟨Y,true⟩ ty r q=some v)(hv:den [] v=some z):
  Bd P n ops ks G0 w0 T H o v H:=fun G a w A=>by
 have h1:=At.ok w0 ks w ks h0 A.mix (fun b hb=>.inl hb)
 rcases h1.2 with q|⟨b,q',rfl,_,_,h4⟩
 ·omega
 have hw:=BQ (gd:=none) A hg
 obtain⟨d,op,ty,pos,af,gd⟩:=o
 simp only at CJ
 subst CJ
 have CH:=A.ev hx
 unfold den at CH
 simp only [β2]at CH
 obtain⟨vs,v1,v2⟩:=h4 j.toNat (by omega)
 rw [hr]at v1
 have v3:Al G r=some vs:=by simpa using BT G r v1
 have v4:den G v=some z:=by simpa using BF G v hv
 exact Fx (X:=⟨Y,true⟩) hX hc v3 v4 v2 hw CH.symm ⟨[],by simpa using v4,by simpa using A.ms⟩
theorem z7 (p:Prop)(h1:p→Goal P Q K pos a w)(h2:¬p→Goal P Q K pos a w):Goal P Q K pos a w:=(Classical.em p).elim h1 h2
end
section
variable {P:Program}{n:Nat}{ks:List Nat}{G0:Gr}{w0:World}{T:List (Nat×SV)}{L:List Oper}{xs:List SV}{ef:List Nat}{tb:List (List Nat×List Nat×Hp)}{c rs:List Nat}{H:Hp}{bs:List Bool}{o:Oper}{l:List Oper}{i:Nat}
end
section
variable {P:Program}{n:Nat}{ks:List Nat}{G0:Gr}{w0:World}{T:List (Nat×SV)}{H:Hp}{G:Gr}{a:Act}{w:World}{l:List Oper}{Q:Exit→Act→World→Prop}{K:List Fr}{id:Nat}
end
end Go.Proofs.YtbbdanhpphlbpaaGreatDoor
namespace Go.Proofs.YtbbdanhpphlbpaaGreatDoor.Mc
open Go.RowKit
def U0:List Int:=[0,1,56,2,57,49,28,3,61,58,42,50,38,29,17,4,62,47,59,36,45,43,51,22,53,39,33,30,24,18,12,5,63,55,48,27,60,41,37,16,46,35,44,21,52,32,23,11,54,26,40,15,34,20,31,10,25,14,19,9,13,8,7,6]
abbrev z8:Option Addr:=some ⟨3,0,none⟩
abbrev JP:Ef:=At z8 1 64 (fun j=>[.int .u8 (U0.getD j 0)])
section
variable {P:Program}{Y:Tb}{n:Nat}{ks:List Nat}{G0:Gr}{w0:World}{T:List (Nat×SV)}{H:Hp}{G:Gr}{a:Act}{w:World}{ops:Array Oper}{o:Oper}
theorem tW {x y:Operand}{t nn e s b q:Nat}{j:Int}(CJ:o.op=.indexAddr t x y)(hg:BE ops T o.guard=some .run)(hx:Db T x=some (GP b q))(hy:Db T y=some (.int .u64 j))(ht:Ny P t nn e s=true)(hj:0≤j∧j<((nn:Nat):Int)):
  Bd P n ops ks G0 w0 T H o (.v (.pointer (rY (some ⟨b,q,none⟩) s j 0))) H:=fun G a w A=>by
 have hw:=BQ (gd:=none) A hg
 obtain⟨d,op,ty,pos,af,gd⟩:=o
 simp only at CJ
 subst CJ
 have CH:=A.ev hx
 have Dp:=A.ev hy
 unfold den at CH Dp
 simp only [β2]at CH Dp
 refine A6 (v:=.pointer (some ⟨b,q+j.toNat*s,none⟩)) hw ?_ ⟨[],rfl,by simpa using A.ms⟩
 have hq:(Instr.indexAt t (.pointer (some ⟨b,q,none⟩)) (.int .u64 j)).run P w=.ok (.pointer (some ⟨b,q+j.toNat*s,none⟩)) w:=by
  unfold Instr.indexAt
  simp only [asIntOf,γ3,γ6,β1,ε6 (Dq ht).1,if_pos hj,Dz (Dq ht).2,β5,η3,Instr.sureAddr]
 unfold execOp
 simp only [CH.symm,Dp.symm,γ3,hq,γ6,β1]
end
theorem wrap_u64 (x:Int):IntKind.wrap .u64 x=x % 18446744073709551616:=by
 simp only [IntKind.wrap,IntKind.signed,IntKind.bits];simp
theorem l5 {x:Int}:0≤Int.fdiv (IntKind.wrap .u64 x) (2^min ((58:Int)).toNat (IntKind.bits .u64))∧Int.fdiv (IntKind.wrap .u64 x) (2^min ((58:Int)).toNat (IntKind.bits .u64))<((64:Nat):Int):=by
 rw [wrap_u64]
 have e:(2:Int)^min ((58:Int)).toNat (IntKind.bits .u64)=288230376151711744:=by rfl
 rw [e,ν8 _ (by decide)]
 omega
end Go.Proofs.YtbbdanhpphlbpaaGreatDoor.Mc
namespace Go.Proofs.YtbbdanhpphlbpaaGreatDoor.Mc
open Go.RowKit
set_option simprocs false
def l6 (v1:Int):Int:=(Int.fdiv (IntKind.wrap .u64 ((IntKind.wrap .u64 ((((BitVec.ofInt (IntKind.bits .u64) v1)&&&(BitVec.ofInt (IntKind.bits .u64) (IntKind.wrap .u64 (0 - v1)))).toNat:Nat):Int))*285870213051353865)) (2^min (58:Int).toNat (IntKind.bits .u64)))
theorem U1 (v1:Int):0≤l6 v1∧l6 v1<((64:Nat):Int):=l5
def l7 (v1:Int):Int:=if v1=0 then 64 else IntKind.wrap .i64 (U0.getD (l6 v1).toNat 0)
abbrev GT (m k:Int):Int:=IntKind.wrap .i64 ((((BitVec.ofInt (IntKind.bits .i64) (Int.fdiv m (2^min (k).toNat (IntKind.bits .i64))))&&&(BitVec.ofInt (IntKind.bits .i64) 1)).toNat:Nat):Int)
def Od (m:Int):Nat→Int
 |0=>0
 |k+1=>Od m k+GT m (k:Int)
theorem KF (m k:Int):0≤GT m k∧GT m k≤1:=by
 have h:∀x:BitVec (IntKind.bits .i64),(x&&&BitVec.ofInt (IntKind.bits .i64) 1).toNat≤1:=fun x=>by
  rw [π7];exact Nat.and_le_right
 unfold GT
 have:=h (BitVec.ofInt (IntKind.bits .i64) (Int.fdiv m (2^min (k).toNat (IntKind.bits .i64))))
 rw [II (by omega)];omega
theorem KG (m:Int):∀k:Nat,0≤Od m k∧Od m k≤(k:Int)
 |0=>by unfold Od;omega
 |k+1=>by have h1:=KG m k;have h2:=KF m (k:Int);unfold Od;omega
def OS (o s:Int):Prop:=(o=0∧s=1)∨(o=1∧s=1)∨(o=2∧s=1)∨(o=3∧s=1)∨(o=4∧s=1)∨(o=5∧s=1)∨(o=6∧s=1)∨(o=7∧s=1)∨(o=0∧s=2)∨(o=2∧s=2)∨(o=4∧s=2)∨(o=6∧s=2)∨(o=0∧s=4)∨(o=4∧s=4)∨(o=0∧s=8)
abbrev CS (o s:Int):Int:=Bl (A7 o 0 s) s
theorem l9 {o s:Int}(h:OS o s):l7 (IntKind.wrap .u64 (CS o s))=o:=by
 rcases h with⟨rfl,rfl⟩|⟨rfl,rfl⟩|⟨rfl,rfl⟩|⟨rfl,rfl⟩|⟨rfl,rfl⟩|⟨rfl,rfl⟩|⟨rfl,rfl⟩|⟨rfl,rfl⟩|⟨rfl,rfl⟩|⟨rfl,rfl⟩|⟨rfl,rfl⟩|⟨rfl,rfl⟩|⟨rfl,rfl⟩|⟨rfl,rfl⟩|⟨rfl,rfl⟩<;>decide+kernel
theorem dB {o s:Int}(h:OS o s):Od (CS o s) 8=s:=by
 rcases h with⟨rfl,rfl⟩|⟨rfl,rfl⟩|⟨rfl,rfl⟩|⟨rfl,rfl⟩|⟨rfl,rfl⟩|⟨rfl,rfl⟩|⟨rfl,rfl⟩|⟨rfl,rfl⟩|⟨rfl,rfl⟩|⟨rfl,rfl⟩|⟨rfl,rfl⟩|⟨rfl,rfl⟩|⟨rfl,rfl⟩|⟨rfl,rfl⟩|⟨rfl,rfl⟩<;>decide+kernel
theorem mA {o s:Int}(h:OS o s):s=1∨s=2∨s=4∨s=8:=by unfold OS at h;omega
theorem Ib {o s:Int}(h:OS o s):0≤o∧o≤7:=by unfold OS at h;omega
theorem mB (v1:Int):CE (JP) Tryz.prog 215 [.int .u64 v1] [] (Rt (.int .i64 (l7 v1)) []):=
 BB (n:=14) (by kernel_rfl) Tryz.func215 rfl rfl rfl fun G w a h0 hI A=>M hX 12 A rfl rfl fun A=>Au 4 A rfl
  (fun h1 A=>M hX 7 A rfl rfl fun A=>R9 A rfl h0 rfl (by unfold l7;rw [if_pos h1]<;>rfl) rfl)
  (fun h1 A=>M hX 11 A rfl (Aj (by omega)<|Ah) fun A=>have A:=Ai A 10 (.int .u64 (l6 v1)) rfl (fun _=>rfl);A9 A rfl (tW (nn:=64) (e:=5) rfl rfl rfl rfl (by kernel_rfl) (U1 v1)) fun A=>A9 A rfl (ND (q:=0) (v:=.int .u8 (U0.getD ((l6 v1)).toNat 0)) hX rfl rfl rfl hI (U1 v1) rfl rfl rfl) fun A=>M hX 5 A rfl rfl fun A=>R9 A rfl h0 rfl (by unfold l7;rw [if_neg h1]<;>rfl) rfl)
theorem tz_ (v1:Int):CE (JP) Tryz.prog 179 [.int .u64 v1] [] (Rt (.int .i64 (l7 v1)) []):=
 BB (n:=8) (by kernel_rfl) Tryz.func179 rfl rfl rfl fun G w a h0 hI A=>M hX 12 A rfl rfl fun A=>I9 [] At.ok hI (mB v1) A rfl fun A=>M hX 4 A rfl rfl fun A=>R9 A rfl h0 rfl rfl rfl
theorem mC (lc o s:Int)(hO:OS o s):CE (JP) Tryz.prog 139 [.agg [.int .i64 lc,.int .i64 (CS o s)]] [] (Rt (.int .i64 o) []):=
 BB (n:=7) (by kernel_rfl) Tryz.func139 rfl rfl rfl fun G w a h0 hI A=>N9 11 A rfl rfl fun A=>I9 [] At.ok hI (tz_ (IntKind.wrap .u64 (CS o s))) A rfl fun A=>N9 4 A rfl rfl fun A=>R9 A rfl h0 rfl (congrArg (SV.int .i64) (l9 hO)) rfl
theorem dC (m:Int):Fn Tryz.prog 180 [.int .i64 m] [] (Rt (.int .i64 (Od m 8)) []):=
 Am (n:=16) (by kernel_rfl) Tryz.func180 rfl rfl rfl fun G w a h0 A=>N9 17 A rfl rfl fun A=>B7 (fun(k:Nat)=>[(0,.int .i64 m),(2,.int .i64 0),(3,.int .i64 (Od m k)),(5,.int .i64 (k:Int))]) (fun(k:Nat)=>[]) (fun(k:Nat)=>k≤8) (fun(k:Nat)=>8 - k) 0 (β8 _) ((A.cut [0,2,3,5] rfl).trunc 0 rfl rfl rfl (Cj h0 rfl)) fun k hK {G a w} A=>N9 6 A rfl rfl fun A=>Aq 6 A rfl
   (fun h1 A=>N9 22 A rfl (Aj (by have h1:=KG m k;have h2:=KF m (k:Int);unfold GT at h2;omega)<|Aj (by have h1:=KG m k;have h2:=KF m (k:Int);unfold GT at h2;omega)<|Ah) fun A=>N9 4 A rfl (Aj (by have h1:=KG m k;have h2:=KF m (k:Int);unfold GT at h2;omega)<|Ah) fun A=>⟨k+1,_,(by omega),(by omega),((A.cut [0,2,3,5] rfl).trunc 0 rfl rfl rfl (Cj h0 rfl)).sayT (by rfl)⟩)
   (fun h1 A=>N9 10 A rfl rfl fun A=>R9 A rfl h0 rfl (by have:k=8:=(by omega);subst this;rfl) rfl)
theorem mD (lc o s:Int)(hO:OS o s):Fn Tryz.prog 140 [.agg [.int .i64 lc,.int .i64 (CS o s)]] [] (Rt (.int .i64 s) []):=
 Am (n:=6) (by kernel_rfl) Tryz.func140 rfl rfl rfl fun G w a h0 A=>N9 10 A rfl rfl fun A=>C9 [] (dC (CS o s)) A rfl fun A=>N9 4 A rfl rfl fun A=>R9 A rfl h0 rfl (congrArg (SV.int .i64) (dB hO)) rfl
end Go.Proofs.YtbbdanhpphlbpaaGreatDoor.Mc
namespace Go.Proofs.YtbbdanhpphlbpaaGreatDoor
open Go.RowKit
section
variable {P:Program}{n:Nat}{ks:List Nat}{G0:Gr}{w0:World}{T:List (Nat×SV)}{H:Hp}{G:Gr}{a:Act}{w:World}{ops:Array Oper}{o:Oper}
theorem GB {G:Gr}:∀{l m:List SV} {vs:List Value},Al G (l++m)=some vs→∃us ws,Al G l=some us∧Al G m=some ws∧vs=us++ws
 | [],m,vs,h=>⟨[],vs,rfl,h,rfl⟩
 |x::l,m,vs,h=>by
  obtain⟨v,us,h1,h2,rfl⟩:=Bg h
  obtain⟨u1,u2,h3,h4,rfl⟩:=GB h2
  exact⟨v::u1,u2,Bb h1 h3,h4,rfl⟩
theorem FJ {G G':Gr}{l:List SV}(h:Hf 0 l=true):Al G l=Al G' l:=by
 rw [←Bv (G:=G) (k:=0) l h,←Bv (G:=G') (k:=0) l h,ι6,ι6]
theorem X7 {I:Ef}{f i k:Nat}{args l b b' r:List SV}{x:SV}{H':Hp}(hI:I.OK)(h0:I w0 ks)(hf:CE I P f (.ptr 0 0::args) [some (.blk b)] (Rt x [some (.blk b')]))(h1:B6 n ops T o=some (f,.ptr i k::args))(hi:lg H i=some (some (.blk (l++b++r))))(hk:l.length=k)(KO:(Hf 0 args&&Hf 0 b&&Hf 0 b'&&LQ 0 x)=true)(hH:Cd H i (some (.blk (l++b'++r)))=H'):Bd P n ops ks G0 w0 T H o x H':=fun G a w A=>by
 subst hH;subst hk
 simp only [α3]at KO
 obtain⟨⟨⟨c1,c2⟩,c3⟩,c4⟩:=KO
 obtain⟨hd,us,hu,I2⟩:=Ci (P:=P) (ops:=ops) A h1 hf.1
 rw [BI]at hi
 obtain⟨L,vs,p1,p2,p3⟩:=A.mem.ent i _ hi
 have Fq:G[i]?=some (some L):=by
  cases hz:G[i]? with
  |none=>rw [hz]at p1;cases p1
  |some p=>rw [hz]at p1;simp only [γ8]at p1;rw [p1]
 obtain⟨v12,vr,e12,er,rfl⟩:=GB p2
 obtain⟨vl,vb,el,eb,rfl⟩:=GB e12
 have ZA:=Be el
 have Tn:Mem [some (.blk b)] [some (⟨L.b,L.pre++vl,vr++L.post,L.t⟩:Loc)] w:=by
  refine⟨rfl,fun j e hj=>?_,fun j q e f M N hjq h1 h2=>?_⟩
  ·match j,hj with
   |0,hj=>cases hj;exact⟨_,vb,rfl,by rw [FJ (G':=G) c2];exact eb,by simpa [γ2]using p3⟩
   |j+1,hj=>simp at hj
  ·match j,q,h1,h2 with
   |0,0,_,_=>exact absurd rfl hjq
   |j+1,_,h1,_=>simp at h1
   |0,q+1,_,h2=>simp at h2
 have PD:keys [some (Bo.blk b)] [some (⟨L.b,L.pre++vl,vr++L.post,L.t⟩:Loc)]=[L.b]:=rfl
 have hIw:I w (keys [some (Bo.blk b)] [some (⟨L.b,L.pre++vl,vr++L.post,L.t⟩:Loc)]):=hI _ _ _ _ h0 A.mix fun c hc=>by
  have:c=L.b:=by simpa [PD]using hc
  subst this;exact A.own i _ L hi rfl Fq
 have AV:Al [some (⟨L.b,L.pre++vl,vr++L.post,L.t⟩:Loc)] (.ptr 0 0::args)=some us:=by
  obtain⟨v,vs2,q1,q2,rfl⟩:=Bg hu
  refine Bb ?_ (by rw [FJ (G':=G) c1];exact q2)
  unfold den at q1⊢
  rw [Fq]at q1
  rw [←q1]
  simp [ZA]
 refine I2 (hf.2 _ w us Tn hIw AV) ?_
 rintro en w' ⟨y,H2,Fr,v,⟨rfl,rfl⟩,d1,rfl,Qc,DN,_,_,_⟩
 have hF:Fr=[]:=by
  have:=Qc.len
  cases Fr with
  |nil=>rfl
  |cons _ _=>simp at this
 subst hF
 obtain⟨L2,vb',q1,q2,q3⟩:=Qc.ent 0 _ rfl
 cases q1
 rw [PD]at DN
 have hx:den G y=some v:=by
  have e:Al G [y]=Al ([some (⟨L.b,L.pre++vl,vr++L.post,L.t⟩:Loc)]++[]) [y]:=FJ (by unfold Hf;rw [c4];rfl)
  have e2:Al ([some (⟨L.b,L.pre++vl,vr++L.post,L.t⟩:Loc)]++[]) [y]=some [v]:=Bb d1 rfl
  rw [e2]at e
  obtain⟨v',ws,g1,g2,g3⟩:=Bg e
  cases g2;cases g3;exact g1
 have G6:i<H.length:=(α0.1 hi).1
 have hold:∀(j:Nat) (e:Bo),(Cd H i (some (.blk (l++b'++r))))[j]?=some (some e)→(j≠i∧H[j]?=some (some e))∨(j=i∧e=.blk (l++b'++r)):=by
  intro j e h
  rw [BJ]at h
  by_cases hj:j=i
  ·subst hj;rw [γ7 G6]at h;cases h;exact .inr ⟨rfl,rfl⟩
  ·rw [γ0 (ζ1 hj)]at h;exact .inl ⟨hj,h⟩
 refine⟨v,rfl,[],by rw [ε9];exact hx,?_⟩
 rw [ε9]
 refine⟨⟨by rw [BJ];simpa using A.mem.len,?_,?_⟩,A.pre,?_,A.mix.mix DN fun c hc hk=>?_⟩
 ·intro j e h
  rcases hold j e h with⟨k1,k2⟩|⟨rfl,rfl⟩
  ·refine(A.mem.ent j e k2).mix DN fun Ch M hM=>?_
   have wA:G[j]?=some (some M):=by
    cases hq:G[j]? with
    |none=>rw [hq]at hM;cases hM
    |some p=>rw [hq]at hM;simp at hM;rw [hM]
   have:=A.mem.sep i j _ e L M (ζ1 k1) hi k2 rfl Fq wA Ch
   simp;exact fun e=>this e.symm
  ·rw [Fq]
   refine⟨L,vl++vb'++vr,rfl,C0 (C0 el ?_) er,by simpa [γ2]using q3⟩
   rw [FJ (G':=[some (⟨L.b,L.pre++vl,vr++L.post,L.t⟩:Loc)]++[]) c3];exact q2
 ·intro j q e f M N HY h1 h2 h3 h4 h5 h6
  have a1:∃e',H[j]?=some (some e')∧e'.mut=e.mut:=by
   rcases hold j e h1 with⟨_,k2⟩|⟨rfl,rfl⟩
   ·exact⟨e,k2,rfl⟩
   ·exact⟨_,hi,rfl⟩
  have a2:∃e',H[q]?=some (some e')∧¬e'.empty:=by
   rcases hold q f h2 with⟨_,k2⟩|⟨rfl,rfl⟩
   ·exact⟨f,k2,h6⟩
   ·exact⟨_,hi,fun h=>h⟩
  obtain⟨e',b1,b2⟩:=a1
  obtain⟨f',b3,b4⟩:=a2
  exact A.mem.sep j q e' f' M N HY b1 b3 (by rw [b2];exact h3) h4 h5 b4
 ·intro j e M h1 h2 h3
  rcases hold j e h1 with⟨_,k2⟩|⟨rfl,rfl⟩
  ·exact A.own j e M k2 h2 h3
  ·exact A.own j _ M hi rfl h3
 ·cases hq:[L.b].contains c with
  |false=>rfl
  |true=>
   have:c=L.b:=by simpa using hq
   subst this
   rcases A.own i _ L hi rfl Fq with h|h
   ·rw [h]at hk;cases hk
   ·omega
end
abbrev dD (r:Rg):List SV:=[.int .i64 (r 0),.int .i64 (r 1),.int .i64 (r 2)]
theorem jU {j:Int}(h:0≤j∧j<3):j=0∨j=1∨j=2:=by omega
section
variable {P:Program}{Y:Tb}{n:Nat}{ks:List Nat}{G0:Gr}{w0:World}{T:List (Nat×SV)}{H:Hp}{G:Gr}{a:Act}{w:World}{ops:Array Oper}{o:Oper}
theorem tX {x y:Operand}{ty i:Nat}{j v:Int}{r:Rg}{ti:TI}(hX:Y.ok P=true)(CJ:o.op=.store ty x y)(hg:BE ops T o.guard=some .run)(hx:Db T x=some (.ix (.ptr i 0) 1 3 j 0))(hy:Db T y=some (.int .i64 v))(hH:lg H i=some (some (.blk (dD r))))(HZ:Y.get ty=some ti)(Df:ti.row=none)(CA:ti.one=true)(hj:0≤j∧j<3):
  Bd P n ops ks G0 w0 T H o (.tup []) (Cd H i (some (.blk (dD (Bk r j.toNat v))))):=fun G a w A=>by
 have hw:=BQ (gd:=none) A hg
 obtain⟨d,op,ty',pos,af,gd⟩:=o
 simp only at CJ
 subst CJ
 have CH:=A.ev hx
 have Dp:=A.ev hy
 have key:∀k:Nat,j=(k:Int)→(∀q:List SV,sp (0+k) (dD r) [.int .i64 v]=some q→q=dD (Bk r j.toNat v)→Bq P ops {dst:=d,op:=.store ty x y,type:=ty',pos:=pos,after:=af,guard:=gd} a w fun v' w'=>∃F,den (G++F) (.tup [])=some v'∧Ms (Cd H i (some (.blk (dD (Bk r j.toNat v))))) ks G0 w0 (G++F) w'):=by
  intro k hk q hr e
  rw [hk,Cy (q:=0+k) k (by omega)]at CH
  have hs:Do ⟨Y,true⟩ H ty (.ptr i (0+k)) (.int .i64 v)=some (i,q,[]):=by
   have ht:Tx.get ⟨Y,true⟩ ty=some ti:=HZ
   simp only [Do,hH,ht,Df,CA,hr]
   rfl
  refine EE (X:=⟨Y,true⟩) hX A hs Ah CH Dp rfl rfl hw fun cs L vs' w' a1 a2 a3 a4 a5=>⟨[],rfl,?_⟩
  subst e
  simpa using (A.turn a1 a2 a3 a4 a5).ms
 rcases jU hj with rfl|rfl|rfl
 ·exact key 0 rfl _ rfl rfl
 ·exact key 1 rfl _ rfl rfl
 ·exact key 2 rfl _ rfl rfl
theorem mE {x:Operand}{ty i:Nat}{j:Int}{r:Rg}{ti:TI}(hX:Y.ok P=true)(CJ:o.op=.load ty x)(hg:BE ops T o.guard=some .run)(hx:Db T x=some (.ix (.ptr i 0) 1 3 j 0))(hH:lg H i=some (some (.blk (dD r))))(HZ:Y.get ty=some ti)(Df:ti.row=none)(CA:ti.one=true)(hj:0≤j∧j<3):
  Bd P n ops ks G0 w0 T H o (.int .i64 (r j.toNat)) H:=fun G a w A=>by
 have hw:=BQ (gd:=none) A hg
 obtain⟨d,op,ty',pos,af,gd⟩:=o
 simp only at CJ
 subst CJ
 have CH:=A.ev hx
 have key:∀k:Nat,j=(k:Int)→(lg (dD r) (0+k)=some (.int .i64 (r j.toNat)))→Bq P ops {dst:=d,op:=.load ty x,type:=ty',pos:=pos,after:=af,guard:=gd} a w fun v' w'=>∃F,den (G++F) (.int .i64 (r j.toNat))=some v'∧Ms H ks G0 w0 (G++F) w':=by
  intro k hk hr
  rw [hk,Cy (q:=0+k) k (by omega)]at CH
  have hs:Ev ⟨Y,true⟩ H ty (.ptr i (0+k))=some (.int .i64 (r j.toNat),[]):=by
   have ht:Tx.get ⟨Y,true⟩ ty=some ti:=HZ
   simp only [Ev,Gg,hH,LV,DX,ht,Df,CA,hr,θ3]
  obtain⟨z,hz,h3⟩:=FZ (X:=⟨Y,true⟩) (P:=P) (ops:=ops) (d:=d) (ty:=ty') (pos:=pos) (af:=af) (gd:=gd) (x:=x) hX A hs CH
  exact h3 (fun p hp=>by cases hp) rfl hw _ ⟨[],by simpa using hz,by simpa using A.ms⟩
 rcases jU hj with rfl|rfl|rfl
 ·exact key 0 rfl rfl
 ·exact key 1 rfl rfl
 ·exact key 2 rfl rfl
end
end Go.Proofs.YtbbdanhpphlbpaaGreatDoor
namespace Go.Proofs.YtbbdanhpphlbpaaGreatDoor.Mc
open Go.RowKit
set_option simprocs false
theorem mF (m:Nat→Int)(lc:Int)(hl:0≤lc∧lc<3):Fn Tryz.prog 78 [.ptr 0 0,.int .i64 lc] [some (.blk [.int .i64 (m 0),.int .i64 (m 1),.int .i64 (m 2)])] (Rt (.int .i64 (m lc.toNat)) [some (.blk [.int .i64 (m 0),.int .i64 (m 1),.int .i64 (m 2)])]):=
 Am (n:=16) (by kernel_rfl) Tryz.func78 rfl rfl rfl fun G w a h0 A=>N9 16 A rfl rfl fun A=>fork 10 A rfl
  (fun h1 A=>absurd h1 (by simp;omega))
  (fun h1 A=>N9 9 A rfl (Aj (by omega)<|Ah) fun A=>A9 A rfl (mE (r:=m) hX rfl rfl rfl rfl rfl rfl rfl (by omega)) fun A=>N9 4 A rfl rfl fun A=>R9 A rfl h0 rfl rfl rfl)
theorem U2 (m:Nat→Int)(lc o s:Int)(hl:0≤lc∧lc<3)(hO:OS o s):CE (JP) Tryz.prog 108 [.ptr 0 0,.agg [.int .i64 lc,.int .i64 (CS o s)]] [some (.blk [.int .i64 (m 0),.int .i64 (m 1),.int .i64 (m 2)])] (Rt (.int .i64 (BS (m lc.toNat) o s)) [some (.blk [.int .i64 (m 0),.int .i64 (m 1),.int .i64 (m 2)])]):=
 BB (n:=14) (by kernel_rfl) Tryz.func108 rfl rfl rfl fun G w a h0 hI A=>N9 7 A rfl rfl fun A=>JO By [.ptr 0 0,.ptr 1 0,.int .i64 lc,.int .i64 (m (lc).toNat),.agg [.int .i64 lc,.int .i64 (CS o s)],.int .i64 o,.agg [.int .i64 lc,.int .i64 (CS o s)],.int .i64 s,.int .i64 (BS (m (lc).toNat) o s),.int .i64 (BS (m (lc).toNat) o s)] [3] [] 0 [([],[],[some (.blk [.int .i64 (m 0),.int .i64 (m 1),.int .i64 (m 2)]),some (.blk [.int .i64 lc,.int .i64 (CS o s)])]),([3],[],[some (.blk [.int .i64 (m 0),.int .i64 (m 1),.int .i64 (m 2)]),some (.blk [.int .i64 lc,.int .i64 (CS o s)])])] [[true,true,true,true,true,false,true,false,false,false],[false,true,false,false,true,true,true,true,true,true]] A rfl rfl rfl rfl (by kernel_rfl) rfl (by kernel_rfl) ⟨⟨Ao 0 rfl rfl,⟨Ao 0 rfl rfl,⟨Ao 0 rfl rfl,⟨CF 1 rfl (ED [0] (mF m lc hl) rfl rfl rfl rfl rfl rfl rfl),⟨Ao 0 rfl rfl,⟨Ao 0 rfl rfl,trivial⟩⟩⟩⟩⟩⟩,⟨⟨Ao 1 rfl rfl,⟨Ao 1 rfl rfl,⟨CF 1 rfl (De [] At.ok hI (mC lc o s hO) rfl rfl rfl rfl rfl rfl rfl),⟨Ao 1 rfl rfl,⟨CF 1 rfl (C7 rfl rfl (mD lc o s hO)),⟨CF 1 rfl (C7 rfl rfl (cV (m (lc).toNat) o s (mA hO) (Ib hO))),⟨Ao 1 rfl rfl,trivial⟩⟩⟩⟩⟩⟩⟩,trivial⟩⟩ fun A=>N9 2 A rfl rfl fun A=>R9 A rfl h0 rfl rfl rfl
theorem X8 (m:Nat→Int)(lc o s v:Int)(hl:0≤lc∧lc<3)(hO:OS o s):CE (JP) Tryz.prog 106 [.ptr 0 0,.agg [.int .i64 lc,.int .i64 (CS o s)],.int .i64 v] [some (.blk [.int .i64 (m 0),.int .i64 (m 1),.int .i64 (m 2)])] (Rt (.tup []) [some (.blk [.int .i64 ((Bk m lc.toNat (Bm (m lc.toNat) o s v)) 0),.int .i64 ((Bk m lc.toNat (Bm (m lc.toNat) o s v)) 1),.int .i64 ((Bk m lc.toNat (Bm (m lc.toNat) o s v)) 2)])]):=
 BB (n:=31) (by kernel_rfl) Tryz.func106 rfl rfl rfl fun G w a h0 hI A=>N9 18 A rfl rfl fun A=>fork 13 A rfl
  (fun h1 A=>absurd h1 (by simp;omega))
  (fun h1 A=>N9 3 A rfl rfl fun A=>JO By [.ptr 0 0,.ptr 1 0,.int .i64 lc,.ptr 0 0,.ptr 1 0,.int .i64 lc,.ptr 0 0,.ix (.ptr 0 0) 1 3 lc 0,.int .i64 (m (lc).toNat),.agg [.int .i64 lc,.int .i64 (CS o s)],.int .i64 o,.agg [.int .i64 lc,.int .i64 (CS o s)],.int .i64 s,.int .i64 v,.int .i64 (Bm (m (lc).toNat) o s v),.ptr 0 0,.ix (.ptr 0 0) 1 3 lc 0,.tup []] [17] [] 0 [([],[],[some (.blk [.int .i64 (m 0),.int .i64 (m 1),.int .i64 (m 2)]),some (.blk [.int .i64 lc,.int .i64 (CS o s)])]),([17],[],[some (.blk [.int .i64 ((Bk m (lc).toNat (Bm (m (lc).toNat) o s v)) 0),.int .i64 ((Bk m (lc).toNat (Bm (m (lc).toNat) o s v)) 1),.int .i64 ((Bk m (lc).toNat (Bm (m (lc).toNat) o s v)) 2)]),some (.blk [.int .i64 lc,.int .i64 (CS o s)])])] [[true,true,true,true,true,true,true,true,true,true,true,true,true,true,true,true,true,true],[false,false,false,false,false,false,false,false,false,false,false,false,false,false,false,true,false,false]] A rfl rfl rfl rfl (by kernel_rfl) rfl (by kernel_rfl) ⟨⟨Ao 0 rfl rfl,⟨Ao 0 rfl rfl,⟨Ao 0 rfl rfl,⟨Ao 0 rfl rfl,⟨Ao 0 rfl rfl,⟨Ao 0 rfl rfl,⟨Ao 0 rfl rfl,⟨Ao 0 rfl (Aj (by omega)<|Ah),⟨CF 0 rfl (mE (r:=m) hX rfl rfl rfl rfl rfl rfl rfl (by omega)),⟨Ao 0 rfl rfl,⟨CF 0 rfl (De [] At.ok hI (mC lc o s hO) rfl rfl rfl rfl rfl rfl rfl),⟨Ao 0 rfl rfl,⟨CF 0 rfl (C7 rfl rfl (mD lc o s hO)),⟨Ao 0 rfl rfl,⟨CF 0 rfl (C7 rfl rfl (cW (m (lc).toNat) o s v (mA hO) (Ib hO))),⟨Ao 0 rfl rfl,⟨Ao 0 rfl (Aj (by omega)<|Ah),⟨CF 1 rfl (tX (i:=0) (r:=m) hX rfl rfl rfl rfl rfl rfl rfl rfl (by omega)),trivial⟩⟩⟩⟩⟩⟩⟩⟩⟩⟩⟩⟩⟩⟩⟩⟩⟩⟩,⟨⟨Ao 1 rfl rfl,trivial⟩,trivial⟩⟩ fun A=>Ee (R9 A rfl h0 rfl rfl rfl))
end Go.Proofs.YtbbdanhpphlbpaaGreatDoor.Mc
namespace Go.Proofs.YtbbdanhpphlbpaaGreatDoor.Mc
open Go.RowKit
set_option simprocs false
def Jd (fn v1 a1 s1:Int):Int:=if fn=6 then Bz a1 s1 else if fn=1 then Bz (IntKind.wrap .i64 (v1+a1)) s1 else 0
theorem mG (fn v1 a1 s1:Int)(hs:s1=1∨s1=2∨s1=4∨s1=8):Fn Tryz.prog 175 [.int .i64 fn,.int .i64 v1,.int .i64 a1,.int .i64 s1] [] (Rt (.int .i64 (Jd fn v1 a1 s1)) []):=
 Am (n:=22) (by kernel_rfl) Tryz.func175 rfl rfl rfl fun G w a h0 A=>M hX 18 A rfl rfl fun A=>Au 10 A rfl
  (fun h1 A=>M hX 5 A rfl rfl fun A=>C9 [] (RP a1 s1 hs) A rfl fun A=>M hX 4 A rfl rfl fun A=>R9 A rfl h0 rfl (by simp only [BA,nb,CK,CC,Jd,if_pos h1]) rfl)
  (fun h1 A=>M hX 7 A rfl rfl fun A=>Au 15 A rfl
   (fun h2 A=>M hX 7 A rfl rfl fun A=>C9 [] (RP (IntKind.wrap .i64 (v1+a1)) s1 hs) A rfl fun A=>M hX 4 A rfl rfl fun A=>R9 A rfl h0 rfl (by simp only [BA,nb,CK,CC,Jd,if_neg (h1),if_pos h2]) rfl)
   (fun h2 A=>M hX 10 A rfl rfl fun A=>R9 A rfl h0 rfl (by simp only [BA,nb,CK,CC,Jd,if_neg (h1),if_neg (h2)]) rfl))
def HV (i:In)(old d:Int):Int:=if((i.op==4)||(i.op==6))=true then Jd i.fn old d i.sz else d
theorem tY (i:In)(old d:Int)(hs:i.sz=1∨i.sz=2∨i.sz=4∨i.sz=8):Fn Tryz.prog 133 [.agg (A5 i),.int .i64 old,.int .i64 d] [] (Rt (.int .i64 (HV i old d)) []):=
 Am (n:=17) (by kernel_rfl) Tryz.func133 rfl rfl rfl fun G w a h0 A=>N9 10 A rfl rfl fun A=>C9 [] (Mz i.op i.dst i.ra i.rb i.imm i.loc i.off i.ix i.sz i.fn i.acq i.weak i.rel i.pred i.succ i.to_ i.zero) A rfl fun A=>N9 2 A rfl rfl fun A=>fork 8 A rfl
  (fun h1 A=>N9 9 A rfl rfl fun A=>C9 [] (mG i.fn old d i.sz hs) A rfl fun A=>N9 4 A rfl rfl fun A=>R9 A rfl h0 rfl (by unfold HV;rw [if_pos h1]<;>rfl) rfl)
  (fun h1 A=>N9 10 A rfl rfl fun A=>R9 A rfl h0 rfl (by unfold HV;rw [if_neg (α8 h1)]<;>rfl) rfl)
theorem mH (m:Nat→Int)(lc:Int)(hl:¬(0≤lc∧lc<3)):Fn Tryz.prog 78 [.ptr 0 0,.int .i64 lc] [some (.blk [.int .i64 (m 0),.int .i64 (m 1),.int .i64 (m 2)])] (Rt (.int .i64 0) [some (.blk [.int .i64 (m 0),.int .i64 (m 1),.int .i64 (m 2)])]):=
 Am (n:=16) (by kernel_rfl) Tryz.func78 rfl rfl rfl fun G w a h0 A=>N9 16 A rfl rfl fun A=>fork 10 A rfl
  (fun h1 A=>N9 7 A rfl rfl fun A=>R9 A rfl h0 rfl rfl rfl)
  (fun h1 A=>absurd h1 (by simp;omega))
theorem tZ (m:Nat→Int)(i:In)(lc o s d:Int)(hl:0≤lc∧lc<3)(hO:OS o s)(hs:i.sz=1∨i.sz=2∨i.sz=4∨i.sz=8)(hw:((i.op==5)||(i.op==6))=false):CE (JP) Tryz.prog 93 [.ptr 0 0,.agg (A5 i),.agg [.int .i64 lc,.int .i64 (CS o s)],.int .i64 d] [some (.blk [.int .i64 (m 0),.int .i64 (m 1),.int .i64 (m 2)])] (Rt (.int .i64 (BS (m lc.toNat) o s)) [some (.blk [.int .i64 (m 0),.int .i64 (m 1),.int .i64 (m 2)])]):=
 BB (n:=22) (by kernel_rfl) Tryz.func93 rfl rfl rfl fun G w a h0 hI A=>N9 11 A rfl rfl fun A=>I9 [0] At.ok hI (U2 m lc o s hl hO) A rfl fun A=>N9 7 A rfl rfl fun A=>C9 [] (J8 i.op i.dst i.ra i.rb i.imm i.loc i.off i.ix i.sz i.fn i.acq i.weak i.rel i.pred i.succ i.to_ i.zero) A rfl fun A=>N9 2 A rfl rfl fun A=>fork 13 A rfl
  (fun h1 A=>absurd (hw.symm.trans h1) (by decide))
  (fun h1 A=>N9 10 A rfl rfl fun A=>R9 A rfl h0 rfl rfl rfl)
theorem uA (m:Nat→Int)(i:In)(lc o s d:Int)(hl:0≤lc∧lc<3)(hO:OS o s)(hs:i.sz=1∨i.sz=2∨i.sz=4∨i.sz=8)(hw:((i.op==5)||(i.op==6))=true):CE (JP) Tryz.prog 93 [.ptr 0 0,.agg (A5 i),.agg [.int .i64 lc,.int .i64 (CS o s)],.int .i64 d] [some (.blk [.int .i64 (m 0),.int .i64 (m 1),.int .i64 (m 2)])] (Rt (.int .i64 (BS (m lc.toNat) o s)) [some (.blk [.int .i64 ((Bk m lc.toNat (Bm (m lc.toNat) o s (HV i (BS (m lc.toNat) o s) d))) 0),.int .i64 ((Bk m lc.toNat (Bm (m lc.toNat) o s (HV i (BS (m lc.toNat) o s) d))) 1),.int .i64 ((Bk m lc.toNat (Bm (m lc.toNat) o s (HV i (BS (m lc.toNat) o s) d))) 2)])]):=
 BB (n:=22) (by kernel_rfl) Tryz.func93 rfl rfl rfl fun G w a h0 hI A=>N9 11 A rfl rfl fun A=>I9 [0] At.ok hI (U2 m lc o s hl hO) A rfl fun A=>N9 7 A rfl rfl fun A=>C9 [] (J8 i.op i.dst i.ra i.rb i.imm i.loc i.off i.ix i.sz i.fn i.acq i.weak i.rel i.pred i.succ i.to_ i.zero) A rfl fun A=>N9 2 A rfl rfl fun A=>fork 13 A rfl
  (fun h1 A=>N9 1 A rfl rfl fun A=>Ba hX By [(5,.int .i64 (HV i (BS (m lc.toNat) o s) d))] [(6,.tup [],[some (.blk [.int .i64 ((Bk m lc.toNat (Bm (m lc.toNat) o s (HV i (BS (m lc.toNat) o s) d))) 0),.int .i64 ((Bk m lc.toNat (Bm (m lc.toNat) o s (HV i (BS (m lc.toNat) o s) d))) 1),.int .i64 ((Bk m lc.toNat (Bm (m lc.toNat) o s (HV i (BS (m lc.toNat) o s) d))) 2)]),some (.blk (A5 i)),some (.blk [.int .i64 lc,.int .i64 (CS o s)])])] A rfl rfl rfl rfl (by kernel_rfl) ⟨De [0] At.ok hI (X8 m lc o s (HV i (BS (m lc.toNat) o s) d) hl hO) rfl rfl rfl rfl rfl rfl rfl,trivial⟩ ⟨.inl ⟨_,_,rfl,rfl,tY i (BS (m lc.toNat) o s) d hs⟩,trivial⟩ fun A=>N9 8 A rfl rfl fun A=>R9 A rfl h0 rfl rfl rfl)
  (fun h1 A=>absurd (hw.symm.trans h1) (by decide))
end Go.Proofs.YtbbdanhpphlbpaaGreatDoor.Mc
namespace Go.Proofs.YtbbdanhpphlbpaaGreatDoor.Mc
open Go.RowKit
set_option simprocs false
theorem Ra (cp:Nat):Fn Tryz.prog 87 [.sla none (([]:List In).length) cp] [] (Rt (.sl 0 (([]:List In).length) 0) [some (.row 63 17 (([]:List In).length) 0 (fun zz=>C3 (([]:List In).getD zz In.z)))]):=
 Am (n:=8) (by kernel_rfl) Tryz.func87 rfl rfl rfl fun G w a h0 A=>N9 9 A rfl rfl fun A=>cL (r:=.tt) A rfl rfl rfl rfl rfl (e:=63) (by kernel_rfl) rfl fun A=>N9 9 A rfl rfl fun A=>have A:=A.nilRow 2 63 17 (fun zz=>C3 (([]:List In).getD zz In.z)) rfl (fun z=>⟨_,rfl,rfl⟩);Ns hX [0] (x:=.sl 0 0 0) A ⟨rfl,rfl⟩ rfl rfl rfl rfl rfl rfl rfl rfl h0
theorem X9 (ad:Addr)(cp:Nat):Fn Tryz.prog 87 [.sla (some ad) (([]:List In).length) cp] [] (Rt (.sl 0 (([]:List In).length) 0) [some (.row 63 17 (([]:List In).length) 0 (fun zz=>C3 (([]:List In).getD zz In.z)))]):=
 Am (n:=8) (by kernel_rfl) Tryz.func87 rfl rfl rfl fun G w a h0 A=>N9 9 A rfl rfl fun A=>cL (r:=.ff) A rfl rfl rfl rfl rfl (e:=63) (by kernel_rfl) rfl fun A=>N9 9 A rfl rfl fun A=>tQ (e:=63) (s:=17) A rfl rfl rfl rfl rfl rfl (by kernel_rfl) fun A=>N9 4 A rfl rfl fun A=>have A:=A.rowAs 0 0 (fun zz=>C3 (([]:List In).getD zz In.z)) rfl rfl (fun k hk=>by omega) (fun z=>⟨_,rfl,rfl⟩);Ns hX [0] (x:=.sl 0 0 0) A ⟨rfl,rfl⟩ rfl rfl rfl rfl rfl rfl rfl rfl h0
theorem YA (l:List In)(ad:Addr)(cp:Nat)(hl:l.length≠0)(hn:l.length≤1000000):CE (F9 (some ad) l) Tryz.prog 87 [.sla (some ad) l.length cp] [] (Rt (.sl 0 l.length 0) [some (.row 63 17 l.length 0 (fun zz=>C3 (l.getD zz In.z)))]):=
 BB (n:=8) (by kernel_rfl) Tryz.func87 rfl rfl rfl fun G w a h0 hI A=>N9 9 A rfl rfl fun A=>cL (r:=.ff) A rfl rfl rfl rfl rfl (e:=63) (by kernel_rfl) rfl fun A=>N9 9 A rfl rfl fun A=>Pe 6 hI hl A rfl rfl rfl rfl fun _ A=>Xz hX l.length (fun zz=>C3 (l.getD zz In.z)) A rfl rfl rfl rfl (β7 _) (by omega) hn (by omega) (fun k hk=>by omega) (fun k hk=>by show C3 _=C3 _;rw [ε0]) (fun z=>⟨_,rfl,rfl⟩) (fun k hk=>⟨_,rfl,Ah⟩) fun A=>N9 4 A rfl rfl fun A=>Ns hX [2] (x:=.sl 0 l.length 0) A ⟨rfl,rfl⟩ rfl rfl rfl rfl rfl rfl rfl rfl h0
theorem Pt (l:List In)(ao:Option Addr)(cp:Nat)(hn:l.length≤1000000):CE (F9 ao l) Tryz.prog 87 [.sla ao l.length cp] [] (Rt (.sl 0 l.length 0) [some (.row 63 17 l.length 0 (fun zz=>C3 (l.getD zz In.z)))]):=by
 by_cases h0:l.length=0
 ·have e:=δ3 h0
  subst e
  cases ao with
  |none=>exact(Ra cp).toI
  |some ad=>exact(X9 ad cp).toI
 ·cases ao with
  | none=>exact⟨(Ra cp).1,fun G w vs hM hI hv=>by
    rcases hI.2 with h|⟨b,o,h,_⟩
    ·exact absurd h h0
    ·cases h⟩
  |some ad=>exact YA l ad cp h0 hn
end Go.Proofs.YtbbdanhpphlbpaaGreatDoor.Mc
namespace Go.Proofs.YtbbdanhpphlbpaaGreatDoor.Mc
open Go.RowKit
set_option simprocs false
abbrev Ey (x0:Int)(nm:List UInt8)(y0 y1 y2:Int)(rg:Nat→Nat→Int)(c:SV)(x1:Int)(k:SV):List SV:=[.int .i64 x0,.str nm,.int .i64 y0,.int .i64 y1,.int .i64 y2,.int .i64 (rg 0 0),.int .i64 (rg 0 1),.int .i64 (rg 0 2),.int .i64 (rg 0 3),.int .i64 (rg 0 4),.int .i64 (rg 0 5),.int .i64 (rg 0 6),.int .i64 (rg 0 7),.int .i64 (rg 1 0),.int .i64 (rg 1 1),.int .i64 (rg 1 2),.int .i64 (rg 1 3),.int .i64 (rg 1 4),.int .i64 (rg 1 5),.int .i64 (rg 1 6),.int .i64 (rg 1 7),.int .i64 (rg 2 0),.int .i64 (rg 2 1),.int .i64 (rg 2 2),.int .i64 (rg 2 3),.int .i64 (rg 2 4),.int .i64 (rg 2 5),.int .i64 (rg 2 6),.int .i64 (rg 2 7),c,.int .i64 x1,k]
def BU (cs:List Ak)(rg:Nat→Rg):List Th:=(List.range cs.length).map fun k=>FQ (cs.getD k Ak.z).l ⟨0,rg k⟩
theorem Oe {cs:List Ak}{rg:Nat→Rg}:(BU cs rg).length=cs.length:=by unfold BU;simp
theorem Ic {cs:List Ak}{rg:Nat→Rg}{k:Nat}(h:k<cs.length):(BU cs rg).getD k Th.z=FQ (cs.getD k Ak.z).l ⟨0,rg k⟩:=by
 unfold BU
 rw [α6,μ6,List.getElem?_range h]
 rfl
theorem Of {cs:List Ak}(h:∀c∈cs,Fs c.l){k:Nat}(hk:k<cs.length):Fs (cs.getD k Ak.z).l:=h _ (by rw [α6,β0 hk];exact η9 hk)
theorem Rb {cs:List Ak}{ao co:Option Addr}{cx cn cc:Nat}{rg:Nat→Rg}{x0 x1 y0 y1 y2:Int}{nm:List UInt8}{k:Nat}(h:k<3):DX ⟨X,true⟩ 23 (Ey x0 nm y0 y1 y2 rg (.sla ao cs.length cx) x1 (.sla co cn cc)) (5+k*8)=some (.agg [.int .i64 (rg k 0),.int .i64 (rg k 1),.int .i64 (rg k 2),.int .i64 (rg k 3),.int .i64 (rg k 4),.int .i64 (rg k 5),.int .i64 (rg k 6),.int .i64 (rg k 7)]):=by
 match k,h with
 |0,_=>rfl
 |1,_=>rfl
 |2,_=>rfl
theorem dE {l:List Ak}{x:Ak}{m k:Nat}(hm:l.length=m)(h:k<m):(l++[x]).getD k Ak.z=l.getD k Ak.z:=by rw [α6,α6,α1 (by omega)]
theorem dF {l:List Ak}{x:Ak}{m:Nat}(hm:l.length=m):(l++[x]).getD m Ak.z=x:=by subst hm;simp [List.getD]
structure NJ (cs:List Ak)(N:Nat)(z:List Ak×Nat)(w:World)(ks:List Nat):Prop where
 m:z.1.length=z.2
 le:z.2≤cs.length
 eq:∀k,k<z.2→(z.1.getD k Ak.z).l=(cs.getD k Ak.z).l
 at_:∀c∈z.1,c.lies w ks∧∀q:Addr,c.ao=some q→N≤q.block
theorem NJ.ok {cs:List Ak}{N:Nat}{z:List Ak×Nat}:Ef.OK (NJ cs N z):=fun w ks w' ks' h m hk=>⟨h.m,h.le,h.eq,fun c hc=>⟨At.ok _ _ _ _ (h.at_ c hc).1 m hk,(h.at_ c hc).2⟩⟩
theorem NJ.i0 {cs:List Ak}{N:Nat}{w:World}{ks:List Nat}:NJ cs N ([],0) w ks:=⟨rfl,β8 _,fun k hk=>(by cases hk),fun c hc=>(by cases hc)⟩
theorem NJ.nx {cs:List Ak}{N:Nat}{z:List Ak×Nat}{w:World}{ks:List Nat}{ao:Option Addr}{cp:Nat}(h:NJ cs N z w ks)(Bn:z.2<cs.length)(hl:At ao 17 (cs.getD (((z.2:Nat):Int)).toNat Ak.z).l.length (fun zz=>C3 ((cs.getD (((z.2:Nat):Int)).toNat Ak.z).l.getD zz In.z)) w ks)(hf:∀q:Addr,ao=some q→N≤q.block):NJ cs N (z.1++[(⟨ao,(cs.getD (((z.2:Nat):Int)).toNat Ak.z).l,cp⟩:Ak)],z.2+1) w ks:=by
 refine⟨by simp [h.m],by show z.2+1≤_;omega,fun k hk=>?_,fun c hc=>?_⟩
 ·by_cases e:k=z.2
  ·subst e;show((z.1++[_]).getD z.2 Ak.z).l=_;rw [dF h.m];rfl
  ·have EC:k<z.2:=by have:k<z.2+1:=hk;omega
   show((z.1++[_]).getD k Ak.z).l=_;rw [dE h.m EC];exact h.eq k EC
 ·rcases ζ6.1 hc with hc|hc
  ·exact h.at_ c hc
  ·rw [η5]at hc;subst hc;exact⟨hl,hf⟩
theorem NJ.mv {cs:List Ak}{N:Nat}{z:List Ak×Nat}{w:World}{H H' l:Hp}{G:Gr}{m:List Nat}(h:NJ cs N z w (keys H G))(hlen:H.length=G.length)(h1:DA H m=some l)(h2:DE m H'=some l):NJ cs N z w (keys H' (BW m G)):=NJ.ok _ _ _ _ h (DO.refl _ _) (fun b hb=>.inl (CB hlen h1 h2 b hb))
def U3 (cs:List Ak)(rg:Nat→Rg):SV→World→World→Prop:=fun x w w'=>∃(L:Loc) (bt cp:Nat) (cs':List Ak),x=GP L.b L.pre.length∧So 125 10 cs.length (fun zz=>HJ (cs'.getD zz Ak.z) ((BU cs rg).getD zz Th.z)) L bt cp w.heap.size w'∧BR cs' (BU cs rg) cs.length∧(∀k,k<cs.length→(cs'.getD k Ak.z).l=(cs.getD k Ak.z).l)∧∀ks,(∀b,ks.contains b=true→b<w.heap.size∨b=L.b∨b=bt)→An cs' w' ks
theorem U4 {cs:List Ak}{rg:Nat→Rg}{z:List Ak×Nat}{w w':World}{ks:List Nat}{L:Loc}{bt cp:Nat}(Hn:∀c∈cs,Fs c.l)(hz:NJ cs w.heap.size z w' ks)(Nu:z.2=cs.length)(ho:So 125 10 z.2 (fun zz=>HJ (z.1.getD zz Ak.z) ((BU cs rg).getD zz Th.z)) L bt cp w.heap.size w')(h1:ks.contains L.b=true)(h2:ks.contains bt=true):U3 cs rg (GP L.b L.pre.length) w w':=by
 have hm:=hz.m
 refine⟨L,bt,cp,z.1,rfl,by rw [←Nu];exact ho,⟨by rw [Oe];omega,by omega,fun k hk=>?_,fun k hk=>?_⟩,fun k hk=>hz.eq k (by omega),fun ks' hk c hc=>?_⟩
 ·rw [hz.eq k (by omega)];exact Of Hn (by omega)
 ·rw [Ic (by omega),hz.eq k (by omega)];exact RR (Of Hn (by omega)) (β8 _)
 ·obtain⟨h3,h4⟩:=hz.at_ c hc
  refine⟨h3.1,?_⟩
  rcases h3.2 with h|⟨b,o,e1,e2,e3,e4⟩
  ·exact .inl h
  ·refine .inr ⟨b,o,e1,e2,?_,e4⟩
   have hb:=h4 _ e1
   cases hq:ks'.contains b with
   |false=>rfl
   |true=>
    rcases hk b hq with h|h|h
    ·have:w.heap.size≤b:=hb;omega
    ·subst h;rw [h1]at e3;cases e3
    ·subst h;rw [h2]at e3;cases e3
theorem Fh (cs:List Ak)(ao:Option Addr)(cx:Nat)(rg:Nat→Rg)(x0 x1 y0 y1 y2:Int)(nm:List UInt8)(co:Option Addr)(cn cc:Nat)(GX:M2 cs=0):PG Tryz.prog 53 [.agg (Ey x0 nm y0 y1 y2 rg (.sla ao cs.length cx) x1 (.sla co cn cc))] [] [] (fun w=>At ao 1 cs.length (fun zz=>JL (cs.getD zz Ak.z)) w []∧An cs w []) (U3 cs rg):=
 Gq (n:=50) (by kernel_rfl) Tryz.func53 rfl rfl rfl (fun i e h=>by rw [κ1]at h;cases h) fun G w a h0 ho hp A=>have Hn:=GA GX;N9 18 A rfl rfl fun A=>Pe 14 hp.1 (by omega) A rfl rfl rfl rfl fun _ A=>I9 [2] An.ok hp.2 (KA cs cx (fun c hc=>β4 (Hn.2 c hc).n (by decide)) (fun hG hn=>Xu cs cx (fun c hc=>β4 (IY hG c hc) (by decide)) (by omega))) A rfl fun A=>N9 15 A rfl rfl fun A=>EZ 20 A rfl
  (fun h1 A=>absurd GX h1)
  (fun h1 A=>N9 13 A rfl rfl fun A=>Pe 23 hp.1 (by omega) A rfl rfl rfl rfl fun _ A=>tR 1 125 10 (fun zz=>HJ (([]:List Ak).getD zz Ak.z) ((BU cs rg).getD zz Th.z)) A rfl (fun z=>⟨_,rfl,rfl⟩) rfl fun A=>Gm (fun(z:List Ak×Nat)=>[(1,.ptr 0 0),(3,.ptr 1 0),(23,.sl 2 cs.length cx),(24,.int .i64 ((cs.length:Nat):Int)),(25,.int .i64 ((z.2:Nat):Int))]) (fun(z:List Ak×Nat)=>[some (.blk (Ey x0 nm y0 y1 y2 rg (.sla ao cs.length cx) x1 (.sla co cn cc))),some (.blk [.sl 3 z.2 0]),some (Bc cs),some (Ay z.1 (BU cs rg) z.2)]) (fun z w' ks=>NJ cs w.heap.size z w' ks) (fun z=>cs.length - z.2) ([],0) ((A.cut [1,3,23,24,25] rfl).mv 0 [0,1,3,4] rfl rfl rfl rfl h0.symm) NJ.i0 fun z G a w hz T6 A B=>have T8:=h0;have h0:=B.mem.len;N9 6 A rfl rfl fun A=>Aq 26 A rfl
    (fun h2 A=>N9 6 A rfl rfl fun A=>have Bn:z.2<cs.length:=(by omega);have ZM:z.2<3:=(by omega);have EO:=(An.ok.now B hp.2).at Bn;N9 9 A rfl (Aj (by have:=hz.le;omega)<|Aj (by have:=hz.le;omega)<|Ah) fun A=>JO By [.sla ((cs.getD ((((z.2:Nat):Int)).toNat) Ak.z).ao) ((cs.getD ((((z.2:Nat):Int)).toNat) Ak.z).l.length) ((cs.getD ((((z.2:Nat):Int)).toNat) Ak.z).cp),.sl 4 ((cs.getD ((((z.2:Nat):Int)).toNat) Ak.z).l.length) 0,.int .i64 ((z.2:Nat):Int),.ptr 0 5,.ix (.ptr 0 5) 8 3 ((z.2:Nat):Int) 0,.agg [.int .i64 (rg z.2 0),.int .i64 (rg z.2 1),.int .i64 (rg z.2 2),.int .i64 (rg z.2 3),.int .i64 (rg z.2 4),.int .i64 (rg z.2 5),.int .i64 (rg z.2 6),.int .i64 (rg z.2 7)],.agg [.sl 4 ((cs.getD ((((z.2:Nat):Int)).toNat) Ak.z).l.length) 0,.z9,.int .i64 (rg z.2 0),.int .i64 (rg z.2 1),.int .i64 (rg z.2 2),.int .i64 (rg z.2 3),.int .i64 (rg z.2 4),.int .i64 (rg z.2 5),.int .i64 (rg z.2 6),.int .i64 (rg z.2 7)],.ptr 5 0,.tup []] [1,7,8] [4,5] 2 [([],[4,5],[some (.blk (Ey x0 nm y0 y1 y2 rg (.sla ao cs.length cx) x1 (.sla co cn cc))),some (.blk [.sl 3 z.2 0]),some (Bc cs),some (Ay z.1 (BU cs rg) z.2),none,none]),([1],[5],[some (.blk (Ey x0 nm y0 y1 y2 rg (.sla ao cs.length cx) x1 (.sla co cn cc))),some (.blk [.sl 3 z.2 0]),some (Bc cs),some (Ay z.1 (BU cs rg) z.2),some (.row 63 17 ((cs.getD ((((z.2:Nat):Int)).toNat) Ak.z).l.length) 0 (fun zz=>C3 ((cs.getD ((((z.2:Nat):Int)).toNat) Ak.z).l.getD zz In.z))),none]),([7],[4],[some (.blk (Ey x0 nm y0 y1 y2 rg (.sla ao cs.length cx) x1 (.sla co cn cc))),some (.blk [.sl 3 z.2 0]),some (Bc cs),some (Ay z.1 (BU cs rg) z.2),none,some (.blk [.sla none 0 0,.z9,.z9,.z9,.z9,.z9,.z9,.z9,.z9,.z9])]),([1,7],[],[some (.blk (Ey x0 nm y0 y1 y2 rg (.sla ao cs.length cx) x1 (.sla co cn cc))),some (.blk [.sl 3 z.2 0]),some (Bc cs),some (Ay z.1 (BU cs rg) z.2),some (.row 63 17 ((cs.getD ((((z.2:Nat):Int)).toNat) Ak.z).l.length) 0 (fun zz=>C3 ((cs.getD ((((z.2:Nat):Int)).toNat) Ak.z).l.getD zz In.z))),some (.blk [.sla none 0 0,.z9,.z9,.z9,.z9,.z9,.z9,.z9,.z9,.z9])]),([1,7,8],[],[some (.blk (Ey x0 nm y0 y1 y2 rg (.sla ao cs.length cx) x1 (.sla co cn cc))),some (.blk [.sl 3 z.2 0]),some (Bc cs),some (Ay z.1 (BU cs rg) z.2),some (.row 63 17 ((cs.getD ((((z.2:Nat):Int)).toNat) Ak.z).l.length) 0 (fun zz=>C3 ((cs.getD ((((z.2:Nat):Int)).toNat) Ak.z).l.getD zz In.z))),some (.blk [.sl 4 ((cs.getD ((((z.2:Nat):Int)).toNat) Ak.z).l.length) 0,.z9,.int .i64 (rg z.2 0),.int .i64 (rg z.2 1),.int .i64 (rg z.2 2),.int .i64 (rg z.2 3),.int .i64 (rg z.2 4),.int .i64 (rg z.2 5),.int .i64 (rg z.2 6),.int .i64 (rg z.2 7)])])] [[true,true,true,true,true,true,false,true,false],[false,false,true,true,true,true,true,true,false],[true,true,true,true,true,true,false,false,false],[false,false,true,true,true,true,true,false,true],[false,false,false,false,false,false,false,false,false]] A rfl rfl rfl rfl (by kernel_rfl) rfl (by kernel_rfl) ⟨⟨Ao 0 rfl rfl,⟨⟨_,_,_,_,1,rfl,rfl,rfl,rfl,Pj 4 (De [] At.ok EO (Pt ((cs.getD ((((z.2:Nat):Int)).toNat) Ak.z).l) ((cs.getD ((((z.2:Nat):Int)).toNat) Ak.z).ao) ((cs.getD ((((z.2:Nat):Int)).toNat) Ak.z).cp) (β4 (Of Hn.2 Bn).n (by decide))) rfl rfl rfl rfl rfl rfl rfl) rfl rfl (Ph h0 rfl) rfl rfl rfl rfl⟩,⟨Ao 0 rfl rfl,⟨Ao 0 rfl rfl,⟨Ao 0 rfl (Aj (by have:=hz.le;omega)<|Ah),⟨CF 0 rfl (MA (k:=z.2) hX rfl rfl rfl rfl (Rb ZM)),⟨⟨_,_,_,_,2,rfl,rfl,rfl,rfl,Eh 5 (X:=⟨_,true⟩) hX rfl rfl (Ph h0 rfl) rfl rfl rfl rfl⟩,trivial⟩⟩⟩⟩⟩⟩⟩,⟨⟨Ao 1 rfl rfl,⟨Ao 1 rfl rfl,⟨Ao 1 rfl (Aj (by have:=hz.le;omega)<|Ah),⟨CF 1 rfl (MA (k:=z.2) hX rfl rfl rfl rfl (Rb ZM)),⟨Ao 1 rfl rfl,⟨⟨_,_,_,_,3,rfl,rfl,rfl,rfl,Eh 5 (X:=⟨_,true⟩) hX rfl rfl (Ph h0 rfl) rfl rfl rfl rfl⟩,trivial⟩⟩⟩⟩⟩⟩,⟨⟨Ao 2 rfl rfl,⟨⟨_,_,_,_,3,rfl,rfl,rfl,rfl,Pj 4 (De [] At.ok EO (Pt ((cs.getD ((((z.2:Nat):Int)).toNat) Ak.z).l) ((cs.getD ((((z.2:Nat):Int)).toNat) Ak.z).ao) ((cs.getD ((((z.2:Nat):Int)).toNat) Ak.z).cp) (β4 (Of Hn.2 Bn).n (by decide))) rfl rfl rfl rfl rfl rfl rfl) rfl rfl (Ph h0 rfl) rfl rfl rfl rfl⟩,⟨Ao 2 rfl rfl,⟨Ao 2 rfl rfl,⟨Ao 2 rfl (Aj (by have:=hz.le;omega)<|Ah),⟨CF 2 rfl (MA (k:=z.2) hX rfl rfl rfl rfl (Rb ZM)),trivial⟩⟩⟩⟩⟩⟩,⟨⟨Ao 3 rfl rfl,⟨Ao 3 rfl rfl,⟨Ao 3 rfl (Aj (by have:=hz.le;omega)<|Ah),⟨CF 3 rfl (MA (k:=z.2) hX rfl rfl rfl rfl (Rb ZM)),⟨Ao 3 rfl rfl,⟨CF 4 rfl (BN (X:=⟨_,true⟩) (out:=.upd 5 [.sl 4 ((cs.getD ((((z.2:Nat):Int)).toNat) Ak.z).l.length) 0,.z9,.int .i64 (rg z.2 0),.int .i64 (rg z.2 1),.int .i64 (rg z.2 2),.int .i64 (rg z.2 3),.int .i64 (rg z.2 4),.int .i64 (rg z.2 5),.int .i64 (rg z.2 6),.int .i64 (rg z.2 7)] _) hX rfl rfl),trivial⟩⟩⟩⟩⟩⟩,⟨trivial,trivial⟩⟩⟩⟩⟩ fun A=>N9 2 A rfl rfl fun A=>tS 4 5 (fun ao' cp'=>[some (.blk (Ey x0 nm y0 y1 y2 rg (.sla ao cs.length cx) x1 (.sla co cn cc))),some (.blk [.sl 3 z.2 0]),some (Bc cs),some (Ay z.1 (BU cs rg) z.2),none,some (.blk (Ff (.sla ao' ((cs.getD ((((z.2:Nat):Int)).toNat) Ak.z).l.length) cp') 0 (rg z.2)))]) A rfl rfl rfl (fun _ _=>rfl) fun ao' cp' A hl Qd=>have hz:=NJ.ok.now A hz;have Qd:∀q:Addr,ao'=some q→_≤q.block:=fun q hq=>(Qd q hq).elim (fun h=>(B.keys_own _ h).elim (fun h=>by cases h) id) (fun h=>β4 B.mix.size h);have B:=B.trans A;have A:=B.base;have h0:=B.mem.len;N9 1 A rfl rfl fun A=>I9 [5] At.ok hl (NB ((cs.getD ((((z.2:Nat):Int)).toNat) Ak.z).l) ao' cp' (0:Int) (rg z.2) (Of Hn.2 Bn) (by omega)) A rfl fun A=>N9 2 A rfl rfl fun A=>Ba hX By [] [(7,.sl 7 (z.2+1) 0,[some (.blk (Ey x0 nm y0 y1 y2 rg (.sla ao cs.length cx) x1 (.sla co cn cc))),some (.blk [.sl 3 z.2 0]),some (Bc cs),none,none,some (.blk (Ff (.sla ao' ((cs.getD ((((z.2:Nat):Int)).toNat) Ak.z).l.length) cp') (((FQ (cs.getD ((((z.2:Nat):Int)).toNat) Ak.z).l ⟨((0:Int)).toNat,rg z.2⟩).at_:Nat):Int) ((FQ (cs.getD ((((z.2:Nat):Int)).toNat) Ak.z).l ⟨((0:Int)).toNat,rg z.2⟩).r))),some (.blk (Ff (.sla ao' ((cs.getD ((((z.2:Nat):Int)).toNat) Ak.z).l.length) cp') (((FQ (cs.getD ((((z.2:Nat):Int)).toNat) Ak.z).l ⟨((0:Int)).toNat,rg z.2⟩).at_:Nat):Int) ((FQ (cs.getD ((((z.2:Nat):Int)).toNat) Ak.z).l ⟨((0:Int)).toNat,rg z.2⟩).r))),some (.row 125 10 (z.2+1) 0 (fun zz=>HJ ((z.1++[(⟨ao',(cs.getD (((z.2:Nat):Int)).toNat Ak.z).l,cp'⟩:Ak)]).getD zz Ak.z) ((BU cs rg).getD zz Th.z)))])] A rfl rfl rfl rfl (by kernel_rfl) ⟨trivial,⟨OO (i:=3) hX (z.2+1) (fun zz=>HJ ((z.1++[(⟨ao',(cs.getD (((z.2:Nat):Int)).toNat Ak.z).l,cp'⟩:Ak)]).getD zz Ak.z) ((BU cs rg).getD zz Th.z)) rfl rfl rfl rfl (by omega) rfl (fun k hk=>by show HJ _ _=HJ _ _;rw [dE hz.m hk]) (by show HJ _ _=_;rw [dF hz.m,Ic Bn]<;>rfl) (fun z=>⟨_,rfl,rfl⟩),⟨trivial,trivial⟩⟩⟩ trivial fun A=>N9 6 A rfl (Aj (by have:=hz.le;omega)<|Ah) fun A=>⟨((z.1++[(⟨ao',(cs.getD (((z.2:Nat):Int)).toNat Ak.z).l,cp'⟩:Ak)]),z.2+1),_,(by show cs.length - (z.2+1)<cs.length - z.2;omega),((NJ.ok.now A hz).nx Bn (At.ok.now A hl) Qd).mv (m:=[0,1,2,7]) A.mem.len rfl rfl,(((B.trans A).cut [1,3,23,24,25] rfl).mv 0 [0,1,2,7] rfl rfl rfl rfl T8.symm)⟩)
    (fun h2 A=>N9 10 A rfl rfl fun A=>have Nu:z.2=cs.length:=(by have:=hz.le;omega);match(B.trans A).giveCore 1 3 2 (by omega) rfl rfl rfl rfl with|⟨L,bt,cp,A',ho,PM,JW⟩=>Hw hX A' rfl rfl rfl rfl (U4 Hn.2 (NJ.ok.now A hz) Nu ho PM JW)))
end Go.Proofs.YtbbdanhpphlbpaaGreatDoor.Mc
namespace Go.Proofs.YtbbdanhpphlbpaaGreatDoor.Mc
open Go.RowKit
set_option simprocs false
theorem NF {α:Type}(d:α)(cf:α→List SV)(s:Nat)(hs:∀x,(cf x).length=s)(KO:∀x,Hf 0 (cf x)=true)(CD:∀x,∃vs,Al [] (cf x)=some vs)(L:List α){b:Nat}{vs:List Value}{w:World}{ks:List Nat}(hl:Kk b 0 vs w ks)(hv:Al [] (L.flatMap cf)=some vs):At (some ⟨b,0,none⟩) s L.length (fun zz=>cf (L.getD zz d)) w ks:=by
 refine⟨fun k=>CD _,.inr ⟨b,0,rfl,hl.1,hl.2.1,fun k hk=>?_⟩⟩
 obtain⟨r1,r2⟩:=HG d cf s hs KO L k hk
 obtain⟨r3,r4⟩:=IG r1
 rw [Hd]at r3 r4
 have hd:Al [] (cf (L.getD k d))=some ((vs.drop (k*s)).take s):=by rw [r3];exact Cf s (Cg _ hv)
 refine⟨_,hd,fun q v hq=>?_⟩
 have Bn:=(α0.1 hq).1
 simp only [δ8,γ5]at Bn
 rw [γ1 (by omega),η1]at hq
 have:=hl.2.2 _ v hq
 rwa [←θ4]at this
theorem Pv {I:Ef}{P:Program}{f:Nat}{args:List SV}{H H2:Hp}{x y:SV}(h:CE I P f args H (Rt x H2))(e:∀{G},den G x=den G y):CE I P f args H (Rt y H2):=⟨h.1,fun G w vs hM hI hv=>ν6 (h.2 G w vs hM hI hv) fun e' w' ⟨x',H',F,v,⟨q1,q2⟩,r⟩=>by subst q1;subst q2;exact⟨y,_,F,v,⟨rfl,rfl⟩,by rw [←e];exact r.1,r.2⟩⟩
end Go.Proofs.YtbbdanhpphlbpaaGreatDoor.Mc
namespace Go.Proofs.YtbbdanhpphlbpaaGreatDoor.Mc
open Go.RowKit
set_option simprocs false
theorem U5 (s1:Int):Fn Tryz.prog 176 [.int .i64 s1] [] (Rt (.bool ((((s1==1)||(s1==2))||(s1==4))||(s1==8))) []):=
 Am (n:=17) (by kernel_rfl) Tryz.func176 rfl rfl rfl fun G w a h0 A=>M hX 25 A rfl rfl fun A=>R9 A rfl h0 rfl rfl rfl
def uB (o1:Int):Nat→Int
 |0=>0
 |j+1=>IntKind.wrap .i64 ((((BitVec.ofInt (IntKind.bits .i64) (uB o1 j))|||(BitVec.ofInt (IntKind.bits .i64) (IntKind.wrap .i64 (1*2^min ((o1+(j:Int))).toNat (IntKind.bits .i64))))).toNat:Nat):Int)
theorem dG {o1 s1:Int}{j:Nat}(hs:s1=1∨s1=2∨s1=4∨s1=8)(ho:0≤o1∧o1≤8 - s1∧Int.tmod o1 s1=0)(hj:j=s1.toNat):uB o1 j=Bl o1 s1:=by
 subst hj
 have h1:=ho.1
 have h2:=ho.2.1
 have h3:=ho.2.2
 have h4:s1≥1:=by rcases hs with h|h|h|h<;>omega
 have h8:o1=0∨o1=1∨o1=2∨o1=3∨o1=4∨o1=5∨o1=6∨o1=7:=by omega
 rcases h8 with rfl|rfl|rfl|rfl|rfl|rfl|rfl|rfl<;>rcases hs with rfl|rfl|rfl|rfl<;>first|(exfalso;omega)|exact absurd h3 (by decide)|decide
theorem U6 (o1 s1:Int)(hs:s1=1∨s1=2∨s1=4∨s1=8)(ho:0≤o1∧o1≤8 - s1∧Int.tmod o1 s1=0):Fn Tryz.prog 135 [.int .i64 o1,.int .i64 s1] [] (Rt (.int .i64 (Bl o1 s1)) []):=
 Am (n:=39) (by kernel_rfl) Tryz.func135 rfl rfl rfl fun G w a h0 A=>N9 9 A rfl rfl fun A=>C9 [] (U5 s1) A rfl fun A=>N9 19 A rfl (Bw<|Bw<|Bw<|Hu (fun hg=>(by have:=ho;rcases hs with rfl|rfl|rfl|rfl<;>omega))<|Bw<|Bw<|Bw<|Bw<|Bw<|Hu (fun hg=>(by have:=ho;rcases hs with rfl|rfl|rfl|rfl<;>omega))<|Bw<|Bw<|Ah) fun A=>fork 25 A rfl
  (fun h1 A=>absurd h1 (by have h1:=ho.1;have h2:=ho.2.1;have h3:=ho.2.2;rcases hs with rfl|rfl|rfl|rfl<;>simp [h3]<;>omega))
  (fun h1 A=>N9 16 A rfl rfl fun A=>have A:=Ai A 6 (.int .i64 (o1+((0:Nat):Int))) rfl (fun _=>congrArg (fun z=>some (Value.int .i64 z)) (by omega));B7 (fun(j:Nat)=>[(0,.int .i64 o1),(1,.int .i64 s1),(4,.int .i64 0),(5,.int .i64 (uB o1 j)),(6,.int .i64 (o1+(j:Int)))]) (fun(j:Nat)=>[]) (fun(j:Nat)=>j≤s1.toNat) (fun(j:Nat)=>s1.toNat - j) 0 (β8 _) ((A.cut [0,1,4,5,6] rfl).trunc 0 rfl rfl rfl (Cj h0 rfl)) fun j hJ {G a w} A=>N9 10 A rfl (Aj (by first|omega|(rcases hs with rfl|rfl|rfl|rfl<;>omega))<|Ah) fun A=>Aq 31 A rfl
    (fun h2 A=>N9 14 A rfl (Aj (by first|omega|(rcases hs with rfl|rfl|rfl|rfl<;>omega))<|Ah) fun A=>N9 5 A rfl (Aj (by first|omega|(rcases hs with rfl|rfl|rfl|rfl<;>omega))<|Ah) fun A=>⟨j+1,_,(by omega),(by omega),(((Ai A 6 (.int .i64 (o1+((j+1:Nat):Int))) rfl (fun _=>congrArg (fun z=>some (Value.int .i64 z)) (by omega))).cut [0,1,4,5,6] rfl).trunc 0 rfl rfl rfl (Cj h0 rfl)).sayT (by rfl)⟩)
    (fun h2 A=>N9 10 A rfl rfl fun A=>R9 A rfl h0 rfl (congrArg (SV.int .i64) (dG hs ho (show j=s1.toNat from(by omega)))) rfl))
theorem dH (v1 k1:Int)(hk:0≤k1∧k1<8):Fn Tryz.prog 134 [.int .i64 v1,.int .i64 k1] [] (Rt (.int .i64 (IntKind.wrap .i64 ((((BitVec.ofInt (IntKind.bits .i64) (Int.fdiv v1 (2^min ((8*k1)).toNat (IntKind.bits .i64))))&&&(BitVec.ofInt (IntKind.bits .i64) 255)).toNat:Nat):Int))) []):=
 Am (n:=10) (by kernel_rfl) Tryz.func134 rfl rfl rfl fun G w a h0 A=>N9 16 A rfl (Aj (by omega)<|Aj (by omega)<|Ah) fun A=>R9 A rfl h0 rfl rfl rfl
def dI (v1:Int):Nat→Int
 |0=>0
 |j+1=>IntKind.wrap .i64 ((((BitVec.ofInt (IntKind.bits .i64) (dI v1 j))|||(BitVec.ofInt (IntKind.bits .i64) (IntKind.wrap .i64 ((IntKind.wrap .i64 ((((BitVec.ofInt (IntKind.bits .i64) (Int.fdiv v1 (2^min ((8*(0+(j:Int)))).toNat (IntKind.bits .i64))))&&&(BitVec.ofInt (IntKind.bits .i64) 255)).toNat:Nat):Int))*2^min ((8*(j:Int))).toNat (IntKind.bits .i64))))).toNat:Nat):Int)
theorem NG (x:Int):IntKind.wrap .i64 x=if x % 18446744073709551616≥9223372036854775808 then x % 18446744073709551616 - 18446744073709551616 else x % 18446744073709551616:=by
 have h:IntKind.wrap .i64 x=if(true&&decide (x % 18446744073709551616≥9223372036854775808))=true then x % 18446744073709551616 - 18446744073709551616 else x % 18446744073709551616:=rfl
 rw [h]
 simp only [τ2,δ5]
theorem Og (x:Int):IntKind.wrap .i64 x % 18446744073709551616=x % 18446744073709551616:=by
 rw [NG];split<;>omega
theorem Oh (x:Int):(BitVec.ofInt 64 x).toNat=(x % 18446744073709551616).toNat:=by rw [BitVec.toNat_ofInt];rfl
theorem Zm (x:BitVec 64):BitVec.ofInt 64 (IntKind.wrap .i64 ((x.toNat:Nat):Int))=x:=by
 apply π4
 have:=x.isLt
 rw [Oh,Og]
 omega
theorem Je {v A:Int}{k K:Nat}(hk:(k,K)=(0,1)∨(k,K)=(8,256)∨(k,K)=(16,65536)∨(k,K)=(24,16777216)∨(k,K)=(32,4294967296)∨(k,K)=(40,1099511627776)∨(k,K)=(48,281474976710656)∨(k,K)=(56,72057594037927936))(hA:(BitVec.ofInt 64 A).toNat=(v % 18446744073709551616).toNat % K):(BitVec.ofInt 64 (IntKind.wrap .i64 ((((BitVec.ofInt 64 A)|||(BitVec.ofInt 64 (IntKind.wrap .i64 ((IntKind.wrap .i64 ((((BitVec.ofInt 64 (Int.fdiv v (2^k)))&&&(BitVec.ofInt 64 255)).toNat:Nat):Int))*2^k)))).toNat:Nat):Int))).toNat=(v % 18446744073709551616).toNat % (K*256):=by
 have hK:(2:Int)^k=(K:Int)∧2^k=K∧0<K:=by rcases hk with h|h|h|h|h|h|h|h<;>cases h<;>exact⟨by decide,by decide,by decide⟩
 rw [Zm,BitVec.toNat_or,hA,hK.1]
 have hY:((BitVec.ofInt 64 (Int.fdiv v (K:Int)))&&&(BitVec.ofInt 64 255)).toNat=((v / (K:Int)) % 18446744073709551616).toNat % 256:=by
  rw [π7,Oh,show(BitVec.ofInt 64 255).toNat=2^8 - 1 from rfl,π8,ν8 _ (by omega)]
 rw [hY]
 generalize hy:((v / (K:Int)) % 18446744073709551616).toNat % 256=y
 have hy8:y<256:=by rw [←hy];exact υ8 _ (by decide)
 have e1:IntKind.wrap .i64 ((y:Nat):Int)=(y:Int):=by rw [NG];split<;>omega
 have e2:(BitVec.ofInt 64 (IntKind.wrap .i64 ((y:Int)*(K:Int)))).toNat=K*y:=by
  rw [Oh,Og]
  rcases hk with h|h|h|h|h|h|h|h<;>cases h<;>omega
 rw [e1,e2,Nat.or_comm]
 have e3:=Nat.two_pow_add_eq_or_of_lt (i:=k) (b:=(v % 18446744073709551616).toNat % K) (by rw [hK.2.1];exact υ8 _ hK.2.2) y
 rw [hK.2.1]at e3
 rw [←e3]
 clear hA hY e1 e2 e3
 rcases hk with h|h|h|h|h|h|h|h<;>cases h<;>omega
theorem mI (v:Int):∀j,j≤8→(BitVec.ofInt 64 (dI v j)).toNat=(v % 18446744073709551616).toNat % 256^j
 |0,_=>by rw [show dI v 0=0 from rfl,Oh];omega
 |j+1,h=>by
  have ih:=mI v j (by omega)
  have hj:j=0∨j=1∨j=2∨j=3∨j=4∨j=5∨j=6∨j=7:=by omega
  rcases hj with rfl|rfl|rfl|rfl|rfl|rfl|rfl|rfl
  ·exact Je (k:=0) (K:=1) (.inl rfl) ih
  ·exact Je (k:=8) (K:=256) (.inr (.inl rfl)) ih
  ·exact Je (k:=16) (K:=65536) (.inr (.inr (.inl rfl))) ih
  ·exact Je (k:=24) (K:=16777216) (.inr (.inr (.inr (.inl rfl)))) ih
  ·exact Je (k:=32) (K:=4294967296) (.inr (.inr (.inr (.inr (.inl rfl))))) ih
  ·exact Je (k:=40) (K:=1099511627776) (.inr (.inr (.inr (.inr (.inr (.inl rfl)))))) ih
  ·exact Je (k:=48) (K:=281474976710656) (.inr (.inr (.inr (.inr (.inr (.inr (.inl rfl))))))) ih
  ·exact Je (k:=56) (K:=72057594037927936) (.inr (.inr (.inr (.inr (.inr (.inr (.inr rfl))))))) ih
theorem uC {v:Int}{X:BitVec 64}{k:Nat}(hX:X.toNat=2^k - 1):((BitVec.ofInt 64 (Int.fdiv v 1))&&&X).toNat=(v % 18446744073709551616).toNat % 2^k:=by
 rw [π7,Oh,hX,π8,Int.fdiv_one]
theorem mJ (v:Int):∀j,∃x:BitVec 64,dI v j=IntKind.wrap .i64 ((x.toNat:Nat):Int)
 |0=>⟨0#64,rfl⟩
 |j+1=>⟨_,rfl⟩
theorem NH {v:Int}{X:BitVec 64}{j:Nat}(hj:j≤8)(hX:X.toNat=2^(8*j) - 1):dI v j=IntKind.wrap .i64 ((((BitVec.ofInt 64 (Int.fdiv v 1))&&&X).toNat:Nat):Int):=by
 obtain⟨x,hx⟩:=mJ v j
 have h:=mI v j hj
 rw [hx,Zm]at h
 rw [hx,h,uC hX,Nat.pow_mul]
theorem dJ {v1 s1:Int}{j:Nat}(hs:s1=1∨s1=2∨s1=4∨s1=8)(hj:j=s1.toNat):dI v1 j=Bz v1 s1:=by
 subst hj
 rcases hs with rfl|rfl|rfl|rfl
 ·exact NH (j:=1) (by decide) (by decide)
 ·exact NH (j:=2) (by decide) (by decide)
 ·exact NH (j:=4) (by decide) (by decide)
 ·exact NH (j:=8) (by decide) (by decide)
theorem Rc (v1 s1:Int)(hs:s1=1∨s1=2∨s1=4∨s1=8):Fn Tryz.prog 99 [.int .i64 v1,.z9,.int .i64 s1] [] (Rt (.int .i64 (Bz v1 s1)) []):=
 Am (n:=29) (by kernel_rfl) Tryz.func99 rfl rfl rfl fun G w a h0 A=>N9 10 A rfl rfl fun A=>C9 [] (U6 0 s1 hs (by rcases hs with rfl|rfl|rfl|rfl<;>decide)) A rfl fun A=>N9 3 A rfl rfl fun A=>Au 12 A rfl
  (fun h1 A=>absurd h1 (by rcases hs with rfl|rfl|rfl|rfl<;>decide))
  (fun h1 A=>N9 15 A rfl rfl fun A=>B7 (fun(j:Nat)=>[(0,.int .i64 v1),(1,.int .i64 0),(2,.int .i64 s1),(6,.int .i64 0),(7,.int .i64 (dI v1 j)),(8,.int .i64 (j:Int))]) (fun(j:Nat)=>[]) (fun(j:Nat)=>j≤s1.toNat) (fun(j:Nat)=>s1.toNat - j) 0 (β8 _) ((A.cut [0,1,2,6,7,8] rfl).trunc 0 rfl rfl rfl (Cj h0 rfl)) fun j hJ {G a w} A=>N9 8 A rfl rfl fun A=>Aq 15 A rfl
    (fun h2 A=>N9 11 A rfl (Aj (by first|omega|(rcases hs with rfl|rfl|rfl|rfl<;>omega))<|Ah) fun A=>C9 [] (dH v1 (0+(j:Int)) (by first|omega|(rcases hs with rfl|rfl|rfl|rfl<;>omega))) A rfl fun A=>N9 8 A rfl (Aj (by first|omega|(rcases hs with rfl|rfl|rfl|rfl<;>omega))<|Aj (by first|omega|(rcases hs with rfl|rfl|rfl|rfl<;>omega))<|Ah) fun A=>N9 5 A rfl (Aj (by first|omega|(rcases hs with rfl|rfl|rfl|rfl<;>omega))<|Ah) fun A=>⟨j+1,_,(by omega),(by omega),((A.cut [0,1,2,6,7,8] rfl).trunc 0 rfl rfl rfl (Cj h0 rfl)).sayT (by rfl)⟩)
    (fun h2 A=>N9 10 A rfl rfl fun A=>R9 A rfl h0 rfl (congrArg (SV.int .i64) (dJ hs (show j=s1.toNat from(by omega)))) rfl))
def DG (fn a1 b1:Int):Int:=if fn=1 then IntKind.wrap .i64 (a1+b1)else if fn=2 then IntKind.wrap .i64 (a1 - b1)else if fn=3 then IntKind.wrap .i64 ((((BitVec.ofInt (IntKind.bits .i64) a1)^^^(BitVec.ofInt (IntKind.bits .i64) b1)).toNat:Nat):Int)else if fn=4 then IntKind.wrap .i64 ((((BitVec.ofInt (IntKind.bits .i64) a1)&&&(BitVec.ofInt (IntKind.bits .i64) b1)).toNat:Nat):Int)else if fn=5 then IntKind.wrap .i64 ((((BitVec.ofInt (IntKind.bits .i64) a1)|||(BitVec.ofInt (IntKind.bits .i64) b1)).toNat:Nat):Int)else 0
theorem Zn (fn a1 b1:Int):Fn Tryz.prog 90 [.int .i64 fn,.int .i64 a1,.int .i64 b1] [] (Rt (.int .i64 (DG fn a1 b1)) []):=
 Am (n:=33) (by kernel_rfl) Tryz.func90 rfl rfl rfl fun G w a h0 A=>M hX 18 A rfl rfl fun A=>Au 8 A rfl
  (fun h1 A=>M hX 10 A rfl rfl fun A=>R9 A rfl h0 rfl (by simp only [BA,nb,CK,CC,DG,if_pos h1]) rfl)
  (fun h1 A=>M hX 7 A rfl rfl fun A=>Au 13 A rfl
   (fun h2 A=>M hX 10 A rfl rfl fun A=>R9 A rfl h0 rfl (by simp only [BA,nb,CK,CC,DG,if_neg (h1),if_pos h2]) rfl)
   (fun h2 A=>M hX 7 A rfl rfl fun A=>Au 18 A rfl
    (fun h3 A=>M hX 10 A rfl rfl fun A=>R9 A rfl h0 rfl (by simp only [BA,nb,CK,CC,DG,if_neg (h1),if_neg (h2),if_pos h3]) rfl)
    (fun h3 A=>M hX 7 A rfl rfl fun A=>Au 23 A rfl
     (fun h4 A=>M hX 10 A rfl rfl fun A=>R9 A rfl h0 rfl (by simp only [BA,nb,CK,CC,DG,if_neg (h1),if_neg (h2),if_neg (h3),if_pos h4]) rfl)
     (fun h4 A=>M hX 7 A rfl rfl fun A=>Au 28 A rfl
      (fun h5 A=>M hX 10 A rfl rfl fun A=>R9 A rfl h0 rfl (by simp only [BA,nb,CK,CC,DG,if_neg (h1),if_neg (h2),if_neg (h3),if_neg (h4),if_pos h5]) rfl)
      (fun h5 A=>M hX 10 A rfl rfl fun A=>R9 A rfl h0 rfl (by simp only [BA,nb,CK,CC,DG,if_neg (h1),if_neg (h2),if_neg (h3),if_neg (h4),if_neg (h5)]) rfl)))))
def Ie (fn v1 a1 s1:Int):Int:=if fn=6 then Bz a1 s1 else if fn=1 then Bz (IntKind.wrap .i64 (v1+a1)) s1 else 0
theorem mK (fn v1 a1 s1:Int)(hs:s1=1∨s1=2∨s1=4∨s1=8):Fn Tryz.prog 101 [.int .i64 fn,.int .i64 v1,.int .i64 a1,.int .i64 s1] [] (Rt (.int .i64 (Ie fn v1 a1 s1)) []):=
 Am (n:=22) (by kernel_rfl) Tryz.func101 rfl rfl rfl fun G w a h0 A=>M hX 18 A rfl rfl fun A=>Au 10 A rfl
  (fun h1 A=>M hX 5 A rfl rfl fun A=>C9 [] (Rc a1 s1 hs) A rfl fun A=>M hX 4 A rfl rfl fun A=>R9 A rfl h0 rfl (by simp only [BA,nb,CK,CC,Ie,if_pos h1]) rfl)
  (fun h1 A=>M hX 7 A rfl rfl fun A=>Au 15 A rfl
   (fun h2 A=>M hX 7 A rfl rfl fun A=>C9 [] (Rc (IntKind.wrap .i64 (v1+a1)) s1 hs) A rfl fun A=>M hX 4 A rfl rfl fun A=>R9 A rfl h0 rfl (by simp only [BA,nb,CK,CC,Ie,if_neg (h1),if_pos h2]) rfl)
   (fun h2 A=>M hX 10 A rfl rfl fun A=>R9 A rfl h0 rfl (by simp only [BA,nb,CK,CC,Ie,if_neg (h1),if_neg (h2)]) rfl))
def If (o1 x1 s1:Int):Int:=if(!((((s1==1)||(s1==2))||(s1==4))||(s1==8)))=true then(-1)else IntKind.wrap .i64 ((IntKind.wrap .i64 ((((BitVec.ofInt (IntKind.bits .i64) (IntKind.wrap .i64 (o1+x1)))&&&(BitVec.ofInt (IntKind.bits .i64) 7)).toNat:Nat):Int)) - (Int.tmod (IntKind.wrap .i64 ((((BitVec.ofInt (IntKind.bits .i64) (IntKind.wrap .i64 (o1+x1)))&&&(BitVec.ofInt (IntKind.bits .i64) 7)).toNat:Nat):Int)) s1))
theorem YB (o1 x1 s1:Int):Fn Tryz.prog 136 [.int .i64 o1,.int .i64 x1,.int .i64 s1] [] (Rt (.int .i64 (If o1 x1 s1)) []):=
 Am (n:=20) (by kernel_rfl) Tryz.func136 rfl rfl rfl fun G w a h0 A=>M hX 9 A rfl rfl fun A=>C9 [] (U5 s1) A rfl fun A=>M hX 3 A rfl rfl fun A=>fork 10 A rfl
  (fun h1 A=>M hX 7 A rfl rfl fun A=>R9 A rfl h0 rfl (by simp only [BA,nb,CK,CC,If,if_pos h1]) rfl)
  (fun h1 A=>M hX 23 A rfl (Aj (by simp at*;omega)<|Ah) fun A=>R9 A rfl h0 rfl (by simp only [BA,nb,CK,CC,If,if_neg (α8 h1)]) rfl)
theorem uD (x:Int):∃q:Int,IntKind.wrap .i64 ((((BitVec.ofInt (IntKind.bits .i64) x)&&&(BitVec.ofInt (IntKind.bits .i64) 7)).toNat:Nat):Int)=q∧(q=0∨q=1∨q=2∨q=3∨q=4∨q=5∨q=6∨q=7):=by
 have h:((BitVec.ofInt 64 x)&&&(BitVec.ofInt 64 7)).toNat≤7:=by
  rw [π7];exact Nat.and_le_right
 refine⟨((((BitVec.ofInt 64 x)&&&(BitVec.ofInt 64 7)).toNat:Nat):Int),?_,by omega⟩
 show IntKind.wrap .i64 ((((BitVec.ofInt 64 x)&&&(BitVec.ofInt 64 7)).toNat:Nat):Int)=_
 rw [NG,if_neg (by omega)]
 omega
theorem U7 (o1 x1:Int){s1:Int}(hs:s1=1∨s1=2∨s1=4∨s1=8):If o1 x1 s1=A7 o1 x1 s1∧0≤A7 o1 x1 s1∧A7 o1 x1 s1≤8 - s1∧Int.tmod (A7 o1 x1 s1) s1=0:=by
 obtain⟨q,h1,h2⟩:=uD (IntKind.wrap .i64 (o1+x1))
 unfold If A7
 rw [h1]
 rcases hs with rfl|rfl|rfl|rfl<;>rcases h2 with rfl|rfl|rfl|rfl|rfl|rfl|rfl|rfl<;>decide
theorem Zo (i:In):Fn Tryz.prog 89 [.agg (A5 i)] [] (Rt (.bool (((i.op==4)||(i.op==5))||(i.op==6))) []):=
 Am (n:=16) (by kernel_rfl) Tryz.func89 rfl rfl rfl fun G w a h0 A=>N9 25 A rfl rfl fun A=>R9 A rfl h0 rfl rfl rfl
theorem Zp (i:In):Fn Tryz.prog 61 [.agg (A5 i)] [] (Rt (.bool ((i.op==4)||(i.op==6))) []):=
 Am (n:=11) (by kernel_rfl) Tryz.func61 rfl rfl rfl fun G w a h0 A=>N9 20 A rfl rfl fun A=>R9 A rfl h0 rfl rfl rfl
theorem mL (i:In):Fn Tryz.prog 98 [.agg (A5 i)] [] (Rt (.bool ((i.op==5)||(i.op==6))) []):=
 Am (n:=11) (by kernel_rfl) Tryz.func98 rfl rfl rfl fun G w a h0 A=>N9 20 A rfl rfl fun A=>R9 A rfl h0 rfl rfl rfl
theorem U8 (o1 x1 s1:Int)(hs:s1=1∨s1=2∨s1=4∨s1=8):Fn Tryz.prog 136 [.int .i64 o1,.int .i64 x1,.int .i64 s1] [] (Rt (.int .i64 (A7 o1 x1 s1)) []):=by
 rw [←(U7 o1 x1 hs).1];exact YB o1 x1 s1
theorem U9 (i:In)(x1:Int)(hs:i.sz=1∨i.sz=2∨i.sz=4∨i.sz=8):Fn Tryz.prog 96 [.agg (A5 i),.int .i64 x1] [] (Rt (.agg [.int .i64 i.loc,.int .i64 (Bl (A7 i.off x1 i.sz) i.sz)]) []):=
 Am (n:=17) (by kernel_rfl) Tryz.func96 rfl rfl rfl fun G w a h0 A=>N9 7 A rfl rfl fun A=>Ba hX By [(7,.int .i64 (A7 i.off x1 i.sz)),(10,.int .i64 (Bl (A7 i.off x1 i.sz) i.sz))] [] A rfl rfl rfl rfl (by kernel_rfl) (A8 _ _) ⟨.inl ⟨_,_,rfl,rfl,U8 i.off x1 i.sz hs⟩,⟨.inl ⟨_,_,rfl,rfl,U6 (A7 i.off x1 i.sz) i.sz hs (U7 _ _ hs).2⟩,trivial⟩⟩ fun A=>N9 2 A rfl rfl fun A=>R9 A rfl h0 rfl rfl rfl
end Go.Proofs.YtbbdanhpphlbpaaGreatDoor.Mc
