/- TsoPlays, part 6: the engine, contracts, theory. -/
import Derived.Test.YtbbdanhpphlbpaaGreatDoorTsoPlaysP5
set_option linter.unusedVariables false
set_option linter.unusedSimpArgs false
set_option linter.unusedSectionVars false
set_option maxRecDepth 100000
set_option maxHeartbeats 2000000
namespace Go.Proofs.YtbbdanhpphlbpaaGreatDoor
section
open Go.RowKit
abbrev AK (p:Option Loc):Option Addr:=p.map fun L=>⟨L.b,L.pre.length,none⟩
section
variable {P:Program}(w:World)
theorem LY (t ty e:TypeId) (i:TypeInfo) (z:Value) (size bytes:Nat) (ht:P.underlying t=some (.slice e)) (hi:P.info? e=some i) (hz:i.zero=some z)
  (W9:i.size=size) (PS:i.bytes=bytes) (pC:z.cells.size=size) (ao:ak)
  (a:Addr) (m c:Nat) (news:aj) (hl:news.length=m*size) (NA:∀j u,news[j]?=some u→w.cell? (a.add j)=some u) (h1:∀u∈news,u.oneCell'=true) (hm:0<m)
  (h63:m≤maxLen) (OD:m*bytes≤140737488355328):
  ∃C' w',(Builtin.append_ #[t,t] ty #[.slice ao 0 0,.slice (some a) m c]).run P w=.ok (.slice (some ⟨w.heap.size,0,none⟩) m C') w'∧m≤C'∧w'.ownsRow 0 e size (.slice (some ⟨w.heap.size,0,none⟩) m C') m news∧∀r,w.grownBy w' r:=by
 subst W9
 subst PS
 have hs:Src P i.size t (.slice (some a) m c) m news w:=ρ1 w ht a m c news hl NA h1
 have hold:(Builtin.firstCells i.size 0 (.slice ao 0 0)).run P w.drew=.ok ([]:aj).toArray w.drew:=by
  cases ao with
  |none=>exact run_firstCells_none w.drew i.size _ _ _
  |some b=>exact run_firstCells_some w.drew i.size _ _ _ _ [] (by simp) fun j v hj=>by simp at hj
 have hr:=run_append_grow_src (P:=P) w t t ty e i z ht hi hz ao 0 0 _ hold (.slice (some a) m c) m news hs (by omega) (by simp only [maxLen]at h63;omega) (growslice_fits (by omega) (β3 (ι2 (by rw [δ1])) OD))
 have qA:=grownCap_ge w (0+m) 0 e
 have jG:grownCap w (0+m) 0 e≤maxLen:=σ7 w (0+m) 0 e (by omega)
 rw [δ1]at hr qA jG
 refine⟨_,_,hr,qA,⟨hl,.inr ⟨w.heap.size,_,_,rfl,β7 _,heap_alloc_new w.drew _,qA,jG,?_,?_⟩⟩,fun r=>⟨rfl,rfl,rfl,by simp,fun k hk _=>heap_alloc_old w.drew _ hk⟩⟩
 ·simp only [ξ9,μ5,υ7,pC,ξ2,hl]
  rw [←θ6]
  congr 1
  omega
 ·simp only [Array.toList_append]
  rw [←hl]
  simp
theorem G9 {G:Gr} (t ty e:TypeId) (i:TypeInfo) (z:Value) (size bytes:Nat) (ht:P.underlying t=some (.slice e)) (hi:P.info? e=some i) (hz:i.zero=some z)
  (W9:i.size=size) (PS:i.bytes=bytes) (pC:z.cells.size=size) {p:Option Loc} {n:Nat} {f:Nat→List SV} (hb:Ag G w p (.buf e size n f))
  (a:Addr) (c:Nat) (x:List SV) (news:aj) (hx:AO [] x=some news) (hl:news.length=size) (NA:∀j u,news[j]?=some u→w.cell? (a.add j)=some u) (h1:∀u∈news,u.oneCell'=true)
  (hn:n≤1000000) (OD:(n+1)*bytes≤140737488355328)
  {f':Nat→List SV} (hf:∀k,k<n→f' k=f k) (PW:f' n=x) (Be:∀k,∃vs,AO [] (f' k)=some vs∧vs.length=size):
  ∃p' w',(Builtin.append_ #[t,t] ty #[.slice (AK p) n (0+rm p),.slice (some a) 1 c]).run P w=.ok (.slice (AK p') (n+1) (0+rm p')) w'∧Ag [] w' p' (.buf e size (n+1) f')∧w.grownBy w' (p.map (·.b))∧(p'.map (·.b)=p.map (·.b)∨p'.map (·.b)=some w.heap.size):=by
 subst W9
 subst PS
 have GI:news.length=1*i.size:=by omega
 have anew:∀ao,n=0→∃p' w',(Builtin.append_ #[t,t] ty #[.slice ao 0 0,.slice (some a) 1 c]).run P w=.ok (.slice (AK p') (0+1) (0+rm p')) w'∧Ag [] w' p' (.buf e i.size (0+1) f')∧w.grownBy w' (p.map (·.b))∧(p'.map (·.b)=p.map (·.b)∨p'.map (·.b)=some w.heap.size):=fun ao h0=>by
  subst h0
  obtain⟨C,w',r1,r2,r3,r4⟩:=LY (P:=P) w t ty e i z i.size i.bytes ht hi hz U U pC ao a 1 c news GI NA h1 Nat.one_pos (by simp only [maxLen];omega) (by simpa using OD)
  refine⟨some ⟨w.heap.size,[],List.replicate C undef,e⟩,w',by simpa [rm]using r1,⟨Be,.inr ⟨_,rfl,(Hs r3 w.heap.size (by simp [Value.ownBlock])).2,.inr ⟨0,[],news,by simp,by simp,by rw [ν2];exact r2,by unfold CD;rw [PW,hx];rfl,by simpa using r3⟩⟩⟩,r4 _,.inr U⟩
 rcases hb.2 with⟨rfl,rfl⟩|⟨L,rfl,BU,⟨rfl,h0⟩|⟨d,ys,xs,q1,q2,q3,q4,q5⟩⟩
 ·exact anew none U
 ·have:=anew (some ⟨L.b,L.pre.length,none⟩) U
  simpa [rm,h0]using this
 ·have Tt:xs.length=n*i.size:=DG hb.1 q4
  have Li:CD f' (n+1)=some (xs++news):=by
   unfold CD
   rw [Dd hf,q4,PW,hx]
  rcases q5.2 with⟨q,_⟩|⟨g,cap,cur,q,_,hg,aN,jG,Ld,qD⟩
  ·simp at q
  simp only [θ8,β1,μ6,and_true,true_and]at q
  obtain⟨rfl,rfl⟩:=q
  have y3:(ys++xs++news).length=(d+(n+1))*i.size:=by rw [α4,q5.1,hl,←η4,π0]
  by_cases hroom:n+1≤L.post.length
  ·have FQ:(d+n)*i.size+news.length≤cur.size:=by
    rw [hl,Ld,←π0];exact θ2 _ (by omega)
   have JB:∀j,j<news.length→(d+n)*i.size+j<cur.size:=fun j hj=>by omega
   have hc:∀j,j<news.length→(w.cell? ⟨L.b,(d+n)*i.size+j,none⟩).isSome=true:=fun j hj=>by
    have:=JB j hj
    simp [World.cell?,hg,this]
   have wP:∀j,j<news.length→w.frozen? ⟨L.b,(d+n)*i.size+j,none⟩=false:=fun j hj=>by
    simp [World.frozen?,hg]
   have hs:Src P i.size t (.slice (some a) 1 c) 1 news w:=ρ1 w ht a 1 c news GI NA h1
   have hr:=run_append_room (P:=P) w t ty e i ht hi L.b (d+n) (d+L.post.length) cur hg a 1 c news GI NA h1 (by omega) FQ
   have full:=run_append_room_src (P:=P) w t t ty e i ht hi L.b 0 (d+n) (d+L.post.length) (.slice (some a) 1 c) 1 news hs (by omega) (by simpa using hc) (by simpa using wP)
   have eix:d*i.size+n*i.size=(d+n)*i.size:=by rw [←θ6]
   have mid:=run_append_room_src (P:=P) w t t ty e i ht hi L.b (d*i.size) n L.post.length (.slice (some a) 1 c) 1 news hs (by omega) (by rw [eix];exact hc) (by rw [eix];exact wP)
   rw [hr]at full
   simp only [Result.ok.injEq,δ1]at full
   have wQ:(cur.toList.take ((d+n)*i.size)++news++cur.toList.drop ((d+n)*i.size+news.length)).toArray.size=(d+L.post.length)*i.size:=by
    simp only [μ5,α4,δ6,γ3,Array.length_toList]
    omega
   refine⟨some L,_,by rw [show(0+rm (some L))=L.post.length by simp [rm]];simp only [AK,δ0,q1];rw [mid,eix,←full.2],⟨Be,.inr ⟨L,rfl,by simpa using BU,.inr ⟨d,ys,xs++news,q1,q2,q3,Li,⟨by rw [←γ2];exact y3,.inr ⟨L.b,d+L.post.length,_,rfl,β7 _,setRow_heap w L.b cur _ e _ hg,by omega,jG,wQ,?_⟩⟩⟩⟩⟩,⟨rfl,rfl,rfl,by simp,fun k _ hk=>setRow_other w L.b k _ (fun e=>hk (by simp [e]))⟩,.inl U⟩
   rw [qD,←γ2,←y3]
   exact σ8
  ·have hs:Src P i.size t (.slice (some a) 1 c) 1 news w:=ρ1 w ht a 1 c news GI NA h1
   have hold:(Builtin.firstCells i.size n (.slice (AK (some L)) n L.post.length)).run P w.drew=.ok xs.toArray w.drew:=by
    refine run_firstCells_some w.drew i.size _ _ _ _ _ Tt fun j v hj=>?_
    have:=q5.cells (g:=L.b) U (ys.length+j) v (by rw [α1 (ν8 _ _),Nat.add_sub_cancel_left];exact hj)
    rw [ζ3,δ1,q2,←q1]at this
    rw [ζ3]
    simpa using this
   have hr:=run_append_grow_src (P:=P) w t t ty e i z ht hi hz (AK (some L)) n L.post.length _ hold (.slice (some a) 1 c) 1 news hs (by omega) (by omega) (growslice_fits (by omega) OD)
   have qA:=grownCap_ge w (n+1) L.post.length e
   have wR:grownCap w (n+1) L.post.length e≤maxLen:=σ7 w (n+1) L.post.length e (by simp only [maxLen];omega)
   have hlen:(xs++news).length=(n+1)*i.size:=by rw [α4,Tt,hl,π0]
   refine⟨some ⟨w.heap.size,[],List.replicate (grownCap w (n+1) L.post.length e) undef,e⟩,w.drew.alloc (.cells ((xs++news).toArray++Builtin.zeroCells z.cells (grownCap w (n+1) L.post.length e - (n+1))) e),by rw [show 0+rm (some L)=L.post.length by simp [rm],hr];simp only [AK,δ0,rm,β2,ν2,δ1],⟨Be,.inr ⟨_,rfl,by simp,.inr ⟨0,[],xs++news,by simp,by simp,by rw [ν2];omega,Li,?_⟩⟩⟩,⟨rfl,rfl,rfl,by simp,fun k hk _=>heap_alloc_old w.drew _ hk⟩,.inr U⟩
   simp only [δ1,ξ2,ν2]
   refine⟨hlen,.inr ⟨w.heap.size,_,_,rfl,β7 _,heap_alloc_new w.drew _,by omega,wR,?_,?_⟩⟩
   ·simp only [ξ9,μ5,υ7,pC,hlen]
    rw [←θ6]
    congr 1
    omega
   ·simp only [Array.toList_append]
    rw [←hlen]
    exact σ8
end
section
variable {P:Program}{n:Nat}{ks:ae}{G0:Gr}{w0:World}{T:List (Nat×SV)}{H:Hp}{G:Gr}{a:Act}{w w':World}{ops:ah}{o:Oper}
def nZ (Y:Tb) (n:Nat) (ops:ah) (T:List (Nat×SV)) (H:Hp) (o:Oper):Option ((Nat×Nat×Nat×Nat)×(Nat→List SV)×List SV×(Nat×Nat)×Ob):=match DF n o.dst with
 | true =>match Av ops T o.guard with
  | some .run=>match o.op with
   | .call c=>match c.callee,c.args.toList,c.argTypes.toList with
    | .builtin .append,[x,y],[t,t']=>match DA T x,DA T y,Nat.beq t t' with
     | some (.sl i nn cc),some (.sl j 1 1),true=>match lg H i,lg H j,Y.get t with
      | some (some (.buf e s m f)),some (some (.blk cs)),some ti=>match ti.elm,FU cs with
       |some (e',s',b),some E=>match Nat.beq e e'&&Nat.beq s s'&&Nat.beq cs.length s&&Nat.ble b 10000&&HH 0 cs with
        |true=>some ((i,e,s,m),f,cs,(nn,cc),E)
        |false=>none
       |_,_=>none
      |_,_,_=>none
     |_,_,_=>none
    |_,_,_=>none
   |_=>none
  |_=>none
 |false=>none
theorem fX {Y:Tb} {i e s m nn cc:Nat} {f:Nat→List SV} {cs:List SV} {E:Ob} (hX:Y.ok P=true) (m':Nat) (f':Nat→List SV) (h:nZ Y n ops T H o=some ((i,e,s,m),f,cs,(nn,cc),E)) (hE:Dc E) (h1:nn=m) (h2:cc=0) (hb:m≤1000000) (PR:m'=m+1)
  (hf:∀k,k<m→f' k=f k) (hn:f' m=cs) (Be:∀k,∃vs,AO [] (f' k)=some vs∧vs.length=s):BG P n ops ks G0 w0 T H o (.sl H.length m' 0) (CE H i none++[some (.buf e s m' f')]):=by
 intro G a w A
 subst PR
 obtain⟨d,op,ty,pos,af,gd⟩:=o
 unfold nZ at h
 split at h
 ·next hd =>
  split at h
  ·next hg=>
   have hw:=A7 (gd:=none) A hg
   split at h
   ·next ca aJ=>
    simp only at aJ
    subst aJ
    obtain⟨callee,args,ats⟩:=ca
    simp only at h
    split at h
    ·next x y t t' ha ht=>
     split at h
     ·next i' nn' cc' j hx hy SL=>
      split at h
      ·next e' s' m' f1 cs' ti hi hj Fm=>
       split at h
       ·next e2 s2 b E' MK ZH=>
        split at h
        ·next En=>
         cases h
         subst h1;subst h2
         simp only [α3]at En
         obtain⟨⟨⟨⟨c1,c2⟩,c3⟩,c4⟩,c5⟩:=En
         have e1:=α5 c1
         have e2:=α5 c2
         have e3:=α5 c3
         have e4:=α5 SL
         have PS:=δ8 c4
         subst e1;subst e2;subst e4
         rw [At]at hi hj
         have FD:args= #[x,y]:=by have:=congrArg List.toArray ha;simpa using this
         have W3:ats= #[t,t]:=by have:=congrArg List.toArray ht;simpa using this
         subst FD;subst W3
         have CG:=A.mem.ent i _ hi
         obtain⟨L,vs,b1,b2,b3⟩:=A.mem.ent j _ hj
         obtain⟨ie,z,f1',f2',f3',f4',f5',f6',f7'⟩:=Cp (DJ (i:=ti) (Tb.at (X:=Y) hX Fm) MK)
         have Bb:=A.ev hx
         have C8:=A.ev hy
         obtain⟨q,hq⟩:∃q,G[i]?=some q:=by
          have:i<G.length:=by rw [←A.mem.len];exact(α0.1 hi).1
          exact⟨G[i],by simp [this]⟩
         rw [hq]at CG
         simp only [δ2]at CG
         unfold den at Bb C8
         rw [hq]at Bb
         rw [DB b1]at C8
         simp only [β1]at Bb C8
         have W4:AO [] cs=some vs:=by
          have:=BS (G:=G) cs c5
          simp only [θ4]at this
          rw [this];exact b2
         have FO:vs.length=s:=by rw [BF b2,e3]
         have Qr:=Ag.range (A.mem.ent j _ hj)
         obtain⟨L2,vs2,g1,g2,g3⟩:=Qr
         rw [b1]at g1;cases g1
         rw [b2]at g2;cases g2
         have Bc:=Cq ZH hE b2
         have hmul:(nn+1)*b≤1000001*10000:=μ2 (by omega) PS
         obtain⟨p',w',hr,k1,k2,k4⟩:=G9 (P:=P) w t ty e ie z s b f1' f2' f3' f4' f5' f6' CG ⟨L.b,L.pre.length,none⟩ (1+rm (some L)) cs vs W4 FO
          (fun j u hj=>by rw [ζ3];exact g3 j u hj) (fun u hu=>(δ3.1 Bc) u hu) hb (by omega) hf hn Be
         refine Ad (v:=.slice (AK p') (nn+1) (0+rm p')) (w':=w') hw ?_ ?_
         ·unfold execOp
          simp only [resolve,invoke,builtin,γ4,γ6,α9,θ0,ζ0,ι7,←Bb,←C8]
          simp only [δ0]at hr⊢
          simp only [hr,α9]
         ·have A2:=A.entMove (en':=.buf e s (nn+1) f') (p':=p') hi U U (by rw [hq];exact k2) k1 (by rw [hq];exact k4)
          refine⟨[p'],?_,A2.ms⟩
          unfold den
          rw [α1 (by rw [A.mem.len];exact β8 _),A.mem.len]
          simp
        ·cases h
       ·cases h
      ·cases h
     ·cases h
    ·cases h
   ·cases h
  ·cases h
 ·cases h
theorem Iz {e s m:Nat}{f:Nat→List SV}{p:Option Loc}(h:Ag G w p (.buf e s (m+1) f)):∃p':Option Loc,p'.map (·.b)=p.map (·.b)∧Ag [] w p' (.buf e s m (fun k=>f (k+1)))∧AK p'=(p.map fun L=>⟨L.b,L.pre.length+(if 0+rm p=1 then 0 else 1*s),none⟩)∧0+rm p'=0+rm p - 1:=by
 rcases h.2 with⟨_,q⟩|⟨L,rfl,BU,⟨q,_⟩|⟨d,ys,xs,q1,q2,q3,q4,q5⟩⟩
 ·omega
 ·omega
 ·have aN:m+1≤L.post.length:=by
   rcases q5.2 with⟨z,_⟩|⟨g,cap,cur,z,_,_,aN,_⟩
   ·simp at z
   ·simp only [θ8]at z;omega
  by_cases h1:L.post.length=1
  ·refine⟨some ⟨L.b,L.pre,[],L.t⟩,rfl,⟨fun k=>h.1 _,.inr ⟨_,rfl,BU,.inl ⟨by omega,rfl⟩⟩⟩,by simp [rm,h1],by simp [rm,h1]⟩
  ·obtain⟨c1,c2⟩:=WY (f:=f) (s:=s) h.1 (d:=1) (m:=m) (xs:=xs) (by rw [υ0];exact q4)
   rw [υ6]at c1 c2
   have Tt:=DG h.1 q4
   rw [π0]at Tt
   refine⟨some ⟨L.b,L.pre++List.replicate s undef,L.post.drop 1,L.t⟩,rfl,⟨fun k=>h.1 _,.inr ⟨_,rfl,BU,.inr ⟨d+1,ys++xs.take s,xs.drop s,by simp [q1,π0],by simp [q2,Tt,π0],by simp;omega,?_,?_⟩⟩⟩,by simp [rm,h1],by simp [rm]⟩
   ·rw [←c2];exact Dd fun k _=>by rw [υ0]
   ·simp only [γ3]
    rw [γ2,θ7,show d+1+m=d+(m+1) by omega,show d+1+(L.post.length - 1)=d+L.post.length by omega]
    exact q5
theorem Sy.takeB (A:Sy n T H ks G0 w0 G a w){e s m:Nat}{f:Nat→List SV}{p:Option Loc}(h:Ag [] w p (.buf e s m f))(Cy:∀L,p=some L→IC H G [L.b])(ho:∀L:Loc,p=some L→ks.contains L.b=true∨w0.heap.size≤L.b):Sy n T (H++[some (.buf e s m f)]) ks G0 w0 (G++[p]) a w:=
 A.addE (p:=p) (en:=.buf e s m f) h (fun i x L M h1 h2 h3 h4=>by
  have:=Cy M h3 i x L h1 h2 (h4.elim (·.1) fun q=>BI q.1)
  simpa using this) fun _ L hL=>ho L hL
theorem Sy.giveB (A:Sy n T H ks G0 w0 G a w)(i:Nat){e s m:Nat}{f:Nat→List SV}(hi:lg H i=some (some (.buf e s m f))):∃p,G[i]?=some p∧Ag [] w p (.buf e s m f)∧(∀L:Loc,p=some L→(ks.contains L.b=true∨w0.heap.size≤L.b)∧IC (CE H i none) G [L.b]):=by
 rw [At]at hi
 have hl:i<G.length:=by rw [←A.mem.len];exact(α0.1 hi).1
 have hG:G[i]?=some G[i]:=by simp [hl]
 have CG:=A.mem.ent i _ hi
 rw [hG]at CG
 refine⟨G[i],hG,CG,fun L hL=>?_⟩
 rw [hL]at hG
 refine⟨A.own i _ L hi U hG,fun j x M h1 h2 h3=>?_⟩
 rw [Aw]at h1
 have hj:j≠i:=fun q=>by subst q;rw [γ7 (α0.1 hi).1]at h1;cases h1
 rw [γ0 (ε9 hj)]at h1
 have:=A.mem.sep i j _ x L M (ε9 hj) hi h1 U hG h2 h3
 simp [ε9 this]
theorem HS {e s m:Nat}{f:Nat→List SV}{p:Option Loc}{ks:ae}(h:Ag G w p (.buf e s m f))(hk:∀L:Loc,p=some L→ks.contains L.b=false):AP (AK p) s m f w ks:=by
 refine⟨fun k=>by obtain⟨vs,h1,_⟩:=h.1 k;exact⟨vs,h1⟩,?_⟩
 rcases h.2 with⟨_,q⟩|⟨L,rfl,BU,_⟩
 ·exact .inl q
 ·refine .inr ⟨L.b,L.pre.length,rfl,BU,hk L U,fun k hk=>?_⟩
  obtain⟨M,vs,h1,h2,h3⟩:=MT h hk
  cases h1
  exact⟨vs,h2,h3⟩
theorem PO (h0:H.length=G.length)(i:Nat)(h:Nat.blt i H.length=true):∃q,G[i]?=some q:=by
 have h:i<G.length:=by rw [←h0];simpa [μ7]using h
 exact⟨G[i],by simp [h]⟩
theorem Sy.atp (A:Sy n T H ks G0 w0 G a w){i:Nat}{q:Option Loc}(h:G0[i]?=some q):G[i]?=some q:=by
 obtain⟨F,rfl⟩:=A.pre
 rw [α2 (α0.1 h).1];exact h
theorem Bj {i m:Nat}{q:Option Loc}(h:G[i]?=some q):den G (.sla (AK q) m (rm q))=den G (.sl i m 0):=by
 unfold den;rw [h];simp
theorem HA {x y:SV}(h:den G y=den G x):∀l r:List SV,AO G (l++y::r)=AO G (l++x::r)
 | [],r=>by simp only [ξ2];unfold AO;rw [h]
 |z::l,r=>by simp only [π4];unfold AO;rw [HA h l r]
theorem Sy.cellOne (A:Sy n T H ks G0 w0 G a w)(p:Nat)(l r:List SV){x y:SV}{H':Hp}(hd:den G y=den G x)(hi:lg H p=some (some (.blk (l++x::r))))(hH:CE H p (some (.blk (l++y::r)))=H'):Sy n T H' ks G0 w0 G a w:=
 A.cellEq p hi (HA hd l r) hH
end
end
namespace Mc
open Go.RowKit
set_option simprocs false
def KG (i:In)(b:Bool)(n:Int):Bool:=if((i.op==6)||(i.op==7))=true then n==0 else b
structure Wr where
 lc:Int
 o:Int
 s:Int
 v:Int
def Wr.z:Wr:=⟨0,0,1,0⟩
abbrev XM (x:Wr):List SV:=[.int .i64 x.lc,.int .i64 (AY x.o x.s),.int .i64 x.v]
abbrev Bh (l:List Wr):Nat→List SV:=fun zz=>XM (l.getD zz Wr.z)
def Aj (b0 b1 b2:List Wr)(th:Int):Int:=if th=0 then((b0.length:Nat):Int)else if th=1 then((b1.length:Nat):Int)else((b2.length:Nat):Int)
abbrev SZ (p:Option Loc)(b:List Wr):SV:=.sla (AK p) b.length (rm p)
abbrev bO (i:Nat)(m:Nat→Int)(x y z:SV):List SV:=[.ptr i 0,.int .i64 (m 0),.int .i64 (m 1),.int .i64 (m 2),x,y,z]
abbrev sE (i:Nat)(m:Nat→Int)(p:Nat→Option Loc)(b:Nat→List Wr):List SV:=bO i m (SZ (p 0) (b 0)) (SZ (p 1) (b 1)) (SZ (p 2) (b 2))
theorem fY (m:Nat→Int)(cs:List AD)(ts:List Th)(nn:Nat)(p0 p1 p2:Option Loc)(b0 b1 b2:List Wr):Fn Tryz.prog 39 [.ptr 0 0,.z9] [O (bO 1 m (SZ p0 b0) (SZ p1 b1) (SZ p2 b2)),O [.sl 2 nn 0],aq cs ts nn] (Rt (.int .i64 ((b0.length:Nat):Int)) [O (bO 1 m (SZ p0 b0) (SZ p1 b1) (SZ p2 b2)),O [.sl 2 nn 0],aq cs ts nn]):=
 AR (n:=18) (by kernel_rfl) Tryz.func39 U U U fun G w a h0 A=>N9 16 A U U fun A=>fork 10 A U
  (fun h1 A=>absurd h1 (by decide))
  (fun h1 A=>N9 10 A U (AE (by decide)<|AB) fun A=>have A:=AG A 15 (.ptr 0 4) U (Al 0 U);N9 6 A U U fun A=>R9 A U h0 U U U)
theorem fZ (m:Nat→Int)(cs:List AD)(ts:List Th)(nn:Nat)(p0 p1 p2:Option Loc)(b0 b1 b2:List Wr):Fn Tryz.prog 39 [.ptr 0 0,.n9 1] [O (bO 1 m (SZ p0 b0) (SZ p1 b1) (SZ p2 b2)),O [.sl 2 nn 0],aq cs ts nn] (Rt (.int .i64 ((b1.length:Nat):Int)) [O (bO 1 m (SZ p0 b0) (SZ p1 b1) (SZ p2 b2)),O [.sl 2 nn 0],aq cs ts nn]):=
 AR (n:=18) (by kernel_rfl) Tryz.func39 U U U fun G w a h0 A=>N9 16 A U U fun A=>fork 10 A U
  (fun h1 A=>absurd h1 (by decide))
  (fun h1 A=>N9 10 A U (AE (by decide)<|AB) fun A=>have A:=AG A 15 (.ptr 0 5) U (Al 1 U);N9 6 A U U fun A=>R9 A U h0 U U U)
theorem gA (m:Nat→Int)(cs:List AD)(ts:List Th)(nn:Nat)(p0 p1 p2:Option Loc)(b0 b1 b2:List Wr):Fn Tryz.prog 39 [.ptr 0 0,.n9 2] [O (bO 1 m (SZ p0 b0) (SZ p1 b1) (SZ p2 b2)),O [.sl 2 nn 0],aq cs ts nn] (Rt (.int .i64 ((b2.length:Nat):Int)) [O (bO 1 m (SZ p0 b0) (SZ p1 b1) (SZ p2 b2)),O [.sl 2 nn 0],aq cs ts nn]):=
 AR (n:=18) (by kernel_rfl) Tryz.func39 U U U fun G w a h0 A=>N9 16 A U U fun A=>fork 10 A U
  (fun h1 A=>absurd h1 (by decide))
  (fun h1 A=>N9 10 A U (AE (by decide)<|AB) fun A=>have A:=AG A 15 (.ptr 0 6) U (Al 2 U);N9 6 A U U fun A=>R9 A U h0 U U U)
theorem SG (m:Nat→Int)(cs:List AD)(ts:List Th)(nn:Nat)(p0 p1 p2:Option Loc)(b0 b1 b2:List Wr)(th:Int)(Bo:0≤th∧th<3):Fn Tryz.prog 39 [.ptr 0 0,.n9 th] [O (bO 1 m (SZ p0 b0) (SZ p1 b1) (SZ p2 b2)),O [.sl 2 nn 0],aq cs ts nn] (Rt (.int .i64 (Aj b0 b1 b2 th)) [O (bO 1 m (SZ p0 b0) (SZ p1 b1) (SZ p2 b2)),O [.sl 2 nn 0],aq cs ts nn]):=by
 rcases PX Bo with rfl|rfl|rfl
 ·exact fY m cs ts nn p0 p1 p2 b0 b1 b2
 ·exact fZ m cs ts nn p0 p1 p2 b0 b1 b2
 ·exact gA m cs ts nn p0 p1 p2 b0 b1 b2
theorem tW (m:Nat→Int)(cs:List AD)(ts:List Th)(nn:Nat)(p0 p1 p2:Option Loc)(b0 b1 b2:List Wr)(th:Int)(hC:Ac cs ts nn)(Bo:0≤th∧th<((nn:Nat):Int))(Cx:nn≤3):BQ (AH cs) Tryz.prog 77 [.ptr 0 0,.n9 th] [O (bO 1 m (SZ p0 b0) (SZ p1 b1) (SZ p2 b2)),O [.sl 2 nn 0],aq cs ts nn] (Rt (.bool (KG (Ea cs ts th) (!((((Nk ts th).at_:Nat):Int)==(((cs.getD (th.toNat) AD.z).l.length:Nat):Int))) ((Aj b0 b1 b2) th))) [O (bO 1 m (SZ p0 b0) (SZ p1 b1) (SZ p2 b2)),O [.sl 2 nn 0],aq cs ts nn]):=
 Aa (n:=29) (by kernel_rfl) Tryz.func77 U U U fun G w a h0 hI A=>N9 12 A U U fun A=>I9 [1,2] AH.ok hI (C1 cs ts nn th hC (by omega)) A U fun A=>N9 21 A U U fun A=>fork 23 A U
  (fun h1 A=>by exact(N9 5 A U U fun A=>C9 [0,1,2] (SG m cs ts nn p0 p1 p2 b0 b1 b2 th (by omega)) A U fun A=>N9 5 A U U fun A=>R9 A U h0 U (by unfold KG;rw [if_pos h1]<;>rfl) U))
  (fun h1 A=>N9 10 A U U fun A=>R9 A U h0 U (by unfold KG;rw [if_neg (α7 h1)]<;>rfl) U)
end Mc
namespace Mc
open Go.RowKit
set_option simprocs false
def Ab (cs:List AD)(ts:List Th)(bn:Int→Int):Nat→List Mv
 |0=>[]
 |k+1=>Ab cs ts bn k++(if(KG (Ea cs ts (k:Int)) (!((((Nk ts (k:Int)).at_:Nat):Int)==(((cs.getD (((k:Int)).toNat) AD.z).l.length:Nat):Int))) (bn (k:Int)))=true then [(2,(k:Int),(((Nk ts (k:Int)).at_:Nat):Int))]else [])++(if bn (k:Int)>0 then [(3,(k:Int),0)]else [])
theorem Co (cs:List AD)(ts:List Th)(bn:Int→Int):∀k,(Ab cs ts bn k).length≤2*k
 |0=>β8 _
 |k+1=>by
  have h:=Co cs ts bn k
  unfold Ab
  simp only [α4]
  split<;>split<;>simp<;>omega
theorem MI (m:Nat→Int)(cs:List AD)(ts:List Th)(nn:Nat)(p0 p1 p2:Option Loc)(b0 b1 b2:List Wr)(hC:Ac cs ts nn)(Cx:nn≤3):BQ (AH cs) Tryz.prog 35 [.ptr 0 0] [O (bO 1 m (SZ p0 b0) (SZ p1 b1) (SZ p2 b2)),O [.sl 2 nn 0],aq cs ts nn] (Rt (.sl 3 ((Ab cs ts (Aj b0 b1 b2) nn).length) 0) [O (bO 1 m (SZ p0 b0) (SZ p1 b1) (SZ p2 b2)),O [.sl 2 nn 0],aq cs ts nn,some (.row 44 4 ((Ab cs ts (Aj b0 b1 b2) nn).length) 0 (B4 (Ab cs ts (Aj b0 b1 b2) nn)))]):=
 Aa (n:=38) (by kernel_rfl) Tryz.func35 U U U fun G w a h0 hI A=>N9 12 A U U fun A=>have A:=A.nilRow 3 44 4 (B4 []) U (fun z=>⟨_,rfl,rfl⟩);N9 5 A U U fun A=>C9 [1,2] (HO cs ts nn) A U fun A=>N9 4 A U U fun A=>Bq (fun(k:Nat)=>[(0,.ptr 0 0),(2,.sla none 0 0),(3,.sl 3 ((Ab cs ts (Aj b0 b1 b2) k).length) 0),(9,.n9 ((nn:Nat):Int)),(10,.n9 (k:Int))]) (fun(k:Nat)=>[O (bO 1 m (SZ p0 b0) (SZ p1 b1) (SZ p2 b2)),O [.sl 2 nn 0],aq cs ts nn,some (.row 44 4 ((Ab cs ts (Aj b0 b1 b2) k).length) 0 (B4 (Ab cs ts (Aj b0 b1 b2) k)))]) (fun(k:Nat)=>k≤nn) (fun(k:Nat)=>nn - k) 0 (β7 _) ((A.cut [0,2,3,9,10] U).trunc 4 U U U (CL h0 U)) fun k hK {G a w} A=>N9 6 A U U fun A=>AU 11 A U
   (fun h1 A=>by exact(N9 16 A U U fun A=>I9 [0,1,2] AH.ok hI (tW m cs ts nn p0 p1 p2 b0 b1 b2 (k:Int) hC (by omega) Cx) A U fun A=>N9 2 A U U fun A=>fork 15 A U
    (fun h2 A=>by exact(N9 9 A U U fun A=>C9 [1,2] (Ri cs ts nn (k:Int) (by omega)) A U fun A=>N9 2 A U U fun A=>Hw hX ((Ab cs ts (Aj b0 b1 b2) k).length+1) (B4 ((Ab cs ts (Aj b0 b1 b2) k)++[(2,(k:Int),(((Nk ts (k:Int)).at_:Nat):Int))])) A U U U U (by have:=Co cs ts (Aj b0 b1 b2) k;first|omega|(simp only [α4,β0,β2];omega)) U (fun q hq=>by show FR _=FR _;rw [E7 hq]) (by show FR _=_;rw [E8]) (fun z=>⟨_,rfl,rfl⟩) fun A=>have A:=(A.rowAs 5 (((Ab cs ts (Aj b0 b1 b2) k)++[(2,(k:Int),(((Nk ts (k:Int)).at_:Nat):Int))]).length) (B4 ((Ab cs ts (Aj b0 b1 b2) k)++[(2,(k:Int),(((Nk ts (k:Int)).at_:Nat):Int))])) U (PY _ _) (fun q hq=>rfl) (fun z=>⟨_,rfl,rfl⟩)).say 26 (.sl 5 (((Ab cs ts (Aj b0 b1 b2) k)++[(2,(k:Int),(((Nk ts (k:Int)).at_:Nat):Int))]).length) 0) U (Rr _ _ _);N9 7 A U U fun A=>C9 [0,1,2] (SG m cs ts nn p0 p1 p2 b0 b1 b2 (k:Int) (by omega)) A U fun A=>N9 3 A U U fun A=>AU 30 A U
     (fun h3 A=>by exact(N9 6 A U U fun A=>Hw hX (((Ab cs ts (Aj b0 b1 b2) k)++[(2,(k:Int),(((Nk ts (k:Int)).at_:Nat):Int))]).length+1) (B4 (((Ab cs ts (Aj b0 b1 b2) k)++[(2,(k:Int),(((Nk ts (k:Int)).at_:Nat):Int))])++[(3,(k:Int),0)])) A U U U U (by have:=Co cs ts (Aj b0 b1 b2) k;first|omega|(simp only [α4,β0,β2];omega)) U (fun q hq=>by show FR _=FR _;rw [E7 hq]) (by show FR _=_;rw [E8]) (fun z=>⟨_,rfl,rfl⟩) fun A=>have A:=(A.rowAs 7 ((((Ab cs ts (Aj b0 b1 b2) k)++[(2,(k:Int),(((Nk ts (k:Int)).at_:Nat):Int))])++[(3,(k:Int),0)]).length) (B4 (((Ab cs ts (Aj b0 b1 b2) k)++[(2,(k:Int),(((Nk ts (k:Int)).at_:Nat):Int))])++[(3,(k:Int),0)])) U (PY _ _) (fun q hq=>rfl) (fun z=>⟨_,rfl,rfl⟩)).say 35 (.sl 7 ((((Ab cs ts (Aj b0 b1 b2) k)++[(2,(k:Int),(((Nk ts (k:Int)).at_:Nat):Int))])++[(3,(k:Int),0)]).length) 0) U (Rr _ _ _);N9 8 A U (AE (by omega)<|AB) fun A=>⟨k+1,_,(by omega),(by omega),(((Sy.mvA 7 3 (show(Ab cs ts (Aj b0 b1 b2) (k+1))=(((Ab cs ts (Aj b0 b1 b2) k)++[(2,(k:Int),(((Nk ts (k:Int)).at_:Nat):Int))])++[(3,(k:Int),0)]) by show _++_++_=_;rw [if_pos h2,if_pos h3]) A U U).cut [0,2,3,9,10] U).mv 3 [7] U U U U (by simp only [β0,β2]at h0;omega)).sayT (by rfl)⟩))
     (fun h3 A=>by exact(N9 8 A U (AE (by omega)<|AB) fun A=>⟨k+1,_,(by omega),(by omega),(((Sy.mvA 5 3 (show(Ab cs ts (Aj b0 b1 b2) (k+1))=((Ab cs ts (Aj b0 b1 b2) k)++[(2,(k:Int),(((Nk ts (k:Int)).at_:Nat):Int))]) by show _++_++_=_;rw [if_pos h2,if_neg h3];simp only [ε0]) A U U).cut [0,2,3,9,10] U).mv 3 [5] U U U U (by simp only [β0,β2]at h0;omega)).sayT (by rfl)⟩))))
    (fun h2 A=>by exact(N9 7 A U U fun A=>C9 [0,1,2] (SG m cs ts nn p0 p1 p2 b0 b1 b2 (k:Int) (by omega)) A U fun A=>N9 3 A U U fun A=>AU 30 A U
     (fun h4 A=>by exact(N9 6 A U U fun A=>Hw hX ((Ab cs ts (Aj b0 b1 b2) k).length+1) (B4 ((Ab cs ts (Aj b0 b1 b2) k)++[(3,(k:Int),0)])) A U U U U (by have:=Co cs ts (Aj b0 b1 b2) k;first|omega|(simp only [α4,β0,β2];omega)) U (fun q hq=>by show FR _=FR _;rw [E7 hq]) (by show FR _=_;rw [E8]) (fun z=>⟨_,rfl,rfl⟩) fun A=>have A:=(A.rowAs 5 (((Ab cs ts (Aj b0 b1 b2) k)++[(3,(k:Int),0)]).length) (B4 ((Ab cs ts (Aj b0 b1 b2) k)++[(3,(k:Int),0)])) U (PY _ _) (fun q hq=>rfl) (fun z=>⟨_,rfl,rfl⟩)).say 35 (.sl 5 (((Ab cs ts (Aj b0 b1 b2) k)++[(3,(k:Int),0)]).length) 0) U (Rr _ _ _);N9 8 A U (AE (by omega)<|AB) fun A=>⟨k+1,_,(by omega),(by omega),(((Sy.mvA 5 3 (show(Ab cs ts (Aj b0 b1 b2) (k+1))=((Ab cs ts (Aj b0 b1 b2) k)++[(3,(k:Int),0)]) by show _++_++_=_;rw [if_neg (α7 h2),if_pos h4];simp only [ε0]) A U U).cut [0,2,3,9,10] U).mv 3 [5] U U U U (by simp only [β0,β2]at h0;omega)).sayT (by rfl)⟩))
     (fun h4 A=>by exact(N9 8 A U (AE (by omega)<|AB) fun A=>⟨k+1,_,(by omega),(by omega),(((Sy.mvA 3 3 (show(Ab cs ts (Aj b0 b1 b2) (k+1))=(Ab cs ts (Aj b0 b1 b2) k) by show _++_++_=_;rw [if_neg (α7 h2),if_neg h4];simp only [ε0]) A U U).cut [0,2,3,9,10] U).trunc 4 U U U (CL h0 U)).sayT (by rfl)⟩))))))
   (fun h1 A=>by exact(N9 4 A U U fun A=>have GY:k=nn:=(by omega);have A:=Sy.mvA 3 3 (l':=Ab cs ts (Aj b0 b1 b2) nn) (by rw [GY]) A U U;N9 6 A U U fun A=>KC hX [3] A ⟨rfl,rfl⟩ U U U U U U U U h0))
theorem gB (m:Nat→Int)(cs:List AD)(ts:List Th)(nn:Nat)(p0 p1 p2:Option Loc)(b0 b1 b2:List Wr)(hC:Ac cs ts nn)(Cx:nn≤3):BQ (AH cs) Tryz.prog 36 [.ptr 0 0] [O (bO 1 m (SZ p0 b0) (SZ p1 b1) (SZ p2 b2)),O [.sl 2 nn 0],aq cs ts nn] (Rt (.bool ((((Ab cs ts (Aj b0 b1 b2) nn).length:Nat):Int)==0)) [O (bO 1 m (SZ p0 b0) (SZ p1 b1) (SZ p2 b2)),O [.sl 2 nn 0],aq cs ts nn]):=
 Aa (n:=7) (by kernel_rfl) Tryz.func36 U U U fun G w a h0 hI A=>N9 8 A U U fun A=>I9 [0,1,2] AH.ok hI (MI m cs ts nn p0 p1 p2 b0 b1 b2 hC Cx) A U fun A=>N9 6 A U U fun A=>R9 A U h0 U U U
theorem n0 (m:Nat→Int)(cs:List AD)(ts:List Th)(nn:Nat)(p0 p1 p2:Option Loc)(b0 b1 b2:List Wr)(q:Int)(hq:0≤q∧q<3):Fn Tryz.prog 40 [.ptr 0 0,.n9 q] [O (bO 1 m (SZ p0 b0) (SZ p1 b1) (SZ p2 b2)),O [.sl 2 nn 0],aq cs ts nn] (Rt (.int .i64 (m q.toNat)) [O (bO 1 m (SZ p0 b0) (SZ p1 b1) (SZ p2 b2)),O [.sl 2 nn 0],aq cs ts nn]):=
 AR (n:=10) (by kernel_rfl) Tryz.func40 U U U fun G w a h0 A=>N9 11 A U U fun A=>Af A U (Nf (l:=[.ptr 1 0]) (r:=[.sla (AK p0) b0.length (rm p0),.sla (AK p1) b1.length (rm p1),.sla (AK p2) b2.length (rm p2)]) (I:=fun _ _=>True) (fun _ _ _ _ _ _ _=>trivial) trivial (cU m q hq).toI U U U U U) fun A=>N9 4 A U U fun A=>R9 A U h0 U U U
end Mc
namespace Mc
open Go.RowKit
set_option simprocs false
def Cr (m:Nat→Int)(l:List Wr):Nat→(Nat→Int)
 |0=>m
 |k+1=>AX (Cr m l k) ((l.getD k Wr.z).lc).toNat (AM ((Cr m l k) ((l.getD k Wr.z).lc).toNat) (l.getD k Wr.z).o (l.getD k Wr.z).s (l.getD k Wr.z).v)
theorem WZ (m:Nat→Int)(cs:List AD)(ts:List Th)(nn:Nat)(p1 p2:Option Loc)(b0 b1 b2:List Wr)(hW:∀k,k<b0.length→(0≤(b0.getD k Wr.z).lc∧(b0.getD k Wr.z).lc<3)∧OS (b0.getD k Wr.z).o (b0.getD k Wr.z).s)(Er:b0.length≤1000000)(Bw:0<b0.length):BQ (FL) Tryz.prog 73 [.ptr 0 0,.z9] [O (bO 1 m (.sl 3 b0.length 0) (SZ p1 b1) (SZ p2 b2)),O [.sl 2 nn 0],aq cs ts nn,some (.buf 123 3 b0.length (Bh b0))] (Rt (.tup []) [O (bO 1 (AX m ((b0.getD 0 Wr.z).lc).toNat (AM (m ((b0.getD 0 Wr.z).lc).toNat) (b0.getD 0 Wr.z).o (b0.getD 0 Wr.z).s (b0.getD 0 Wr.z).v)) (.st 3 3 1 (b0.length - 1) 0) (SZ p1 b1) (SZ p2 b2)),O [.sl 2 nn 0],aq cs ts nn,some (.buf 123 3 b0.length (Bh b0))]):=
 Aa (n:=33) (by kernel_rfl) Tryz.func73 U U U fun G w a h0 hI A=>N9 7 A U (AE (by omega)<|AB) fun A=>have A:=AG A 9 (.ptr 0 4) U (Al 0 U);N9 8 A U (AE (by omega)<|AE (by omega)<|AB) fun A=>A9 hX BW [] [(7,.tup [],[O (bO 1 (AX m ((b0.getD 0 Wr.z).lc).toNat (AM (m ((b0.getD 0 Wr.z).lc).toNat) (b0.getD 0 Wr.z).o (b0.getD 0 Wr.z).s (b0.getD 0 Wr.z).v)) (.sl 3 b0.length 0) (SZ p1 b1) (SZ p2 b2)),O [.sl 2 nn 0],aq cs ts nn,some (.buf 123 3 b0.length (Bh b0)),O [.n9 ((b0.getD 0 Wr.z).lc),.n9 (AY (b0.getD 0 Wr.z).o (b0.getD 0 Wr.z).s),.n9 ((b0.getD 0 Wr.z).v)]])] A U U U U (by kernel_rfl) ⟨Nf (l:=[.ptr 1 0]) (r:=[.sl 3 b0.length 0,.sla (AK p1) b1.length (rm p1),.sla (AK p2) b2.length (rm p2)]) AP.ok hI (F5 m (b0.getD 0 Wr.z).lc (b0.getD 0 Wr.z).o (b0.getD 0 Wr.z).s (b0.getD 0 Wr.z).v (hW _ Bw).1 (hW _ Bw).2) U U U U U,trivial⟩ trivial fun A=>N9 1 A U U fun A=>GL BW [.ptr 0 0,.z9,.ptr 0 0,.z9,.ptr 0 0,.ptr 0 4,.ptr 0 4,.sl 3 b0.length 0,.st 3 3 1 (b0.length - 1) 0,.ptr 0 0,.ptr 0 4,.ptr 0 4,.tup []] [12] [] 0 [([],[],[O (bO 1 (AX m ((b0.getD 0 Wr.z).lc).toNat (AM (m ((b0.getD 0 Wr.z).lc).toNat) (b0.getD 0 Wr.z).o (b0.getD 0 Wr.z).s (b0.getD 0 Wr.z).v)) (.sl 3 b0.length 0) (SZ p1 b1) (SZ p2 b2)),O [.sl 2 nn 0],aq cs ts nn,some (.buf 123 3 b0.length (Bh b0)),O [.n9 ((b0.getD 0 Wr.z).lc),.n9 (AY (b0.getD 0 Wr.z).o (b0.getD 0 Wr.z).s),.n9 ((b0.getD 0 Wr.z).v)]]),([12],[],[O (bO 1 (AX m ((b0.getD 0 Wr.z).lc).toNat (AM (m ((b0.getD 0 Wr.z).lc).toNat) (b0.getD 0 Wr.z).o (b0.getD 0 Wr.z).s (b0.getD 0 Wr.z).v)) (.st 3 3 1 (b0.length - 1) 0) (SZ p1 b1) (SZ p2 b2)),O [.sl 2 nn 0],aq cs ts nn,some (.buf 123 3 b0.length (Bh b0)),O [.n9 ((b0.getD 0 Wr.z).lc),.n9 (AY (b0.getD 0 Wr.z).o (b0.getD 0 Wr.z).s),.n9 ((b0.getD 0 Wr.z).v)]])] [[true,true,true,true,true,true,true,true,true,true,true,true,true],[false,false,false,false,false,false,false,false,false,true,true,false,false]] A U U U U (by kernel_rfl) U (by kernel_rfl) ⟨⟨AJ 0 U U,⟨AJ 0 U U,⟨AJ 0 U U,⟨AJ 0 U U,⟨AJ 0 U U,⟨AJ 0 U U,⟨BB 0 U (BP (x:=.ix (.ptr 0 4) 1 3 0 0) (Al 0 U) (AT (X:=⟨_,true⟩) (out:=.val _ _) hX U (AE (by omega)<|AB))),⟨AJ 0 U U,⟨BB 0 U (BP (x:=.st 3 3 ((1:Int).toNat) (b0.length - (1:Int).toNat) 0) (fun _=>rfl) (AT (X:=⟨_,true⟩) (out:=.val _ _) hX U (AE (by omega)<|AB))),⟨AJ 0 U U,⟨AJ 0 U U,⟨BB 0 U (BP (x:=.ix (.ptr 0 4) 1 3 0 0) (Al 0 U) (AT (X:=⟨_,true⟩) (out:=.val _ _) hX U (AE (by omega)<|AB))),⟨BB 1 U (AT (X:=⟨_,true⟩) (out:=.upd 0 (bO 1 (AX m ((b0.getD 0 Wr.z).lc).toNat (AM (m ((b0.getD 0 Wr.z).lc).toNat) (b0.getD 0 Wr.z).o (b0.getD 0 Wr.z).s (b0.getD 0 Wr.z).v)) (.st 3 3 1 (b0.length - 1) 0) (SZ p1 b1) (SZ p2 b2)) _) hX U U),trivial⟩⟩⟩⟩⟩⟩⟩⟩⟩⟩⟩⟩⟩,⟨⟨AJ 1 U U,⟨AJ 1 U U,trivial⟩⟩,trivial⟩⟩ fun A=>GP (R9 A U h0 U U U)
theorem Wa (m:Nat→Int)(cs:List AD)(ts:List Th)(nn:Nat)(p0 p2:Option Loc)(b0 b1 b2:List Wr)(hW:∀k,k<b1.length→(0≤(b1.getD k Wr.z).lc∧(b1.getD k Wr.z).lc<3)∧OS (b1.getD k Wr.z).o (b1.getD k Wr.z).s)(Er:b1.length≤1000000)(Bw:0<b1.length):BQ (FL) Tryz.prog 73 [.ptr 0 0,.n9 1] [O (bO 1 m (SZ p0 b0) (.sl 3 b1.length 0) (SZ p2 b2)),O [.sl 2 nn 0],aq cs ts nn,some (.buf 123 3 b1.length (Bh b1))] (Rt (.tup []) [O (bO 1 (AX m ((b1.getD 0 Wr.z).lc).toNat (AM (m ((b1.getD 0 Wr.z).lc).toNat) (b1.getD 0 Wr.z).o (b1.getD 0 Wr.z).s (b1.getD 0 Wr.z).v)) (SZ p0 b0) (.st 3 3 1 (b1.length - 1) 0) (SZ p2 b2)),O [.sl 2 nn 0],aq cs ts nn,some (.buf 123 3 b1.length (Bh b1))]):=
 Aa (n:=33) (by kernel_rfl) Tryz.func73 U U U fun G w a h0 hI A=>N9 7 A U (AE (by omega)<|AB) fun A=>have A:=AG A 9 (.ptr 0 5) U (Al 1 U);N9 8 A U (AE (by omega)<|AE (by omega)<|AB) fun A=>A9 hX BW [] [(7,.tup [],[O (bO 1 (AX m ((b1.getD 0 Wr.z).lc).toNat (AM (m ((b1.getD 0 Wr.z).lc).toNat) (b1.getD 0 Wr.z).o (b1.getD 0 Wr.z).s (b1.getD 0 Wr.z).v)) (SZ p0 b0) (.sl 3 b1.length 0) (SZ p2 b2)),O [.sl 2 nn 0],aq cs ts nn,some (.buf 123 3 b1.length (Bh b1)),O [.n9 ((b1.getD 0 Wr.z).lc),.n9 (AY (b1.getD 0 Wr.z).o (b1.getD 0 Wr.z).s),.n9 ((b1.getD 0 Wr.z).v)]])] A U U U U (by kernel_rfl) ⟨Nf (l:=[.ptr 1 0]) (r:=[.sla (AK p0) b0.length (rm p0),.sl 3 b1.length 0,.sla (AK p2) b2.length (rm p2)]) AP.ok hI (F5 m (b1.getD 0 Wr.z).lc (b1.getD 0 Wr.z).o (b1.getD 0 Wr.z).s (b1.getD 0 Wr.z).v (hW _ Bw).1 (hW _ Bw).2) U U U U U,trivial⟩ trivial fun A=>N9 1 A U U fun A=>GL BW [.ptr 0 0,.n9 1,.ptr 0 0,.n9 1,.ptr 0 0,.ptr 0 4,.ptr 0 5,.sl 3 b1.length 0,.st 3 3 1 (b1.length - 1) 0,.ptr 0 0,.ptr 0 4,.ptr 0 5,.tup []] [12] [] 0 [([],[],[O (bO 1 (AX m ((b1.getD 0 Wr.z).lc).toNat (AM (m ((b1.getD 0 Wr.z).lc).toNat) (b1.getD 0 Wr.z).o (b1.getD 0 Wr.z).s (b1.getD 0 Wr.z).v)) (SZ p0 b0) (.sl 3 b1.length 0) (SZ p2 b2)),O [.sl 2 nn 0],aq cs ts nn,some (.buf 123 3 b1.length (Bh b1)),O [.n9 ((b1.getD 0 Wr.z).lc),.n9 (AY (b1.getD 0 Wr.z).o (b1.getD 0 Wr.z).s),.n9 ((b1.getD 0 Wr.z).v)]]),([12],[],[O (bO 1 (AX m ((b1.getD 0 Wr.z).lc).toNat (AM (m ((b1.getD 0 Wr.z).lc).toNat) (b1.getD 0 Wr.z).o (b1.getD 0 Wr.z).s (b1.getD 0 Wr.z).v)) (SZ p0 b0) (.st 3 3 1 (b1.length - 1) 0) (SZ p2 b2)),O [.sl 2 nn 0],aq cs ts nn,some (.buf 123 3 b1.length (Bh b1)),O [.n9 ((b1.getD 0 Wr.z).lc),.n9 (AY (b1.getD 0 Wr.z).o (b1.getD 0 Wr.z).s),.n9 ((b1.getD 0 Wr.z).v)]])] [[true,true,true,true,true,true,true,true,true,true,true,true,true],[false,false,false,false,false,false,false,false,false,true,true,false,false]] A U U U U (by kernel_rfl) U (by kernel_rfl) ⟨⟨AJ 0 U U,⟨AJ 0 U U,⟨AJ 0 U U,⟨AJ 0 U U,⟨AJ 0 U U,⟨AJ 0 U U,⟨BB 0 U (BP (x:=.ix (.ptr 0 4) 1 3 1 0) (Al 1 U) (AT (X:=⟨_,true⟩) (out:=.val _ _) hX U (AE (by omega)<|AB))),⟨AJ 0 U U,⟨BB 0 U (BP (x:=.st 3 3 ((1:Int).toNat) (b1.length - (1:Int).toNat) 0) (fun _=>rfl) (AT (X:=⟨_,true⟩) (out:=.val _ _) hX U (AE (by omega)<|AB))),⟨AJ 0 U U,⟨AJ 0 U U,⟨BB 0 U (BP (x:=.ix (.ptr 0 4) 1 3 1 0) (Al 1 U) (AT (X:=⟨_,true⟩) (out:=.val _ _) hX U (AE (by omega)<|AB))),⟨BB 1 U (AT (X:=⟨_,true⟩) (out:=.upd 0 (bO 1 (AX m ((b1.getD 0 Wr.z).lc).toNat (AM (m ((b1.getD 0 Wr.z).lc).toNat) (b1.getD 0 Wr.z).o (b1.getD 0 Wr.z).s (b1.getD 0 Wr.z).v)) (SZ p0 b0) (.st 3 3 1 (b1.length - 1) 0) (SZ p2 b2)) _) hX U U),trivial⟩⟩⟩⟩⟩⟩⟩⟩⟩⟩⟩⟩⟩,⟨⟨AJ 1 U U,⟨AJ 1 U U,trivial⟩⟩,trivial⟩⟩ fun A=>GP (R9 A U h0 U U U)
theorem Wb (m:Nat→Int)(cs:List AD)(ts:List Th)(nn:Nat)(p0 p1:Option Loc)(b0 b1 b2:List Wr)(hW:∀k,k<b2.length→(0≤(b2.getD k Wr.z).lc∧(b2.getD k Wr.z).lc<3)∧OS (b2.getD k Wr.z).o (b2.getD k Wr.z).s)(Er:b2.length≤1000000)(Bw:0<b2.length):BQ (FL) Tryz.prog 73 [.ptr 0 0,.n9 2] [O (bO 1 m (SZ p0 b0) (SZ p1 b1) (.sl 3 b2.length 0)),O [.sl 2 nn 0],aq cs ts nn,some (.buf 123 3 b2.length (Bh b2))] (Rt (.tup []) [O (bO 1 (AX m ((b2.getD 0 Wr.z).lc).toNat (AM (m ((b2.getD 0 Wr.z).lc).toNat) (b2.getD 0 Wr.z).o (b2.getD 0 Wr.z).s (b2.getD 0 Wr.z).v)) (SZ p0 b0) (SZ p1 b1) (.st 3 3 1 (b2.length - 1) 0)),O [.sl 2 nn 0],aq cs ts nn,some (.buf 123 3 b2.length (Bh b2))]):=
 Aa (n:=33) (by kernel_rfl) Tryz.func73 U U U fun G w a h0 hI A=>N9 7 A U (AE (by omega)<|AB) fun A=>have A:=AG A 9 (.ptr 0 6) U (Al 2 U);N9 8 A U (AE (by omega)<|AE (by omega)<|AB) fun A=>A9 hX BW [] [(7,.tup [],[O (bO 1 (AX m ((b2.getD 0 Wr.z).lc).toNat (AM (m ((b2.getD 0 Wr.z).lc).toNat) (b2.getD 0 Wr.z).o (b2.getD 0 Wr.z).s (b2.getD 0 Wr.z).v)) (SZ p0 b0) (SZ p1 b1) (.sl 3 b2.length 0)),O [.sl 2 nn 0],aq cs ts nn,some (.buf 123 3 b2.length (Bh b2)),O [.n9 ((b2.getD 0 Wr.z).lc),.n9 (AY (b2.getD 0 Wr.z).o (b2.getD 0 Wr.z).s),.n9 ((b2.getD 0 Wr.z).v)]])] A U U U U (by kernel_rfl) ⟨Nf (l:=[.ptr 1 0]) (r:=[.sla (AK p0) b0.length (rm p0),.sla (AK p1) b1.length (rm p1),.sl 3 b2.length 0]) AP.ok hI (F5 m (b2.getD 0 Wr.z).lc (b2.getD 0 Wr.z).o (b2.getD 0 Wr.z).s (b2.getD 0 Wr.z).v (hW _ Bw).1 (hW _ Bw).2) U U U U U,trivial⟩ trivial fun A=>N9 1 A U U fun A=>GL BW [.ptr 0 0,.n9 2,.ptr 0 0,.n9 2,.ptr 0 0,.ptr 0 4,.ptr 0 6,.sl 3 b2.length 0,.st 3 3 1 (b2.length - 1) 0,.ptr 0 0,.ptr 0 4,.ptr 0 6,.tup []] [12] [] 0 [([],[],[O (bO 1 (AX m ((b2.getD 0 Wr.z).lc).toNat (AM (m ((b2.getD 0 Wr.z).lc).toNat) (b2.getD 0 Wr.z).o (b2.getD 0 Wr.z).s (b2.getD 0 Wr.z).v)) (SZ p0 b0) (SZ p1 b1) (.sl 3 b2.length 0)),O [.sl 2 nn 0],aq cs ts nn,some (.buf 123 3 b2.length (Bh b2)),O [.n9 ((b2.getD 0 Wr.z).lc),.n9 (AY (b2.getD 0 Wr.z).o (b2.getD 0 Wr.z).s),.n9 ((b2.getD 0 Wr.z).v)]]),([12],[],[O (bO 1 (AX m ((b2.getD 0 Wr.z).lc).toNat (AM (m ((b2.getD 0 Wr.z).lc).toNat) (b2.getD 0 Wr.z).o (b2.getD 0 Wr.z).s (b2.getD 0 Wr.z).v)) (SZ p0 b0) (SZ p1 b1) (.st 3 3 1 (b2.length - 1) 0)),O [.sl 2 nn 0],aq cs ts nn,some (.buf 123 3 b2.length (Bh b2)),O [.n9 ((b2.getD 0 Wr.z).lc),.n9 (AY (b2.getD 0 Wr.z).o (b2.getD 0 Wr.z).s),.n9 ((b2.getD 0 Wr.z).v)]])] [[true,true,true,true,true,true,true,true,true,true,true,true,true],[false,false,false,false,false,false,false,false,false,true,true,false,false]] A U U U U (by kernel_rfl) U (by kernel_rfl) ⟨⟨AJ 0 U U,⟨AJ 0 U U,⟨AJ 0 U U,⟨AJ 0 U U,⟨AJ 0 U U,⟨AJ 0 U U,⟨BB 0 U (BP (x:=.ix (.ptr 0 4) 1 3 2 0) (Al 2 U) (AT (X:=⟨_,true⟩) (out:=.val _ _) hX U (AE (by omega)<|AB))),⟨AJ 0 U U,⟨BB 0 U (BP (x:=.st 3 3 ((1:Int).toNat) (b2.length - (1:Int).toNat) 0) (fun _=>rfl) (AT (X:=⟨_,true⟩) (out:=.val _ _) hX U (AE (by omega)<|AB))),⟨AJ 0 U U,⟨AJ 0 U U,⟨BB 0 U (BP (x:=.ix (.ptr 0 4) 1 3 2 0) (Al 2 U) (AT (X:=⟨_,true⟩) (out:=.val _ _) hX U (AE (by omega)<|AB))),⟨BB 1 U (AT (X:=⟨_,true⟩) (out:=.upd 0 (bO 1 (AX m ((b2.getD 0 Wr.z).lc).toNat (AM (m ((b2.getD 0 Wr.z).lc).toNat) (b2.getD 0 Wr.z).o (b2.getD 0 Wr.z).s (b2.getD 0 Wr.z).v)) (SZ p0 b0) (SZ p1 b1) (.st 3 3 1 (b2.length - 1) 0)) _) hX U U),trivial⟩⟩⟩⟩⟩⟩⟩⟩⟩⟩⟩⟩⟩,⟨⟨AJ 1 U U,⟨AJ 1 U U,trivial⟩⟩,trivial⟩⟩ fun A=>GP (R9 A U h0 U U U)
end Mc
namespace Mc
open Go.RowKit
set_option simprocs false
def Em (b0 b1 b2:List Wr)(th:Int):List Wr:=if th=0 then b0 else if th=1 then b1 else b2
def n5 (p:Option Loc)(b:List Wr):Dl:=fun w ks=>FL w ks∧AP (AK p) 3 b.length (Bh b) w ks
def gC (p0 p1 p2:Option Loc)(b0 b1 b2:List Wr):Dl:=fun w ks=>FL w ks∧AP (AK p0) 3 b0.length (Bh b0) w ks∧AP (AK p1) 3 b1.length (Bh b1) w ks∧AP (AK p2) 3 b2.length (Bh b2) w ks
theorem gC.ok {p0 p1 p2:Option Loc}{b0 b1 b2:List Wr}:Dl.OK (gC p0 p1 p2 b0 b1 b2):=fun w ks w' ks' h m hk=>⟨AP.ok _ _ _ _ h.1 m hk,AP.ok _ _ _ _ h.2.1 m hk,AP.ok _ _ _ _ h.2.2.1 m hk,AP.ok _ _ _ _ h.2.2.2 m hk⟩
def Wc (cs:List AD)(p0 p1 p2:Option Loc)(b0 b1 b2:List Wr):Dl:=fun w ks=>AH cs w ks∧gC p0 p1 p2 b0 b1 b2 w ks
theorem Wc.ok {cs:List AD}{p0 p1 p2:Option Loc}{b0 b1 b2:List Wr}:Dl.OK (Wc cs p0 p1 p2 b0 b1 b2):=fun w ks w' ks' h m hk=>⟨AH.ok _ _ _ _ h.1 m hk,gC.ok _ _ _ _ h.2 m hk⟩
theorem Qg {i:In}(hm:CK i=false)(k:Int)(hk:k=4∨k=5∨k=6):i.op≠k:=fun h=>by
 unfold CK at hm;simp at hm;omega
theorem Yt (m:Nat→Int)(cs:List AD)(ts:List Th)(nn:Nat)(p0 p1 p2:Option Loc)(b0 b1 b2:List Wr)(hW:∀k,k<b0.length→(0≤(b0.getD k Wr.z).lc∧(b0.getD k Wr.z).lc<3)∧OS (b0.getD k Wr.z).o (b0.getD k Wr.z).s)(Er:b0.length≤1000000):BQ (n5 p0 b0) Tryz.prog 107 [.ptr 0 0,.z9] [O (bO 1 m (SZ p0 b0) (SZ p1 b1) (SZ p2 b2)),O [.sl 2 nn 0],aq cs ts nn] (Rt (.agg [.n9 ((Cr m b0 b0.length) 0),.n9 ((Cr m b0 b0.length) 1),.n9 ((Cr m b0 b0.length) 2)]) [O (bO 1 m (SZ p0 b0) (SZ p1 b1) (SZ p2 b2)),O [.sl 2 nn 0],aq cs ts nn]):=
 Aa (n:=30) (by kernel_rfl) Tryz.func107 U U U fun G w a h0 hI A=>N9 23 A U (AE (by omega)<|AB) fun A=>have A:=AG A 16 (.ptr 0 4) U (Al 0 U);N9 6 A U U fun A=>Bq (fun(k:Nat)=>[(4,.ptr 3 0),(5,.ptr 4 0),(17,.sla (AK p0) b0.length (rm p0)),(18,.n9 ((b0.length:Nat):Int)),(19,.n9 (k:Int))]) (fun(k:Nat)=>[O (bO 1 m (SZ p0 b0) (SZ p1 b1) (SZ p2 b2)),O [.sl 2 nn 0],aq cs ts nn,O [.z9,.z9,.z9],O [.n9 ((Cr m b0 k) 0),.n9 ((Cr m b0 k) 1),.n9 ((Cr m b0 k) 2)]]) (fun(k:Nat)=>k≤b0.length) (fun(k:Nat)=>b0.length - k) 0 (β7 _) ((A.cut [4,5,17,18,19] U).trunc 5 U U U (CL h0 U)) fun k hK {G a w} A=>N9 6 A U U fun A=>AU 20 A U
   (fun h1 A=>N9 7 A U U fun A=>JX (ao:=(AK p0)) (s:=3) (m:=b0.length) (f:=Bh b0) hX 21 17 hI.2 (by omega) A U U U U U U (AE (by omega)<|AB) fun A=>N9 5 A U (AE (by omega)<|AB) fun A=>N9 5 A U U fun A=>I9 [4] AP.ok hI.1 (F5 (Cr m b0 k) (b0.getD (((k:Int)).toNat) Wr.z).lc (b0.getD (((k:Int)).toNat) Wr.z).o (b0.getD (((k:Int)).toNat) Wr.z).s (b0.getD (((k:Int)).toNat) Wr.z).v (hW _ (by rw [α6];omega)).1 (hW _ (by rw [α6];omega)).2) A U fun A=>N9 3 A U U fun A=>have A:=A.sayH (H':=[O (bO 1 m (SZ p0 b0) (SZ p1 b1) (SZ p2 b2)),O [.sl 2 nn 0],aq cs ts nn,O [.z9,.z9,.z9],O [.n9 ((Cr m b0 (k+1)) 0),.n9 ((Cr m b0 (k+1)) 1),.n9 ((Cr m b0 (k+1)) 2)],some (.lst 3 b0.length (Bh b0)),O [.n9 ((b0.getD (((k:Int)).toNat) Wr.z).lc),.n9 (AY (b0.getD (((k:Int)).toNat) Wr.z).o (b0.getD (((k:Int)).toNat) Wr.z).s),.n9 ((b0.getD (((k:Int)).toNat) Wr.z).v)]]) U;N9 4 A U (AE (by omega)<|AB) fun A=>⟨k+1,_,(by omega),(by omega),((A.cut [4,5,17,18,19] U).trunc 5 U U U (CL h0 U)).sayT (by rfl)⟩)
   (fun h1 A=>N9 10 A U U fun A=>R9 A U h0 U (by have e:k=b0.length:=(by omega);subst e;rfl) U)
theorem Yu (m:Nat→Int)(cs:List AD)(ts:List Th)(nn:Nat)(p0 p1 p2:Option Loc)(b0 b1 b2:List Wr)(hW:∀k,k<b1.length→(0≤(b1.getD k Wr.z).lc∧(b1.getD k Wr.z).lc<3)∧OS (b1.getD k Wr.z).o (b1.getD k Wr.z).s)(Er:b1.length≤1000000):BQ (n5 p1 b1) Tryz.prog 107 [.ptr 0 0,.n9 1] [O (bO 1 m (SZ p0 b0) (SZ p1 b1) (SZ p2 b2)),O [.sl 2 nn 0],aq cs ts nn] (Rt (.agg [.n9 ((Cr m b1 b1.length) 0),.n9 ((Cr m b1 b1.length) 1),.n9 ((Cr m b1 b1.length) 2)]) [O (bO 1 m (SZ p0 b0) (SZ p1 b1) (SZ p2 b2)),O [.sl 2 nn 0],aq cs ts nn]):=
 Aa (n:=30) (by kernel_rfl) Tryz.func107 U U U fun G w a h0 hI A=>N9 23 A U (AE (by omega)<|AB) fun A=>have A:=AG A 16 (.ptr 0 5) U (Al 1 U);N9 6 A U U fun A=>Bq (fun(k:Nat)=>[(4,.ptr 3 0),(5,.ptr 4 0),(17,.sla (AK p1) b1.length (rm p1)),(18,.n9 ((b1.length:Nat):Int)),(19,.n9 (k:Int))]) (fun(k:Nat)=>[O (bO 1 m (SZ p0 b0) (SZ p1 b1) (SZ p2 b2)),O [.sl 2 nn 0],aq cs ts nn,O [.z9,.z9,.z9],O [.n9 ((Cr m b1 k) 0),.n9 ((Cr m b1 k) 1),.n9 ((Cr m b1 k) 2)]]) (fun(k:Nat)=>k≤b1.length) (fun(k:Nat)=>b1.length - k) 0 (β7 _) ((A.cut [4,5,17,18,19] U).trunc 5 U U U (CL h0 U)) fun k hK {G a w} A=>N9 6 A U U fun A=>AU 20 A U
   (fun h1 A=>N9 7 A U U fun A=>JX (ao:=(AK p1)) (s:=3) (m:=b1.length) (f:=Bh b1) hX 21 17 hI.2 (by omega) A U U U U U U (AE (by omega)<|AB) fun A=>N9 5 A U (AE (by omega)<|AB) fun A=>N9 5 A U U fun A=>I9 [4] AP.ok hI.1 (F5 (Cr m b1 k) (b1.getD (((k:Int)).toNat) Wr.z).lc (b1.getD (((k:Int)).toNat) Wr.z).o (b1.getD (((k:Int)).toNat) Wr.z).s (b1.getD (((k:Int)).toNat) Wr.z).v (hW _ (by rw [α6];omega)).1 (hW _ (by rw [α6];omega)).2) A U fun A=>N9 3 A U U fun A=>have A:=A.sayH (H':=[O (bO 1 m (SZ p0 b0) (SZ p1 b1) (SZ p2 b2)),O [.sl 2 nn 0],aq cs ts nn,O [.z9,.z9,.z9],O [.n9 ((Cr m b1 (k+1)) 0),.n9 ((Cr m b1 (k+1)) 1),.n9 ((Cr m b1 (k+1)) 2)],some (.lst 3 b1.length (Bh b1)),O [.n9 ((b1.getD (((k:Int)).toNat) Wr.z).lc),.n9 (AY (b1.getD (((k:Int)).toNat) Wr.z).o (b1.getD (((k:Int)).toNat) Wr.z).s),.n9 ((b1.getD (((k:Int)).toNat) Wr.z).v)]]) U;N9 4 A U (AE (by omega)<|AB) fun A=>⟨k+1,_,(by omega),(by omega),((A.cut [4,5,17,18,19] U).trunc 5 U U U (CL h0 U)).sayT (by rfl)⟩)
   (fun h1 A=>N9 10 A U U fun A=>R9 A U h0 U (by have e:k=b1.length:=(by omega);subst e;rfl) U)
theorem Yv (m:Nat→Int)(cs:List AD)(ts:List Th)(nn:Nat)(p0 p1 p2:Option Loc)(b0 b1 b2:List Wr)(hW:∀k,k<b2.length→(0≤(b2.getD k Wr.z).lc∧(b2.getD k Wr.z).lc<3)∧OS (b2.getD k Wr.z).o (b2.getD k Wr.z).s)(Er:b2.length≤1000000):BQ (n5 p2 b2) Tryz.prog 107 [.ptr 0 0,.n9 2] [O (bO 1 m (SZ p0 b0) (SZ p1 b1) (SZ p2 b2)),O [.sl 2 nn 0],aq cs ts nn] (Rt (.agg [.n9 ((Cr m b2 b2.length) 0),.n9 ((Cr m b2 b2.length) 1),.n9 ((Cr m b2 b2.length) 2)]) [O (bO 1 m (SZ p0 b0) (SZ p1 b1) (SZ p2 b2)),O [.sl 2 nn 0],aq cs ts nn]):=
 Aa (n:=30) (by kernel_rfl) Tryz.func107 U U U fun G w a h0 hI A=>N9 23 A U (AE (by omega)<|AB) fun A=>have A:=AG A 16 (.ptr 0 6) U (Al 2 U);N9 6 A U U fun A=>Bq (fun(k:Nat)=>[(4,.ptr 3 0),(5,.ptr 4 0),(17,.sla (AK p2) b2.length (rm p2)),(18,.n9 ((b2.length:Nat):Int)),(19,.n9 (k:Int))]) (fun(k:Nat)=>[O (bO 1 m (SZ p0 b0) (SZ p1 b1) (SZ p2 b2)),O [.sl 2 nn 0],aq cs ts nn,O [.z9,.z9,.z9],O [.n9 ((Cr m b2 k) 0),.n9 ((Cr m b2 k) 1),.n9 ((Cr m b2 k) 2)]]) (fun(k:Nat)=>k≤b2.length) (fun(k:Nat)=>b2.length - k) 0 (β7 _) ((A.cut [4,5,17,18,19] U).trunc 5 U U U (CL h0 U)) fun k hK {G a w} A=>N9 6 A U U fun A=>AU 20 A U
   (fun h1 A=>N9 7 A U U fun A=>JX (ao:=(AK p2)) (s:=3) (m:=b2.length) (f:=Bh b2) hX 21 17 hI.2 (by omega) A U U U U U U (AE (by omega)<|AB) fun A=>N9 5 A U (AE (by omega)<|AB) fun A=>N9 5 A U U fun A=>I9 [4] AP.ok hI.1 (F5 (Cr m b2 k) (b2.getD (((k:Int)).toNat) Wr.z).lc (b2.getD (((k:Int)).toNat) Wr.z).o (b2.getD (((k:Int)).toNat) Wr.z).s (b2.getD (((k:Int)).toNat) Wr.z).v (hW _ (by rw [α6];omega)).1 (hW _ (by rw [α6];omega)).2) A U fun A=>N9 3 A U U fun A=>have A:=A.sayH (H':=[O (bO 1 m (SZ p0 b0) (SZ p1 b1) (SZ p2 b2)),O [.sl 2 nn 0],aq cs ts nn,O [.z9,.z9,.z9],O [.n9 ((Cr m b2 (k+1)) 0),.n9 ((Cr m b2 (k+1)) 1),.n9 ((Cr m b2 (k+1)) 2)],some (.lst 3 b2.length (Bh b2)),O [.n9 ((b2.getD (((k:Int)).toNat) Wr.z).lc),.n9 (AY (b2.getD (((k:Int)).toNat) Wr.z).o (b2.getD (((k:Int)).toNat) Wr.z).s),.n9 ((b2.getD (((k:Int)).toNat) Wr.z).v)]]) U;N9 4 A U (AE (by omega)<|AB) fun A=>⟨k+1,_,(by omega),(by omega),((A.cut [4,5,17,18,19] U).trunc 5 U U U (CL h0 U)).sayT (by rfl)⟩)
   (fun h1 A=>N9 10 A U U fun A=>R9 A U h0 U (by have e:k=b2.length:=(by omega);subst e;rfl) U)
theorem gD (m:Nat→Int)(cs:List AD)(ts:List Th)(nn:Nat)(p0 p1 p2:Option Loc)(b0 b1 b2:List Wr)(th:Int)(Bo:0≤th∧th<3)(XA:∀k,k<(Em b0 b1 b2 th).length→(0≤((Em b0 b1 b2 th).getD k Wr.z).lc∧((Em b0 b1 b2 th).getD k Wr.z).lc<3)∧OS ((Em b0 b1 b2 th).getD k Wr.z).o ((Em b0 b1 b2 th).getD k Wr.z).s)(XB:(Em b0 b1 b2 th).length≤1000000):BQ (gC p0 p1 p2 b0 b1 b2) Tryz.prog 107 [.ptr 0 0,.n9 th] [O (bO 1 m (SZ p0 b0) (SZ p1 b1) (SZ p2 b2)),O [.sl 2 nn 0],aq cs ts nn] (Rt (.agg [.n9 ((Cr m (Em b0 b1 b2 th) (Em b0 b1 b2 th).length) 0),.n9 ((Cr m (Em b0 b1 b2 th) (Em b0 b1 b2 th).length) 1),.n9 ((Cr m (Em b0 b1 b2 th) (Em b0 b1 b2 th).length) 2)]) [O (bO 1 m (SZ p0 b0) (SZ p1 b1) (SZ p2 b2)),O [.sl 2 nn 0],aq cs ts nn]):=by
 rcases PX Bo with rfl|rfl|rfl
 ·exact(Yt m cs ts nn p0 p1 p2 b0 b1 b2 XA XB).mono fun w ks h=>⟨h.1,h.2.1⟩
 ·exact(Yu m cs ts nn p0 p1 p2 b0 b1 b2 XA XB).mono fun w ks h=>⟨h.1,h.2.2.1⟩
 ·exact(Yv m cs ts nn p0 p1 p2 b0 b1 b2 XA XB).mono fun w ks h=>⟨h.1,h.2.2.2⟩
theorem Yw (m:Nat→Int)(cs:List AD)(ts:List Th)(nn:Nat)(p0 p1 p2:Option Loc)(b0 b1 b2:List Wr)(th lc o s:Int)(hC:Ac cs ts nn)(Bo:0≤th∧th<((nn:Nat):Int))(Cx:nn≤3)(MO:0≤th∧th<3)(XA:∀k,k<(Em b0 b1 b2 th).length→(0≤((Em b0 b1 b2 th).getD k Wr.z).lc∧((Em b0 b1 b2 th).getD k Wr.z).lc<3)∧OS ((Em b0 b1 b2 th).getD k Wr.z).o ((Em b0 b1 b2 th).getD k Wr.z).s)(XB:(Em b0 b1 b2 th).length≤1000000)(IG:Jq (Ea cs ts th)=lc)(KH:Jr (Nk ts th).r (Ea cs ts th)=AY o s)(hl:0≤lc∧lc<3)(hO:OS o s)(hs:(Ea cs ts th).sz=1∨(Ea cs ts th).sz=2∨(Ea cs ts th).sz=4∨(Ea cs ts th).sz=8)(BM:(Ea cs ts th).op=4):BQ (Wc cs p0 p1 p2 b0 b1 b2) Tryz.prog 74 [.ptr 0 0,.n9 th] [O (bO 1 m (SZ p0 b0) (SZ p1 b1) (SZ p2 b2)),O [.sl 2 nn 0],aq cs ts nn] (Rt (.int .i64 (Aq ((Cr m (Em b0 b1 b2 th) (Em b0 b1 b2 th).length) lc.toNat) o s)) [O (bO 1 m (SZ p0 b0) (SZ p1 b1) (SZ p2 b2)),O [.sl 2 nn 0],aq cs ts nn]):=
 Aa (n:=66) (by kernel_rfl) Tryz.func74 U U U fun G w a h0 hI A=>N9 12 A U U fun A=>I9 [1,2] AH.ok hI.1 (C1 cs ts nn th hC Bo) A U fun A=>N9 15 A U U fun A=>I9 [1,2] AH.ok hI.1 (Nl cs ts nn th lc o s hC Bo IG KH) A U fun A=>N9 24 A U U fun A=>AV 32 A U
  (fun h1 A=>N9 5 A U U fun A=>I9 [0,1,2] gC.ok hI.2 (gD m cs ts nn p0 p1 p2 b0 b1 b2 th MO XA XB) A U fun A=>N9 7 A U U fun A=>I9 [5] AP.ok hI.2.1 (QA (Cr m (Em b0 b1 b2 th) (Em b0 b1 b2 th).length) lc o s hl hO) A U fun A=>N9 4 A U U fun A=>R9 A U h0 U U U)
  (fun h1 A=>absurd BM h1)
theorem Yx (m:Nat→Int)(cs:List AD)(ts:List Th)(nn:Nat)(p0 p1 p2:Option Loc)(b0 b1 b2:List Wr)(th lc o s:Int)(hC:Ac cs ts nn)(Bo:0≤th∧th<((nn:Nat):Int))(Cx:nn≤3)(MO:0≤th∧th<3)(IG:Jq (Ea cs ts th)=lc)(KH:Jr (Nk ts th).r (Ea cs ts th)=AY o s)(hl:0≤lc∧lc<3)(hO:OS o s)(hs:(Ea cs ts th).sz=1∨(Ea cs ts th).sz=2∨(Ea cs ts th).sz=4∨(Ea cs ts th).sz=8)(hw:MC (Ea cs ts th)=true)(BM:(Ea cs ts th).op=6):BQ (Wc cs p0 p1 p2 b0 b1 b2) Tryz.prog 74 [.ptr 0 0,.n9 th] [O (bO 1 m (SZ p0 b0) (SZ p1 b1) (SZ p2 b2)),O [.sl 2 nn 0],aq cs ts nn] (Rt (.int .i64 (Aq (m lc.toNat) o s)) [O (bO 1 (AX m lc.toNat (AM (m lc.toNat) o s (F6 (Ea cs ts th) (Aq (m lc.toNat) o s) (BR (Nk ts th).r (Ea cs ts th))))) (SZ p0 b0) (SZ p1 b1) (SZ p2 b2)),O [.sl 2 nn 0],aq cs ts nn]):=
 Aa (n:=66) (by kernel_rfl) Tryz.func74 U U U fun G w a h0 hI A=>N9 12 A U U fun A=>I9 [1,2] AH.ok hI.1 (C1 cs ts nn th hC Bo) A U fun A=>N9 15 A U U fun A=>I9 [1,2] AH.ok hI.1 (Nl cs ts nn th lc o s hC Bo IG KH) A U fun A=>N9 24 A U U fun A=>AV 32 A U
  (fun h1 A=>absurd (h1.symm.trans BM) (by decide))
  (fun h1 A=>N9 7 A U U fun A=>AV 39 A U
   (fun h2 A=>absurd (h2.symm.trans BM) (by decide))
   (fun h2 A=>N9 7 A U U fun A=>AV 57 A U
    (fun h3 A=>N9 2 A U U fun A=>A9 hX BW [] [(6,.n9 (Aq (m lc.toNat) o s),[O (bO 1 (AX m lc.toNat (AM (m lc.toNat) o s (F6 (Ea cs ts th) (Aq (m lc.toNat) o s) (BR (Nk ts th).r (Ea cs ts th))))) (SZ p0 b0) (SZ p1 b1) (SZ p2 b2)),O [.sl 2 nn 0],aq cs ts nn,O (AZ (Ea cs ts th)),O [.n9 lc,.n9 (AY o s)]])] A U U U U (by kernel_rfl) ⟨Nf (l:=[.ptr 1 0]) (r:=[.sla (AK p0) b0.length (rm p0),.sla (AK p1) b1.length (rm p1),.sla (AK p2) b2.length (rm p2)]) AP.ok hI.2.1 (lP m (Ea cs ts th) lc o s (BR (Nk ts th).r (Ea cs ts th)) hl hO hs hw) U U U U U,trivial⟩ trivial fun A=>N9 2 A U U fun A=>R9 A U h0 U U U)
    (fun h3 A=>absurd BM h3)))
theorem Yy (m:Nat→Int)(cs:List AD)(ts:List Th)(nn:Nat)(p0 p1 p2:Option Loc)(b0 b1 b2:List Wr)(th:Int)(hC:Ac cs ts nn)(Bo:0≤th∧th<((nn:Nat):Int))(Cx:nn≤3)(MO:0≤th∧th<3)(hm:CK (Ea cs ts th)=false):BQ (Wc cs p0 p1 p2 b0 b1 b2) Tryz.prog 74 [.ptr 0 0,.n9 th] [O (bO 1 m (SZ p0 b0) (SZ p1 b1) (SZ p2 b2)),O [.sl 2 nn 0],aq cs ts nn] (Rt (.int .i64 0) [O (bO 1 m (SZ p0 b0) (SZ p1 b1) (SZ p2 b2)),O [.sl 2 nn 0],aq cs ts nn]):=
 Aa (n:=66) (by kernel_rfl) Tryz.func74 U U U fun G w a h0 hI A=>N9 12 A U U fun A=>I9 [1,2] AH.ok hI.1 (C1 cs ts nn th hC Bo) A U fun A=>N9 15 A U U fun A=>I9 [1,2] AH.ok hI.1 (Ig cs ts nn th hC Bo) A U fun A=>N9 24 A U U fun A=>AV 32 A U
  (fun h1 A=>absurd h1 (Qg hm 4 (by decide)))
  (fun h1 A=>N9 7 A U U fun A=>AV 39 A U
   (fun h2 A=>absurd h2 (Qg hm 5 (by decide)))
   (fun h2 A=>N9 7 A U U fun A=>AV 57 A U
    (fun h3 A=>absurd h3 (Qg hm 6 (by decide)))
    (fun h3 A=>N9 10 A U U fun A=>R9 A U h0 U U U)))
end Mc
namespace Mc.Ts
open Go.RowKit
set_option simprocs false
abbrev dT (tv:Nat→Value)(m:Rg)(nn:Nat)(ra:ak)(rc:Nat)(rp:Nat→Option Loc)(bw:Nat→List Wr):List SV:=[.v (tv 0),.v (tv 1),.v (tv 2),.v (tv 3),.v (tv 4),.v (tv 5),.v (tv 6),.v (tv 7),.v (tv 8),.v (tv 9),.v (tv 10),.v (tv 11),.v (tv 12),.v (tv 13),.v (tv 14),.v (tv 15),.v (tv 16),.v (tv 17),.v (tv 18),.v (tv 19),.v (tv 20),.v (tv 21),.v (tv 22),.v (tv 23),.v (tv 24),.v (tv 25),.v (tv 26),.v (tv 27),.v (tv 28),.v (tv 29),.v (tv 30),.v (tv 31),.sla ra nn rc,.int .i64 (m 0),.int .i64 (m 1),.int .i64 (m 2),.sla (AK (rp 0)) (bw 0).length (rm (rp 0)),.sla (AK (rp 1)) (bw 1).length (rm (rp 1)),.sla (AK (rp 2)) (bw 2).length (rm (rp 2)),.tt]
theorem M6 (bw:Nat→List Wr){th:Int}(h:0≤th∧th<3):Aj (bw 0) (bw 1) (bw 2) th=(((bw th.toNat).length:Nat):Int):=by
 rcases PX h with rfl|rfl|rfl<;>rfl
theorem z8 (bw:Nat→List Wr){th:Int}(h:0≤th∧th<3):Em (bw 0) (bw 1) (bw 2) th=bw th.toNat:=by
 rcases PX h with rfl|rfl|rfl<;>rfl
theorem rA {l:List In}{a:Nat}(h:a≤l.length):((l.getD (((a:Nat):Int)).toNat In.z).op≠6∧(l.getD (((a:Nat):Int)).toNat In.z).op≠7)∨((a:Nat):Int)<((l.length:Nat):Int):=by
 by_cases h1:a<l.length
 ·exact .inr (by omega)
 ·left
  have:a=l.length:=by omega
  subst this
  rw [α6,α8,γ5 (β8 _)]
  exact⟨by decide,by decide⟩
theorem n6 {i:In}{x y n n':Int}(h1:x<y)(h2:((n'==0)||((!(i.op==6))&&(!(i.op==7))))=true)(hn:n=n'):KG i (!(x==y)) n=true:=by
 subst hn
 unfold KG
 have e:(!(x==y))=true:=by simp;omega
 rw [e]
 split
 ·next h=>revert h h2;cases h3:(n==0)<;>simp
 ·rfl
theorem Yz {i:In}{x y n n':Int}(h:¬x<y∨((n'==0)||((!(i.op==6))&&(!(i.op==7))))=false)(hx:x≤y)(hn:n=n')(h0:i.op≠6∧i.op≠7∨x<y):KG i (!(x==y)) n=false:=by
 subst hn
 unfold KG
 rcases h with h|h
 ·have e:(!(x==y))=false:=by simp;omega
  rw [e]
  split
  ·next h2=>simp at h2;omega
  ·rfl
 ·rw [ε3]at h
  rw [if_pos (by have:=h.2;revert this;cases h6:(i.op==6)<;>cases h7:(i.op==7)<;>simp_all)]
  exact h.1
theorem aF {cs:List AD}{ts:List Th}{bn:Int→Int}{k:Nat}(h:Ab cs ts bn k=[])(e:(((ts.getD ((k:Int)).toNat Th.z).at_:Nat):Int)=(((cs.getD ((k:Int)).toNat AD.z).l.length:Nat):Int))(hb:bn (k:Int)=0):Ab cs ts bn (k+1)=[]:=by
 show _++_++_=_
 rw [h,hb,if_neg (show¬(0:Int)>0 by omega),e]
 unfold KG
 rw [show(!((((cs.getD ((k:Int)).toNat AD.z).l.length:Nat):Int)==(((cs.getD ((k:Int)).toNat AD.z).l.length:Nat):Int)))=false by simp]
 have:∀l:List In,l.getD (((l.length:Nat):Int)).toNat In.z=In.z:=fun l=>by
  rw [α6,α8,γ5 (β8 _)];rfl
 unfold Ea;rw [e,this]
 rfl
theorem Qh {cs:List AD}{ts:List Th}{bn:Int→Int}{k:Nat}(e:¬(((ts.getD ((k:Int)).toNat Th.z).at_:Nat):Int)=(((cs.getD ((k:Int)).toNat AD.z).l.length:Nat):Int)∨bn (k:Int)>0)(hb:0≤bn (k:Int)):∀{n:Nat},k<n→Ab cs ts bn n≠[]
 |0,h=>by cases h
 | n+1,h=>fun h2=>by
  have h3:Ab cs ts bn n++_++_=[]:=h2
  rw [List.append_eq_nil_iff,List.append_eq_nil_iff]at h3
  by_cases hk:k=n
  ·subst hk
   obtain⟨⟨_,h4⟩,h5⟩:=h3
   have h6:¬bn (k:Int)>0:=fun q=>by rw [if_pos q]at h5;cases h5
   have h7:bn (k:Int)=0:=by omega
   have h8:¬(((ts.getD ((k:Int)).toNat Th.z).at_:Nat):Int)=(((cs.getD ((k:Int)).toNat AD.z).l.length:Nat):Int):=e.resolve_right h6
   rw [h7]at h4
   rw [if_pos]at h4
   ·cases h4
   ·unfold KG
    split
    ·rfl
    ·simp only [κ0,δ7];exact h8
  ·exact Qh e hb (by omega) h3.1.1
theorem Wd (tv:Nat→Value)(m:Nat→Int)(cs:List AD)(ts:List Th)(nn:Nat)(ra:ak)(rc:Nat)(bs bo:Nat→Nat)(da:Nat→Option Addr)(dp:Nat→Nat)(pv:Nat→Value)(rp:Nat→Option Loc)(bw:Nat→List Wr)(th:Int)(ZQ:0≤th∧th<((nn:Nat):Int)):BQ (Mj cs ts nn ra bs bo da dp pv) Tryz.prog 57 [.ptr 0 0,.n9 th] [O (dT tv m nn ra rc rp bw)] (Rt (.bool (decide ((((Nk ts th).at_:Nat):Int)<(((cs.getD (th.toNat) AD.z).l.length:Nat):Int)))) [O (dT tv m nn ra rc rp bw)]):=
 Aa (n:=27) (by kernel_rfl) Tryz.func57 U U U fun G w a h0 hI A=>N9 6 A U U fun A=>have Bo:AP (some ⟨bs th.toNat,bo th.toNat,none⟩) 11 1 (fun _=>E5 (.sla (da th.toNat) (cs.getD (th.toNat) AD.z).l.length (dp th.toNat)) (Nk ts th).r (((Nk ts th).at_:Nat):Int) (.v (pv th.toNat))) _ _:=(hI.2.2 th.toNat (by omega)).1;have Ch:Fe (da th.toNat) (cs.getD (th.toNat) AD.z).l _ _:=(hI.2.2 th.toNat (by omega)).2;GL BW [.ptr 0 0,.ptr 0 0,.ptr 0 32,.sla ra nn rc,.n9 th,.v (.pointer (Sq ra 1 th)),.v (.pointer (some ⟨bs th.toNat,bo th.toNat,none⟩)),.v (.pointer (some ⟨bs th.toNat,bo th.toNat,none⟩)),.v (.pointer (some ⟨bs th.toNat,bo th.toNat+9,none⟩)),.n9 (((Nk ts th).at_:Nat):Int),.ptr 0 0,.ptr 0 0,.ptr 0 32,.sla ra nn rc,.n9 th,.v (.pointer (Sq ra 1 th)),.v (.pointer (some ⟨bs th.toNat,bo th.toNat,none⟩)),.v (.pointer (some ⟨bs th.toNat,bo th.toNat,none⟩)),.v (.pointer (some ⟨bs th.toNat,bo th.toNat+0,none⟩)),.sla (da th.toNat) ((cs.getD (th.toNat) AD.z).l.length) (dp th.toNat),.n9 (((cs.getD (th.toNat) AD.z).l.length:Nat):Int),.bool (decide ((((Nk ts th).at_:Nat):Int)<(((cs.getD (th.toNat) AD.z).l.length:Nat):Int))),.bool (decide ((((Nk ts th).at_:Nat):Int)<(((cs.getD (th.toNat) AD.z).l.length:Nat):Int)))] [] [] 0 [([],[],[O (dT tv m nn ra rc rp bw)])] [[true,true,true,true,true,true,true,true,true,true,true,true,true,true,true,true,true,true,true,true,true,true,true]] A U U U U (by kernel_rfl) U (by kernel_rfl) ⟨⟨AJ 0 U U,⟨AJ 0 U U,⟨AJ 0 U U,⟨BB 0 U (AT (X:=⟨_,true⟩) (out:=.val (.sla ra nn rc) []) hX U AB),⟨AJ 0 U U,⟨BB 0 U (Fb (e:=99) U U U U hI.1 (by kernel_rfl) (by omega)),⟨BB 0 U (MA (q:=0) (r:=[.v (.pointer (some ⟨bs th.toNat,bo th.toNat,none⟩))]) (v:=.v (.pointer (some ⟨bs th.toNat,bo th.toNat,none⟩))) hX U U U hI.1 (by omega) U U U),⟨BB 0 U (Im U U U),⟨BB 0 U (Io U U U (by kernel_rfl)),⟨BB 0 U (Rv (q:=9) (v:=.int .i64 (((Nk ts th).at_:Nat):Int)) hX U U U Bo U U U),⟨AJ 0 U U,⟨AJ 0 U U,⟨AJ 0 U U,⟨BB 0 U (AT (X:=⟨_,true⟩) (out:=.val (.sla ra nn rc) []) hX U AB),⟨AJ 0 U U,⟨BB 0 U (Fb (e:=99) U U U U hI.1 (by kernel_rfl) (by omega)),⟨BB 0 U (MA (q:=0) (r:=[.v (.pointer (some ⟨bs th.toNat,bo th.toNat,none⟩))]) (v:=.v (.pointer (some ⟨bs th.toNat,bo th.toNat,none⟩))) hX U U U hI.1 (by omega) U U U),⟨BB 0 U (Im U U U),⟨BB 0 U (Io U U U (by kernel_rfl)),⟨BB 0 U (Rv (q:=0) (v:=.sla (da th.toNat) ((cs.getD (th.toNat) AD.z).l.length) (dp th.toNat)) hX U U U Bo U U U),⟨AJ 0 U U,⟨AJ 0 U U,⟨AJ 0 U U,trivial⟩⟩⟩⟩⟩⟩⟩⟩⟩⟩⟩⟩⟩⟩⟩⟩⟩⟩⟩⟩⟩⟩⟩,trivial⟩ fun A=>N9 2 A U U fun A=>R9 A U h0 U U U
theorem n7 (tv:Nat→Value)(m:Nat→Int)(cs:List AD)(ts:List Th)(nn:Nat)(ra:ak)(rc:Nat)(bs bo:Nat→Nat)(da:Nat→Option Addr)(dp:Nat→Nat)(pv:Nat→Value)(rp:Nat→Option Loc)(bw:Nat→List Wr)(hC:Ac cs ts nn)(Cx:nn≤3):BQ (Mj cs ts nn ra bs bo da dp pv) Tryz.prog 14 [.ptr 0 0] [O (dT tv m nn ra rc rp bw)] (Rt (.sl 1 ((Ab cs ts (Aj (bw 0) (bw 1) (bw 2)) nn).length) 0) [O (dT tv m nn ra rc rp bw),some (.row 44 4 ((Ab cs ts (Aj (bw 0) (bw 1) (bw 2)) nn).length) 0 (B4 (Ab cs ts (Aj (bw 0) (bw 1) (bw 2)) nn)))]):=
 Aa (n:=86) (by kernel_rfl) Tryz.func14 U U U fun G w a h0 hI A=>N9 12 A U U fun A=>have A:=A.nilRow 3 44 4 (B4 []) U (fun z=>⟨_,rfl,rfl⟩);N9 5 A U U fun A=>Bq (fun(k:Nat)=>[(0,.ptr 0 0),(2,.sla none 0 0),(3,.sl 1 ((Ab cs ts (Aj (bw 0) (bw 1) (bw 2)) k).length) 0),(4,.n9 (k:Int))]) (fun(k:Nat)=>[O (dT tv m nn ra rc rp bw),some (.row 44 4 ((Ab cs ts (Aj (bw 0) (bw 1) (bw 2)) k).length) 0 (B4 (Ab cs ts (Aj (bw 0) (bw 1) (bw 2)) k)))]) (fun(k:Nat)=>k≤nn) (fun(k:Nat)=>nn - k) 0 (β7 _) ((A.cut [0,2,3,4] U).trunc 2 U U U (CL h0 U)) fun k hK {G a w} A=>N9 7 A U U fun A=>Af A U (AT (X:=⟨_,true⟩) (out:=.val (.sla ra nn rc) []) hX U AB) fun A=>N9 4 A U U fun A=>AU 12 A U
   (fun h1 A=>by exact(N9 7 A U U fun A=>have GY:((k:Int)).toNat<nn:=(by omega);have Bo:AP (some ⟨bs ((k:Int)).toNat,bo ((k:Int)).toNat,none⟩) 11 1 (fun _=>E5 (.sla (da ((k:Int)).toNat) (cs.getD (((k:Int)).toNat) AD.z).l.length (dp ((k:Int)).toNat)) (Nk ts (k:Int)).r (((Nk ts (k:Int)).at_:Nat):Int) (.v (pv ((k:Int)).toNat))) _ _:=(hI.2.2 ((k:Int)).toNat (by omega)).1;have Ch:Fe (da ((k:Int)).toNat) (cs.getD (((k:Int)).toNat) AD.z).l _ _:=(hI.2.2 ((k:Int)).toNat (by omega)).2;have T2:(Nk ts (k:Int)).at_≤(cs.getD (((k:Int)).toNat) AD.z).l.length:=hC.a ((k:Int)).toNat (by have:=hC.m;omega);N9 3 A U U fun A=>I9 [0] Mj.ok hI (Wd tv m cs ts nn ra rc bs bo da dp pv rp bw (k:Int) (by omega)) A U fun A=>N9 2 A U U fun A=>AU 17 A U
    (fun h2 A=>by exact(N9 2 A U U fun A=>GL BW [.ptr 0 0,.ptr 0 0,.ptr 0 32,.sla ra nn rc,.n9 (k:Int),.v (.pointer (Sq ra 1 (k:Int))),.v (.pointer (some ⟨bs ((k:Int)).toNat,bo ((k:Int)).toNat,none⟩)),.v (.pointer (some ⟨bs ((k:Int)).toNat,bo ((k:Int)).toNat,none⟩)),.v (.pointer (some ⟨bs ((k:Int)).toNat,bo ((k:Int)).toNat+0,none⟩)),.sla (da ((k:Int)).toNat) ((cs.getD (((k:Int)).toNat) AD.z).l.length) (dp ((k:Int)).toNat),.ptr 0 0,.ptr 0 0,.ptr 0 32,.sla ra nn rc,.n9 (k:Int),.v (.pointer (Sq ra 1 (k:Int))),.v (.pointer (some ⟨bs ((k:Int)).toNat,bo ((k:Int)).toNat,none⟩)),.v (.pointer (some ⟨bs ((k:Int)).toNat,bo ((k:Int)).toNat,none⟩)),.v (.pointer (some ⟨bs ((k:Int)).toNat,bo ((k:Int)).toNat+9,none⟩)),.n9 (((Nk ts (k:Int)).at_:Nat):Int),.v (.pointer (Sq (da ((k:Int)).toNat) 17 (((Nk ts (k:Int)).at_:Nat):Int))),.v (.pointer (qU (da ((k:Int)).toNat) 17 (((Nk ts (k:Int)).at_:Nat):Int) 0)),.n9 ((Ea cs ts (k:Int)).op),.n9 ((Ea cs ts (k:Int)).op)] [] [] 0 [([],[],[O (dT tv m nn ra rc rp bw),some (.row 44 4 ((Ab cs ts (Aj (bw 0) (bw 1) (bw 2)) k).length) 0 (B4 (Ab cs ts (Aj (bw 0) (bw 1) (bw 2)) k)))])] [[true,true,true,true,true,true,true,true,true,true,true,true,true,true,true,true,true,true,true,true,true,true,true,true]] A U U U U (by kernel_rfl) U (by kernel_rfl) ⟨⟨AJ 0 U U,⟨AJ 0 U U,⟨AJ 0 U U,⟨BB 0 U (AT (X:=⟨_,true⟩) (out:=.val (.sla ra nn rc) []) hX U AB),⟨AJ 0 U U,⟨BB 0 U (Fb (e:=99) U U U U hI.1 (by kernel_rfl) (by omega)),⟨BB 0 U (MA (q:=0) (r:=[.v (.pointer (some ⟨bs ((k:Int)).toNat,bo ((k:Int)).toNat,none⟩))]) (v:=.v (.pointer (some ⟨bs ((k:Int)).toNat,bo ((k:Int)).toNat,none⟩))) hX U U U hI.1 (by omega) U U U),⟨BB 0 U (Im U U U),⟨BB 0 U (Io U U U (by kernel_rfl)),⟨BB 0 U (Rv (q:=0) (v:=.sla (da ((k:Int)).toNat) ((cs.getD (((k:Int)).toNat) AD.z).l.length) (dp ((k:Int)).toNat)) hX U U U Bo U U U),⟨AJ 0 U U,⟨AJ 0 U U,⟨AJ 0 U U,⟨BB 0 U (AT (X:=⟨_,true⟩) (out:=.val (.sla ra nn rc) []) hX U AB),⟨AJ 0 U U,⟨BB 0 U (Fb (e:=99) U U U U hI.1 (by kernel_rfl) (by omega)),⟨BB 0 U (MA (q:=0) (r:=[.v (.pointer (some ⟨bs ((k:Int)).toNat,bo ((k:Int)).toNat,none⟩))]) (v:=.v (.pointer (some ⟨bs ((k:Int)).toNat,bo ((k:Int)).toNat,none⟩))) hX U U U hI.1 (by omega) U U U),⟨BB 0 U (Im U U U),⟨BB 0 U (Io U U U (by kernel_rfl)),⟨BB 0 U (Rv (q:=9) (v:=.int .i64 (((Nk ts (k:Int)).at_:Nat):Int)) hX U U U Bo U U U),⟨BB 0 U (Fb (e:=63) U U U U Ch (by kernel_rfl) (by omega)),⟨BB 0 U (sM U U U Ch (by omega) (by kernel_rfl)),⟨BB 0 U (MA (r:=Ce (Ea cs ts (k:Int))) (v:=.int .i64 ((Ea cs ts (k:Int)).op)) hX U U U Ch (by omega) U U U),⟨AJ 0 U U,trivial⟩⟩⟩⟩⟩⟩⟩⟩⟩⟩⟩⟩⟩⟩⟩⟩⟩⟩⟩⟩⟩⟩⟩⟩,trivial⟩ fun A=>N9 8 A U (AE (by omega)<|AB) fun A=>Af A U (F7 (v:=fun k=>.sla (AK (rp k)) ((bw k).length) (rm (rp k))) hX U U U U U U U (by omega) (fun k hk=>match k,hk with|0,_=>rfl|1,_=>rfl|2,_=>rfl)) fun A=>N9 12 A U U fun A=>fork 56 A U
     (fun h3 A=>by exact(N9 7 A U U fun A=>Af A U (AT (X:=⟨_,true⟩) (out:=.val (.sla ra nn rc) []) hX U AB) fun A=>N9 1 A U U fun A=>Af A U (Fb (e:=99) U U U U hI.1 (by kernel_rfl) (by omega)) fun A=>Af A U (MA (q:=0) (r:=[.v (.pointer (some ⟨bs ((k:Int)).toNat,bo ((k:Int)).toNat,none⟩))]) (v:=.v (.pointer (some ⟨bs ((k:Int)).toNat,bo ((k:Int)).toNat,none⟩))) hX U U U hI.1 (by omega) U U U) fun A=>Af A U (Im U U U) fun A=>Af A U (Io U U U (by kernel_rfl)) fun A=>Af A U (Rv (q:=9) (v:=.int .i64 (((Nk ts (k:Int)).at_:Nat):Int)) hX U U U Bo U U U) fun A=>N9 2 A U U fun A=>Hw hX ((Ab cs ts (Aj (bw 0) (bw 1) (bw 2)) k).length+1) (B4 ((Ab cs ts (Aj (bw 0) (bw 1) (bw 2)) k)++[(2,(k:Int),(((Nk ts (k:Int)).at_:Nat):Int))])) A U U U U (by have:=Co cs ts (Aj (bw 0) (bw 1) (bw 2)) k;first|omega|(simp only [α4,β0,β2];omega)) U (fun q hq=>by show FR _=FR _;rw [E7 hq]) (by show FR _=_;rw [E8]) (fun z=>⟨_,rfl,rfl⟩) fun A=>have A:=(A.rowAs 3 (((Ab cs ts (Aj (bw 0) (bw 1) (bw 2)) k)++[(2,(k:Int),(((Nk ts (k:Int)).at_:Nat):Int))]).length) (B4 ((Ab cs ts (Aj (bw 0) (bw 1) (bw 2)) k)++[(2,(k:Int),(((Nk ts (k:Int)).at_:Nat):Int))])) U (PY _ _) (fun q hq=>rfl) (fun z=>⟨_,rfl,rfl⟩)).say 71 (.sl 3 (((Ab cs ts (Aj (bw 0) (bw 1) (bw 2)) k)++[(2,(k:Int),(((Nk ts (k:Int)).at_:Nat):Int))]).length) 0) U (Rr _ _ _);N9 10 A U (AE (by omega)<|AB) fun A=>Af A U (F7 (v:=fun k=>.sla (AK (rp k)) ((bw k).length) (rm (rp k))) hX U U U U U U U (by omega) (fun k hk=>match k,hk with|0,_=>rfl|1,_=>rfl|2,_=>rfl)) fun A=>N9 4 A U U fun A=>AU 79 A U
      (fun h4 A=>by exact(N9 6 A U U fun A=>Hw hX (((Ab cs ts (Aj (bw 0) (bw 1) (bw 2)) k)++[(2,(k:Int),(((Nk ts (k:Int)).at_:Nat):Int))]).length+1) (B4 (((Ab cs ts (Aj (bw 0) (bw 1) (bw 2)) k)++[(2,(k:Int),(((Nk ts (k:Int)).at_:Nat):Int))])++[(3,(k:Int),0)])) A U U U U (by have:=Co cs ts (Aj (bw 0) (bw 1) (bw 2)) k;first|omega|(simp only [α4,β0,β2];omega)) U (fun q hq=>by show FR _=FR _;rw [E7 hq]) (by show FR _=_;rw [E8]) (fun z=>⟨_,rfl,rfl⟩) fun A=>have A:=(A.rowAs 5 ((((Ab cs ts (Aj (bw 0) (bw 1) (bw 2)) k)++[(2,(k:Int),(((Nk ts (k:Int)).at_:Nat):Int))])++[(3,(k:Int),0)]).length) (B4 (((Ab cs ts (Aj (bw 0) (bw 1) (bw 2)) k)++[(2,(k:Int),(((Nk ts (k:Int)).at_:Nat):Int))])++[(3,(k:Int),0)])) U (PY _ _) (fun q hq=>rfl) (fun z=>⟨_,rfl,rfl⟩)).say 84 (.sl 5 ((((Ab cs ts (Aj (bw 0) (bw 1) (bw 2)) k)++[(2,(k:Int),(((Nk ts (k:Int)).at_:Nat):Int))])++[(3,(k:Int),0)]).length) 0) U (Rr _ _ _);N9 9 A U (AE (by omega)<|AB) fun A=>⟨k+1,_,(by omega),(by omega),(((Sy.mvA 5 3 (show(Ab cs ts (Aj (bw 0) (bw 1) (bw 2)) (k+1))=(((Ab cs ts (Aj (bw 0) (bw 1) (bw 2)) k)++[(2,(k:Int),(((Nk ts (k:Int)).at_:Nat):Int))])++[(3,(k:Int),0)]) by show _++_++_=_;rw [if_pos (n6 (by omega) h3 (M6 bw (show 0≤(k:Int)∧(k:Int)<3 by omega))),if_pos (by rw [M6 bw (show 0≤(k:Int)∧(k:Int)<3 by omega)];omega)]) A U U).cut [0,2,3,4] U).mv 1 [5] U U U U (by simp only [β0,β2]at h0;omega)).sayT (by rfl)⟩))
      (fun h4 A=>by exact(N9 9 A U (AE (by omega)<|AB) fun A=>⟨k+1,_,(by omega),(by omega),(((Sy.mvA 3 3 (show(Ab cs ts (Aj (bw 0) (bw 1) (bw 2)) (k+1))=((Ab cs ts (Aj (bw 0) (bw 1) (bw 2)) k)++[(2,(k:Int),(((Nk ts (k:Int)).at_:Nat):Int))]) by show _++_++_=_;rw [if_pos (n6 (by omega) h3 (M6 bw (show 0≤(k:Int)∧(k:Int)<3 by omega))),if_neg (by rw [M6 bw (show 0≤(k:Int)∧(k:Int)<3 by omega)];omega)];simp only [ε0]) A U U).cut [0,2,3,4] U).mv 1 [3] U U U U (by simp only [β0,β2]at h0;omega)).sayT (by rfl)⟩))))
     (fun h3 A=>by exact(N9 10 A U (AE (by omega)<|AB) fun A=>Af A U (F7 (v:=fun k=>.sla (AK (rp k)) ((bw k).length) (rm (rp k))) hX U U U U U U U (by omega) (fun k hk=>match k,hk with|0,_=>rfl|1,_=>rfl|2,_=>rfl)) fun A=>N9 4 A U U fun A=>AU 79 A U
      (fun h5 A=>by exact(N9 6 A U U fun A=>Hw hX ((Ab cs ts (Aj (bw 0) (bw 1) (bw 2)) k).length+1) (B4 ((Ab cs ts (Aj (bw 0) (bw 1) (bw 2)) k)++[(3,(k:Int),0)])) A U U U U (by have:=Co cs ts (Aj (bw 0) (bw 1) (bw 2)) k;first|omega|(simp only [α4,β0,β2];omega)) U (fun q hq=>by show FR _=FR _;rw [E7 hq]) (by show FR _=_;rw [E8]) (fun z=>⟨_,rfl,rfl⟩) fun A=>have A:=(A.rowAs 3 (((Ab cs ts (Aj (bw 0) (bw 1) (bw 2)) k)++[(3,(k:Int),0)]).length) (B4 ((Ab cs ts (Aj (bw 0) (bw 1) (bw 2)) k)++[(3,(k:Int),0)])) U (PY _ _) (fun q hq=>rfl) (fun z=>⟨_,rfl,rfl⟩)).say 84 (.sl 3 (((Ab cs ts (Aj (bw 0) (bw 1) (bw 2)) k)++[(3,(k:Int),0)]).length) 0) U (Rr _ _ _);N9 9 A U (AE (by omega)<|AB) fun A=>⟨k+1,_,(by omega),(by omega),(((Sy.mvA 3 3 (show(Ab cs ts (Aj (bw 0) (bw 1) (bw 2)) (k+1))=((Ab cs ts (Aj (bw 0) (bw 1) (bw 2)) k)++[(3,(k:Int),0)]) by show _++_++_=_;rw [if_neg (α7 (Yz (.inr h3) (by omega) (M6 bw (show 0≤(k:Int)∧(k:Int)<3 by omega)) (rA T2))),if_pos (by rw [M6 bw (show 0≤(k:Int)∧(k:Int)<3 by omega)];omega)];simp only [ε0]) A U U).cut [0,2,3,4] U).mv 1 [3] U U U U (by simp only [β0,β2]at h0;omega)).sayT (by rfl)⟩))
      (fun h5 A=>by exact(N9 9 A U (AE (by omega)<|AB) fun A=>⟨k+1,_,(by omega),(by omega),(((Sy.mvA 1 3 (show(Ab cs ts (Aj (bw 0) (bw 1) (bw 2)) (k+1))=(Ab cs ts (Aj (bw 0) (bw 1) (bw 2)) k) by show _++_++_=_;rw [if_neg (α7 (Yz (.inr h3) (by omega) (M6 bw (show 0≤(k:Int)∧(k:Int)<3 by omega)) (rA T2))),if_neg (by rw [M6 bw (show 0≤(k:Int)∧(k:Int)<3 by omega)];omega)];simp only [ε0]) A U U).cut [0,2,3,4] U).trunc 2 U U U (CL h0 U)).sayT (by rfl)⟩))))))
    (fun h2 A=>by exact(N9 10 A U (AE (by omega)<|AB) fun A=>Af A U (F7 (v:=fun k=>.sla (AK (rp k)) ((bw k).length) (rm (rp k))) hX U U U U U U U (by omega) (fun k hk=>match k,hk with|0,_=>rfl|1,_=>rfl|2,_=>rfl)) fun A=>N9 4 A U U fun A=>AU 79 A U
     (fun h6 A=>by exact(N9 6 A U U fun A=>Hw hX ((Ab cs ts (Aj (bw 0) (bw 1) (bw 2)) k).length+1) (B4 ((Ab cs ts (Aj (bw 0) (bw 1) (bw 2)) k)++[(3,(k:Int),0)])) A U U U U (by have:=Co cs ts (Aj (bw 0) (bw 1) (bw 2)) k;first|omega|(simp only [α4,β0,β2];omega)) U (fun q hq=>by show FR _=FR _;rw [E7 hq]) (by show FR _=_;rw [E8]) (fun z=>⟨_,rfl,rfl⟩) fun A=>have A:=(A.rowAs 3 (((Ab cs ts (Aj (bw 0) (bw 1) (bw 2)) k)++[(3,(k:Int),0)]).length) (B4 ((Ab cs ts (Aj (bw 0) (bw 1) (bw 2)) k)++[(3,(k:Int),0)])) U (PY _ _) (fun q hq=>rfl) (fun z=>⟨_,rfl,rfl⟩)).say 84 (.sl 3 (((Ab cs ts (Aj (bw 0) (bw 1) (bw 2)) k)++[(3,(k:Int),0)]).length) 0) U (Rr _ _ _);N9 9 A U (AE (by omega)<|AB) fun A=>⟨k+1,_,(by omega),(by omega),(((Sy.mvA 3 3 (show(Ab cs ts (Aj (bw 0) (bw 1) (bw 2)) (k+1))=((Ab cs ts (Aj (bw 0) (bw 1) (bw 2)) k)++[(3,(k:Int),0)]) by show _++_++_=_;rw [if_neg (α7 (Yz (.inl (by omega)) (by omega) (M6 bw (show 0≤(k:Int)∧(k:Int)<3 by omega)) (rA T2))),if_pos (by rw [M6 bw (show 0≤(k:Int)∧(k:Int)<3 by omega)];omega)];simp only [ε0]) A U U).cut [0,2,3,4] U).mv 1 [3] U U U U (by simp only [β0,β2]at h0;omega)).sayT (by rfl)⟩))
     (fun h6 A=>by exact(N9 9 A U (AE (by omega)<|AB) fun A=>⟨k+1,_,(by omega),(by omega),(((Sy.mvA 1 3 (show(Ab cs ts (Aj (bw 0) (bw 1) (bw 2)) (k+1))=(Ab cs ts (Aj (bw 0) (bw 1) (bw 2)) k) by show _++_++_=_;rw [if_neg (α7 (Yz (.inl (by omega)) (by omega) (M6 bw (show 0≤(k:Int)∧(k:Int)<3 by omega)) (rA T2))),if_neg (by rw [M6 bw (show 0≤(k:Int)∧(k:Int)<3 by omega)];omega)];simp only [ε0]) A U U).cut [0,2,3,4] U).trunc 2 U U U (CL h0 U)).sayT (by rfl)⟩))))))
   (fun h1 A=>by exact(N9 4 A U U fun A=>have GY:k=nn:=(by omega);have A:=Sy.mvA 1 3 (l':=Ab cs ts (Aj (bw 0) (bw 1) (bw 2)) nn) (by rw [GY]) A U U;N9 6 A U U fun A=>KC hX [1] A ⟨rfl,rfl⟩ U U U U U U U U h0))
theorem n8 (tv:Nat→Value)(m:Nat→Int)(cs:List AD)(ts:List Th)(nn:Nat)(ra:ak)(rc:Nat)(bs bo:Nat→Nat)(da:Nat→Option Addr)(dp:Nat→Nat)(pv:Nat→Value)(rp:Nat→Option Loc)(bw:Nat→List Wr)(hC:Ac cs ts nn)(Cx:nn≤3)(rQ:Ab cs ts (Aj (bw 0) (bw 1) (bw 2)) nn=[]):BQ (Mj cs ts nn ra bs bo da dp pv) Tryz.prog 55 [.ptr 0 0] [O (dT tv m nn ra rc rp bw)] (Rt (.tt) [O (dT tv m nn ra rc rp bw)]):=
 Aa (n:=26) (by kernel_rfl) Tryz.func55 U U U fun G w a h0 hI A=>N9 12 A U U fun A=>Bq (fun(k:Nat)=>[(0,.ptr 0 0),(2,.ff),(3,.n9 (k:Int))]) (fun(k:Nat)=>[O (dT tv m nn ra rc rp bw)]) (fun(k:Nat)=>k≤nn∧Ab cs ts (Aj (bw 0) (bw 1) (bw 2)) k=[]) (fun(k:Nat)=>nn - k) 0 ⟨β7 _,rfl⟩ ((A.cut [0,2,3] U).trunc 1 U U U (CL h0 U)) fun k hK {G a w} A=>N9 7 A U U fun A=>Af A U (AT (X:=⟨_,true⟩) (out:=.val (.sla ra nn rc) []) hX U AB) fun A=>N9 4 A U U fun A=>AU 10 A U
   (fun h1 A=>by exact(N9 6 A U U fun A=>have GY:((k:Int)).toNat<nn:=(by omega);have Bo:AP (some ⟨bs ((k:Int)).toNat,bo ((k:Int)).toNat,none⟩) 11 1 (fun _=>E5 (.sla (da ((k:Int)).toNat) (cs.getD (((k:Int)).toNat) AD.z).l.length (dp ((k:Int)).toNat)) (Nk ts (k:Int)).r (((Nk ts (k:Int)).at_:Nat):Int) (.v (pv ((k:Int)).toNat))) _ _:=(hI.2.2 ((k:Int)).toNat (by omega)).1;have Ch:Fe (da ((k:Int)).toNat) (cs.getD (((k:Int)).toNat) AD.z).l _ _:=(hI.2.2 ((k:Int)).toNat (by omega)).2;have T2:(Nk ts (k:Int)).at_≤(cs.getD (((k:Int)).toNat) AD.z).l.length:=hC.a ((k:Int)).toNat (by have:=hC.m;omega);N9 3 A U U fun A=>I9 [0] Mj.ok hI (Wd tv m cs ts nn ra rc bs bo da dp pv rp bw (k:Int) (by omega)) A U fun A=>N9 1 A U U fun A=>AU 16 A U
    (fun h2 A=>absurd rQ (Qh (k:=k) (by have q:(Nk ts (k:Int)).at_=(ts.getD ((k:Int)).toNat Th.z).at_:=rfl;rw [M6 bw (show 0≤(k:Int)∧(k:Int)<3 by omega)];omega) (by rw [M6 bw (show 0≤(k:Int)∧(k:Int)<3 by omega)];omega) (show k<nn by omega)))
    (fun h2 A=>by exact(have iT:(((Nk ts (k:Int)).at_:Nat):Int)=(((cs.getD (((k:Int)).toNat) AD.z).l.length:Nat):Int):=(by omega);N9 5 A U (AE (by omega)<|AB) fun A=>Af A U (F7 (v:=fun k=>.sla (AK (rp k)) ((bw k).length) (rm (rp k))) hX U U U U U U U (by omega) (fun k hk=>match k,hk with|0,_=>rfl|1,_=>rfl|2,_=>rfl)) fun A=>N9 5 A U U fun A=>AU 25 A U
     (fun h3 A=>absurd rQ (Qh (k:=k) (by have q:(Nk ts (k:Int)).at_=(ts.getD ((k:Int)).toNat Th.z).at_:=rfl;rw [M6 bw (show 0≤(k:Int)∧(k:Int)<3 by omega)];omega) (by rw [M6 bw (show 0≤(k:Int)∧(k:Int)<3 by omega)];omega) (show k<nn by omega)))
     (fun h3 A=>by exact(have iU:(Aj (bw 0) (bw 1) (bw 2)) (k:Int)=0:=(by rw [M6 bw (show 0≤(k:Int)∧(k:Int)<3 by omega)];omega);N9 9 A U (AE (by omega)<|AB) fun A=>⟨k+1,_,(by omega),⟨(by omega),aF hK.2 iT iU⟩,((A.cut [0,2,3] U).trunc 1 U U U (CL h0 U)).sayT (by rfl)⟩))))))
   (fun h1 A=>by exact(N9 4 A U U fun A=>have GY:k=nn:=(by omega);have qE:Ab cs ts (Aj (bw 0) (bw 1) (bw 2)) nn=[]:=(by rw [←GY];exact hK.2);N9 5 A U U fun A=>R9 A U h0 U U U))
theorem oA (tv:Nat→Value)(m:Nat→Int)(cs:List AD)(ts:List Th)(nn:Nat)(ra:ak)(rc:Nat)(bs bo:Nat→Nat)(da:Nat→Option Addr)(dp:Nat→Nat)(pv:Nat→Value)(rp:Nat→Option Loc)(bw:Nat→List Wr)(hC:Ac cs ts nn)(Cx:nn≤3)(rQ:Ab cs ts (Aj (bw 0) (bw 1) (bw 2)) nn≠[]):BQ (Mj cs ts nn ra bs bo da dp pv) Tryz.prog 55 [.ptr 0 0] [O (dT tv m nn ra rc rp bw)] (Rt (.ff) [O (dT tv m nn ra rc rp bw)]):=
 Aa (n:=26) (by kernel_rfl) Tryz.func55 U U U fun G w a h0 hI A=>N9 12 A U U fun A=>Bq (fun(k:Nat)=>[(0,.ptr 0 0),(2,.ff),(3,.n9 (k:Int))]) (fun(k:Nat)=>[O (dT tv m nn ra rc rp bw)]) (fun(k:Nat)=>k≤nn∧Ab cs ts (Aj (bw 0) (bw 1) (bw 2)) k=[]) (fun(k:Nat)=>nn - k) 0 ⟨β7 _,rfl⟩ ((A.cut [0,2,3] U).trunc 1 U U U (CL h0 U)) fun k hK {G a w} A=>N9 7 A U U fun A=>Af A U (AT (X:=⟨_,true⟩) (out:=.val (.sla ra nn rc) []) hX U AB) fun A=>N9 4 A U U fun A=>AU 10 A U
   (fun h1 A=>by exact(N9 6 A U U fun A=>have GY:((k:Int)).toNat<nn:=(by omega);have Bo:AP (some ⟨bs ((k:Int)).toNat,bo ((k:Int)).toNat,none⟩) 11 1 (fun _=>E5 (.sla (da ((k:Int)).toNat) (cs.getD (((k:Int)).toNat) AD.z).l.length (dp ((k:Int)).toNat)) (Nk ts (k:Int)).r (((Nk ts (k:Int)).at_:Nat):Int) (.v (pv ((k:Int)).toNat))) _ _:=(hI.2.2 ((k:Int)).toNat (by omega)).1;have Ch:Fe (da ((k:Int)).toNat) (cs.getD (((k:Int)).toNat) AD.z).l _ _:=(hI.2.2 ((k:Int)).toNat (by omega)).2;have T2:(Nk ts (k:Int)).at_≤(cs.getD (((k:Int)).toNat) AD.z).l.length:=hC.a ((k:Int)).toNat (by have:=hC.m;omega);N9 3 A U U fun A=>I9 [0] Mj.ok hI (Wd tv m cs ts nn ra rc bs bo da dp pv rp bw (k:Int) (by omega)) A U fun A=>N9 1 A U U fun A=>AU 16 A U
    (fun h2 A=>N9 18 A U U fun A=>R9 A U h0 U U U)
    (fun h2 A=>by exact(have iT:(((Nk ts (k:Int)).at_:Nat):Int)=(((cs.getD (((k:Int)).toNat) AD.z).l.length:Nat):Int):=(by omega);N9 5 A U (AE (by omega)<|AB) fun A=>Af A U (F7 (v:=fun k=>.sla (AK (rp k)) ((bw k).length) (rm (rp k))) hX U U U U U U U (by omega) (fun k hk=>match k,hk with|0,_=>rfl|1,_=>rfl|2,_=>rfl)) fun A=>N9 5 A U U fun A=>AU 25 A U
     (fun h3 A=>N9 7 A U U fun A=>R9 A U h0 U U U)
     (fun h3 A=>by exact(have iU:(Aj (bw 0) (bw 1) (bw 2)) (k:Int)=0:=(by rw [M6 bw (show 0≤(k:Int)∧(k:Int)<3 by omega)];omega);N9 9 A U (AE (by omega)<|AB) fun A=>⟨k+1,_,(by omega),⟨(by omega),aF hK.2 iT iU⟩,((A.cut [0,2,3] U).trunc 1 U U U (CL h0 U)).sayT (by rfl)⟩))))))
   (fun h1 A=>by exact(N9 4 A U U fun A=>have GY:k=nn:=(by omega);have qE:Ab cs ts (Aj (bw 0) (bw 1) (bw 2)) nn=[]:=(by rw [←GY];exact hK.2);N9 5 A U U fun A=>R9 A U h0 U (absurd qE rQ) U))
theorem tX (tv:Nat→Value)(m:Nat→Int)(cs:List AD)(ts:List Th)(nn:Nat)(ra:ak)(rc:Nat)(bs bo:Nat→Nat)(da:Nat→Option Addr)(dp:Nat→Nat)(pv:Nat→Value)(rp:Nat→Option Loc)(bw:Nat→List Wr)(hC:Ac cs ts nn)(Cx:nn≤3):BQ (Mj cs ts nn ra bs bo da dp pv) Tryz.prog 55 [.ptr 0 0] [O (dT tv m nn ra rc rp bw)] (Rt (.bool ((((Ab cs ts (Aj (bw 0) (bw 1) (bw 2)) nn).length:Nat):Int)==0)) [O (dT tv m nn ra rc rp bw)]):=by
 by_cases h:Ab cs ts (Aj (bw 0) (bw 1) (bw 2)) nn=[]
 ·refine LG (n8 tv m cs ts nn ra rc bs bo da dp pv rp bw hC Cx h) (fun{G}=>?_)
  rw [h];rfl
 ·refine LG (oA tv m cs ts nn ra rc bs bo da dp pv rp bw hC Cx h) (fun{G}=>?_)
  have hl:(((Ab cs ts (Aj (bw 0) (bw 1) (bw 2)) nn).length:Nat):Int)≠0:=fun e=>h (γ9 (by omega))
  exact congrArg (fun b=>some (Value.bool b)) (δ7.2 hl).symm
theorem oB (tv:Nat→Value)(m:Nat→Int)(cs:List AD)(ts:List Th)(nn:Nat)(ra:ak)(rc:Nat)(bs bo:Nat→Nat)(da:Nat→Option Addr)(dp:Nat→Nat)(pv:Nat→Value)(rp:Nat→Option Loc)(bw:Nat→List Wr)(Cx:nn≤3):BQ (Mj cs ts nn ra bs bo da dp pv) Tryz.prog 56 [.ptr 0 0] [O (dT tv m nn ra rc rp bw)] (Rt (.agg (Ij (Mi (HW ts) nn) m)) [O (dT tv m nn ra rc rp bw)]):=
 Aa (n:=33) (by kernel_rfl) Tryz.func56 U U U fun G w a h0 hI A=>N9 18 A U U fun A=>have A:=A.sayH (H':=[O (dT tv m nn ra rc rp bw),O [.z9,.z9,.z9,.z9,.z9,.z9,.z9,.z9,.z9,.z9,.z9,.z9,.z9,.z9,.z9,.z9,.z9,.z9,.z9,.z9,.z9,.z9,.z9,.z9,.z9,.z9,.z9],O (Ij (Mi (HW ts) 0) m)]) (by rfl);N9 5 A U U fun A=>Bq (fun(k:Nat)=>[(0,.ptr 0 0),(2,.ptr 1 0),(3,.ptr 2 0),(4,.n9 (k:Int))]) (fun(k:Nat)=>[O (dT tv m nn ra rc rp bw),O [.z9,.z9,.z9,.z9,.z9,.z9,.z9,.z9,.z9,.z9,.z9,.z9,.z9,.z9,.z9,.z9,.z9,.z9,.z9,.z9,.z9,.z9,.z9,.z9,.z9,.z9,.z9],O (Ij (Mi (HW ts) k) m)]) (fun(k:Nat)=>k≤nn) (fun(k:Nat)=>nn - k) 0 (β7 _) ((A.cut [0,2,3,4] U).trunc 3 U U U (CL h0 U)) fun k hK {G a w} A=>N9 7 A U U fun A=>Af A U (AT (X:=⟨_,true⟩) (out:=.val (.sla ra nn rc) []) hX U AB) fun A=>N9 4 A U U fun A=>AU 16 A U
   (fun h1 A=>by exact(N9 5 A U U fun A=>have GY:((k:Int)).toNat<nn:=(by omega);have Bo:AP (some ⟨bs ((k:Int)).toNat,bo ((k:Int)).toNat,none⟩) 11 1 (fun _=>E5 (.sla (da ((k:Int)).toNat) (cs.getD (((k:Int)).toNat) AD.z).l.length (dp ((k:Int)).toNat)) (Nk ts (k:Int)).r (((Nk ts (k:Int)).at_:Nat):Int) (.v (pv ((k:Int)).toNat))) _ _:=(hI.2.2 ((k:Int)).toNat (by omega)).1;have Ch:Fe (da ((k:Int)).toNat) (cs.getD (((k:Int)).toNat) AD.z).l _ _:=(hI.2.2 ((k:Int)).toNat (by omega)).2;N9 5 A U U fun A=>Af A U (AT (X:=⟨_,true⟩) (out:=.val (.sla ra nn rc) []) hX U AB) fun A=>N9 1 A U U fun A=>Af A U (Fb (e:=99) U U U U hI.1 (by kernel_rfl) (by omega)) fun A=>Af A U (MA (q:=0) (r:=[.v (.pointer (some ⟨bs ((k:Int)).toNat,bo ((k:Int)).toNat,none⟩))]) (v:=.v (.pointer (some ⟨bs ((k:Int)).toNat,bo ((k:Int)).toNat,none⟩))) hX U U U hI.1 (by omega) U U U) fun A=>Af A U (Im U U U) fun A=>Af A U (Io U U U (by kernel_rfl)) fun A=>Af A U (Rv (q:=1) (v:=.agg [.n9 (HW ts ((k:Int)).toNat 0),.n9 (HW ts ((k:Int)).toNat 1),.n9 (HW ts ((k:Int)).toNat 2),.n9 (HW ts ((k:Int)).toNat 3),.n9 (HW ts ((k:Int)).toNat 4),.n9 (HW ts ((k:Int)).toNat 5),.n9 (HW ts ((k:Int)).toNat 6),.n9 (HW ts ((k:Int)).toNat 7)]) hX U U U Bo U U U) fun A=>N9 2 A U (AE (by omega)<|AB) fun A=>Af A U (lV (i:=2) (r:=HW ts ((k:Int)).toNat) (f:=Mi (HW ts) k) (m:=m) hX U U U U U U U (by omega)) fun A=>N9 8 A U (AE (by omega)<|AB) fun A=>⟨k+1,_,(by omega),(by omega),(((A.sayH (H':=[O (dT tv m nn ra rc rp bw),O [.z9,.z9,.z9,.z9,.z9,.z9,.z9,.z9,.z9,.z9,.z9,.z9,.z9,.z9,.z9,.z9,.z9,.z9,.z9,.z9,.z9,.z9,.z9,.z9,.z9,.z9,.z9],O (Ij (Mi (HW ts) (k+1)) m)]) (by rw [←dD (HW ts) k];rfl)).cut [0,2,3,4] U).trunc 3 U U U (CL h0 U)).sayT (by rfl)⟩))
   (fun h1 A=>by exact(N9 4 A U U fun A=>have GY:k=nn:=(by omega);have A:=A.sayH (H':=[O (dT tv m nn ra rc rp bw),O [.z9,.z9,.z9,.z9,.z9,.z9,.z9,.z9,.z9,.z9,.z9,.z9,.z9,.z9,.z9,.z9,.z9,.z9,.z9,.z9,.z9,.z9,.z9,.z9,.z9,.z9,.z9],O (Ij (Mi (HW ts) nn) m)]) (by rw [GY]);N9 6 A U U fun A=>R9 A U h0 U U U))
theorem l8 {x:Int}(h:0≤x∧x<3):x.toNat<3:=by omega
theorem I0 {m:Rg}{l:List Wr}(hm:∀k,k<3→inr (m k)):∀(n:Nat) (k:Nat),k<3→inr (Cr m l n k)
 |0,k,h=>hm k h
 |n+1,k,h=>by
  show inr (AX _ _ _ _)
  unfold AX
  split
  ·next e=>exact LH _ _ _ (by have:=I0 (l:=l) hm n k h;subst e;exact this)
  ·exact I0 hm n k h
theorem gE {m:Rg}{l:List Wr}{k:Nat}{lc:Int}(h:(l.getD k Wr.z).lc=lc):AM (Cr m l k lc.toNat) (l.getD k Wr.z).o (l.getD k Wr.z).s (l.getD k Wr.z).v=Cr m l (k+1) lc.toNat:=by
 subst h
 show _=AX _ _ _ _
 unfold AX
 rw [if_pos U]
theorem gF {m:Rg}{l:List Wr}{k:Nat}{lc:Int}(h:(l.getD k Wr.z).lc≠lc)(h1:0≤(l.getD k Wr.z).lc)(h2:0≤lc):Cr m l k lc.toNat=Cr m l (k+1) lc.toNat:=by
 show _=AX _ _ _ _
 unfold AX
 rw [if_neg (by omega)]
theorem tY (tv:Nat→Value)(m:Nat→Int)(nn:Nat)(ra:ak)(rc:Nat)(rp:Nat→Option Loc)(bw:Nat→List Wr)(th lc o s:Int)(hl:0≤lc∧lc<3)(hO:OS o s)(hW:∀k,k<(bw th.toNat).length→(0≤((bw th.toNat).getD k Wr.z).lc∧((bw th.toNat).getD k Wr.z).lc<3)∧OS ((bw th.toNat).getD k Wr.z).o ((bw th.toNat).getD k Wr.z).s∧inr ((bw th.toNat).getD k Wr.z).v)(T3:∀k,k<3→inr (m k))(Er:(bw th.toNat).length≤1000000)(ZQ:0≤th∧th<3):BQ (AP (AK (rp th.toNat)) 3 (bw th.toNat).length (Bh (bw th.toNat))) Tryz.prog 62 [.ptr 0 0,.n9 th,.agg [.n9 lc,.n9 (AY o s)]] [O (dT tv m nn ra rc rp bw)] (Rt (.int .i64 (Int.fdiv (Cr m (bw th.toNat) (bw th.toNat).length lc.toNat) (2^min (8*o).toNat (IntKind.bits .i64)))) [O (dT tv m nn ra rc rp bw)]):=
 Aa (n:=62) (by kernel_rfl) Tryz.func62 U U U fun G w a h0 hI A=>N9 7 A U U fun A=>GL BW [.ptr 0 0,.ptr 1 0,.n9 lc,.ptr 0 0,.ptr 0 33,.ix (.ptr 0 33) 1 3 lc 0,.n9 (m lc.toNat),.n9 (m lc.toNat)] [] [] 0 [([],[],[O (dT tv m nn ra rc rp bw),O [.n9 lc,.n9 (AY o s)]])] [[true,true,true,true,true,true,true,true]] A U U U U (by kernel_rfl) U (by kernel_rfl) ⟨⟨AJ 0 U U,⟨AJ 0 U U,⟨AJ 0 U U,⟨AJ 0 U U,⟨AJ 0 U U,⟨AJ 0 U (AE (by have:=DZ hO;first|omega|(have hz:=DZ (hW (((k:Int)).toNat) (by rw [α6];omega)).2.1;omega))<|AB),⟨BB 0 U (F7 (v:=fun k=>.int .i64 (m k)) hX U U U U U U U (by have:=DZ hO;first|omega|(have hz:=DZ (hW (((k:Int)).toNat) (by rw [α6];omega)).2.1;omega)) (fun k hk=>match k,hk with|0,_=>rfl|1,_=>rfl|2,_=>rfl)),⟨AJ 0 U U,trivial⟩⟩⟩⟩⟩⟩⟩⟩,trivial⟩ fun A=>N9 8 A U U fun A=>Bq (fun(k:Nat)=>[(0,.ptr 0 0),(1,.n9 th),(5,.ptr 1 0),(6,.n9 0),(7,.n9 (Cr m (bw th.toNat) k lc.toNat)),(8,.n9 (k:Int))]) (fun(k:Nat)=>[O (dT tv m nn ra rc rp bw),O [.n9 lc,.n9 (AY o s)]]) (fun(k:Nat)=>k≤(bw th.toNat).length) (fun(k:Nat)=>(bw th.toNat).length - k) 0 (β7 _) ((A.cut [0,1,5,6,7,8] U).trunc 2 U U U (CL h0 U)) fun k hK {G a w} A=>N9 9 A U (AE (by have:=DZ hO;first|omega|(have hz:=DZ (hW (((k:Int)).toNat) (by rw [α6];omega)).2.1;omega))<|AB) fun A=>Af A U (F7 (v:=fun k=>.sla (AK (rp k)) ((bw k).length) (rm (rp k))) hX U U U U U U U (by have:=DZ hO;first|omega|(have hz:=DZ (hW (((k:Int)).toNat) (by rw [α6];omega)).2.1;omega)) (fun k hk=>match k,hk with|0,_=>rfl|1,_=>rfl|2,_=>rfl)) fun A=>N9 4 A U U fun A=>AU 25 A U
   (fun h1 A=>by exact(N9 6 A U U fun A=>have XR:AP (AK (rp th.toNat)) 3 (bw th.toNat).length (Bh (bw th.toNat)) _ _:=hI;N9 6 A U (AE (by have:=DZ hO;first|omega|(have hz:=DZ (hW (((k:Int)).toNat) (by rw [α6];omega)).2.1;omega))<|AB) fun A=>Af A U (F7 (v:=fun k=>.sla (AK (rp k)) ((bw k).length) (rm (rp k))) hX U U U U U U U (by have:=DZ hO;first|omega|(have hz:=DZ (hW (((k:Int)).toNat) (by rw [α6];omega)).2.1;omega)) (fun k hk=>match k,hk with|0,_=>rfl|1,_=>rfl|2,_=>rfl)) fun A=>N9 1 A U U fun A=>Af A U (Fb (e:=107) U U U U XR (by kernel_rfl) (by omega)) fun A=>Af A U (K9 (XM ((bw th.toNat).getD ((k:Int)).toNat Wr.z)) hX U U U XR (by omega) U U) fun A=>N9 14 A U U fun A=>AV 42 A U
    (fun h2 A=>by exact(N9 1 A U U fun A=>A9 hX BW [(6,.n9 (((bw th.toNat).getD ((k:Int)).toNat Wr.z).o)),(12,.n9 (AM (Cr m (bw th.toNat) k lc.toNat) ((bw th.toNat).getD ((k:Int)).toNat Wr.z).o ((bw th.toNat).getD ((k:Int)).toNat Wr.z).s ((bw th.toNat).getD ((k:Int)).toNat Wr.z).v))] [] A U (AE (by have:=DZ hO;first|omega|(have hz:=DZ (hW (((k:Int)).toNat) (by rw [α6];omega)).2.1;omega))<|AE (by have:=DZ hO;first|omega|(have hz:=DZ (hW (((k:Int)).toNat) (by rw [α6];omega)).2.1;omega))<|AB) U U (by kernel_rfl) (An _ _) ⟨.inl ⟨_,_,rfl,rfl,VN ((bw th.toNat).getD ((k:Int)).toNat Wr.z).o ((bw th.toNat).getD ((k:Int)).toNat Wr.z).s (AY ((bw th.toNat).getD ((k:Int)).toNat Wr.z).o ((bw th.toNat).getD ((k:Int)).toNat Wr.z).s) (hW _ (by rw [α6];omega)).2.1 U⟩,⟨.inl ⟨_,_,rfl,rfl,Zz (Cr m (bw th.toNat) k lc.toNat) ((bw th.toNat).getD ((k:Int)).toNat Wr.z).o ((bw th.toNat).getD ((k:Int)).toNat Wr.z).s ((bw th.toNat).getD ((k:Int)).toNat Wr.z).v (hW _ (by rw [α6];omega)).2.1 (I0 T3 _ _ (by omega)) (hW _ (by rw [α6];omega)).2.2⟩,trivial⟩⟩ fun A=>N9 7 A U (AE (by have:=DZ hO;first|omega|(have hz:=DZ (hW (((k:Int)).toNat) (by rw [α6];omega)).2.1;omega))<|AB) fun A=>⟨k+1,_,(by omega),(by omega),(((AG A 7 (.int .i64 (Cr m (bw th.toNat) (k+1) lc.toNat)) U (fun _=>congrArg (fun z=>some (Value.int .i64 z)) (gE (by have hx:=h2;simp at hx;exact hx)))).cut [0,1,5,6,7,8] U).trunc 2 U U U (CL h0 U)).sayT (by rfl)⟩))
    (fun h2 A=>by exact(N9 9 A U (AE (by have:=DZ hO;first|omega|(have hz:=DZ (hW (((k:Int)).toNat) (by rw [α6];omega)).2.1;omega))<|AB) fun A=>⟨k+1,_,(by omega),(by omega),(((AG A 7 (.int .i64 (Cr m (bw th.toNat) (k+1) lc.toNat)) U (fun _=>congrArg (fun z=>some (Value.int .i64 z)) (gF (k:=k) (by have hx:=h2;simp at hx;exact hx) (hW k (by omega)).1.1 hl.1))).cut [0,1,5,6,7,8] U).trunc 2 U U U (CL h0 U)).sayT (by rfl)⟩))))
   (fun h1 A=>by exact(N9 8 A U U fun A=>C9 [] (VN o s (AY o s) hO U) A U fun A=>N9 6 A U (AE (by have:=DZ hO;first|omega|(have hz:=DZ (hW (((k:Int)).toNat) (by rw [α6];omega)).2.1;omega))<|AE (by have:=DZ hO;first|omega|(have hz:=DZ (hW (((k:Int)).toNat) (by rw [α6];omega)).2.1;omega))<|AB) fun A=>R9 A U h0 U (by have e:k=(bw th.toNat).length:=(by omega);subst e;rfl) U))
theorem We (tv:Nat→Value)(m:Nat→Int)(nn:Nat)(ra:ak)(rc:Nat)(rp:Nat→Option Loc)(bw:Nat→List Wr)(lc o s v:Int)(hl:0≤lc∧lc<3)(hO:OS o s)(ha:inr (m lc.toNat))(hv:inr v):Fn Tryz.prog 60 [.ptr 0 0,.agg [.n9 lc,.n9 (AY o s),.n9 v]] [O (dT tv m nn ra rc rp bw)] (Rt (.tup []) [O (dT tv (AX m lc.toNat (AM (m lc.toNat) o s v)) nn ra rc rp bw)]):=
 AR (n:=31) (by kernel_rfl) Tryz.func60 U U U fun G w a h0 A=>N9 5 A U U fun A=>GL BW [.ptr 0 0,.ptr 1 0,.ptr 1 0,.n9 lc,.ptr 0 0,.ptr 1 0,.ptr 1 0,.n9 lc,.ptr 0 0,.ptr 0 33,.ix (.ptr 0 33) 1 3 lc 0,.n9 (m lc.toNat),.ptr 1 2,.n9 v,.ptr 1 0,.ptr 1 1,.n9 (AY o s),.n9 o,.n9 (8*o),.n9 (IntKind.wrap .i64 (v*2^min ((8*o)).toNat (IntKind.bits .i64))),.ptr 1 0,.ptr 1 1,.n9 (AY o s),.n9 (AM (m lc.toNat) o s v),.ptr 0 0,.ptr 0 33,.ix (.ptr 0 33) 1 3 lc 0,.tup []] [27] [] 0 [([],[],[O (dT tv m nn ra rc rp bw),O [.n9 lc,.n9 (AY o s),.n9 v]]),([27],[],[O (dT tv (AX m lc.toNat (AM (m lc.toNat) o s v)) nn ra rc rp bw),O [.n9 lc,.n9 (AY o s),.n9 v]])] [[true,true,true,true,true,true,true,true,true,true,true,true,true,true,true,true,true,true,true,true,true,true,true,true,true,true,true,true],[false,false,false,false,false,false,false,false,false,false,false,false,false,false,false,false,false,false,false,false,false,false,false,false,true,true,false,false]] A U U U U (by kernel_rfl) U (by kernel_rfl) ⟨⟨AJ 0 U U,⟨AJ 0 U U,⟨AJ 0 U U,⟨AJ 0 U U,⟨AJ 0 U U,⟨AJ 0 U U,⟨AJ 0 U U,⟨AJ 0 U U,⟨AJ 0 U U,⟨AJ 0 U U,⟨AJ 0 U (AE (by have:=DZ hO;omega)<|AB),⟨BB 0 U (F7 (v:=fun k=>.int .i64 (m k)) hX U U U U U U U (by have:=DZ hO;omega) (fun k hk=>match k,hk with|0,_=>rfl|1,_=>rfl|2,_=>rfl)),⟨AJ 0 U U,⟨AJ 0 U U,⟨AJ 0 U U,⟨AJ 0 U U,⟨AJ 0 U U,⟨BB 0 U (Ct U U (VN o s (AY o s) hO U)),⟨AJ 0 U (AE (by have:=DZ hO;omega)<|AB),⟨AJ 0 U (AE (by have:=DZ hO;omega)<|AB),⟨AJ 0 U U,⟨AJ 0 U U,⟨AJ 0 U U,⟨BB 0 U (Ct U U (Zz (m lc.toNat) o s v hO ha hv)),⟨AJ 0 U U,⟨AJ 0 U U,⟨AJ 0 U (AE (by have:=DZ hO;omega)<|AB),⟨BB 1 U (sV (cs':=fun k=>(dT tv (AX m k (AM (m lc.toNat) o s v)) nn ra rc rp bw)) hX U U U U U U U U (by have:=DZ hO;omega) (fun k hk=>match k,hk with|0,_=>rfl|1,_=>rfl|2,_=>rfl) U),trivial⟩⟩⟩⟩⟩⟩⟩⟩⟩⟩⟩⟩⟩⟩⟩⟩⟩⟩⟩⟩⟩⟩⟩⟩⟩⟩⟩⟩,⟨⟨AJ 1 U U,⟨AJ 1 U U,trivial⟩⟩,trivial⟩⟩ fun A=>GP (R9 A U h0 U U U)
end Mc.Ts
namespace Mc.Ts
open Go.RowKit
set_option simprocs false
abbrev dW (tv:Nat→Value)(m:Rg)(nn:Nat)(ra:ak)(rc:Nat)(rp:Nat→Option Loc)(bw:Nat→List Wr):List Value:=[tv 0,tv 1,tv 2,tv 3,tv 4,tv 5,tv 6,tv 7,tv 8,tv 9,tv 10,tv 11,tv 12,tv 13,tv 14,tv 15,tv 16,tv 17,tv 18,tv 19,tv 20,tv 21,tv 22,tv 23,tv 24,tv 25,tv 26,tv 27,tv 28,tv 29,tv 30,tv 31,.slice ra nn rc,.int .i64 (m 0),.int .i64 (m 1),.int .i64 (m 2),.slice (AK (rp 0)) (bw 0).length (rm (rp 0)),.slice (AK (rp 1)) (bw 1).length (rm (rp 1)),.slice (AK (rp 2)) (bw 2).length (rm (rp 2)),.bool true]
structure rB (tv:Nat→Value)(m:Rg)(cs:List AD)(ts:List Th)(nn:Nat)(ra:ak)(rc:Nat)(tr:List Tr)(rp:Nat→Option Loc)(bw:Nat→List Wr)(DL:Loc)(kb:ae)(w:World):Prop where
 blk:D3 w DL.b (DL.pre++dW tv m nn ra rc rp bw++DL.post).toArray DL.t
 row:AP ra 1 nn (R0 tr) w (DL.b::(kb++CF tr))
 jt:JT cs ts tr 0 w (DL.b::kb)
 cd:AH cs w (DL.b::(kb++CF tr))
def oC (tv:Nat→Value)(m:Rg)(cs:List AD)(ts:List Th)(nn:Nat)(ra:ak)(rc:Nat)(tr:List Tr)(rp:Nat→Option Loc)(bw:Nat→List Wr)(DL:Loc):SV→World→World→Prop:=fun _ w w'=>∃tr',D3 w' DL.b (DL.pre++dW tv m nn ra rc rp bw++DL.post).toArray DL.t∧JT cs ts tr' 0 w' [DL.b]∧tr'.length=nn∧(∀k,k<nn→(tr'.getD k Tr.z).L=(tr.getD k Tr.z).L)∧∀b,(CF tr').contains b=true→(DL.b::CF tr).contains b=true∨w.heap.size≤b
theorem yB {i:In}(hw:MC i=true)(h:i.op≠5):i.op=6:=by
 unfold MC at hw
 simp only [β9,ε5]at hw
 omega
theorem oD (tv:Nat→Value)(m:Nat→Int)(cs:List AD)(ts:List Th)(nn:Nat)(ra:ak)(rc:Nat)(tr:List Tr)(rp:Nat→Option Loc)(bw:Nat→List Wr)(DL:Loc)(th at_:Int)(XS:tr.length=nn)(Ls:ts.length=nn)(hle:nn≤cs.length)(Cx:nn≤3)(ZQ:0≤th∧th<((nn:Nat):Int))(FF:Fo (cs.getD (th.toNat) AD.z).l)(D6:(Nk ts th).at_<(cs.getD (th.toNat) AD.z).l.length)(T3:∀k,k<3→inr (m k))(wS:∀k,k<(bw th.toNat).length→(0≤((bw th.toNat).getD k Wr.z).lc∧((bw th.toNat).getD k Wr.z).lc<3)∧OS ((bw th.toNat).getD k Wr.z).o ((bw th.toNat).getD k Wr.z).s∧inr ((bw th.toNat).getD k Wr.z).v)(Er:(bw th.toNat).length≤1000000)(h5:(Ea cs ts th).op≠5)(h6:(Ea cs ts th).op=6→(bw th.toNat)=[]):Mf Tryz.prog 16 [EZ DL.b DL.pre.length,.agg [.n9 2,.n9 th,.n9 at_,.z9]] [] (DL.b::CF tr) (fun w=>rB tv m cs ts nn ra rc tr rp bw DL [] w∧AP (AK (rp th.toNat)) 3 (bw th.toNat).length (Bh (bw th.toNat)) w (DL.b::CF tr)) (oC tv (D5 m (Nk ts th).r (Ea cs ts th)) cs (Ak cs ts th (Hk (Cr m (bw th.toNat) (bw th.toNat).length) (Nk ts th).r (Ea cs ts th))) nn ra rc tr rp bw DL):=
 Eg (n:=103) (by kernel_rfl) Tryz.func16 U U U (fun i e h=>by rw [ι1]at h;cases h) fun G w a h0 ho hp A=>have ZN:=hp.2;have hp:=hp.1;have GY:th.toNat<nn:=(by omega);have aO:Uv (Ea cs ts th):=FF.snd D6;have XD:((Ea cs ts th).op=4∨(Ea cs ts th).op=5∨(Ea cs ts th).op=6)→((Ea cs ts th).sz=1∨(Ea cs ts th).sz=2∨(Ea cs ts th).sz=4∨(Ea cs ts th).sz=8):=FF.szs D6;have XE:((Ea cs ts th).op=4∨(Ea cs ts th).op=5∨(Ea cs ts th).op=6)→(0≤(Ea cs ts th).loc∧(Ea cs ts th).loc<3):=FF.loc D6;VS 0 A hp.blk U U fun A=>have B:=A;have A:=B.base;have h0:=B.mem.len;have hG:[some DL][0]?=some (some DL):=rfl;have jI:JT cs ts tr 0 _ (keys [O (dT tv m nn ra rc rp bw)] [some DL]):=hp.jt;have XF:AH cs _ (keys [O (dT tv m nn ra rc rp bw)] [some DL]):=AH.ok _ _ _ _ hp.cd (CQ.refl _ _) (fun b hb=>.inl (Ip b hb));have wT:AP (AK (rp th.toNat)) 3 (bw th.toNat).length (Bh (bw th.toNat)) _ (keys [O (dT tv m nn ra rc rp bw)] [some DL]):=AP.ok _ _ _ _ ZN (CQ.refl _ _) (fun b hb=>.inl (Ip b hb));have hI:Mj cs ts nn ra (fun k=>(tr.getD k Tr.z).L.b) (fun k=>(tr.getD k Tr.z).L.pre.length) (fun k=>(cs.getD k AD.z).ao) (fun k=>(cs.getD k AD.z).cp) (fun k=>Jt (tr.getD k Tr.z).pb (tr.getD k Tr.z).ps.length) _ _:=⟨AP.ok _ _ _ _ hp.row (CQ.refl _ _) (fun b hb=>.inl (Ip b hb)),JT.look2 (z:=tr) jI XF XF XS hle (fun _ _=>rfl) (fun _ _=>rfl)⟩;
 N9 9 A U U fun A=>N9 9 A U U fun A=>have A:=AG A 15 (.ff) U (fun _=>rfl);N9 6 A U U fun A=>have Bo:AP (some ⟨(tr.getD th.toNat Tr.z).L.b,(tr.getD th.toNat Tr.z).L.pre.length,none⟩) 11 1 (fun _=>E5 (.sla (cs.getD (th.toNat) AD.z).ao (cs.getD (th.toNat) AD.z).l.length (cs.getD (th.toNat) AD.z).cp) (Nk ts th).r (((Nk ts th).at_:Nat):Int) (.v (Jt (tr.getD th.toNat Tr.z).pb (tr.getD th.toNat Tr.z).ps.length))) _ _:=(hI.2.2 th.toNat GY).1;have Ch:Fe (cs.getD (th.toNat) AD.z).ao (cs.getD (th.toNat) AD.z).l _ _:=(hI.2.2 th.toNat GY).2;N9 4 A U U fun A=>Af A U (AT (X:=⟨_,true⟩) (out:=.val (.sla ra nn rc) []) hX U AB) fun A=>N9 1 A U U fun A=>Af A U (Fb (e:=99) U U U U hI.1 (by kernel_rfl) (by omega)) fun A=>Af A U (MA (q:=0) (r:=[.v (.pointer (some ⟨(tr.getD th.toNat Tr.z).L.b,(tr.getD th.toNat Tr.z).L.pre.length,none⟩))]) (v:=.v (.pointer (some ⟨(tr.getD th.toNat Tr.z).L.b,(tr.getD th.toNat Tr.z).L.pre.length,none⟩))) hX U U U hI.1 (by omega) U U U) fun A=>N9 4 A U U fun A=>GL BW [.v (.pointer (some ⟨(tr.getD th.toNat Tr.z).L.b,(tr.getD th.toNat Tr.z).L.pre.length,none⟩)),.v (.pointer (some ⟨(tr.getD th.toNat Tr.z).L.b,(tr.getD th.toNat Tr.z).L.pre.length,none⟩)),.v (.pointer (some ⟨(tr.getD th.toNat Tr.z).L.b,(tr.getD th.toNat Tr.z).L.pre.length+0,none⟩)),.sla ((cs.getD (th.toNat) AD.z).ao) ((cs.getD (th.toNat) AD.z).l.length) ((cs.getD (th.toNat) AD.z).cp),.v (.pointer (some ⟨(tr.getD th.toNat Tr.z).L.b,(tr.getD th.toNat Tr.z).L.pre.length,none⟩)),.v (.pointer (some ⟨(tr.getD th.toNat Tr.z).L.b,(tr.getD th.toNat Tr.z).L.pre.length,none⟩)),.v (.pointer (some ⟨(tr.getD th.toNat Tr.z).L.b,(tr.getD th.toNat Tr.z).L.pre.length+9,none⟩)),.n9 (((Nk ts th).at_:Nat):Int),.v (.pointer (Sq ((cs.getD (th.toNat) AD.z).ao) 17 (((Nk ts th).at_:Nat):Int))),.agg (AZ (Ea cs ts th)),.ptr 2 0,.tup []] [10,11] [2] 1 [([],[2],[O (dT tv m nn ra rc rp bw),O [.n9 2,.n9 th,.n9 at_,.z9],none]),([10],[],[O (dT tv m nn ra rc rp bw),O [.n9 2,.n9 th,.n9 at_,.z9],O [.z9,.z9,.z9,.z9,.z9,.z9,.z9,.z9,.z9,.z9,.ff,.ff,.ff,.z9,.z9,.z9,.ff]]),([10,11],[],[O (dT tv m nn ra rc rp bw),O [.n9 2,.n9 th,.n9 at_,.z9],O (AZ (Ea cs ts th))])] [[true,true,true,true,true,true,true,true,true,true,true,false],[true,true,true,true,true,true,true,true,true,true,false,true],[false,false,false,false,false,false,false,false,false,false,false,false]] A U U U U (by kernel_rfl) U (by kernel_rfl) ⟨⟨AJ 0 U U,⟨BB 0 U (Im U U U),⟨BB 0 U (Io U U U (by kernel_rfl)),⟨BB 0 U (Rv (q:=0) (v:=.sla ((cs.getD (th.toNat) AD.z).ao) ((cs.getD (th.toNat) AD.z).l.length) ((cs.getD (th.toNat) AD.z).cp)) hX U U U Bo U U U),⟨AJ 0 U U,⟨BB 0 U (Im U U U),⟨BB 0 U (Io U U U (by kernel_rfl)),⟨BB 0 U (Rv (q:=9) (v:=.int .i64 (((Nk ts th).at_:Nat):Int)) hX U U U Bo U U U),⟨BB 0 U (Fb (e:=63) U U U U Ch (by kernel_rfl) (by omega)),⟨BB 0 U (K9 (Ce (Ea cs ts th)) hX U U U Ch (by omega) U U),⟨⟨_,_,_,_,1,rfl,rfl,rfl,rfl,C7 2 (X:=⟨_,true⟩) hX U U (JZ h0 U) U U U U⟩,trivial⟩⟩⟩⟩⟩⟩⟩⟩⟩⟩⟩,⟨⟨AJ 1 U U,⟨BB 1 U (Im U U U),⟨BB 1 U (Io U U U (by kernel_rfl)),⟨BB 1 U (Rv (q:=0) (v:=.sla ((cs.getD (th.toNat) AD.z).ao) ((cs.getD (th.toNat) AD.z).l.length) ((cs.getD (th.toNat) AD.z).cp)) hX U U U Bo U U U),⟨AJ 1 U U,⟨BB 1 U (Im U U U),⟨BB 1 U (Io U U U (by kernel_rfl)),⟨BB 1 U (Rv (q:=9) (v:=.int .i64 (((Nk ts th).at_:Nat):Int)) hX U U U Bo U U U),⟨BB 1 U (Fb (e:=63) U U U U Ch (by kernel_rfl) (by omega)),⟨BB 1 U (K9 (Ce (Ea cs ts th)) hX U U U Ch (by omega) U U),⟨BB 2 U (AT (X:=⟨_,true⟩) (out:=.upd 2 (AZ (Ea cs ts th)) _) hX U U),trivial⟩⟩⟩⟩⟩⟩⟩⟩⟩⟩⟩,⟨trivial,trivial⟩⟩⟩ fun A=>N9 10 A U U fun A=>C9 [] (VD (Ea cs ts th)) A U fun A=>N9 2 A U U fun A=>fork 58 A U
  (fun hr A=>have BW:=mC hr;have D7:=XD (HX BW);have Pa:=XE (HX BW);have jJ:=Df (r:=(Nk ts th).r) D7;N9 6 A U U fun A=>cQ 61 Bo A U U fun A=>C9 [3] (mF ((cs.getD (th.toNat) AD.z).l) ((cs.getD (th.toNat) AD.z).ao) ((cs.getD (th.toNat) AD.z).cp) (((Nk ts th).at_:Nat):Int) ((Nk ts th).r) (Jt (tr.getD th.toNat Tr.z).pb (tr.getD th.toNat Tr.z).ps.length) (Ea cs ts th) D7 (aO.x (HX BW))) A U fun A=>I9 [0] AP.ok wT (tY tv m nn ra rc rp bw th (Ea cs ts th).loc (Bg (Nk ts th).r (Ea cs ts th)) (Ea cs ts th).sz Pa jJ wS T3 Er (by omega)) A U fun A=>N9 4 A U U fun A=>have A:=A.hide 3;N9 3 A U U fun A=>have hG:=A.at_pre hG;VR (z:=tr) (B.trans A) hp.cd (fun b hb=>.inl (by rw [ε8,hb,ρ9])) (JT.ok.now A jI) (β7 _) XS (fun _ _=>rfl) GY Ls hle U FF (Int.fdiv ((Cr m (bw th.toNat) (bw th.toNat).length) ((Ea cs ts th).loc).toNat) (2^min (8*(Bg (Nk ts th).r (Ea cs ts th))).toNat (IntKind.bits .i64))) U D6 U fun tr1 p {a w} Jj iV GI SN B=>have Jj:=Jj.as (congrArg (fun r=>ts.set th.toNat ⟨(Nk ts th).at_+1,r⟩) (dO hr BW D7 (I0 T3 _ _ (l8 Pa))));have A:=B.base;have h0:=B.mem.len;N9 11 A U U fun A=>fork 69 A U
   (fun hw A=>have wU:Cr m (bw th.toNat) (bw th.toNat).length=m:=(by rw [h6 (yB hw h5)];rfl);have BW:=R1 hw;have D7:=XD (HX BW);have Pa:=XE (HX BW);have jJ:=Df (r:=(Nk ts th).r) D7;N9 2 A U U fun A=>have A:=A.sayH (H':=[O (dT tv m nn ra rc rp bw),O [.n9 2,.n9 th,.n9 at_,.z9],O (AZ (Ea cs ts th)),none,O [.z9,.n9 p,.n9 (((Nk ts th).at_:Nat):Int),.n9 ((Ea cs ts th).op),.n9 ((Ea cs ts th).loc),.n9 (AY (Bg (Nk ts th).r (Ea cs ts th)) (Ea cs ts th).sz),.bool (((Ea cs ts th).op==4)||((Ea cs ts th).op==6)),.bool (((Ea cs ts th).op==5)||((Ea cs ts th).op==6)),.n9 (KN (Ea cs ts th) (Int.fdiv ((Cr m (bw th.toNat) (bw th.toNat).length) ((Ea cs ts th).loc).toNat) (2^min (8*(Bg (Nk ts th).r (Ea cs ts th))).toNat (IntKind.bits .i64)))),.n9 (F6 (Ea cs ts th) (Aq ((Cr m (bw th.toNat) (bw th.toNat).length) (Ea cs ts th).loc.toNat) (Bg (Nk ts th).r (Ea cs ts th)) (Ea cs ts th).sz) (BR (Nk ts th).r (Ea cs ts th))),.bool ((Ea cs ts th).acq),.bool ((Ea cs ts th).weak),.bool ((Ea cs ts th).rel),.n9 ((Ea cs ts th).pred),.n9 ((Ea cs ts th).succ)]]) (by rw [QG BW,QH BW D7,(mE (m:=(Cr m (bw th.toNat) (bw th.toNat).length)) hw hr aO D7 (I0 T3 _ _ (l8 Pa)))]);N9 20 A U U fun A=>have A:=AG A 82 (.ff) U (fun _=>congrArg (fun b=>some (Value.bool b)) (δ7.2 h5));N9 7 A U U fun A=>C9 [0] (We tv m nn ra rc rp bw (Ea cs ts th).loc (Bg (Nk ts th).r (Ea cs ts th)) (Ea cs ts th).sz (F6 (Ea cs ts th) (Aq ((Cr m (bw th.toNat) (bw th.toNat).length) (Ea cs ts th).loc.toNat) (Bg (Nk ts th).r (Ea cs ts th)) (Ea cs ts th).sz) (BR (Nk ts th).r (Ea cs ts th))) Pa jJ (T3 _ (by omega)) (R3 hw aO _ _)) A U fun A=>N9 4 A U U fun A=>have hG:=A.at_pre hG;LK (z:=tr) (B.trans A) hp.cd SN (JT.ok.now A Jj) (β7 _) iV GI GY (by rw [η2];exact Ls) hle U FF (Js (by omega)) (ν3 D6) U fun tr2 {a w x} Lo ZR OG FC B=>have Lo:=Lo.as (Fg U D6);have A:=B.base;have h0:=B.mem.len;N9 1 A U U fun A=>GP (have A:=A.sayH (H':=[O (dT tv (D5 m (Nk ts th).r (Ea cs ts th)) nn ra rc rp bw),O [.n9 2,.n9 th,.n9 at_,.z9],O (AZ (Ea cs ts th)),none,O [.z9,.n9 p,.n9 (((Nk ts th).at_:Nat):Int),.n9 ((Ea cs ts th).op),.n9 ((Ea cs ts th).loc),.n9 (AY (Bg (Nk ts th).r (Ea cs ts th)) (Ea cs ts th).sz),.bool (((Ea cs ts th).op==4)||((Ea cs ts th).op==6)),.bool (((Ea cs ts th).op==5)||((Ea cs ts th).op==6)),.n9 (KN (Ea cs ts th) (Int.fdiv ((Cr m (bw th.toNat) (bw th.toNat).length) ((Ea cs ts th).loc).toNat) (2^min (8*(Bg (Nk ts th).r (Ea cs ts th))).toNat (IntKind.bits .i64)))),.n9 (F6 (Ea cs ts th) (Aq ((Cr m (bw th.toNat) (bw th.toNat).length) (Ea cs ts th).loc.toNat) (Bg (Nk ts th).r (Ea cs ts th)) (Ea cs ts th).sz) (BR (Nk ts th).r (Ea cs ts th))),.bool ((Ea cs ts th).acq),.bool ((Ea cs ts th).weak),.bool ((Ea cs ts th).rel),.n9 ((Ea cs ts th).pred),.n9 ((Ea cs ts th).succ)],O [.n9 ((Ea cs ts th).loc),.n9 (AY (Bg (Nk ts th).r (Ea cs ts th)) (Ea cs ts th).sz),.n9 (F6 (Ea cs ts th) (Aq ((Cr m (bw th.toNat) (bw th.toNat).length) (Ea cs ts th).loc.toNat) (Bg (Nk ts th).r (Ea cs ts th)) (Ea cs ts th).sz) (BR (Nk ts th).r (Ea cs ts th)))]]) (by rw [Z0 hw,wU]);have C:=B.trans A;have hG:=A.at_pre hG;GS (J:=oC tv (D5 m (Nk ts th).r (Ea cs ts th)) cs (Ak cs ts th (Hk (Cr m (bw th.toNat) (bw th.toNat).length) (Nk ts th).r (Ea cs ts th))) nn ra rc tr rp bw DL) hX C U U U U ⟨tr2,Je A 0 U hG U,(Iq hG)▸(JT.ok.now A Lo).take 1,ZR,OG,FC⟩))
   (fun hw A=>N9 5 A U U fun A=>have hG:=A.at_pre hG;LK (z:=tr) (B.trans A) hp.cd SN (JT.ok.now A Jj) (β7 _) iV GI GY (by rw [η2];exact Ls) hle U FF (Js (by omega)) (ν3 D6) U fun tr2 {a w x} Lo ZR OG FC B=>have Lo:=Lo.as (Fg U D6);have A:=B.base;have h0:=B.mem.len;N9 1 A U U fun A=>GP (have A:=A.sayH (H':=[O (dT tv (D5 m (Nk ts th).r (Ea cs ts th)) nn ra rc rp bw),O [.n9 2,.n9 th,.n9 at_,.z9],O (AZ (Ea cs ts th)),none,O [.z9,.n9 p,.n9 (((Nk ts th).at_:Nat):Int),.n9 ((Ea cs ts th).op),.n9 (YD (Ea cs ts th)),.n9 (YE (Nk ts th).r (Ea cs ts th)),.bool (((Ea cs ts th).op==4)||((Ea cs ts th).op==6)),.bool (((Ea cs ts th).op==5)||((Ea cs ts th).op==6)),.n9 (KN (Ea cs ts th) (Int.fdiv ((Cr m (bw th.toNat) (bw th.toNat).length) ((Ea cs ts th).loc).toNat) (2^min (8*(Bg (Nk ts th).r (Ea cs ts th))).toNat (IntKind.bits .i64)))),.n9 (S3 (Nk ts th).r (Ea cs ts th) (Int.fdiv ((Cr m (bw th.toNat) (bw th.toNat).length) ((Ea cs ts th).loc).toNat) (2^min (8*(Bg (Nk ts th).r (Ea cs ts th))).toNat (IntKind.bits .i64)))),.bool ((Ea cs ts th).acq),.bool ((Ea cs ts th).weak),.bool ((Ea cs ts th).rel),.n9 ((Ea cs ts th).pred),.n9 ((Ea cs ts th).succ)]]) (by rw [Z1 hw]);have C:=B.trans A;have hG:=A.at_pre hG;GS (J:=oC tv (D5 m (Nk ts th).r (Ea cs ts th)) cs (Ak cs ts th (Hk (Cr m (bw th.toNat) (bw th.toNat).length) (Nk ts th).r (Ea cs ts th))) nn ra rc tr rp bw DL) hX C U U U U ⟨tr2,Je A 0 U hG U,(Iq hG)▸(JT.ok.now A Lo).take 1,ZR,OG,FC⟩)))
  (fun hr A=>N9 4 A U U fun A=>N9 3 A U U fun A=>have hG:=A.at_pre hG;VR (z:=tr) (B.trans A) hp.cd (fun b hb=>.inl (by rw [ε8,hb,ρ9])) (JT.ok.now A jI) (β7 _) XS (fun _ _=>rfl) GY Ls hle U FF 0 U D6 U fun tr1 p {a w} Jj iV GI SN B=>have Jj:=Jj.as (congrArg (fun r=>ts.set th.toNat ⟨(Nk ts th).at_+1,r⟩) (VT hr 0 (Hk (Cr m (bw th.toNat) (bw th.toNat).length) (Nk ts th).r (Ea cs ts th))));have A:=B.base;have h0:=B.mem.len;N9 11 A U U fun A=>fork 69 A U
   (fun hw A=>have wU:Cr m (bw th.toNat) (bw th.toNat).length=m:=(by rw [h6 (yB hw h5)];rfl);have BW:=R1 hw;have D7:=XD (HX BW);have Pa:=XE (HX BW);have jJ:=Df (r:=(Nk ts th).r) D7;N9 2 A U U fun A=>have A:=A.sayH (H':=[O (dT tv m nn ra rc rp bw),O [.n9 2,.n9 th,.n9 at_,.z9],O (AZ (Ea cs ts th)),O [.z9,.n9 p,.n9 (((Nk ts th).at_:Nat):Int),.n9 ((Ea cs ts th).op),.n9 ((Ea cs ts th).loc),.n9 (AY (Bg (Nk ts th).r (Ea cs ts th)) (Ea cs ts th).sz),.bool (((Ea cs ts th).op==4)||((Ea cs ts th).op==6)),.bool (((Ea cs ts th).op==5)||((Ea cs ts th).op==6)),.n9 (KN (Ea cs ts th) 0),.n9 (F6 (Ea cs ts th) (Aq ((Cr m (bw th.toNat) (bw th.toNat).length) (Ea cs ts th).loc.toNat) (Bg (Nk ts th).r (Ea cs ts th)) (Ea cs ts th).sz) (BR (Nk ts th).r (Ea cs ts th))),.bool ((Ea cs ts th).acq),.bool ((Ea cs ts th).weak),.bool ((Ea cs ts th).rel),.n9 ((Ea cs ts th).pred),.n9 ((Ea cs ts th).succ)]]) (by rw [QG BW,QH BW D7,(mD (m:=(Cr m (bw th.toNat) (bw th.toNat).length)) hw hr aO 0)]);N9 20 A U U fun A=>have A:=AG A 82 (.ff) U (fun _=>congrArg (fun b=>some (Value.bool b)) (δ7.2 h5));N9 7 A U U fun A=>C9 [0] (We tv m nn ra rc rp bw (Ea cs ts th).loc (Bg (Nk ts th).r (Ea cs ts th)) (Ea cs ts th).sz (F6 (Ea cs ts th) (Aq ((Cr m (bw th.toNat) (bw th.toNat).length) (Ea cs ts th).loc.toNat) (Bg (Nk ts th).r (Ea cs ts th)) (Ea cs ts th).sz) (BR (Nk ts th).r (Ea cs ts th))) Pa jJ (T3 _ (by omega)) (R3 hw aO _ _)) A U fun A=>N9 4 A U U fun A=>have hG:=A.at_pre hG;LK (z:=tr) (B.trans A) hp.cd SN (JT.ok.now A Jj) (β7 _) iV GI GY (by rw [η2];exact Ls) hle U FF (Js (by omega)) (ν3 D6) U fun tr2 {a w x} Lo ZR OG FC B=>have Lo:=Lo.as (Fg U D6);have A:=B.base;have h0:=B.mem.len;N9 1 A U U fun A=>GP (have A:=A.sayH (H':=[O (dT tv (D5 m (Nk ts th).r (Ea cs ts th)) nn ra rc rp bw),O [.n9 2,.n9 th,.n9 at_,.z9],O (AZ (Ea cs ts th)),O [.z9,.n9 p,.n9 (((Nk ts th).at_:Nat):Int),.n9 ((Ea cs ts th).op),.n9 ((Ea cs ts th).loc),.n9 (AY (Bg (Nk ts th).r (Ea cs ts th)) (Ea cs ts th).sz),.bool (((Ea cs ts th).op==4)||((Ea cs ts th).op==6)),.bool (((Ea cs ts th).op==5)||((Ea cs ts th).op==6)),.n9 (KN (Ea cs ts th) 0),.n9 (F6 (Ea cs ts th) (Aq ((Cr m (bw th.toNat) (bw th.toNat).length) (Ea cs ts th).loc.toNat) (Bg (Nk ts th).r (Ea cs ts th)) (Ea cs ts th).sz) (BR (Nk ts th).r (Ea cs ts th))),.bool ((Ea cs ts th).acq),.bool ((Ea cs ts th).weak),.bool ((Ea cs ts th).rel),.n9 ((Ea cs ts th).pred),.n9 ((Ea cs ts th).succ)],O [.n9 ((Ea cs ts th).loc),.n9 (AY (Bg (Nk ts th).r (Ea cs ts th)) (Ea cs ts th).sz),.n9 (F6 (Ea cs ts th) (Aq ((Cr m (bw th.toNat) (bw th.toNat).length) (Ea cs ts th).loc.toNat) (Bg (Nk ts th).r (Ea cs ts th)) (Ea cs ts th).sz) (BR (Nk ts th).r (Ea cs ts th)))]]) (by rw [Z0 hw,wU]);have C:=B.trans A;have hG:=A.at_pre hG;GS (J:=oC tv (D5 m (Nk ts th).r (Ea cs ts th)) cs (Ak cs ts th (Hk (Cr m (bw th.toNat) (bw th.toNat).length) (Nk ts th).r (Ea cs ts th))) nn ra rc tr rp bw DL) hX C U U U U ⟨tr2,Je A 0 U hG U,(Iq hG)▸(JT.ok.now A Lo).take 1,ZR,OG,FC⟩))
   (fun hw A=>N9 5 A U U fun A=>have hG:=A.at_pre hG;LK (z:=tr) (B.trans A) hp.cd SN (JT.ok.now A Jj) (β7 _) iV GI GY (by rw [η2];exact Ls) hle U FF (Js (by omega)) (ν3 D6) U fun tr2 {a w x} Lo ZR OG FC B=>have Lo:=Lo.as (Fg U D6);have A:=B.base;have h0:=B.mem.len;N9 1 A U U fun A=>GP (have A:=A.sayH (H':=[O (dT tv (D5 m (Nk ts th).r (Ea cs ts th)) nn ra rc rp bw),O [.n9 2,.n9 th,.n9 at_,.z9],O (AZ (Ea cs ts th)),O [.z9,.n9 p,.n9 (((Nk ts th).at_:Nat):Int),.n9 ((Ea cs ts th).op),.n9 (YD (Ea cs ts th)),.n9 (YE (Nk ts th).r (Ea cs ts th)),.bool (((Ea cs ts th).op==4)||((Ea cs ts th).op==6)),.bool (((Ea cs ts th).op==5)||((Ea cs ts th).op==6)),.n9 (KN (Ea cs ts th) 0),.n9 (S3 (Nk ts th).r (Ea cs ts th) 0),.bool ((Ea cs ts th).acq),.bool ((Ea cs ts th).weak),.bool ((Ea cs ts th).rel),.n9 ((Ea cs ts th).pred),.n9 ((Ea cs ts th).succ)]]) (by rw [Z1 hw]);have C:=B.trans A;have hG:=A.at_pre hG;GS (J:=oC tv (D5 m (Nk ts th).r (Ea cs ts th)) cs (Ak cs ts th (Hk (Cr m (bw th.toNat) (bw th.toNat).length) (Nk ts th).r (Ea cs ts th))) nn ra rc tr rp bw DL) hX C U U U U ⟨tr2,Je A 0 U hG U,(Iq hG)▸(JT.ok.now A Lo).take 1,ZR,OG,FC⟩)))
end Mc.Ts
section
open Go.RowKit
section
variable {P:Program}{Y:Tb}{n:Nat}{ks:ae}{G0:Gr}{w0:World}{T:List (Nat×SV)}{H:Hp}{G:Gr}{a:Act}{w:World}{ops:ah}{o:Oper}
theorem tZ {x lo:Operand}{ty e s b c m:Nat}{ti:TI}{p p':Option Loc}(hY:Y.ok P=true)(BM:o.op=.slice ty x (some lo) none none)(hg:Av ops T o.guard=some .run)(hx:DA T x=some (.sla (AK p) c (rm p)))(D2:DA T lo=some (.int .i64 1))(Fm:Y.get ty=some ti)(MK:ti.elm=some (e,s,b))(hc:c=m+1)(h1:AK p'=p.map fun L=>⟨L.b,L.pre.length+(if 0+rm p=1 then 0 else 1*s),none⟩)(h2:0+rm p'=0+rm p - 1):
  BG P n ops ks G0 w0 T H o (.sla (AK p') m (rm p')) H:=fun G a w A=>by
 subst hc
 have hw:=A7 (gd:=none) A hg
 obtain⟨d,op,ty',pos,af,gd⟩:=o
 simp only at BM
 subst BM
 obtain⟨ie,z,f1,f2,f3,f4,f5,f6,f7⟩:=Cp (DJ (Tb.at hY Fm) MK)
 have D7:(P.info? e).map (·.size)=some s:=by rw [f2];simp [f4]
 have Bb:=A.ev hx
 have FO:=A.ev D2
 unfold den at Bb FO
 simp only [β1]at Bb FO
 have Qn:(Instr.sliceBounds true (m+1) (rm p) (some (.int .i64 1)) none none).run P w=.ok (1,m+1,rm p) w:=by
  simp [Instr.sliceBounds,μ0 (P:=P) w .i64 1 (m+1) _ (by omega) (by omega)]
 refine Ad (v:=.slice (AK p') m (rm p')) (w':=w) hw ?_ ⟨[],by unfold den;rfl,by simpa using A.ms⟩
 unfold execOp
 simp only [←Bb,←FO,δ0,κ7,Instr.sliceAt,Instr.slice,γ4,ε2 f1,Qn,α9,DX D7,γ6]
 rw [h1]
 simp only [δ1]at h2
 cases p with
 |none=>simp [h2]
 |some L=>by_cases hc:rm (some L)=1<;>simp [hc,h2,ζ3]
theorem uA {x y:Operand}{t e s b i j m:Nat}{ti:TI}{p:Option Loc}{f:Nat→List SV}{cs:List SV}{E:Ob}(hY:Y.ok P=true)(m':Nat)(f':Nat→List SV)(BM:o.op=.call {callee:=.builtin .append,args:= #[x,y],argTypes:= #[t,t]})(ZJ:Av ops T o.guard=some .run)(hx:DA T x=some (.sla (AK p) m (rm p)))(hi:lg H i=some (some (.buf e s m f)))(hG:G0[i]?=some p)(hy:DA T y=some (.sl j 1 1))(hj:lg H j=some (some (.blk cs)))(Fm:Y.get t=some ti)(MK:ti.elm=some (e,s,b))(PS:Nat.ble b 10000=true)(ZH:FU cs=some E)(hE:Dc E)(Tv:Nat.beq cs.length s=true)(JB:HH 0 cs=true)(hb:m≤1000000)(PR:m'=m+1)(hf:∀k,k<m→f' k=f k)(hn:f' m=cs)(Be:∀k,∃vs,AO [] (f' k)=some vs∧vs.length=s):
  BG P n ops ks G0 w0 T H o (.sl H.length m' 0) (CE H i none++[some (.buf e s m' f')]):=fun G a w A=>by
 subst PR
 have hw:=A7 (gd:=none) A ZJ
 obtain⟨d,op,ty,pos,af,gd⟩:=o
 simp only at BM
 subst BM
 have PS:=δ8 PS
 have e3:=α5 Tv
 rw [At]at hi hj
 have CG:=A.mem.ent i _ hi
 obtain⟨L,vs,b1,b2,b3⟩:=A.mem.ent j _ hj
 obtain⟨ie,z,f1',f2',f3',f4',f5',f6',f7'⟩:=Cp (DJ (Tb.at hY Fm) MK)
 have Bb:=A.ev hx
 have C8:=A.ev hy
 have hq:=A.atp hG
 rw [hq]at CG
 simp only [δ2]at CG
 unfold den at Bb C8
 rw [DB b1]at C8
 simp only [β1]at Bb C8
 have W4:AO [] cs=some vs:=by
  have:=BS (G:=G) cs JB
  simp only [θ4]at this
  rw [this];exact b2
 have FO:vs.length=s:=by rw [BF b2,e3]
 obtain⟨L2,vs2,g1,g2,g3⟩:=Ag.range (A.mem.ent j _ hj)
 rw [b1]at g1;cases g1
 rw [b2]at g2;cases g2
 have Bc:=Cq ZH hE b2
 have hmul:(m+1)*b≤1000001*10000:=μ2 (by omega) PS
 obtain⟨p',w',hr,k1,k2,k4⟩:=G9 (P:=P) w t ty e ie z s b f1' f2' f3' f4' f5' f6' CG ⟨L.b,L.pre.length,none⟩ (1+rm (some L)) cs vs W4 FO
  (fun j u hj=>by rw [ζ3];exact g3 j u hj) (fun u hu=>(δ3.1 Bc) u hu) hb (by omega) hf hn Be
 refine Ad (v:=.slice (AK p') (m+1) (0+rm p')) (w':=w') hw ?_ ?_
 ·unfold execOp
  simp only [resolve,invoke,builtin,γ4,γ6,α9,θ0,ζ0,ι7,←Bb,←C8]
  simp only [δ0,δ1]at hr⊢
  simp only [hr,α9]
 ·have A2:=A.entMove (en':=.buf e s (m+1) f') (p':=p') hi U U (by rw [hq];exact k2) k1 (by rw [hq];exact k4)
  refine⟨[p'],?_,A2.ms⟩
  unfold den
  rw [α1 (by rw [A.mem.len];exact β8 _),A.mem.len]
  simp
theorem oE {x y:Operand}{ty i q:Nat}{j:Int}{yv:SV}{cs:List SV}{cs':Nat→List SV}{E:Ob}{ti:TI}(hX:Y.ok P=true)(BM:o.op=.store ty x y)(hg:Av ops T o.guard=some .run)(hx:DA T x=some (.ix (.ptr i q) 1 3 j 0))(hy:DA T y=some yv)(hH:lg H i=some (some (.blk cs)))(Fm:Y.get ty=some ti)(DV:ti.row=none)(Bc:ti.one=true)(ZH:FU [yv]=some E)(hE:Dc E)(hj:0≤j∧j<3)(hc:∀k,k<3→sp (q+k) cs [yv]=some (cs' k)){H':Hp}(W1:CE H i (some (.blk (cs' j.toNat)))=H'):
  BG P n ops ks G0 w0 T H o (.tup []) H':=fun G a w A=>by
 subst W1
 have hw:=A7 (gd:=none) A hg
 obtain⟨d,op,ty',pos,af,gd⟩:=o
 simp only at BM
 subst BM
 have Bb:=A.ev hx
 have C8:=A.ev hy
 have key:∀k:Nat,j=(k:Int)→k<3→cs' j.toNat=cs' k→BY P ops {dst:=d,op:=.store ty x y,type:=ty',pos:=pos,after:=af,guard:=gd} a w fun v' w'=>∃F,den (G++F) (.tup [])=some v'∧Ms (CE H i (some (.blk (cs' j.toNat)))) ks G0 w0 (G++F) w':=by
  intro k hk h3 e
  have hr:=hc k h3
  rw [hk,Al (q:=q+k) k (by omega)]at Bb
  have hs:DM ⟨Y,true⟩ H ty (.ptr i (q+k)) yv=some (i,cs' k,E):=by
   have ht:Tx.get ⟨Y,true⟩ ty=some ti:=Fm
   simp only [DM,hH,ht,DV,Bc,hr,ZH]
   rfl
  rw [e]
  refine Di (X:=⟨Y,true⟩) hX A hs hE Bb C8 U U hw fun cs L vs' w' a1 a2 a3 a4 a5=>⟨[],rfl,?_⟩
  simpa using (A.turn a1 a2 a3 a4 a5).ms
 rcases PX hj with rfl|rfl|rfl
 ·exact key 0 U (by decide) U
 ·exact key 1 U (by decide) U
 ·exact key 2 U (by decide) U
theorem Y0 {e s m:Nat}{f:Nat→List SV}{p:Option Loc}(h:Ag G w p (.row e s m 0 f)):Ag [] w p (.buf e s m f):=by
 obtain⟨h1,h2,xs,h3,h4⟩:=h
 refine⟨h1,?_⟩
 cases p with
 |none=>
  left
  rcases h4.2 with⟨q,q2⟩|⟨g,cap,cur,q,_⟩
  ·exact⟨rfl,q2⟩
  ·cases q
 | some L=>
  right
  have hp:=h2 L U
  simp only [δ0,hp,β2,δ1]at h4
  have BU:L.b<w.heap.size:=(Hs h4 L.b (by simp [Value.ownBlock])).2
  refine⟨L,rfl,BU,?_⟩
  by_cases hz:L.post.length=0
  ·left
   refine⟨?_,γ9 hz⟩
   rcases h4.2 with⟨q,_⟩|⟨g,cap,cur,q,_,_,aN,_⟩
   ·cases q
   ·simp only [θ8,rm]at q;omega
  ·exact .inr ⟨0,[],xs,by simp [hp],by simp,by omega,h3,by simpa [rm]using h4⟩
end
end
namespace Mc
open Go.RowKit
set_option simprocs false
theorem Qi (cs:List AD)(ts:List Th)(nn:Nat)(th lc o s v:Int)(hC:Ac cs ts nn)(Bo:0≤th∧th<((nn:Nat):Int))(h1:Jq (Ea cs ts th)=lc)(h2:Jr (Nk ts th).r (Ea cs ts th)=AY o s)(h3:BR (Nk ts th).r (Ea cs ts th)=v):BQ (AH cs) Tryz.prog 92 [.ptr 0 0,.n9 th] [O [.sl 1 nn 0],aq cs ts nn] (Rt (.tup [.agg [.n9 lc,.n9 (AY o s)],.n9 v,.bool (CK (Ea cs ts th))]) [O [.sl 1 nn 0],aq cs ts nn]):=by
 have h:=Ig cs ts nn th hC Bo
 rw [h1,h2,h3]at h
 exact h
theorem rC (l:List Wr)(x:Wr):(l++[x]).length=l.length+1:=by simp
theorem SH {l:List Wr}{x:Wr}{k:Nat}(h:k<l.length):Bh (l++[x]) k=Bh l k:=by show XM _=XM _;rw [BC h]
theorem SJ (l:List Wr)(x:Wr):Bh (l++[x]) l.length=XM x:=by show XM _=XM _;rw [De]
theorem Wf (m:Nat→Int)(cs:List AD)(ts:List Th)(nn:Nat)(p1 p2:Option Loc)(b0 b1 b2:List Wr)(lc o s v:Int)(hC:Ac cs ts nn)(Bo:0≤(0:Int)∧(0:Int)<((nn:Nat):Int))(Er:b0.length≤1000000)(IG:Jq (Ea cs ts (0:Int))=lc)(KH:Jr (Nk ts (0:Int)).r (Ea cs ts (0:Int))=AY o s)(Qt:BR (Nk ts (0:Int)).r (Ea cs ts (0:Int))=v)(BM:(Ea cs ts (0:Int)).op=5):BQ (TI cs) Tryz.prog 74 [.ptr 0 0,.z9] [O (bO 1 m (.sl 3 b0.length 0) (SZ p1 b1) (SZ p2 b2)),O [.sl 2 nn 0],aq cs ts nn,some (.buf 123 3 b0.length (Bh b0))] (Rt (.int .i64 0) [O (bO 1 m (.sl 4 ((b0++[(⟨lc,o,s,v⟩:Wr)]).length) 0) (SZ p1 b1) (SZ p2 b2)),O [.sl 2 nn 0],aq cs ts nn,none,some (.buf 123 3 ((b0++[(⟨lc,o,s,v⟩:Wr)]).length) (Bh (b0++[(⟨lc,o,s,v⟩:Wr)])))]):=
 Aa (n:=66) (by kernel_rfl) Tryz.func74 U U U fun G w a h0 hI A=>N9 12 A U U fun A=>I9 [1,2] AH.ok hI.1 (C1 cs ts nn 0 hC Bo) A U fun A=>N9 15 A U U fun A=>I9 [1,2] AH.ok hI.1 (Qi cs ts nn 0 lc o s v hC Bo IG KH Qt) A U fun A=>N9 24 A U U fun A=>AV 32 A U
  (fun h1 A=>absurd (h1.symm.trans BM) (by decide))
  (fun h1 A=>N9 7 A U U fun A=>AV 39 A U
   (fun h2 A=>N9 1 A U U fun A=>GL BW [.ptr 0 0,.z9,.ptr 0 0,.z9,.ptr 0 0,.ptr 0 4,.ptr 0 4,.sl 3 b0.length 0,.agg [.n9 lc,.n9 (AY o s)],.n9 v,.agg [.n9 lc,.n9 (AY o s),.n9 v],.sl 6 1 1,.sl 7 ((b0++[(⟨lc,o,s,v⟩:Wr)]).length) 0,.ptr 0 0,.ptr 0 4,.ptr 0 4,.tup []] [11,12,16] [6,7] 2 [([],[6,7],[O (bO 1 m (.sl 3 b0.length 0) (SZ p1 b1) (SZ p2 b2)),O [.sl 2 nn 0],aq cs ts nn,some (.buf 123 3 b0.length (Bh b0)),O (AZ (Ea cs ts (0:Int))),O [.n9 lc,.n9 (AY o s)],none,none]),([11],[7],[O (bO 1 m (.sl 3 b0.length 0) (SZ p1 b1) (SZ p2 b2)),O [.sl 2 nn 0],aq cs ts nn,some (.buf 123 3 b0.length (Bh b0)),O (AZ (Ea cs ts (0:Int))),O [.n9 lc,.n9 (AY o s)],O [.n9 lc,.n9 (AY o s),.n9 v],none]),([11,12],[],[O (bO 1 m (.sl 3 b0.length 0) (SZ p1 b1) (SZ p2 b2)),O [.sl 2 nn 0],aq cs ts nn,none,O (AZ (Ea cs ts (0:Int))),O [.n9 lc,.n9 (AY o s)],O [.n9 lc,.n9 (AY o s),.n9 v],some (.buf 123 3 ((b0++[(⟨lc,o,s,v⟩:Wr)]).length) (Bh (b0++[(⟨lc,o,s,v⟩:Wr)])))]),([11,12,16],[],[O (bO 1 m (.sl 7 ((b0++[(⟨lc,o,s,v⟩:Wr)]).length) 0) (SZ p1 b1) (SZ p2 b2)),O [.sl 2 nn 0],aq cs ts nn,none,O (AZ (Ea cs ts (0:Int))),O [.n9 lc,.n9 (AY o s)],O [.n9 lc,.n9 (AY o s),.n9 v],some (.buf 123 3 ((b0++[(⟨lc,o,s,v⟩:Wr)]).length) (Bh (b0++[(⟨lc,o,s,v⟩:Wr)])))])] [[true,true,true,true,true,true,true,true,true,true,true,true,false,true,true,false,false],[true,true,true,true,true,true,true,true,true,true,false,false,true,true,true,false,false],[true,true,true,true,true,true,true,false,true,true,false,false,false,true,true,true,true],[false,false,false,false,false,false,false,false,false,false,false,false,false,true,true,false,false]] A U U U U (by kernel_rfl) U (by kernel_rfl) ⟨⟨AJ 0 U U,⟨AJ 0 U U,⟨AJ 0 U U,⟨AJ 0 U U,⟨AJ 0 U U,⟨AJ 0 U U,⟨BB 0 U (BP (x:=.ix (.ptr 0 4) 1 3 0 0) (Al 0 U) (AT (X:=⟨_,true⟩) (out:=.val _ _) hX U (AE (by omega)<|AB))),⟨AJ 0 U U,⟨AJ 0 U U,⟨AJ 0 U U,⟨AJ 0 U U,⟨⟨_,_,_,_,1,rfl,rfl,rfl,rfl,C7 6 (X:=⟨_,true⟩) hX U U (JZ h0 U) U U U U⟩,⟨AJ 0 U U,⟨AJ 0 U U,trivial⟩⟩⟩⟩⟩⟩⟩⟩⟩⟩⟩⟩⟩⟩,⟨⟨AJ 1 U U,⟨AJ 1 U U,⟨AJ 1 U U,⟨AJ 1 U U,⟨AJ 1 U U,⟨AJ 1 U U,⟨BB 1 U (BP (x:=.ix (.ptr 0 4) 1 3 0 0) (Al 0 U) (AT (X:=⟨_,true⟩) (out:=.val _ _) hX U (AE (by omega)<|AB))),⟨AJ 1 U U,⟨AJ 1 U U,⟨AJ 1 U U,⟨⟨_,_,_,_,2,rfl,rfl,rfl,rfl,F3 7 (fX (i:=3) hX ((b0++[(⟨lc,o,s,v⟩:Wr)]).length) (Bh (b0++[(⟨lc,o,s,v⟩:Wr)])) U AB U U Er (rC _ _) (fun q hq=>SH hq) (SJ _ _) (fun z=>⟨_,rfl,rfl⟩)) U U (JZ h0 U) U U U U⟩,⟨AJ 1 U U,⟨AJ 1 U U,trivial⟩⟩⟩⟩⟩⟩⟩⟩⟩⟩⟩⟩⟩,⟨⟨AJ 2 U U,⟨AJ 2 U U,⟨AJ 2 U U,⟨AJ 2 U U,⟨AJ 2 U U,⟨AJ 2 U U,⟨BB 2 U (BP (x:=.ix (.ptr 0 4) 1 3 0 0) (Al 0 U) (AT (X:=⟨_,true⟩) (out:=.val _ _) hX U (AE (by omega)<|AB))),⟨AJ 2 U U,⟨AJ 2 U U,⟨AJ 2 U U,⟨AJ 2 U U,⟨BB 2 U (BP (x:=.ix (.ptr 0 4) 1 3 0 0) (Al 0 U) (AT (X:=⟨_,true⟩) (out:=.val _ _) hX U (AE (by omega)<|AB))),⟨BB 3 U (AT (X:=⟨_,true⟩) (out:=.upd 0 (bO 1 m (.sl 7 ((b0++[(⟨lc,o,s,v⟩:Wr)]).length) 0) (SZ p1 b1) (SZ p2 b2)) _) hX U U),trivial⟩⟩⟩⟩⟩⟩⟩⟩⟩⟩⟩⟩⟩,⟨⟨AJ 3 U U,⟨AJ 3 U U,trivial⟩⟩,trivial⟩⟩⟩⟩ fun A=>N9 8 A U U fun A=>KC hX [7] A ⟨rfl,rfl⟩ U U U U U U U U h0)
   (fun h2 A=>absurd BM h2))
theorem Wg (m:Nat→Int)(cs:List AD)(ts:List Th)(nn:Nat)(p0 p2:Option Loc)(b0 b1 b2:List Wr)(lc o s v:Int)(hC:Ac cs ts nn)(Bo:0≤(1:Int)∧(1:Int)<((nn:Nat):Int))(Er:b1.length≤1000000)(IG:Jq (Ea cs ts (1:Int))=lc)(KH:Jr (Nk ts (1:Int)).r (Ea cs ts (1:Int))=AY o s)(Qt:BR (Nk ts (1:Int)).r (Ea cs ts (1:Int))=v)(BM:(Ea cs ts (1:Int)).op=5):BQ (TI cs) Tryz.prog 74 [.ptr 0 0,.n9 1] [O (bO 1 m (SZ p0 b0) (.sl 3 b1.length 0) (SZ p2 b2)),O [.sl 2 nn 0],aq cs ts nn,some (.buf 123 3 b1.length (Bh b1))] (Rt (.int .i64 0) [O (bO 1 m (SZ p0 b0) (.sl 4 ((b1++[(⟨lc,o,s,v⟩:Wr)]).length) 0) (SZ p2 b2)),O [.sl 2 nn 0],aq cs ts nn,none,some (.buf 123 3 ((b1++[(⟨lc,o,s,v⟩:Wr)]).length) (Bh (b1++[(⟨lc,o,s,v⟩:Wr)])))]):=
 Aa (n:=66) (by kernel_rfl) Tryz.func74 U U U fun G w a h0 hI A=>N9 12 A U U fun A=>I9 [1,2] AH.ok hI.1 (C1 cs ts nn 1 hC Bo) A U fun A=>N9 15 A U U fun A=>I9 [1,2] AH.ok hI.1 (Qi cs ts nn 1 lc o s v hC Bo IG KH Qt) A U fun A=>N9 24 A U U fun A=>AV 32 A U
  (fun h1 A=>absurd (h1.symm.trans BM) (by decide))
  (fun h1 A=>N9 7 A U U fun A=>AV 39 A U
   (fun h2 A=>N9 1 A U U fun A=>GL BW [.ptr 0 0,.n9 1,.ptr 0 0,.n9 1,.ptr 0 0,.ptr 0 4,.ptr 0 5,.sl 3 b1.length 0,.agg [.n9 lc,.n9 (AY o s)],.n9 v,.agg [.n9 lc,.n9 (AY o s),.n9 v],.sl 6 1 1,.sl 7 ((b1++[(⟨lc,o,s,v⟩:Wr)]).length) 0,.ptr 0 0,.ptr 0 4,.ptr 0 5,.tup []] [11,12,16] [6,7] 2 [([],[6,7],[O (bO 1 m (SZ p0 b0) (.sl 3 b1.length 0) (SZ p2 b2)),O [.sl 2 nn 0],aq cs ts nn,some (.buf 123 3 b1.length (Bh b1)),O (AZ (Ea cs ts (1:Int))),O [.n9 lc,.n9 (AY o s)],none,none]),([11],[7],[O (bO 1 m (SZ p0 b0) (.sl 3 b1.length 0) (SZ p2 b2)),O [.sl 2 nn 0],aq cs ts nn,some (.buf 123 3 b1.length (Bh b1)),O (AZ (Ea cs ts (1:Int))),O [.n9 lc,.n9 (AY o s)],O [.n9 lc,.n9 (AY o s),.n9 v],none]),([11,12],[],[O (bO 1 m (SZ p0 b0) (.sl 3 b1.length 0) (SZ p2 b2)),O [.sl 2 nn 0],aq cs ts nn,none,O (AZ (Ea cs ts (1:Int))),O [.n9 lc,.n9 (AY o s)],O [.n9 lc,.n9 (AY o s),.n9 v],some (.buf 123 3 ((b1++[(⟨lc,o,s,v⟩:Wr)]).length) (Bh (b1++[(⟨lc,o,s,v⟩:Wr)])))]),([11,12,16],[],[O (bO 1 m (SZ p0 b0) (.sl 7 ((b1++[(⟨lc,o,s,v⟩:Wr)]).length) 0) (SZ p2 b2)),O [.sl 2 nn 0],aq cs ts nn,none,O (AZ (Ea cs ts (1:Int))),O [.n9 lc,.n9 (AY o s)],O [.n9 lc,.n9 (AY o s),.n9 v],some (.buf 123 3 ((b1++[(⟨lc,o,s,v⟩:Wr)]).length) (Bh (b1++[(⟨lc,o,s,v⟩:Wr)])))])] [[true,true,true,true,true,true,true,true,true,true,true,true,false,true,true,false,false],[true,true,true,true,true,true,true,true,true,true,false,false,true,true,true,false,false],[true,true,true,true,true,true,true,false,true,true,false,false,false,true,true,true,true],[false,false,false,false,false,false,false,false,false,false,false,false,false,true,true,false,false]] A U U U U (by kernel_rfl) U (by kernel_rfl) ⟨⟨AJ 0 U U,⟨AJ 0 U U,⟨AJ 0 U U,⟨AJ 0 U U,⟨AJ 0 U U,⟨AJ 0 U U,⟨BB 0 U (BP (x:=.ix (.ptr 0 4) 1 3 1 0) (Al 1 U) (AT (X:=⟨_,true⟩) (out:=.val _ _) hX U (AE (by omega)<|AB))),⟨AJ 0 U U,⟨AJ 0 U U,⟨AJ 0 U U,⟨AJ 0 U U,⟨⟨_,_,_,_,1,rfl,rfl,rfl,rfl,C7 6 (X:=⟨_,true⟩) hX U U (JZ h0 U) U U U U⟩,⟨AJ 0 U U,⟨AJ 0 U U,trivial⟩⟩⟩⟩⟩⟩⟩⟩⟩⟩⟩⟩⟩⟩,⟨⟨AJ 1 U U,⟨AJ 1 U U,⟨AJ 1 U U,⟨AJ 1 U U,⟨AJ 1 U U,⟨AJ 1 U U,⟨BB 1 U (BP (x:=.ix (.ptr 0 4) 1 3 1 0) (Al 1 U) (AT (X:=⟨_,true⟩) (out:=.val _ _) hX U (AE (by omega)<|AB))),⟨AJ 1 U U,⟨AJ 1 U U,⟨AJ 1 U U,⟨⟨_,_,_,_,2,rfl,rfl,rfl,rfl,F3 7 (fX (i:=3) hX ((b1++[(⟨lc,o,s,v⟩:Wr)]).length) (Bh (b1++[(⟨lc,o,s,v⟩:Wr)])) U AB U U Er (rC _ _) (fun q hq=>SH hq) (SJ _ _) (fun z=>⟨_,rfl,rfl⟩)) U U (JZ h0 U) U U U U⟩,⟨AJ 1 U U,⟨AJ 1 U U,trivial⟩⟩⟩⟩⟩⟩⟩⟩⟩⟩⟩⟩⟩,⟨⟨AJ 2 U U,⟨AJ 2 U U,⟨AJ 2 U U,⟨AJ 2 U U,⟨AJ 2 U U,⟨AJ 2 U U,⟨BB 2 U (BP (x:=.ix (.ptr 0 4) 1 3 1 0) (Al 1 U) (AT (X:=⟨_,true⟩) (out:=.val _ _) hX U (AE (by omega)<|AB))),⟨AJ 2 U U,⟨AJ 2 U U,⟨AJ 2 U U,⟨AJ 2 U U,⟨BB 2 U (BP (x:=.ix (.ptr 0 4) 1 3 1 0) (Al 1 U) (AT (X:=⟨_,true⟩) (out:=.val _ _) hX U (AE (by omega)<|AB))),⟨BB 3 U (AT (X:=⟨_,true⟩) (out:=.upd 0 (bO 1 m (SZ p0 b0) (.sl 7 ((b1++[(⟨lc,o,s,v⟩:Wr)]).length) 0) (SZ p2 b2)) _) hX U U),trivial⟩⟩⟩⟩⟩⟩⟩⟩⟩⟩⟩⟩⟩,⟨⟨AJ 3 U U,⟨AJ 3 U U,trivial⟩⟩,trivial⟩⟩⟩⟩ fun A=>N9 8 A U U fun A=>KC hX [7] A ⟨rfl,rfl⟩ U U U U U U U U h0)
   (fun h2 A=>absurd BM h2))
theorem Wh (m:Nat→Int)(cs:List AD)(ts:List Th)(nn:Nat)(p0 p1:Option Loc)(b0 b1 b2:List Wr)(lc o s v:Int)(hC:Ac cs ts nn)(Bo:0≤(2:Int)∧(2:Int)<((nn:Nat):Int))(Er:b2.length≤1000000)(IG:Jq (Ea cs ts (2:Int))=lc)(KH:Jr (Nk ts (2:Int)).r (Ea cs ts (2:Int))=AY o s)(Qt:BR (Nk ts (2:Int)).r (Ea cs ts (2:Int))=v)(BM:(Ea cs ts (2:Int)).op=5):BQ (TI cs) Tryz.prog 74 [.ptr 0 0,.n9 2] [O (bO 1 m (SZ p0 b0) (SZ p1 b1) (.sl 3 b2.length 0)),O [.sl 2 nn 0],aq cs ts nn,some (.buf 123 3 b2.length (Bh b2))] (Rt (.int .i64 0) [O (bO 1 m (SZ p0 b0) (SZ p1 b1) (.sl 4 ((b2++[(⟨lc,o,s,v⟩:Wr)]).length) 0)),O [.sl 2 nn 0],aq cs ts nn,none,some (.buf 123 3 ((b2++[(⟨lc,o,s,v⟩:Wr)]).length) (Bh (b2++[(⟨lc,o,s,v⟩:Wr)])))]):=
 Aa (n:=66) (by kernel_rfl) Tryz.func74 U U U fun G w a h0 hI A=>N9 12 A U U fun A=>I9 [1,2] AH.ok hI.1 (C1 cs ts nn 2 hC Bo) A U fun A=>N9 15 A U U fun A=>I9 [1,2] AH.ok hI.1 (Qi cs ts nn 2 lc o s v hC Bo IG KH Qt) A U fun A=>N9 24 A U U fun A=>AV 32 A U
  (fun h1 A=>absurd (h1.symm.trans BM) (by decide))
  (fun h1 A=>N9 7 A U U fun A=>AV 39 A U
   (fun h2 A=>N9 1 A U U fun A=>GL BW [.ptr 0 0,.n9 2,.ptr 0 0,.n9 2,.ptr 0 0,.ptr 0 4,.ptr 0 6,.sl 3 b2.length 0,.agg [.n9 lc,.n9 (AY o s)],.n9 v,.agg [.n9 lc,.n9 (AY o s),.n9 v],.sl 6 1 1,.sl 7 ((b2++[(⟨lc,o,s,v⟩:Wr)]).length) 0,.ptr 0 0,.ptr 0 4,.ptr 0 6,.tup []] [11,12,16] [6,7] 2 [([],[6,7],[O (bO 1 m (SZ p0 b0) (SZ p1 b1) (.sl 3 b2.length 0)),O [.sl 2 nn 0],aq cs ts nn,some (.buf 123 3 b2.length (Bh b2)),O (AZ (Ea cs ts (2:Int))),O [.n9 lc,.n9 (AY o s)],none,none]),([11],[7],[O (bO 1 m (SZ p0 b0) (SZ p1 b1) (.sl 3 b2.length 0)),O [.sl 2 nn 0],aq cs ts nn,some (.buf 123 3 b2.length (Bh b2)),O (AZ (Ea cs ts (2:Int))),O [.n9 lc,.n9 (AY o s)],O [.n9 lc,.n9 (AY o s),.n9 v],none]),([11,12],[],[O (bO 1 m (SZ p0 b0) (SZ p1 b1) (.sl 3 b2.length 0)),O [.sl 2 nn 0],aq cs ts nn,none,O (AZ (Ea cs ts (2:Int))),O [.n9 lc,.n9 (AY o s)],O [.n9 lc,.n9 (AY o s),.n9 v],some (.buf 123 3 ((b2++[(⟨lc,o,s,v⟩:Wr)]).length) (Bh (b2++[(⟨lc,o,s,v⟩:Wr)])))]),([11,12,16],[],[O (bO 1 m (SZ p0 b0) (SZ p1 b1) (.sl 7 ((b2++[(⟨lc,o,s,v⟩:Wr)]).length) 0)),O [.sl 2 nn 0],aq cs ts nn,none,O (AZ (Ea cs ts (2:Int))),O [.n9 lc,.n9 (AY o s)],O [.n9 lc,.n9 (AY o s),.n9 v],some (.buf 123 3 ((b2++[(⟨lc,o,s,v⟩:Wr)]).length) (Bh (b2++[(⟨lc,o,s,v⟩:Wr)])))])] [[true,true,true,true,true,true,true,true,true,true,true,true,false,true,true,false,false],[true,true,true,true,true,true,true,true,true,true,false,false,true,true,true,false,false],[true,true,true,true,true,true,true,false,true,true,false,false,false,true,true,true,true],[false,false,false,false,false,false,false,false,false,false,false,false,false,true,true,false,false]] A U U U U (by kernel_rfl) U (by kernel_rfl) ⟨⟨AJ 0 U U,⟨AJ 0 U U,⟨AJ 0 U U,⟨AJ 0 U U,⟨AJ 0 U U,⟨AJ 0 U U,⟨BB 0 U (BP (x:=.ix (.ptr 0 4) 1 3 2 0) (Al 2 U) (AT (X:=⟨_,true⟩) (out:=.val _ _) hX U (AE (by omega)<|AB))),⟨AJ 0 U U,⟨AJ 0 U U,⟨AJ 0 U U,⟨AJ 0 U U,⟨⟨_,_,_,_,1,rfl,rfl,rfl,rfl,C7 6 (X:=⟨_,true⟩) hX U U (JZ h0 U) U U U U⟩,⟨AJ 0 U U,⟨AJ 0 U U,trivial⟩⟩⟩⟩⟩⟩⟩⟩⟩⟩⟩⟩⟩⟩,⟨⟨AJ 1 U U,⟨AJ 1 U U,⟨AJ 1 U U,⟨AJ 1 U U,⟨AJ 1 U U,⟨AJ 1 U U,⟨BB 1 U (BP (x:=.ix (.ptr 0 4) 1 3 2 0) (Al 2 U) (AT (X:=⟨_,true⟩) (out:=.val _ _) hX U (AE (by omega)<|AB))),⟨AJ 1 U U,⟨AJ 1 U U,⟨AJ 1 U U,⟨⟨_,_,_,_,2,rfl,rfl,rfl,rfl,F3 7 (fX (i:=3) hX ((b2++[(⟨lc,o,s,v⟩:Wr)]).length) (Bh (b2++[(⟨lc,o,s,v⟩:Wr)])) U AB U U Er (rC _ _) (fun q hq=>SH hq) (SJ _ _) (fun z=>⟨_,rfl,rfl⟩)) U U (JZ h0 U) U U U U⟩,⟨AJ 1 U U,⟨AJ 1 U U,trivial⟩⟩⟩⟩⟩⟩⟩⟩⟩⟩⟩⟩⟩,⟨⟨AJ 2 U U,⟨AJ 2 U U,⟨AJ 2 U U,⟨AJ 2 U U,⟨AJ 2 U U,⟨AJ 2 U U,⟨BB 2 U (BP (x:=.ix (.ptr 0 4) 1 3 2 0) (Al 2 U) (AT (X:=⟨_,true⟩) (out:=.val _ _) hX U (AE (by omega)<|AB))),⟨AJ 2 U U,⟨AJ 2 U U,⟨AJ 2 U U,⟨AJ 2 U U,⟨BB 2 U (BP (x:=.ix (.ptr 0 4) 1 3 2 0) (Al 2 U) (AT (X:=⟨_,true⟩) (out:=.val _ _) hX U (AE (by omega)<|AB))),⟨BB 3 U (AT (X:=⟨_,true⟩) (out:=.upd 0 (bO 1 m (SZ p0 b0) (SZ p1 b1) (.sl 7 ((b2++[(⟨lc,o,s,v⟩:Wr)]).length) 0)) _) hX U U),trivial⟩⟩⟩⟩⟩⟩⟩⟩⟩⟩⟩⟩⟩,⟨⟨AJ 3 U U,⟨AJ 3 U U,trivial⟩⟩,trivial⟩⟩⟩⟩ fun A=>N9 8 A U U fun A=>KC hX [7] A ⟨rfl,rfl⟩ U U U U U U U U h0)
   (fun h2 A=>absurd BM h2))
end Mc
namespace Mc.Ts
open Go.RowKit
set_option simprocs false
def AQ {α:Type}(f:Nat→α)(k:Nat)(x:α):Nat→α:=fun j=>if j=k then x else f j
def Qj (k z:Nat)(y x:SV):SV:=bif Nat.beq k z then y else x
abbrev dP (tv:Nat→Value)(m:Rg)(nn:Nat)(ra:ak)(rc:Nat):List SV:=[.v (tv 0),.v (tv 1),.v (tv 2),.v (tv 3),.v (tv 4),.v (tv 5),.v (tv 6),.v (tv 7),.v (tv 8),.v (tv 9),.v (tv 10),.v (tv 11),.v (tv 12),.v (tv 13),.v (tv 14),.v (tv 15),.v (tv 16),.v (tv 17),.v (tv 18),.v (tv 19),.v (tv 20),.v (tv 21),.v (tv 22),.v (tv 23),.v (tv 24),.v (tv 25),.v (tv 26),.v (tv 27),.v (tv 28),.v (tv 29),.v (tv 30),.v (tv 31),.sla ra nn rc,.int .i64 (m 0),.int .i64 (m 1),.int .i64 (m 2)]
abbrev dU (tv:Nat→Value)(m:Rg)(nn:Nat)(ra:ak)(rc:Nat)(x0 x1 x2:SV):List SV:=[.v (tv 0),.v (tv 1),.v (tv 2),.v (tv 3),.v (tv 4),.v (tv 5),.v (tv 6),.v (tv 7),.v (tv 8),.v (tv 9),.v (tv 10),.v (tv 11),.v (tv 12),.v (tv 13),.v (tv 14),.v (tv 15),.v (tv 16),.v (tv 17),.v (tv 18),.v (tv 19),.v (tv 20),.v (tv 21),.v (tv 22),.v (tv 23),.v (tv 24),.v (tv 25),.v (tv 26),.v (tv 27),.v (tv 28),.v (tv 29),.v (tv 30),.v (tv 31),.sla ra nn rc,.int .i64 (m 0),.int .i64 (m 1),.int .i64 (m 2),x0,x1,x2,.tt]
abbrev MJ (rp:Nat→Option Loc)(bw:Nat→List Wr)(k:Nat):SV:=.sla (AK (rp k)) (bw k).length (rm (rp k))
theorem Wi {G:Gr}(tv:Nat→Value)(m:Rg)(nn:Nat)(ra:ak)(rc:Nat)(rp:Nat→Option Loc)(bw:Nat→List Wr){th:Int}(Bo:0≤th∧th<3){q:Nat}{p':Option Loc}(l':List Wr)(hq:G[q]?=some p'):AO G (dT tv m nn ra rc (AQ rp th.toNat p') (AQ bw th.toNat l'))=AO G (dU tv m nn ra rc (Qj th.toNat 0 (.sl q l'.length 0) (MJ rp bw 0)) (Qj th.toNat 1 (.sl q l'.length 0) (MJ rp bw 1)) (Qj th.toNat 2 (.sl q l'.length 0) (MJ rp bw 2))):=by
 rcases PX Bo with rfl|rfl|rfl
 ·exact HA (Bj hq) (dP tv m nn ra rc) [MJ rp bw 1,MJ rp bw 2,.tt]
 ·exact HA (Bj hq) (dP tv m nn ra rc++[MJ rp bw 0]) [MJ rp bw 2,.tt]
 ·exact HA (Bj hq) (dP tv m nn ra rc++[MJ rp bw 0,MJ rp bw 1]) [.tt]
theorem N6 (l:List Wr):(fun k=>Bh l (k+1))=Bh (l.drop 1):=by
 funext k
 show XM _=XM _
 simp [α8,υ0]
theorem LZ {l:List Wr}(h:0<l.length):l.length=(l.drop 1).length+1:=by simp;omega
def bk (p:Option Loc):List Nat:=(p.map (·.b)).toList
theorem Dg {p:Option Loc}{b:Nat}:(bk p).contains b=true↔∃L,p=some L∧L.b=b:=by
 cases p with
 |none=>simp [bk];intro L h;cases h
 |some L=>simp [bk];exact eq_comm
theorem La {cs:List SV}{e s n:Nat}{f:Nat→List SV}{L:Loc}{p:Option Loc}{bs:ae}(b:Nat)(hb:(keys [O cs,some (.buf e s n f)] [some L,p]).contains b=true):(L.b::(bk p++bs)).contains b=true:=by
 obtain⟨i,en,M,h1,_,h3,h4⟩:=mem_keys.1 hb
 match i,h1,h3 with
 |0,_,h3=>cases h3;rw [h4];simp
 |1,_,h3=>
  have h5:p=some M:=by simpa using h3
  rw [ε8,β9];right
  rw [δ9,ζ9];left
  exact δ9.1 (Dg.2 ⟨M,h5,h4⟩)
 |k+2,h1,_=>cases h1
theorem Y1 {cs:List SV}{L M:Loc}(h:M.b≠L.b):IC [O cs] [some L] [M.b]:=fun i e K h1 h2 h3=>by
 match i,h1,h2 with
 |0,_,h2=>cases h2;simp;exact fun e=>h e.symm
 |k+1,h1,_=>cases h1
def oF (tv:Nat→Value)(m:Rg)(nn:Nat)(ra:ak)(rc:Nat)(rp:Nat→Option Loc)(bw:Nat→List Wr)(k:Nat)(l':List Wr)(DL:Loc):SV→World→World→Prop:=fun _ w w'=>∃p',D3 w' DL.b (DL.pre++dW tv m nn ra rc (AQ rp k p') (AQ bw k l')++DL.post).toArray DL.t∧Ag [] w' p' (.buf 107 3 l'.length (Bh l'))∧∀L:Loc,p'=some L→w.heap.size≤L.b
def oG (tv:Nat→Value)(m:Rg)(cs:List AD)(ts:List Th)(nn:Nat)(ra:ak)(rc:Nat)(tr:List Tr)(rp:Nat→Option Loc)(bw:Nat→List Wr)(k:Nat)(l':List Wr)(DL:Loc):SV→World→World→Prop:=fun _ w w'=>∃tr' p',D3 w' DL.b (DL.pre++dW tv m nn ra rc (AQ rp k p') (AQ bw k l')++DL.post).toArray DL.t∧JT cs ts tr' 0 w' [DL.b]∧tr'.length=nn∧(∀k,k<nn→(tr'.getD k Tr.z).L=(tr.getD k Tr.z).L)∧(∀b,(CF tr').contains b=true→(DL.b::(bk (rp k)++CF tr)).contains b=true∨w.heap.size≤b)∧Ag [] w' p' (.buf 107 3 l'.length (Bh l'))∧∀L:Loc,p'=some L→((DL.b::(bk (rp k)++CF tr)).contains L.b=true∨w.heap.size≤L.b)∧L.b≠DL.b∧(CF tr').contains L.b=false
theorem x3 {r:Rg}{i:In}(h5:i.op=5)(hs:Uv i)(old:Int):S3 r i old=BR r i:=by
 unfold S3
 rw [if_neg (by omega),if_pos h5,Nq h5 (hs.a5 h5)]
theorem gG {p q:Option Loc}{ks:ae}{L:Loc}(h:p.map (·.b)=q.map (·.b))(hL:p=some L)(hk:∀M:Loc,q=some M→ks.contains M.b=false):ks.contains L.b=false:=by
 subst hL
 cases q with
 |none=>cases h
 |some M=>
  simp only [δ0,β1]at h
  rw [h];exact hk M U
theorem gH {n:Nat}{ks:ae}{G0:Gr}{w0:World}{T:List (Nat×SV)}{H:Hp}{G:Gr}{a:Act}{w:World}(A:Sy n T H ks G0 w0 G a w)(i:Nat){e s m:Nat}{f:Nat→List SV}{p:Option Loc}(hi:lg H i=some (some (.row e s m 0 f)))(hp:G[i]?=some p):Ag [] w p (.buf e s m f):=by
 rw [At]at hi
 have:=A.mem.ent i _ hi
 rw [hp]at this
 exact Y0 this
theorem Qx {n b0:Nat}{G0:Gr}{w0:World}{T:List (Nat×SV)}{H:Hp}{G:Gr}{a:Act}{w:World}(A:Sy n T H [b0] G0 w0 G a w)(i:Nat){en:BZ}{p:Option Loc}{L:Loc}(hi:lg H i=some (some en))(hm:en.mut=true)(hp:G[i]?=some p)(hL:p=some L)(Bw:L.b≠b0):w0.heap.size≤L.b:=by
 rw [At]at hi
 subst hL
 rcases A.own i en L hi hm hp with h|h
 ·exact absurd (by simpa using h) Bw
 ·exact h
theorem oH (tv:Nat→Value)(m:Nat→Int)(nn:Nat)(ra:ak)(rc:Nat)(rp:Nat→Option Loc)(bw:Nat→List Wr)(DL:Loc)(th at_:Int)(ZQ:0≤th∧th<3)(T3:∀k,k<3→inr (m k))(qF:(0≤((bw th.toNat).getD 0 Wr.z).lc∧((bw th.toNat).getD 0 Wr.z).lc<3)∧OS ((bw th.toNat).getD 0 Wr.z).o ((bw th.toNat).getD 0 Wr.z).s∧inr ((bw th.toNat).getD 0 Wr.z).v)(Er:(bw th.toNat).length≤1000000)(Bw:0<(bw th.toNat).length):Mf Tryz.prog 16 [EZ DL.b DL.pre.length,.agg [.n9 3,.n9 th,.n9 at_,.z9]] [] [DL.b] (fun w=>D3 w DL.b (DL.pre++dW tv m nn ra rc rp bw++DL.post).toArray DL.t∧Ag [] w (rp th.toNat) (.buf 107 3 (bw th.toNat).length (Bh (bw th.toNat)))∧∀L:Loc,rp th.toNat=some L→L.b≠DL.b) (oF tv (AX m (((bw th.toNat).getD 0 Wr.z).lc).toNat (AM (m (((bw th.toNat).getD 0 Wr.z).lc).toNat) ((bw th.toNat).getD 0 Wr.z).o ((bw th.toNat).getD 0 Wr.z).s ((bw th.toNat).getD 0 Wr.z).v)) nn ra rc rp bw th.toNat ((bw th.toNat).drop 1) DL):=
 Eg (n:=103) (by kernel_rfl) Tryz.func16 U U U (fun i e h=>by rw [ι1]at h;cases h) fun G w a h0 ho hp A=>VS 0 A hp.1 U U fun A=>have B:=A;have A:=B.base;have h0:=B.mem.len;have hG:[some DL][0]?=some (some DL):=rfl;have UC:∀L:Loc,rp th.toNat=some L→(keys [O (dT tv m nn ra rc rp bw)] [some DL]).contains L.b=false:=(fun L hL=>by cases hz:(keys [O (dT tv m nn ra rc rp bw)] [some DL]).contains L.b with|false=>rfl|true=>exact absurd (by simpa using Ip (bs:=[]) _ hz) (hp.2.2 L hL));have wT:AP (AK (rp th.toNat)) 3 (bw th.toNat).length (Bh (bw th.toNat)) _ (keys [O (dT tv m nn ra rc rp bw)] [some DL]):=HS hp.2.1 UC;ζ2 (Iz (e:=107) (m:=((bw th.toNat).drop 1).length) (by rw [←LZ Bw];exact hp.2.1)) fun pt ⟨ZN,wV,ht1,ht2⟩=>have wV:=(N6 (bw th.toNat))▸wV;have htl:AP (AK pt) 3 ((bw th.toNat).drop 1).length (Bh ((bw th.toNat).drop 1)) _ (keys [O (dT tv m nn ra rc rp bw)] [some DL]):=HS wV (fun L hL=>gG ZN hL UC);
 N9 9 A U U fun A=>N9 9 A U U fun A=>have A:=AG A 15 (.tt) U (fun _=>rfl);N9 4 A U U fun A=>have XR:AP (AK (rp th.toNat)) 3 (bw th.toNat).length (Bh (bw th.toNat)) _ _:=wT;N9 7 A U (AE (by omega)<|AB) fun A=>Af A U (F7 (v:=fun k=>.sla (AK (rp k)) ((bw k).length) (rm (rp k))) hX U U U U U U U (by omega) (fun k hk=>match k,hk with|0,_=>rfl|1,_=>rfl|2,_=>rfl)) fun A=>Af A U (Fb (e:=107) U U U U XR (by kernel_rfl) (by omega)) fun A=>Af A U (K9 (XM ((bw th.toNat).getD 0 Wr.z)) hX U U U XR (by omega) U U) fun A=>C9 [0] (We tv m nn ra rc rp bw ((bw th.toNat).getD 0 Wr.z).lc ((bw th.toNat).getD 0 Wr.z).o ((bw th.toNat).getD 0 Wr.z).s ((bw th.toNat).getD 0 Wr.z).v qF.1 qF.2.1 (T3 _ (by omega)) qF.2.2) A U fun A=>N9 8 A U U fun A=>have A:=A.nilRow 5 107 3 (Bh ([]:List Wr)) U (fun z=>⟨_,rfl,rfl⟩);GL BW [.ptr 0 0,.n9 th,.sl 2 0 0,.ptr 0 0,.n9 th,.ptr 0 0,.ptr 0 36,.ix (.ptr 0 36) 1 3 th 0,.sla (AK (rp (th.toNat))) ((bw (th.toNat)).length) (rm (rp (th.toNat))),.sla (AK pt) (((bw th.toNat).drop 1).length) (rm pt),.sl 3 (((bw th.toNat).drop 1).length) 0,.ptr 0 0,.ptr 0 36,.ix (.ptr 0 36) 1 3 th 0,.tup []] [10,14] [3] 1 [([],[3],[O (dT tv (AX m (((bw th.toNat).getD 0 Wr.z).lc).toNat (AM (m (((bw th.toNat).getD 0 Wr.z).lc).toNat) ((bw th.toNat).getD 0 Wr.z).o ((bw th.toNat).getD 0 Wr.z).s ((bw th.toNat).getD 0 Wr.z).v)) nn ra rc rp bw),O [.n9 3,.n9 th,.n9 at_,.z9],some (.row 107 3 0 0 (Bh ([]:List Wr))),none]),([10],[],[O (dT tv (AX m (((bw th.toNat).getD 0 Wr.z).lc).toNat (AM (m (((bw th.toNat).getD 0 Wr.z).lc).toNat) ((bw th.toNat).getD 0 Wr.z).o ((bw th.toNat).getD 0 Wr.z).s ((bw th.toNat).getD 0 Wr.z).v)) nn ra rc rp bw),O [.n9 3,.n9 th,.n9 at_,.z9],none,some (.row 107 3 (((bw th.toNat).drop 1).length) 0 (Bh ((bw th.toNat).drop 1)))]),([10,14],[],[O (dU tv (AX m (((bw th.toNat).getD 0 Wr.z).lc).toNat (AM (m (((bw th.toNat).getD 0 Wr.z).lc).toNat) ((bw th.toNat).getD 0 Wr.z).o ((bw th.toNat).getD 0 Wr.z).s ((bw th.toNat).getD 0 Wr.z).v)) nn ra rc (Qj th.toNat 0 (.sl 3 (((bw th.toNat).drop 1).length) 0) (MJ rp bw 0)) (Qj th.toNat 1 (.sl 3 (((bw th.toNat).drop 1).length) 0) (MJ rp bw 1)) (Qj th.toNat 2 (.sl 3 (((bw th.toNat).drop 1).length) 0) (MJ rp bw 2))),O [.n9 3,.n9 th,.n9 at_,.z9],none,some (.row 107 3 (((bw th.toNat).drop 1).length) 0 (Bh ((bw th.toNat).drop 1)))])] [[true,true,true,true,true,true,true,true,true,true,true,true,true,false,false],[true,true,false,true,true,true,true,true,true,false,false,true,true,true,true],[false,false,false,false,false,false,false,false,false,false,false,true,true,false,false]] A U U U U (by kernel_rfl) U (by kernel_rfl) ⟨⟨AJ 0 U U,⟨AJ 0 U U,⟨AJ 0 U U,⟨AJ 0 U U,⟨AJ 0 U U,⟨AJ 0 U U,⟨AJ 0 U U,⟨AJ 0 U (AE (by omega)<|AB),⟨BB 0 U (F7 (v:=fun k=>.sla (AK (rp k)) ((bw k).length) (rm (rp k))) hX U U U U U U U (by omega) (fun k hk=>match k,hk with|0,_=>rfl|1,_=>rfl|2,_=>rfl)),⟨BB 0 U (tZ (p':=pt) hX U U U U U U (LZ Bw) ht1 ht2),⟨⟨_,_,_,_,1,rfl,rfl,rfl,rfl,F3 3 (lD hX U U U U U U U U htl (by rw [γ3];omega) (fun z=>⟨_,rfl,rfl⟩) (fun k _=>⟨_,rfl,AB⟩)) U U (JZ h0 U) U U U U⟩,⟨AJ 0 U U,⟨AJ 0 U U,trivial⟩⟩⟩⟩⟩⟩⟩⟩⟩⟩⟩⟩⟩,⟨⟨AJ 1 U U,⟨AJ 1 U U,⟨AJ 1 U U,⟨AJ 1 U U,⟨AJ 1 U U,⟨AJ 1 U U,⟨AJ 1 U (AE (by omega)<|AB),⟨BB 1 U (F7 (v:=fun k=>.sla (AK (rp k)) ((bw k).length) (rm (rp k))) hX U U U U U U U (by omega) (fun k hk=>match k,hk with|0,_=>rfl|1,_=>rfl|2,_=>rfl)),⟨AJ 1 U U,⟨AJ 1 U U,⟨AJ 1 U (AE (by omega)<|AB),⟨BB 2 U (oE (cs':=fun k=>(dU tv (AX m (((bw th.toNat).getD 0 Wr.z).lc).toNat (AM (m (((bw th.toNat).getD 0 Wr.z).lc).toNat) ((bw th.toNat).getD 0 Wr.z).o ((bw th.toNat).getD 0 Wr.z).s ((bw th.toNat).getD 0 Wr.z).v)) nn ra rc (Qj k 0 (.sl 3 (((bw th.toNat).drop 1).length) 0) (MJ rp bw 0)) (Qj k 1 (.sl 3 (((bw th.toNat).drop 1).length) 0) (MJ rp bw 1)) (Qj k 2 (.sl 3 (((bw th.toNat).drop 1).length) 0) (MJ rp bw 2)))) hX U U U U U U U U U AB (by omega) (fun k hk=>match k,hk with|0,_=>rfl|1,_=>rfl|2,_=>rfl) U),trivial⟩⟩⟩⟩⟩⟩⟩⟩⟩⟩⟩⟩,⟨⟨AJ 2 U U,⟨AJ 2 U U,trivial⟩⟩,trivial⟩⟩⟩ fun A=>N9 2 A U U fun A=>ζ2 (PO A.mem.len 3 U) fun p2 Pf=>have hG:=A.at_pre hG;have A:=A.cellEq 0 (H':=[O (dT tv (AX m (((bw th.toNat).getD 0 Wr.z).lc).toNat (AM (m (((bw th.toNat).getD 0 Wr.z).lc).toNat) ((bw th.toNat).getD 0 Wr.z).o ((bw th.toNat).getD 0 Wr.z).s ((bw th.toNat).getD 0 Wr.z).v)) nn ra rc (AQ rp th.toNat p2) (AQ bw th.toNat ((bw th.toNat).drop 1))),O [.n9 3,.n9 th,.n9 at_,.z9],none,some (.row 107 3 (((bw th.toNat).drop 1).length) 0 (Bh ((bw th.toNat).drop 1)))]) U (Wi tv (AX m (((bw th.toNat).getD 0 Wr.z).lc).toNat (AM (m (((bw th.toNat).getD 0 Wr.z).lc).toNat) ((bw th.toNat).getD 0 Wr.z).o ((bw th.toNat).getD 0 Wr.z).s ((bw th.toNat).getD 0 Wr.z).v)) nn ra rc rp bw (by omega) ((bw th.toNat).drop 1) Pf) U;have C:=B.trans A;GS (J:=oF tv (AX m (((bw th.toNat).getD 0 Wr.z).lc).toNat (AM (m (((bw th.toNat).getD 0 Wr.z).lc).toNat) ((bw th.toNat).getD 0 Wr.z).o ((bw th.toNat).getD 0 Wr.z).s ((bw th.toNat).getD 0 Wr.z).v)) nn ra rc rp bw th.toNat ((bw th.toNat).drop 1) DL) hX C U U U U ⟨p2,Je A 0 U hG U,gH A 3 U Pf,fun L hL=>Qx C 3 U U Pf hL (fun e=>A.mem.sep 0 3 _ _ _ _ (by decide) U U U hG (by rw [Pf,hL]) (fun h=>h) e.symm)⟩
end Mc.Ts
namespace Mc.Ts
open Go.RowKit
set_option simprocs false
theorem JT.sub {cs:List AD}{ts:List Th}{tr:List Tr}{N:Nat}{w:World}{ks ks':ae}(h:JT cs ts tr N w ks)(hk:∀b,ks'.contains b=true→ks.contains b=true):JT cs ts tr N w ks':=JT.ok _ _ _ _ h (CQ.refl _ _) fun b hb=>.inl (hk b hb)
theorem gI {cs:List AD}{ts:List Th}{tr:List Tr}{N b:Nat}{w:World}{ks:ae}(h:JT cs ts tr N w ks)(hk:ks.contains b=true):(CF tr).contains b=false:=by
 cases hz:(CF tr).contains b with
 |false=>rfl
 |true=>
  obtain⟨k,h1,h2⟩:=C4.1 hz
  have:=(h.lo k h1 b h2).2
  rw [hk]at this;cases this
abbrev xW (cs:List AD)(ts:List Th)(k:Int):Wr:=⟨(Ea cs ts k).loc,Bg (Nk ts k).r (Ea cs ts k),(Ea cs ts k).sz,BR (Nk ts k).r (Ea cs ts k)⟩
theorem oI (tv:Nat→Value)(m:Nat→Int)(cs:List AD)(ts:List Th)(nn:Nat)(ra:ak)(rc:Nat)(tr:List Tr)(rp:Nat→Option Loc)(bw:Nat→List Wr)(DL:Loc)(th at_:Int)(XS:tr.length=nn)(Ls:ts.length=nn)(hle:nn≤cs.length)(Cx:nn≤3)(ZQ:0≤th∧th<((nn:Nat):Int))(FF:Fo (cs.getD (th.toNat) AD.z).l)(D6:(Nk ts th).at_<(cs.getD (th.toNat) AD.z).l.length)(Er:(bw th.toNat).length≤1000000)(BM:(Ea cs ts th).op=5):Mf Tryz.prog 16 [EZ DL.b DL.pre.length,.agg [.n9 2,.n9 th,.n9 at_,.z9]] [] (DL.b::(bk (rp th.toNat)++CF tr)) (fun w=>rB tv m cs ts nn ra rc tr rp bw DL (bk (rp th.toNat)) w∧Ag [] w (rp th.toNat) (.buf 107 3 (bw th.toNat).length (Bh (bw th.toNat)))∧∀L:Loc,rp th.toNat=some L→L.b≠DL.b) (oG tv m cs (Ak cs ts th 0) nn ra rc tr rp bw th.toNat ((bw th.toNat)++[(xW cs ts th)]) DL):=
 Eg (n:=103) (by kernel_rfl) Tryz.func16 U U U (fun i e h=>by rw [ι1]at h;cases h) fun G w a h0 ho hp A=>have ZN:=hp.2;have hp:=hp.1;have GY:th.toNat<nn:=(by omega);have aO:Uv (Ea cs ts th):=FF.snd D6;have XD:((Ea cs ts th).op=4∨(Ea cs ts th).op=5∨(Ea cs ts th).op=6)→((Ea cs ts th).sz=1∨(Ea cs ts th).sz=2∨(Ea cs ts th).sz=4∨(Ea cs ts th).sz=8):=FF.szs D6;have XE:((Ea cs ts th).op=4∨(Ea cs ts th).op=5∨(Ea cs ts th).op=6)→(0≤(Ea cs ts th).loc∧(Ea cs ts th).loc<3):=FF.loc D6;VS 0 A hp.blk U U fun A=>have A:=A.takeB ZN.1 (fun L hL=>Y1 (ZN.2 L hL)) (fun L hL=>.inl (by rw [ε8,β9];right;rw [δ9,ζ9];left;exact δ9.1 (Dg.2 ⟨L,hL,rfl⟩)));have B:=A;have A:=B.base;have h0:=B.mem.len;have hG:[some DL,rp th.toNat][0]?=some (some DL):=rfl;have IG:[some DL,rp th.toNat][1]?=some (rp th.toNat):=rfl;have qG:∀b,(CF tr).contains b=true→(DL.b::(bk (rp th.toNat)++CF tr)).contains b=true∨w.heap.size≤b:=fun b hb=>.inl (by rw [ε8,β9];right;rw [δ9,ζ9];right;exact δ9.1 hb);have jI:JT cs ts tr 0 _ (keys [O (dT tv m nn ra rc rp bw),some (.buf 107 3 ((bw th.toNat).length) (Bh (bw th.toNat)))] [some DL,rp th.toNat]):=JT.ok _ _ _ _ hp.jt (CQ.refl _ _) (fun b hb=>.inl (by have:=La (bs:=[]) b hb;rwa [ε0]at this));have XF:AH cs _ (keys [O (dT tv m nn ra rc rp bw),some (.buf 107 3 ((bw th.toNat).length) (Bh (bw th.toNat)))] [some DL,rp th.toNat]):=AH.ok _ _ _ _ hp.cd (CQ.refl _ _) (fun b hb=>.inl (La b hb));have hI:Mj cs ts nn ra (fun k=>(tr.getD k Tr.z).L.b) (fun k=>(tr.getD k Tr.z).L.pre.length) (fun k=>(cs.getD k AD.z).ao) (fun k=>(cs.getD k AD.z).cp) (fun k=>Jt (tr.getD k Tr.z).pb (tr.getD k Tr.z).ps.length) _ _:=⟨AP.ok _ _ _ _ hp.row (CQ.refl _ _) (fun b hb=>.inl (La b hb)),JT.look2 (z:=tr) jI XF XF XS hle (fun _ _=>rfl) (fun _ _=>rfl)⟩;
 N9 9 A U U fun A=>N9 9 A U U fun A=>have A:=AG A 15 (.ff) U (fun _=>rfl);N9 6 A U U fun A=>have Bo:AP (some ⟨(tr.getD th.toNat Tr.z).L.b,(tr.getD th.toNat Tr.z).L.pre.length,none⟩) 11 1 (fun _=>E5 (.sla (cs.getD (th.toNat) AD.z).ao (cs.getD (th.toNat) AD.z).l.length (cs.getD (th.toNat) AD.z).cp) (Nk ts th).r (((Nk ts th).at_:Nat):Int) (.v (Jt (tr.getD th.toNat Tr.z).pb (tr.getD th.toNat Tr.z).ps.length))) _ _:=(hI.2.2 th.toNat GY).1;have Ch:Fe (cs.getD (th.toNat) AD.z).ao (cs.getD (th.toNat) AD.z).l _ _:=(hI.2.2 th.toNat GY).2;N9 4 A U U fun A=>Af A U (AT (X:=⟨_,true⟩) (out:=.val (.sla ra nn rc) []) hX U AB) fun A=>N9 1 A U U fun A=>Af A U (Fb (e:=99) U U U U hI.1 (by kernel_rfl) (by omega)) fun A=>Af A U (MA (q:=0) (r:=[.v (.pointer (some ⟨(tr.getD th.toNat Tr.z).L.b,(tr.getD th.toNat Tr.z).L.pre.length,none⟩))]) (v:=.v (.pointer (some ⟨(tr.getD th.toNat Tr.z).L.b,(tr.getD th.toNat Tr.z).L.pre.length,none⟩))) hX U U U hI.1 (by omega) U U U) fun A=>N9 4 A U U fun A=>GL BW [.v (.pointer (some ⟨(tr.getD th.toNat Tr.z).L.b,(tr.getD th.toNat Tr.z).L.pre.length,none⟩)),.v (.pointer (some ⟨(tr.getD th.toNat Tr.z).L.b,(tr.getD th.toNat Tr.z).L.pre.length,none⟩)),.v (.pointer (some ⟨(tr.getD th.toNat Tr.z).L.b,(tr.getD th.toNat Tr.z).L.pre.length+0,none⟩)),.sla ((cs.getD (th.toNat) AD.z).ao) ((cs.getD (th.toNat) AD.z).l.length) ((cs.getD (th.toNat) AD.z).cp),.v (.pointer (some ⟨(tr.getD th.toNat Tr.z).L.b,(tr.getD th.toNat Tr.z).L.pre.length,none⟩)),.v (.pointer (some ⟨(tr.getD th.toNat Tr.z).L.b,(tr.getD th.toNat Tr.z).L.pre.length,none⟩)),.v (.pointer (some ⟨(tr.getD th.toNat Tr.z).L.b,(tr.getD th.toNat Tr.z).L.pre.length+9,none⟩)),.n9 (((Nk ts th).at_:Nat):Int),.v (.pointer (Sq ((cs.getD (th.toNat) AD.z).ao) 17 (((Nk ts th).at_:Nat):Int))),.agg (AZ (Ea cs ts th)),.ptr 3 0,.tup []] [10,11] [3] 1 [([],[3],[O (dT tv m nn ra rc rp bw),some (.buf 107 3 ((bw th.toNat).length) (Bh (bw th.toNat))),O [.n9 2,.n9 th,.n9 at_,.z9],none]),([10],[],[O (dT tv m nn ra rc rp bw),some (.buf 107 3 ((bw th.toNat).length) (Bh (bw th.toNat))),O [.n9 2,.n9 th,.n9 at_,.z9],O [.z9,.z9,.z9,.z9,.z9,.z9,.z9,.z9,.z9,.z9,.ff,.ff,.ff,.z9,.z9,.z9,.ff]]),([10,11],[],[O (dT tv m nn ra rc rp bw),some (.buf 107 3 ((bw th.toNat).length) (Bh (bw th.toNat))),O [.n9 2,.n9 th,.n9 at_,.z9],O (AZ (Ea cs ts th))])] [[true,true,true,true,true,true,true,true,true,true,true,false],[true,true,true,true,true,true,true,true,true,true,false,true],[false,false,false,false,false,false,false,false,false,false,false,false]] A U U U U (by kernel_rfl) U (by kernel_rfl) ⟨⟨AJ 0 U U,⟨BB 0 U (Im U U U),⟨BB 0 U (Io U U U (by kernel_rfl)),⟨BB 0 U (Rv (q:=0) (v:=.sla ((cs.getD (th.toNat) AD.z).ao) ((cs.getD (th.toNat) AD.z).l.length) ((cs.getD (th.toNat) AD.z).cp)) hX U U U Bo U U U),⟨AJ 0 U U,⟨BB 0 U (Im U U U),⟨BB 0 U (Io U U U (by kernel_rfl)),⟨BB 0 U (Rv (q:=9) (v:=.int .i64 (((Nk ts th).at_:Nat):Int)) hX U U U Bo U U U),⟨BB 0 U (Fb (e:=63) U U U U Ch (by kernel_rfl) (by omega)),⟨BB 0 U (K9 (Ce (Ea cs ts th)) hX U U U Ch (by omega) U U),⟨⟨_,_,_,_,1,rfl,rfl,rfl,rfl,C7 3 (X:=⟨_,true⟩) hX U U (JZ h0 U) U U U U⟩,trivial⟩⟩⟩⟩⟩⟩⟩⟩⟩⟩⟩,⟨⟨AJ 1 U U,⟨BB 1 U (Im U U U),⟨BB 1 U (Io U U U (by kernel_rfl)),⟨BB 1 U (Rv (q:=0) (v:=.sla ((cs.getD (th.toNat) AD.z).ao) ((cs.getD (th.toNat) AD.z).l.length) ((cs.getD (th.toNat) AD.z).cp)) hX U U U Bo U U U),⟨AJ 1 U U,⟨BB 1 U (Im U U U),⟨BB 1 U (Io U U U (by kernel_rfl)),⟨BB 1 U (Rv (q:=9) (v:=.int .i64 (((Nk ts th).at_:Nat):Int)) hX U U U Bo U U U),⟨BB 1 U (Fb (e:=63) U U U U Ch (by kernel_rfl) (by omega)),⟨BB 1 U (K9 (Ce (Ea cs ts th)) hX U U U Ch (by omega) U U),⟨BB 2 U (AT (X:=⟨_,true⟩) (out:=.upd 3 (AZ (Ea cs ts th)) _) hX U U),trivial⟩⟩⟩⟩⟩⟩⟩⟩⟩⟩⟩,⟨trivial,trivial⟩⟩⟩ fun A=>N9 10 A U U fun A=>C9 [] (VD (Ea cs ts th)) A U fun A=>N9 2 A U U fun A=>fork 58 A U
  (fun hr A=>absurd hr (by rw [BM];decide))
  (fun hr A=>N9 7 A U U fun A=>have hG:=A.at_pre hG;have IG:=A.atp IG;VR (z:=tr) (B.trans A) hp.cd qG (JT.ok.now A jI) (β7 _) XS (fun _ _=>rfl) GY Ls hle U FF 0 U D6 U fun tr1 p {a w} Jj iV GI SN B=>have Jj:=Jj.as (congrArg (fun r=>ts.set th.toNat ⟨(Nk ts th).at_+1,r⟩) (VT hr 0 0));have A:=B.base;have h0:=B.mem.len;N9 11 A U U fun A=>fork 69 A U
   (fun hw A=>have XG:=R1 hw;have D7:=XD (HX XG);have Pa:=XE (HX XG);have jJ:=Df (r:=(Nk ts th).r) D7;N9 2 A U U fun A=>have A:=A.sayH (H':=[O (dT tv m nn ra rc rp bw),some (.buf 107 3 ((bw th.toNat).length) (Bh (bw th.toNat))),O [.n9 2,.n9 th,.n9 at_,.z9],O (AZ (Ea cs ts th)),O [.z9,.n9 p,.n9 (((Nk ts th).at_:Nat):Int),.n9 ((Ea cs ts th).op),.n9 ((Ea cs ts th).loc),.n9 (AY (Bg (Nk ts th).r (Ea cs ts th)) (Ea cs ts th).sz),.bool (((Ea cs ts th).op==4)||((Ea cs ts th).op==6)),.bool (((Ea cs ts th).op==5)||((Ea cs ts th).op==6)),.n9 (KN (Ea cs ts th) 0),.n9 (BR (Nk ts th).r (Ea cs ts th)),.bool ((Ea cs ts th).acq),.bool ((Ea cs ts th).weak),.bool ((Ea cs ts th).rel),.n9 ((Ea cs ts th).pred),.n9 ((Ea cs ts th).succ)]]) (by rw [QG XG,QH XG D7,x3 BM aO]);N9 20 A U U fun A=>have A:=AG A 82 (.tt) U (fun _=>congrArg (fun b=>some (Value.bool b)) (ε5.2 BM));N9 4 A U U fun A=>GL BW [.ptr 0 0,.n9 th,.ptr 0 0,.n9 th,.ptr 0 0,.ptr 0 36,.ix (.ptr 0 36) 1 3 th 0,.sla (AK (rp (th.toNat))) ((bw (th.toNat)).length) (rm (rp (th.toNat))),.agg [.n9 ((Ea cs ts th).loc),.n9 (AY (Bg (Nk ts th).r (Ea cs ts th)) (Ea cs ts th).sz),.n9 (BR (Nk ts th).r (Ea cs ts th))],.sl 6 1 1,.sl 7 (((bw th.toNat)++[(xW cs ts th)]).length) 0,.ptr 0 0,.ptr 0 36,.ix (.ptr 0 36) 1 3 th 0,.tup []] [9,10,14] [6,7] 2 [([],[6,7],[O (dT tv m nn ra rc rp bw),some (.buf 107 3 ((bw th.toNat).length) (Bh (bw th.toNat))),O [.n9 2,.n9 th,.n9 at_,.z9],O (AZ (Ea cs ts th)),O [.z9,.n9 p,.n9 (((Nk ts th).at_:Nat):Int),.n9 ((Ea cs ts th).op),.n9 ((Ea cs ts th).loc),.n9 (AY (Bg (Nk ts th).r (Ea cs ts th)) (Ea cs ts th).sz),.bool (((Ea cs ts th).op==4)||((Ea cs ts th).op==6)),.bool (((Ea cs ts th).op==5)||((Ea cs ts th).op==6)),.n9 (KN (Ea cs ts th) 0),.n9 (BR (Nk ts th).r (Ea cs ts th)),.bool ((Ea cs ts th).acq),.bool ((Ea cs ts th).weak),.bool ((Ea cs ts th).rel),.n9 ((Ea cs ts th).pred),.n9 ((Ea cs ts th).succ)],O [.n9 ((Ea cs ts th).loc),.n9 (AY (Bg (Nk ts th).r (Ea cs ts th)) (Ea cs ts th).sz),.n9 (BR (Nk ts th).r (Ea cs ts th))],none,none]),([9],[7],[O (dT tv m nn ra rc rp bw),some (.buf 107 3 ((bw th.toNat).length) (Bh (bw th.toNat))),O [.n9 2,.n9 th,.n9 at_,.z9],O (AZ (Ea cs ts th)),O [.z9,.n9 p,.n9 (((Nk ts th).at_:Nat):Int),.n9 ((Ea cs ts th).op),.n9 ((Ea cs ts th).loc),.n9 (AY (Bg (Nk ts th).r (Ea cs ts th)) (Ea cs ts th).sz),.bool (((Ea cs ts th).op==4)||((Ea cs ts th).op==6)),.bool (((Ea cs ts th).op==5)||((Ea cs ts th).op==6)),.n9 (KN (Ea cs ts th) 0),.n9 (BR (Nk ts th).r (Ea cs ts th)),.bool ((Ea cs ts th).acq),.bool ((Ea cs ts th).weak),.bool ((Ea cs ts th).rel),.n9 ((Ea cs ts th).pred),.n9 ((Ea cs ts th).succ)],O [.n9 ((Ea cs ts th).loc),.n9 (AY (Bg (Nk ts th).r (Ea cs ts th)) (Ea cs ts th).sz),.n9 (BR (Nk ts th).r (Ea cs ts th))],O [.n9 ((Ea cs ts th).loc),.n9 (AY (Bg (Nk ts th).r (Ea cs ts th)) (Ea cs ts th).sz),.n9 (BR (Nk ts th).r (Ea cs ts th))],none]),([9,10],[],[O (dT tv m nn ra rc rp bw),none,O [.n9 2,.n9 th,.n9 at_,.z9],O (AZ (Ea cs ts th)),O [.z9,.n9 p,.n9 (((Nk ts th).at_:Nat):Int),.n9 ((Ea cs ts th).op),.n9 ((Ea cs ts th).loc),.n9 (AY (Bg (Nk ts th).r (Ea cs ts th)) (Ea cs ts th).sz),.bool (((Ea cs ts th).op==4)||((Ea cs ts th).op==6)),.bool (((Ea cs ts th).op==5)||((Ea cs ts th).op==6)),.n9 (KN (Ea cs ts th) 0),.n9 (BR (Nk ts th).r (Ea cs ts th)),.bool ((Ea cs ts th).acq),.bool ((Ea cs ts th).weak),.bool ((Ea cs ts th).rel),.n9 ((Ea cs ts th).pred),.n9 ((Ea cs ts th).succ)],O [.n9 ((Ea cs ts th).loc),.n9 (AY (Bg (Nk ts th).r (Ea cs ts th)) (Ea cs ts th).sz),.n9 (BR (Nk ts th).r (Ea cs ts th))],O [.n9 ((Ea cs ts th).loc),.n9 (AY (Bg (Nk ts th).r (Ea cs ts th)) (Ea cs ts th).sz),.n9 (BR (Nk ts th).r (Ea cs ts th))],some (.buf 107 3 (((bw th.toNat)++[(xW cs ts th)]).length) (Bh ((bw th.toNat)++[(xW cs ts th)])))]),([9,10,14],[],[O (dU tv m nn ra rc (Qj th.toNat 0 (.sl 7 (((bw th.toNat)++[(xW cs ts th)]).length) 0) (MJ rp bw 0)) (Qj th.toNat 1 (.sl 7 (((bw th.toNat)++[(xW cs ts th)]).length) 0) (MJ rp bw 1)) (Qj th.toNat 2 (.sl 7 (((bw th.toNat)++[(xW cs ts th)]).length) 0) (MJ rp bw 2))),none,O [.n9 2,.n9 th,.n9 at_,.z9],O (AZ (Ea cs ts th)),O [.z9,.n9 p,.n9 (((Nk ts th).at_:Nat):Int),.n9 ((Ea cs ts th).op),.n9 ((Ea cs ts th).loc),.n9 (AY (Bg (Nk ts th).r (Ea cs ts th)) (Ea cs ts th).sz),.bool (((Ea cs ts th).op==4)||((Ea cs ts th).op==6)),.bool (((Ea cs ts th).op==5)||((Ea cs ts th).op==6)),.n9 (KN (Ea cs ts th) 0),.n9 (BR (Nk ts th).r (Ea cs ts th)),.bool ((Ea cs ts th).acq),.bool ((Ea cs ts th).weak),.bool ((Ea cs ts th).rel),.n9 ((Ea cs ts th).pred),.n9 ((Ea cs ts th).succ)],O [.n9 ((Ea cs ts th).loc),.n9 (AY (Bg (Nk ts th).r (Ea cs ts th)) (Ea cs ts th).sz),.n9 (BR (Nk ts th).r (Ea cs ts th))],O [.n9 ((Ea cs ts th).loc),.n9 (AY (Bg (Nk ts th).r (Ea cs ts th)) (Ea cs ts th).sz),.n9 (BR (Nk ts th).r (Ea cs ts th))],some (.buf 107 3 (((bw th.toNat)++[(xW cs ts th)]).length) (Bh ((bw th.toNat)++[(xW cs ts th)])))])] [[true,true,true,true,true,true,true,true,true,true,false,true,true,false,false],[true,true,true,true,true,true,true,true,false,false,true,true,true,false,false],[true,true,true,true,true,true,true,false,false,false,false,true,true,true,true],[false,false,false,false,false,false,false,false,false,false,false,true,true,false,false]] A U U U U (by kernel_rfl) U (by kernel_rfl) ⟨⟨AJ 0 U U,⟨AJ 0 U U,⟨AJ 0 U U,⟨AJ 0 U U,⟨AJ 0 U U,⟨AJ 0 U U,⟨AJ 0 U (AE (by omega)<|AB),⟨BB 0 U (F7 (v:=fun k=>.sla (AK (rp k)) ((bw k).length) (rm (rp k))) hX U U U U U U U (by omega) (fun k hk=>match k,hk with|0,_=>rfl|1,_=>rfl|2,_=>rfl)),⟨AJ 0 U U,⟨⟨_,_,_,_,1,rfl,rfl,rfl,rfl,C7 6 (X:=⟨_,true⟩) hX U U (JZ h0 U) U U U U⟩,⟨AJ 0 U U,⟨AJ 0 U U,trivial⟩⟩⟩⟩⟩⟩⟩⟩⟩⟩⟩⟩,⟨⟨AJ 1 U U,⟨AJ 1 U U,⟨AJ 1 U U,⟨AJ 1 U U,⟨AJ 1 U U,⟨AJ 1 U U,⟨AJ 1 U (AE (by omega)<|AB),⟨BB 1 U (F7 (v:=fun k=>.sla (AK (rp k)) ((bw k).length) (rm (rp k))) hX U U U U U U U (by omega) (fun k hk=>match k,hk with|0,_=>rfl|1,_=>rfl|2,_=>rfl)),⟨⟨_,_,_,_,2,rfl,rfl,rfl,rfl,F3 7 (uA (i:=1) hX (((bw th.toNat)++[(xW cs ts th)]).length) (Bh ((bw th.toNat)++[(xW cs ts th)])) U U U U IG U U U U U U AB U U Er (rC _ _) (fun q hq=>SH hq) (SJ _ _) (fun z=>⟨_,rfl,rfl⟩)) U U (JZ h0 U) U U U U⟩,⟨AJ 1 U U,⟨AJ 1 U U,trivial⟩⟩⟩⟩⟩⟩⟩⟩⟩⟩⟩,⟨⟨AJ 2 U U,⟨AJ 2 U U,⟨AJ 2 U U,⟨AJ 2 U U,⟨AJ 2 U U,⟨AJ 2 U U,⟨AJ 2 U (AE (by omega)<|AB),⟨AJ 2 U U,⟨AJ 2 U U,⟨AJ 2 U (AE (by omega)<|AB),⟨BB 3 U (oE (cs':=fun k=>(dU tv m nn ra rc (Qj k 0 (.sl 7 (((bw th.toNat)++[(xW cs ts th)]).length) 0) (MJ rp bw 0)) (Qj k 1 (.sl 7 (((bw th.toNat)++[(xW cs ts th)]).length) 0) (MJ rp bw 1)) (Qj k 2 (.sl 7 (((bw th.toNat)++[(xW cs ts th)]).length) 0) (MJ rp bw 2)))) hX U U U U U U U U U AB (by omega) (fun k hk=>match k,hk with|0,_=>rfl|1,_=>rfl|2,_=>rfl) U),trivial⟩⟩⟩⟩⟩⟩⟩⟩⟩⟩⟩,⟨⟨AJ 3 U U,⟨AJ 3 U U,trivial⟩⟩,trivial⟩⟩⟩⟩ fun A=>N9 1 A U U fun A=>ζ2 (PO A.mem.len 7 U) fun p2 Pf=>have A:=A.cellEq 0 (H':=[O (dT tv m nn ra rc (AQ rp th.toNat p2) (AQ bw th.toNat ((bw th.toNat)++[(xW cs ts th)]))),none,O [.n9 2,.n9 th,.n9 at_,.z9],O (AZ (Ea cs ts th)),O [.z9,.n9 p,.n9 (((Nk ts th).at_:Nat):Int),.n9 ((Ea cs ts th).op),.n9 ((Ea cs ts th).loc),.n9 (AY (Bg (Nk ts th).r (Ea cs ts th)) (Ea cs ts th).sz),.bool (((Ea cs ts th).op==4)||((Ea cs ts th).op==6)),.bool (((Ea cs ts th).op==5)||((Ea cs ts th).op==6)),.n9 (KN (Ea cs ts th) 0),.n9 (BR (Nk ts th).r (Ea cs ts th)),.bool ((Ea cs ts th).acq),.bool ((Ea cs ts th).weak),.bool ((Ea cs ts th).rel),.n9 ((Ea cs ts th).pred),.n9 ((Ea cs ts th).succ)],O [.n9 ((Ea cs ts th).loc),.n9 (AY (Bg (Nk ts th).r (Ea cs ts th)) (Ea cs ts th).sz),.n9 (BR (Nk ts th).r (Ea cs ts th))],O [.n9 ((Ea cs ts th).loc),.n9 (AY (Bg (Nk ts th).r (Ea cs ts th)) (Ea cs ts th).sz),.n9 (BR (Nk ts th).r (Ea cs ts th))],some (.buf 107 3 (((bw th.toNat)++[(xW cs ts th)]).length) (Bh ((bw th.toNat)++[(xW cs ts th)])))]) U (Wi tv m nn ra rc rp bw (by omega) ((bw th.toNat)++[(xW cs ts th)]) Pf) U;have hG:=A.at_pre hG;have Jj:=JT.ok.now A Jj;have B:=B.trans A;have A:=B.base;have h0:=B.mem.len;N9 2 A U U fun A=>have Pf:=A.atp Pf;have hG:=A.at_pre hG;LK (z:=tr) (B.trans A) hp.cd SN (JT.ok.now A Jj) (β7 _) iV GI GY (by rw [η2];exact Ls) hle U FF (Js (by omega)) (ν3 D6) U fun tr2 {a w x} Lo ZR OG FC B=>have Lo:=Lo.as (Fg U D6);have A:=B.base;have h0:=B.mem.len;N9 1 A U U fun A=>GP (have C:=B.trans A;have hG:=A.at_pre hG;have Pf:=A.atp Pf;ζ2 (A.giveB 7 U) fun p3 ⟨e1,e2,e3⟩=>have e4:p3=p2:=β6 (e1.symm.trans Pf);GS (J:=oG tv m cs (Ak cs ts th 0) nn ra rc tr rp bw th.toNat ((bw th.toNat)++[(xW cs ts th)]) DL) hX C U U U U ⟨tr2,p2,Je A 0 U hG U,JT.sub (JT.ok.now A Lo) (fun b hb=>mem_keys.2 ⟨0,_,DL,rfl,rfl,hG,(eq_comm.1 (by simpa using hb))⟩),ZR,OG,FC,e4▸e2,fun L hL=>⟨((C.giveB 7 U).elim fun p4 ⟨f1,f2,f3⟩=>(f3 L (β6 (f1.symm.trans Pf)▸hL)).1),(fun z=>A.mem.sep 0 7 _ _ DL L (by decide) U U U hG (by rw [Pf,hL]) (fun h=>h) z.symm),gI (JT.ok.now A Lo) (mem_keys.2 ⟨7,_,L,rfl,rfl,(by rw [Pf,hL]),rfl⟩)⟩⟩))
   (fun hw A=>absurd hw (by rw [BM];decide)))
end Mc.Ts
namespace Mc.Ts
open Go.RowKit
set_option simprocs false
def rD (cs:List AD)(rg:Nat→Rg)(mi:Rg):SV→World→World→Prop:=fun x w w'=>∃(tv:Nat→Value) (ra:ak) (rc:Nat) (tr:List Tr) (DL:Loc),x=EZ DL.b DL.pre.length∧w.heap.size≤DL.b∧D3 w' DL.b (DL.pre++dW tv mi cs.length ra rc (fun _=>none) (fun _=>[])++DL.post).toArray DL.t∧JT cs (Ai cs rg) tr w.heap.size w' [DL.b]∧tr.length=cs.length∧∀ks,(∀b,ks.contains b=true→b<w.heap.size∨b=DL.b∨(CF tr).contains b=true)→AP ra 1 cs.length (R0 tr) w' ks
section
variable {n:Nat}{T:List (Nat×SV)}{H H2:Hp}{G0 G0':Gr}{w0:World}{G:Gr}{a a':Act}{w:World}{cs:List AD}{rg:Nat→Rg}{mi:Rg}{z:List Tr}
theorem gJ {l:List SV}{ra:ak}{rc:Nat}(p t:Nat)(A:Sy n T H [] G0 w0 G a w)(hp:lg H p=some (some (.blk (l++[.sla ra cs.length rc,.n9 (mi 0),.n9 (mi 1),.n9 (mi 2),.sla none 0 0,.sla none 0 0,.sla none 0 0,.tt]))))(hl:l.length=32)(ht:look T t=some (.ptr p 0))(jt:JT cs (Ai cs rg) z w0.heap.size w (keys H G))(hz:z.length=cs.length)(DV:AP ra 1 cs.length (R0 z) w (keys H G))(hf:∀q:Addr,cs.length≠0→ra=some q→w0.heap.size≤q.block∧(CF z).contains q.block=false):
  ∃M:Loc,Sy n ((t,EZ M.b M.pre.length)::T) H [] G0 w0 G a w∧rD cs rg mi (EZ M.b M.pre.length) w0 w:=by
 rw [At]at hp
 obtain⟨M,vs,p1,p2,p3⟩:=A.mem.ent p _ hp
 have Qu:G[p]?=some (some M):=by
  cases hq:G[p]? with
  |none=>rw [hq]at p1;cases p1
  |some q=>rw [hq]at p1;simp only [δ2]at p1;rw [p1]
 obtain⟨us,ws,q1,q2,q3⟩:=F4 p2
 have hw:ws=[.slice ra cs.length rc,.int .i64 (mi 0),.int .i64 (mi 1),.int .i64 (mi 2),.slice none 0 0,.slice none 0 0,.slice none 0 0,.bool true]:=by
  have e:AO G [.sla ra cs.length rc,.n9 (mi 0),.n9 (mi 1),.n9 (mi 2),.sla none 0 0,.sla none 0 0,.sla none 0 0,.tt]=some [.slice ra cs.length rc,.int .i64 (mi 0),.int .i64 (mi 1),.int .i64 (mi 2),.slice none 0 0,.slice none 0 0,.slice none 0 0,.bool true]:=rfl
  rw [e]at q2;exact(β6 q2).symm
 obtain⟨tv,htv⟩:=zV (vs:=us) (by rw [BF q1,hl])
 have hv:vs=dW tv mi cs.length ra rc (fun _=>none) (fun _=>[]):=by rw [q3,hw,htv];rfl
 subst hv
 have KK:(keys H G).contains M.b=true:=mem_keys.2 ⟨p,_,M,hp,rfl,Qu,rfl⟩
 have own:w0.heap.size≤M.b:=(A.own _ _ _ hp U Qu).elim (fun h=>by cases h) id
 refine⟨M,A.slotEq t ht (by unfold den;rw [Qu];rfl),tv,ra,rc,z,M,rfl,own,p3,?_,hz,fun ks hk=>eU DV fun q hn hq=>?_⟩
 ·refine JT.ok _ _ _ _ jt (CQ.refl _ _) fun b hb=>.inl ?_
  have:b=M.b:=by simpa using hb
  rw [this];exact KK
 ·obtain⟨g1,g2⟩:=hf q hn hq
  cases hc:ks.contains q.block with
  |false=>rfl
  | true=>
   rcases hk _ hc with r|r|r
   ·omega
   ·have:=(Vo DV hn hq).1
    rw [r,KK]at this;cases this
   ·rw [g2]at r;cases r
end
theorem oJ (ar:Int)(nm:ag)(mi r:Nat→Int)(cs:List AD)(cx:Nat)(qu:Int)(kd:List Cn)(ck:Nat)(FF:∀c∈cs,Fo c.l)(Cx:cs.length≤3):Mf Tryz.prog 12 [.agg (BA ar nm mi r cs cx qu kd ck),.tt] [an cs,av kd] [] (fun w=>AH cs w []) (rD cs (fun k j=>r (8*k+j)) mi):=
 Eg (n:=45) (by kernel_rfl) Tryz.func12 U U U (fun i e h=>by match i,h with|0,h=>cases h;rfl|1,h=>cases h;rfl|i+2,h=>cases h) fun G w a h0 ho hp A=>have hM0:=A.mem;N9 24 A U U fun A=>cO 3 99 1 (R0 ([]:List Tr)) (BA ar nm mi r cs cx qu kd ck) [.n9 (mi 0),.n9 (mi 1),.n9 (mi 2),.sla none 0 0,.sla none 0 0,.sla none 0 0,.tt] A U (fun z=>⟨_,rfl,rfl⟩) U fun A=>GK (fun(z:List Tr)=>[(2,.ptr 2 0),(5,.ptr 3 0),(6,.n9 (z.length:Int))]) (fun(z:List Tr)=>[an cs,av kd,O (BA ar nm mi r cs cx qu kd ck),O [.n9 ar,.str nm,.n9 (mi 0),.n9 (mi 1),.n9 (mi 2),.n9 (r 0),.n9 (r 1),.n9 (r 2),.n9 (r 3),.n9 (r 4),.n9 (r 5),.n9 (r 6),.n9 (r 7),.n9 (r 8),.n9 (r 9),.n9 (r 10),.n9 (r 11),.n9 (r 12),.n9 (r 13),.n9 (r 14),.n9 (r 15),.n9 (r 16),.n9 (r 17),.n9 (r 18),.n9 (r 19),.n9 (r 20),.n9 (r 21),.n9 (r 22),.n9 (r 23),.sl 0 cs.length cx,.n9 qu,.sl 1 kd.length ck,.sl 4 z.length 0,.n9 (mi 0),.n9 (mi 1),.n9 (mi 2),.sla none 0 0,.sla none 0 0,.sla none 0 0,.tt],some (.row 99 1 z.length 0 (R0 z))]) (fun z w' ks=>JT cs (Ai cs (fun k j=>r (8*k+j))) z w.heap.size w' ks∧z.length≤cs.length) (fun z=>cs.length - z.length) [] ((A.cut [2,5,6] U).mv 2 [2,3,4] U U U U h0.symm) ⟨JT.i0,β7 _⟩ fun z G a w hz J7 A B=>have W8:=h0;have h0:=B.mem.len;N9 10 A U U fun A=>AU 18 A U
   (fun h1 A=>by exact(N9 6 A U U fun A=>have rO:z.length<cs.length:=(by omega);GL BW [.ptr 2 29,.sl 0 cs.length cx,.n9 (z.length:Int),.el 0 1 (z.length:Int) 0,.sla ((cs.getD (((z.length:Int)).toNat) AD.z).ao) ((cs.getD (((z.length:Int)).toNat) AD.z).l.length) ((cs.getD (((z.length:Int)).toNat) AD.z).cp),.n9 (z.length:Int),.ptr 2 5,.ix (.ptr 2 5) 8 3 (z.length:Int) 0,.agg [.n9 (r (8*z.length+0)),.n9 (r (8*z.length+1)),.n9 (r (8*z.length+2)),.n9 (r (8*z.length+3)),.n9 (r (8*z.length+4)),.n9 (r (8*z.length+5)),.n9 (r (8*z.length+6)),.n9 (r (8*z.length+7))],.agg [.sla ((cs.getD (((z.length:Int)).toNat) AD.z).ao) ((cs.getD (((z.length:Int)).toNat) AD.z).l.length) ((cs.getD (((z.length:Int)).toNat) AD.z).cp),.n9 (r (8*z.length+0)),.n9 (r (8*z.length+1)),.n9 (r (8*z.length+2)),.n9 (r (8*z.length+3)),.n9 (r (8*z.length+4)),.n9 (r (8*z.length+5)),.n9 (r (8*z.length+6)),.n9 (r (8*z.length+7)),.z9,.sla none 0 0],.ptr 5 0,.ptr 5 0] [10] [5] 1 [([],[5],[an cs,av kd,O (BA ar nm mi r cs cx qu kd ck),O [.n9 ar,.str nm,.n9 (mi 0),.n9 (mi 1),.n9 (mi 2),.n9 (r 0),.n9 (r 1),.n9 (r 2),.n9 (r 3),.n9 (r 4),.n9 (r 5),.n9 (r 6),.n9 (r 7),.n9 (r 8),.n9 (r 9),.n9 (r 10),.n9 (r 11),.n9 (r 12),.n9 (r 13),.n9 (r 14),.n9 (r 15),.n9 (r 16),.n9 (r 17),.n9 (r 18),.n9 (r 19),.n9 (r 20),.n9 (r 21),.n9 (r 22),.n9 (r 23),.sl 0 cs.length cx,.n9 qu,.sl 1 kd.length ck,.sl 4 z.length 0,.n9 (mi 0),.n9 (mi 1),.n9 (mi 2),.sla none 0 0,.sla none 0 0,.sla none 0 0,.tt],some (.row 99 1 z.length 0 (R0 z)),none]),([10],[],[an cs,av kd,O (BA ar nm mi r cs cx qu kd ck),O [.n9 ar,.str nm,.n9 (mi 0),.n9 (mi 1),.n9 (mi 2),.n9 (r 0),.n9 (r 1),.n9 (r 2),.n9 (r 3),.n9 (r 4),.n9 (r 5),.n9 (r 6),.n9 (r 7),.n9 (r 8),.n9 (r 9),.n9 (r 10),.n9 (r 11),.n9 (r 12),.n9 (r 13),.n9 (r 14),.n9 (r 15),.n9 (r 16),.n9 (r 17),.n9 (r 18),.n9 (r 19),.n9 (r 20),.n9 (r 21),.n9 (r 22),.n9 (r 23),.sl 0 cs.length cx,.n9 qu,.sl 1 kd.length ck,.sl 4 z.length 0,.n9 (mi 0),.n9 (mi 1),.n9 (mi 2),.sla none 0 0,.sla none 0 0,.sla none 0 0,.tt],some (.row 99 1 z.length 0 (R0 z)),O [.sla ((cs.getD (((z.length:Int)).toNat) AD.z).ao) ((cs.getD (((z.length:Int)).toNat) AD.z).l.length) ((cs.getD (((z.length:Int)).toNat) AD.z).cp),.n9 (r (8*z.length+0)),.n9 (r (8*z.length+1)),.n9 (r (8*z.length+2)),.n9 (r (8*z.length+3)),.n9 (r (8*z.length+4)),.n9 (r (8*z.length+5)),.n9 (r (8*z.length+6)),.n9 (r (8*z.length+7)),.z9,.sla none 0 0]])] [[true,true,true,true,true,true,true,true,true,true,true,false],[true,true,true,true,true,true,true,true,true,false,false,true]] A U U U U (by kernel_rfl) U (by kernel_rfl) ⟨⟨AJ 0 U U,⟨AJ 0 U U,⟨AJ 0 U U,⟨AJ 0 U (AE (by omega)<|AB),⟨AJ 0 U (AE (by omega)<|AB),⟨AJ 0 U U,⟨AJ 0 U U,⟨AJ 0 U (AE (by omega)<|AB),⟨BB 0 U (Mh (k:=z.length) hX U U U U (Vp (by omega))),⟨AJ 0 U U,⟨⟨_,_,_,_,1,rfl,rfl,rfl,rfl,C7 5 (X:=⟨_,true⟩) hX U U (JZ h0 U) U U U U⟩,trivial⟩⟩⟩⟩⟩⟩⟩⟩⟩⟩⟩,⟨⟨AJ 1 U U,⟨AJ 1 U U,⟨AJ 1 U U,⟨AJ 1 U (AE (by omega)<|AB),⟨AJ 1 U (AE (by omega)<|AB),⟨AJ 1 U U,⟨AJ 1 U U,⟨AJ 1 U (AE (by omega)<|AB),⟨BB 1 U (Mh (k:=z.length) hX U U U U (Vp (by omega))),⟨AJ 1 U U,trivial⟩⟩⟩⟩⟩⟩⟩⟩⟩⟩,trivial⟩⟩ fun A=>N9 4 A U U fun A=>mB (rg:=(fun k j=>r (8*k+j))) 32 B A hz.1 rO hp (Ng FF rO) (XL 2 hM0 (B.trans A).pre U U) U U (fun _=>rfl) fun L pb ps {a w x} hJ Eo B=>have A:=B.base;have h0:=B.mem.len;
 N9 10 A U U fun A=>have A:=A.cellEq 6 (cs':=[EZ L.b L.pre.length]) U (VP (A.at_pre Eo)) U;Hw hX (z.length+1) (R0 (z++[Tr.mk L pb ps])) A U U U U (by omega) U (fun k hk=>by show [_]=[_];rw [zN hk]) (by show [_]=[_];rw [zO]) (fun z=>⟨_,rfl,rfl⟩) fun A=>have A:=(A.rowAs 7 ((z++[Tr.mk L pb ps]).length) (R0 (z++[Tr.mk L pb ps])) U (by rw [α4];rfl) (fun q hq=>rfl) (fun z=>⟨_,rfl,rfl⟩)).say 41 (.sl 7 ((z++[Tr.mk L pb ps]).length) 0) U (by rw [α4]<;>rfl);N9 11 A U (AE (by omega)<|AB) fun A=>⟨(z++[Tr.mk L pb ps]),_,(by rw [α4];show cs.length - (z.length+1)<cs.length - z.length;omega),⟨((JT.ok.now A hJ).mv (m:=[0,1,2,3,7]) A.mem.len U U),(by rw [α4];show z.length+1≤cs.length;omega)⟩,(((AG (B.trans A) 6 (.int .i64 (((z++[Tr.mk L pb ps]).length:Nat):Int)) U (fun _=>congrArg (fun b=>some (Value.int .i64 b)) (by rw [α4];rfl))).cut [2,5,6] U).mv 2 [2,3,7] U U U U W8.symm)⟩))
   (fun h1 A=>by exact(N9 4 A U U fun A=>have y4:z.length=cs.length:=(by have:=hz.2;omega);have A:=A.sayH (H':=[an cs,av kd,O (BA ar nm mi r cs cx qu kd ck),O [.n9 ar,.str nm,.n9 (mi 0),.n9 (mi 1),.n9 (mi 2),.n9 (r 0),.n9 (r 1),.n9 (r 2),.n9 (r 3),.n9 (r 4),.n9 (r 5),.n9 (r 6),.n9 (r 7),.n9 (r 8),.n9 (r 9),.n9 (r 10),.n9 (r 11),.n9 (r 12),.n9 (r 13),.n9 (r 14),.n9 (r 15),.n9 (r 16),.n9 (r 17),.n9 (r 18),.n9 (r 19),.n9 (r 20),.n9 (r 21),.n9 (r 22),.n9 (r 23),.sl 0 cs.length cx,.n9 qu,.sl 1 kd.length ck,.sl 4 cs.length 0,.n9 (mi 0),.n9 (mi 1),.n9 (mi 2),.sla none 0 0,.sla none 0 0,.sla none 0 0,.tt],some (.row 99 1 cs.length 0 (R0 z))]) (by rw [y4]);N9 6 A U U fun A=>have y5:=JT.ok.now A hz.1;have B:=B.trans A;have A:=B.base;have h0:=B.mem.len;cN 4 3 (BA ar nm mi r cs cx qu kd ck) [.n9 (mi 0),.n9 (mi 1),.n9 (mi 2),.sla none 0 0,.sla none 0 0,.sla none 0 0,.tt] (fun ra rc=>[an cs,av kd,O (BA ar nm mi r cs cx qu kd ck),O [.n9 ar,.str nm,.n9 (mi 0),.n9 (mi 1),.n9 (mi 2),.n9 (r 0),.n9 (r 1),.n9 (r 2),.n9 (r 3),.n9 (r 4),.n9 (r 5),.n9 (r 6),.n9 (r 7),.n9 (r 8),.n9 (r 9),.n9 (r 10),.n9 (r 11),.n9 (r 12),.n9 (r 13),.n9 (r 14),.n9 (r 15),.n9 (r 16),.n9 (r 17),.n9 (r 18),.n9 (r 19),.n9 (r 20),.n9 (r 21),.n9 (r 22),.n9 (r 23),.sl 0 cs.length cx,.n9 qu,.sl 1 kd.length ck,.sla ra cs.length rc,.n9 (mi 0),.n9 (mi 1),.n9 (mi 2),.sla none 0 0,.sla none 0 0,.sla none 0 0,.tt],none]) A U U U (fun _ _=>rfl) fun ra rc A hl hf=>have SQ:=eV B y5 hl hf;have hze:=hz.2;ζ2 (gJ (l:=(BA ar nm mi r cs cx qu kd ck)) 3 4 (B.trans A) U U U (JT.ok.now A y5) y4 hl SQ) fun M ⟨A,hJ⟩=>GS (J:=rD cs (fun k j=>r (8*k+j)) mi) hX A U U U U hJ))
end Mc.Ts
namespace Mc.Ts
open Go.RowKit
set_option simprocs false
abbrev Y2 (L:Loc)(m:Nat→Int):List Value:=[.pointer (some ⟨L.b,L.pre.length,none⟩),.int .i64 (m 0),.int .i64 (m 1),.int .i64 (m 2),.slice none 0 0,.slice none 0 0,.slice none 0 0]
def I1 (cs:List AD)(rg:Nat→Rg)(m:Nat→Int):SV→World→World→Prop:=fun x w w'=>∃(M L:Loc) (bt cp:Nat) (cs':List AD),x=EZ M.b M.pre.length∧w.heap.size≤M.b∧M.b≠L.b∧M.b≠bt∧D3 w' M.b (M.pre++(Y2 L m)++M.post).toArray M.t∧Oy 125 10 cs.length (fun zz=>If (cs'.getD zz AD.z) ((Ai cs rg).getD zz Th.z)) L bt cp w.heap.size w'∧Ac cs' (Ai cs rg) cs.length∧(∀k,k<cs.length→(cs'.getD k AD.z).l=(cs.getD k AD.z).l)∧∀ks,(∀b,ks.contains b=true→b<w.heap.size∨b=L.b∨b=bt∨b=M.b)→AH cs' w' ks
section
variable {n:Nat}{T:List (Nat×SV)}{H:Hp}{G0:Gr}{w0:World}{G:Gr}{a:Act}{w:World}
theorem Lb {cs cs':List AD}{rg:Nat→Rg}{m:Nat→Int}(p i q t:Nat)(A:Sy n T H [] G0 w0 G a w)(hn:0<cs.length)(hp:lg H p=some (some (.blk [.ptr i 0,.n9 (m 0),.n9 (m 1),.n9 (m 2),.sla none 0 0,.sla none 0 0,.sla none 0 0])))(hi:lg H i=some (some (.blk [.sl q cs.length 0])))(hq:lg H q=some (some (AL cs' (Ai cs rg) cs.length)))(SW:Nat.beq i q=false)(wW:Nat.beq p i=false)(wX:Nat.beq p q=false)(ht:look T t=some (.ptr p 0))(CJ:Ac cs' (Ai cs rg) cs.length)(he:∀k,k<cs.length→(cs'.getD k AD.z).l=(cs.getD k AD.z).l)(hc:GM cs' w0.heap.size w (keys H G)):
  ∃M:Loc,Sy n ((t,EZ M.b M.pre.length)::T) H [] G0 w0 G a w∧I1 cs rg m (EZ M.b M.pre.length) w0 w:=by
 have A0:Sy n ((t+1,.ptr i 0)::((t,.ptr p 0)::T)) H [] G0 w0 G a w→True:=fun _=>trivial
 rw [At]at hp hi hq
 obtain⟨M,vs,p1,p2,p3⟩:=A.mem.ent p _ hp
 have Qu:G[p]?=some (some M):=by
  cases hz:G[p]? with
  |none=>rw [hz]at p1;cases p1
  |some z=>rw [hz]at p1;simp only [δ2]at p1;rw [p1]
 obtain⟨L,us,q1,q2,q3⟩:=A.mem.ent i _ hi
 have Eo:G[i]?=some (some L):=by
  cases hz:G[i]? with
  |none=>rw [hz]at q1;cases q1
  |some z=>rw [hz]at q1;simp only [δ2]at q1;rw [q1]
 obtain⟨h1,h2,xs,h3,h4⟩:=A.mem.ent q _ hq
 obtain⟨R,_,r1,_⟩:=DQ (A.mem.ent q _ hq) (k:=0) hn
 have J8:G[q]?=some (some R):=by
  cases hz:G[q]? with
  |none=>rw [hz]at r1;cases r1
  |some z=>rw [hz]at r1;simp only [δ2]at r1;rw [r1]
 rw [J8]at h2 h4
 have D0:R.pre=[]:=h2 R U
 have ZL:w.ownsRow 0 125 10 (.slice (some ⟨R.b,0,none⟩) cs.length (0+rm (some R))) cs.length xs:=by
  have:(Option.map (fun L:Loc=>(⟨L.b,L.pre.length,none⟩:Addr)) (some R))=some ⟨R.b,0,none⟩:=by simp [D0]
  rw [←this];exact h4
 have ZA:us=[.slice (some ⟨R.b,0,none⟩) cs.length (0+rm (some R))]:=by
  have:AO G [.sl q cs.length 0]=some [.slice (some ⟨R.b,0,none⟩) cs.length (0+rm (some R))]:=by
   unfold AO den
   rw [J8]
   simp [D0,AO]
  rw [this]at q2;exact(β6 q2).symm
 subst ZA
 have T8:vs=(Y2 L m):=by
  have e1:den G (.ptr i 0)=some (.pointer (some ⟨L.b,L.pre.length,none⟩)):=by unfold den;rw [Eo];rfl
  have e2:AO G [.ptr i 0,.n9 (m 0),.n9 (m 1),.n9 (m 2),.sla none 0 0,.sla none 0 0,.sla none 0 0]=some (Y2 L m):=BK e1 (by simpa using A6 (G:=[]) G [.n9 (m 0),.n9 (m 1),.n9 (m 2),.sla none 0 0,.sla none 0 0,.sla none 0 0] U)
  rw [e2]at p2;exact(β6 p2).symm
 subst T8
 have ne:∀{x y:Nat},Nat.beq x y=false→x≠y:=fun h e=>by subst e;rw [η8]at h;cases h
 have own:∀{k:Nat} {en:BZ} {L:Loc},H[k]?=some (some en)→en.mut=true→G[k]?=some (some L)→w0.heap.size≤L.b:=fun h1 h2 h3=>(A.own _ _ _ h1 h2 h3).elim (fun h=>by cases h) id
 refine⟨M,A.slotEq t ht (by unfold den;rw [Qu];rfl),M,L,R.b,0+rm (some R),cs',rfl,own hp U Qu,A.mem.sep p i _ _ M L (ne wW) hp hi U Qu Eo (fun h=>h),A.mem.sep p q _ _ M R (ne wX) hp hq U Qu J8 (fun h=>h),p3,⟨q3,⟨h1,xs,h3,ZL⟩,A.mem.sep i q _ _ L R (ne SW) hi hq U Eo J8 (fun h=>h),own hi U Eo,own hq U J8⟩,CJ,he,fun ks hk=>hc ks fun b hb=>?_⟩
 rcases hk b hb with z|rfl|rfl|rfl
 ·exact .inl z
 ·exact .inr (mem_keys.2 ⟨i,_,L,hi,rfl,Eo,rfl⟩)
 ·exact .inr (mem_keys.2 ⟨q,_,R,hq,rfl,J8,rfl⟩)
 ·exact .inr (mem_keys.2 ⟨p,_,M,hp,rfl,Qu,rfl⟩)
end
theorem To (cs:List AD)(ao:ak)(cx:Nat)(rg:Nat→Rg)(m:Nat→Int)(x0 x1:Int)(nm:ag)(co:ak)(cn cc:Nat)(En:Me cs=0)(wY:0<cs.length):Mf Tryz.prog 27 [.agg (MB x0 nm (m 0) (m 1) (m 2) rg (.sla ao cs.length cx) x1 (.sla co cn cc))] [] [] (fun w=>AP ao 1 cs.length (fun zz=>I7 (cs.getD zz AD.z)) w []∧AH cs w []) (I1 cs rg m):=
 Eg (n:=9) (by kernel_rfl) Tryz.func27 U U U (fun i e h=>by rw [ι1]at h;cases h) fun G w a h0 ho hp A=>N9 7 A U U fun A=>Jc 7 BW U A fun{w2} A=>HP (fun(tail:∀(cs':List AD) {G1:Gr} {a1:Act} {w1:World},Ac cs' (Ai cs rg) cs.length→(∀k,k<cs.length→(cs'.getD k AD.z).l=(cs.getD k AD.z).l)→GM cs' w.heap.size w1 (keys [O (MB x0 nm (m 0) (m 1) (m 2) rg (.sla ao cs.length cx) x1 (.sla co cn cc)),aq cs' (Ai cs rg) cs.length,O [.sl 1 cs.length 0]] G1)→Sy 9 [(4,.ptr 2 0),(6,.agg [.n9 (m 0),.n9 (m 1),.n9 (m 2)])] [O (MB x0 nm (m 0) (m 1) (m 2) rg (.sla ao cs.length cx) x1 (.sla co cn cc)),aq cs' (Ai cs rg) cs.length,O [.sl 1 cs.length 0]] [] G w G1 a1 w1→wpAny Tryz.prog .any _ _ _ _ a1 w1)=>AS (rs:=[0,2]) (by kernel_rfl) (by decide) (Ba ⟨Cg (.agg (MB x0 nm (m 0) (m 1) (m 2) rg (.sla ao cs.length cx) x1 (.sla co cn cc))) U A U U fun A=>AS (rs:=[1,2]) (by kernel_rfl) (by decide) (Ba ⟨Cu (H':=fun cs'=>[O (MB x0 nm (m 0) (m 1) (m 2) rg (.sla ao cs.length cx) x1 (.sla co cn cc)),aq cs' (Ai cs rg) cs.length,O [.sl 1 cs.length 0]]) U (C2 cs ao cx rg x0 x1 (m 0) (m 1) (m 2) nm co cn cc En) A ⟨AP.ok _ _ _ _ hp.1 A.mix (fun b hb=>.inl hb),AH.ok _ _ _ _ hp.2 A.mix (fun b hb=>.inl hb)⟩ U U U (fun _=>rfl) fun cs' {_ _ _} CJ he Ch A=>have B:=A;have A:=B.base;AS (rs:=[2]) (by kernel_rfl) (by decide) (Ba ⟨Cg (.ptr 0 2) U A U U fun A=>AS (rs:=[3]) (by kernel_rfl) (by decide) (Ba ⟨Cg (.agg [.n9 (m 0),.n9 (m 1),.n9 (m 2)]) U A U U fun A=>tail cs' CJ he (GM.ok.now A Ch) ((B.trans A).cut [4,6] U),
     (CM)⟩),
    (CM)⟩),
   (Ba ⟨Cg (.ptr 0 2) U A U U fun A=>AS (rs:=[1,3]) (by kernel_rfl) (by decide) (Ba ⟨Cu (H':=fun cs'=>[O (MB x0 nm (m 0) (m 1) (m 2) rg (.sla ao cs.length cx) x1 (.sla co cn cc)),aq cs' (Ai cs rg) cs.length,O [.sl 1 cs.length 0]]) U (C2 cs ao cx rg x0 x1 (m 0) (m 1) (m 2) nm co cn cc En) A ⟨AP.ok _ _ _ _ hp.1 A.mix (fun b hb=>.inl hb),AH.ok _ _ _ _ hp.2 A.mix (fun b hb=>.inl hb)⟩ U U U (fun _=>rfl) fun cs' {_ _ _} CJ he Ch A=>have B:=A;have A:=B.base;AS (rs:=[3]) (by kernel_rfl) (by decide) (Ba ⟨Cg (.agg [.n9 (m 0),.n9 (m 1),.n9 (m 2)]) U A U U fun A=>tail cs' CJ he (GM.ok.now A Ch) ((B.trans A).cut [4,6] U),
     (CM)⟩),
    (Ba ⟨Cg (.agg [.n9 (m 0),.n9 (m 1),.n9 (m 2)]) U A U U fun A=>AS (rs:=[1]) (by kernel_rfl) (by decide) (Ba ⟨Cu (H':=fun cs'=>[O (MB x0 nm (m 0) (m 1) (m 2) rg (.sla ao cs.length cx) x1 (.sla co cn cc)),aq cs' (Ai cs rg) cs.length,O [.sl 1 cs.length 0]]) U (C2 cs ao cx rg x0 x1 (m 0) (m 1) (m 2) nm co cn cc En) A ⟨AP.ok _ _ _ _ hp.1 A.mix (fun b hb=>.inl hb),AH.ok _ _ _ _ hp.2 A.mix (fun b hb=>.inl hb)⟩ U U U (fun _=>rfl) fun cs' {_ _ _} CJ he Ch A=>have B:=A;have A:=B.base;tail cs' CJ he (GM.ok.now A Ch) ((B.trans A).cut [4,6] U),
     (CM)⟩),
    (CM)⟩)⟩),
   (CM)⟩)⟩),
  (Ba ⟨Cg (.ptr 0 2) U A U U fun A=>AS (rs:=[0,3]) (by kernel_rfl) (by decide) (Ba ⟨Cg (.agg (MB x0 nm (m 0) (m 1) (m 2) rg (.sla ao cs.length cx) x1 (.sla co cn cc))) U A U U fun A=>AS (rs:=[1,3]) (by kernel_rfl) (by decide) (Ba ⟨Cu (H':=fun cs'=>[O (MB x0 nm (m 0) (m 1) (m 2) rg (.sla ao cs.length cx) x1 (.sla co cn cc)),aq cs' (Ai cs rg) cs.length,O [.sl 1 cs.length 0]]) U (C2 cs ao cx rg x0 x1 (m 0) (m 1) (m 2) nm co cn cc En) A ⟨AP.ok _ _ _ _ hp.1 A.mix (fun b hb=>.inl hb),AH.ok _ _ _ _ hp.2 A.mix (fun b hb=>.inl hb)⟩ U U U (fun _=>rfl) fun cs' {_ _ _} CJ he Ch A=>have B:=A;have A:=B.base;AS (rs:=[3]) (by kernel_rfl) (by decide) (Ba ⟨Cg (.agg [.n9 (m 0),.n9 (m 1),.n9 (m 2)]) U A U U fun A=>tail cs' CJ he (GM.ok.now A Ch) ((B.trans A).cut [4,6] U),
     (CM)⟩),
    (Ba ⟨Cg (.agg [.n9 (m 0),.n9 (m 1),.n9 (m 2)]) U A U U fun A=>AS (rs:=[1]) (by kernel_rfl) (by decide) (Ba ⟨Cu (H':=fun cs'=>[O (MB x0 nm (m 0) (m 1) (m 2) rg (.sla ao cs.length cx) x1 (.sla co cn cc)),aq cs' (Ai cs rg) cs.length,O [.sl 1 cs.length 0]]) U (C2 cs ao cx rg x0 x1 (m 0) (m 1) (m 2) nm co cn cc En) A ⟨AP.ok _ _ _ _ hp.1 A.mix (fun b hb=>.inl hb),AH.ok _ _ _ _ hp.2 A.mix (fun b hb=>.inl hb)⟩ U U U (fun _=>rfl) fun cs' {_ _ _} CJ he Ch A=>have B:=A;have A:=B.base;tail cs' CJ he (GM.ok.now A Ch) ((B.trans A).cut [4,6] U),
     (CM)⟩),
    (CM)⟩)⟩),
   (Ba ⟨Cg (.agg [.n9 (m 0),.n9 (m 1),.n9 (m 2)]) U A U U fun A=>AS (rs:=[0]) (by kernel_rfl) (by decide) (Ba ⟨Cg (.agg (MB x0 nm (m 0) (m 1) (m 2) rg (.sla ao cs.length cx) x1 (.sla co cn cc))) U A U U fun A=>AS (rs:=[1]) (by kernel_rfl) (by decide) (Ba ⟨Cu (H':=fun cs'=>[O (MB x0 nm (m 0) (m 1) (m 2) rg (.sla ao cs.length cx) x1 (.sla co cn cc)),aq cs' (Ai cs rg) cs.length,O [.sl 1 cs.length 0]]) U (C2 cs ao cx rg x0 x1 (m 0) (m 1) (m 2) nm co cn cc En) A ⟨AP.ok _ _ _ _ hp.1 A.mix (fun b hb=>.inl hb),AH.ok _ _ _ _ hp.2 A.mix (fun b hb=>.inl hb)⟩ U U U (fun _=>rfl) fun cs' {_ _ _} CJ he Ch A=>have B:=A;have A:=B.base;tail cs' CJ he (GM.ok.now A Ch) ((B.trans A).cut [4,6] U),
     (CM)⟩),
    (CM)⟩),
   (CM)⟩)⟩),
  (CM)⟩)⟩)) (fun cs' {G1 a1 w1} CJ he Ch A=>have B:=A;have A:=B.base;AS (rs:=[4]) (by kernel_rfl) (by decide) (Ba ⟨Cg (.agg [.ptr 2 0,.n9 (m 0),.n9 (m 1),.n9 (m 2),.sla none 0 0,.sla none 0 0,.sla none 0 0]) U A U U fun A=>AS (rs:=[5]) (by kernel_rfl) (by decide) (Ba ⟨E4 (x:=.ptr 3 0) (H':=[O (MB x0 nm (m 0) (m 1) (m 2) rg (.sla ao cs.length cx) x1 (.sla co cn cc)),aq cs' (Ai cs rg) cs.length,O [.sl 1 cs.length 0],O [.ptr 2 0,.n9 (m 0),.n9 (m 1),.n9 (m 2),.sla none 0 0,.sla none 0 0,.sla none 0 0]]) U A U (AT (X:=⟨_,true⟩) (out:=.new _ _ _) hX U U) fun A=>AS (rs:=[6]) (by kernel_rfl) (by decide) (Ba ⟨Cg (.ptr 3 0) U A U U fun A=>EJ (by kernel_rfl) (N9 2 A U U fun A=>ζ2 (Lb (m:=m) 3 2 1 2 (B.trans A) wY U U U U U U U CJ he (GM.ok.now A Ch)) fun M ⟨A,hJ⟩=>GS (J:=I1 cs rg m) hX A U U U U hJ),
    (CM)⟩),
   (CM)⟩),
  (CM)⟩))
abbrev gK (i:Nat)(m:Nat→Int):List SV:=[.ptr i 0,.int .i64 (m 0),.int .i64 (m 1),.int .i64 (m 2),.sla none 0 0,.sla none 0 0,.sla none 0 0]
theorem uL {P:Program} {n:Nat} {ks:ae} {G0:Gr} {w0:World} {T:List (Nat×SV)} {H:Hp} {G:Gr} {a:Act} {w:World} {Q:ab} {K:List Fr} {ops:ah} {o:Oper} {rest:ai} {f:Nat} {args az:List SV} {pre:World→Prop} {cs:List AD} {rg:Nat→Rg} {m:Nat→Int} {t:Nat} {H':List AD→Hp} (hf:Mf P f args [] [] pre (I1 cs rg m)) (A:Sy n T H ks G0 w0 G a w) (hp:pre w) (h1:Bi n ops T o=some (f,az)) (h2:D8 [] args=some az) (hd:o.dst=some t)
  (hH:∀cs':List AD,H++[aq cs' (Ai cs rg) cs.length]++[O [.sl H.length cs.length 0]]++[O (gK (H.length+1) m)]=H' cs')
  (k:∀cs' {G a w},Ac cs' (Ai cs rg) cs.length→(∀k,k<cs.length→(cs'.getD k AD.z).l=(cs.getD k AD.z).l)→AH cs' w (keys (H' cs') G)→Sy n ((t,.ptr (H.length+2) 0)::(BN T (some t) (.v .nilFunc))) (H' cs') ks G0 w0 G a w→Goal P Q K (.ops ops rest) a w):Goal P Q K (.ops ops (o::rest)) a w:=by
 refine Jp [] hf A hp IC.nil (fun b h=>by cases h) h1 h2 rfl rfl rfl fun{x a' w'} hm hJ A'=>?_
 obtain⟨M,L,bt,cp,cs',rfl,iW,wZ,xA,XH,iP,CJ,heq,Ch⟩:=hJ
 rw [hd]at A'
 have hlen:=A.mem.len
 have hold:∀(i:Nat) (e:BZ) (M:Loc),H[i]?=some (some e)→G[i]?=some (some M)→¬e.empty→M.b<w.heap.size:=fun i e M q1 q2 q3=>by
  have:=A.mem.ent i e q1
  rw [q2]at this
  exact Ag.lt this q3
 obtain⟨R,hR,A2⟩:=A'.takeCoreG iP A.mix.size hold
 have qH:(G++[some R]++[some L])[H.length+1]?=some (some L):=by
  rw [α1 (by simp;omega)];simp [hlen]
 have FE:AO (G++[some R]++[some L]) (gK (H.length+1) m)=some (Y2 L m):=
  BK (by unfold den;rw [qH];rfl) (by simpa using A6 (G:=[]) (G++[some R]++[some L]) [.n9 (m 0),.n9 (m 1),.n9 (m 2),.sla none 0 0,.sla none 0 0,.sla none 0 0] U)
 have Lj:∀(i:Nat) (e:BZ) (Z:Loc),(H++[aq cs' (Ai cs rg) cs.length]++[O [.sl H.length cs.length 0]])[i]?=some (some e)→(G++[some R]++[some L])[i]?=some (some Z)→¬e.empty→Z.b<w.heap.size∨Z.b=L.b∨Z.b=bt:=fun i e Z q1 q2 q3=>by
  by_cases hi:i<H.length
  ·rw [γ2,α2 hi]at q1
   rw [γ2,α2 (by omega)]at q2
   exact .inl (hold i e Z q1 q2 q3)
  ·by_cases PT:i=H.length
   ·subst PT
    rw [γ2,α1 (by omega)]at q2
    simp [hlen]at q2
    subst q2;exact .inr (.inr hR)
   ·have ZM:i=H.length+1:=by
     have:=(α0.1 q1).1
     simp at this;omega
    subst ZM
    rw [qH]at q2;cases q2
    exact .inr (.inl U)
 have A3:=A2.takeEnt (L:=M) (en:=.blk (gK (H.length+1) m)) ⟨M,_,rfl,FE,XH⟩ U (fun i e Z q1 q2 q3=>by
  rcases Lj i e Z q1 q2 q3 with q|q|q
  ·omega
  ·rw [q];exact fun h=>wZ h.symm
  ·rw [q];exact fun h=>xA h.symm) (β3 A.mix.size iW)
 rw [hH cs']at A3
 have KK:∀b,(keys (H' cs') (G++[some R]++[some L]++[some M])).contains b=true→b<w.heap.size∨b=L.b∨b=bt∨b=M.b:=fun b hb=>by
  rw [←hH cs']at hb
  obtain⟨i,en,Z,g1,g2,g3,g4⟩:=mem_keys.1 hb
  by_cases hi:i<H.length+2
  ·rw [α2 (by simp;omega)]at g1
   rw [α2 (by simp;omega)]at g3
   rw [←g4]
   rcases Lj i en Z g1 g3 (BI g2)with q|q|q
   ·exact .inl q
   ·exact .inr (.inl q)
   ·exact .inr (.inr (.inl q))
  ·have ZM:i=H.length+2:=by
    have:=(α0.1 g1).1
    simp at this;omega
   subst ZM
   rw [α1 (by simp;omega)]at g3
   simp [hlen]at g3
   subst g3
   exact .inr (.inr (.inr g4.symm))
 refine k cs' CJ heq (Ch _ KK) ?_
 have A4:=A3.slotEq t (x:=EZ M.b M.pre.length) (y:=.ptr (H.length+2) 0) (by simp [BN,look,η8]) (by
  unfold den
  rw [α1 (by simp;omega)]
  simp [hlen])
 refine⟨A4.size,A4.defers,fun q x hx=>A4.get q x ?_,A4.mem,A4.pre,A4.own,A4.mix⟩
 unfold look at hx⊢
 cases hb:Nat.beq t q with
 |true=>rw [hb]at hx;exact hx
 |false=>
  rw [hb]at hx
  simp only [BN,cond_false]at hx⊢
  unfold look at hx⊢
  rw [hb]at hx⊢
  exact hx
section
variable {P:Program}{n:Nat}{ks:ae}{G0:Gr}{w0:World}{T:List (Nat×SV)}{H:Hp}{G:Gr}{a:Act}{w:World}{ops:ah}{o:Oper}{Q:ab}{pre:World→Prop}{i fuel:Nat}{listed:Array Bool}
theorem I2 {f:Nat} {args az:List SV} {cs:List AD} {rg:Nat→Rg} {m:Nat→Int} {t:Nat} {H':List AD→Hp} (ho:ops[i]?=some o) (hf:Mf P f args [] [] pre (I1 cs rg m)) (A:Sy n T H ks G0 w0 G a w) (hp:pre w) (h1:Bi n ops T o=some (f,az)) (h2:D8 [] args=some az) (hd:o.dst=some t)
  (hH:∀cs':List AD,H++[aq cs' (Ai cs rg) cs.length]++[O [.sl H.length cs.length 0]]++[O (gK (H.length+1) m)]=H' cs')
  (k:∀cs' {G a w'},Ac cs' (Ai cs rg) cs.length→(∀k,k<cs.length→(cs'.getD k AD.z).l=(cs.getD k AD.z).l)→GM cs' w0.heap.size w' (keys (H' cs') G)→Sy n ((t,.ptr (H.length+2) 0)::T) (H' cs') ks G0 w0 G a w'→wpAny P .any ops Q fuel (listed.setIfInBounds i true) a w'):wpOp P ops Q i (wpAny P .any ops Q fuel (listed.setIfInBounds i true)) a w:=by
 refine Ff [] ho hf A hp IC.nil (fun b h=>by cases h) h1 h2 rfl rfl rfl fun{x a' w'} hm hJ A'=>?_
 obtain⟨M,L,bt,cp,cs',rfl,iW,wZ,xA,XH,iP,CJ,heq,Ch⟩:=hJ
 rw [hd]at A'
 have hlen:=A.mem.len
 have hold:∀(i:Nat) (e:BZ) (M:Loc),H[i]?=some (some e)→G[i]?=some (some M)→¬e.empty→M.b<w.heap.size:=fun i e M q1 q2 q3=>by
  have:=A.mem.ent i e q1
  rw [q2]at this
  exact Ag.lt this q3
 obtain⟨R,hR,A2⟩:=A'.takeCoreG iP A.mix.size hold
 have qH:(G++[some R]++[some L])[H.length+1]?=some (some L):=by
  rw [α1 (by simp;omega)];simp [hlen]
 have FE:AO (G++[some R]++[some L]) (gK (H.length+1) m)=some (Y2 L m):=
  BK (by unfold den;rw [qH];rfl) (by simpa using A6 (G:=[]) (G++[some R]++[some L]) [.n9 (m 0),.n9 (m 1),.n9 (m 2),.sla none 0 0,.sla none 0 0,.sla none 0 0] U)
 have Lj:∀(i:Nat) (e:BZ) (Z:Loc),(H++[aq cs' (Ai cs rg) cs.length]++[O [.sl H.length cs.length 0]])[i]?=some (some e)→(G++[some R]++[some L])[i]?=some (some Z)→¬e.empty→Z.b<w.heap.size∨Z.b=L.b∨Z.b=bt:=fun i e Z q1 q2 q3=>by
  by_cases hi:i<H.length
  ·rw [γ2,α2 hi]at q1
   rw [γ2,α2 (by omega)]at q2
   exact .inl (hold i e Z q1 q2 q3)
  ·by_cases PT:i=H.length
   ·subst PT
    rw [γ2,α1 (by omega)]at q2
    simp [hlen]at q2
    subst q2;exact .inr (.inr hR)
   ·have ZM:i=H.length+1:=by
     have:=(α0.1 q1).1
     simp at this;omega
    subst ZM
    rw [qH]at q2;cases q2
    exact .inr (.inl U)
 have A3:=A2.takeEnt (L:=M) (en:=.blk (gK (H.length+1) m)) ⟨M,_,rfl,FE,XH⟩ U (fun i e Z q1 q2 q3=>by
  rcases Lj i e Z q1 q2 q3 with q|q|q
  ·omega
  ·rw [q];exact fun h=>wZ h.symm
  ·rw [q];exact fun h=>xA h.symm) (β3 A.mix.size iW)
 rw [hH cs']at A3
 have KK:∀b,(keys (H' cs') (G++[some R]++[some L]++[some M])).contains b=true→b<w.heap.size∨b=L.b∨b=bt∨b=M.b:=fun b hb=>by
  rw [←hH cs']at hb
  obtain⟨i,en,Z,g1,g2,g3,g4⟩:=mem_keys.1 hb
  by_cases hi:i<H.length+2
  ·rw [α2 (by simp;omega)]at g1
   rw [α2 (by simp;omega)]at g3
   rw [←g4]
   rcases Lj i en Z g1 g3 (BI g2)with q|q|q
   ·exact .inl q
   ·exact .inr (.inl q)
   ·exact .inr (.inr (.inl q))
  ·have ZM:i=H.length+2:=by
    have:=(α0.1 g1).1
    simp at this;omega
   subst ZM
   rw [α1 (by simp;omega)]at g3
   simp [hlen]at g3
   subst g3
   exact .inr (.inr (.inr g4.symm))
 refine k cs' (G:=G++[some R]++[some L]++[some M]) CJ heq (fun ks' Dz=>Ch ks' fun b hb=>?_) ?_
 ·rcases Dz b hb with q|q
  ·exact .inl (ζ7 q A.mix.size)
  ·exact KK b q
 have A4:=A3.slotEq t (x:=EZ M.b M.pre.length) (y:=.ptr (H.length+2) 0) (by simp [BN,look,η8]) (by
  unfold den
  rw [α1 (by simp;omega)]
  simp [hlen])
 refine⟨A4.size,A4.defers,fun q x hx=>A4.get q x ?_,A4.mem,A4.pre,A4.own,A4.mix⟩
 unfold look at hx⊢
 cases hb:Nat.beq t q with
 |true=>rw [hb]at hx;exact hx
 |false=>
  rw [hb]at hx
  show look (BN T (some t) _) q=some x
  simp only [BN]
  unfold look
  rw [hb]
  exact hx
end
end Mc.Ts
namespace Mc
open Go.RowKit
set_option simprocs false
theorem Y3 (m:Nat→Int)(cs:List AD)(ts:List Th)(nn:Nat)(p0 p1 p2:Option Loc)(b0 b1 b2:List Wr)(th:Int)(hC:Ac cs ts nn)(Bo:0≤th∧th<((nn:Nat):Int))(Cx:nn≤3)(XA:∀k,k<(Em b0 b1 b2 th).length→(0≤((Em b0 b1 b2 th).getD k Wr.z).lc∧((Em b0 b1 b2 th).getD k Wr.z).lc<3)∧OS ((Em b0 b1 b2 th).getD k Wr.z).o ((Em b0 b1 b2 th).getD k Wr.z).s)(XB:(Em b0 b1 b2 th).length≤1000000)(GX:(Nk ts th).at_<(cs.getD (th.toNat) AD.z).l.length)(h5:(Ea cs ts th).op≠5)(h6:(Ea cs ts th).op=6→(Em b0 b1 b2 th)=[]):BQ (Wc cs p0 p1 p2 b0 b1 b2) Tryz.prog 74 [.ptr 0 0,.n9 th] [O (bO 1 m (SZ p0 b0) (SZ p1 b1) (SZ p2 b2)),O [.sl 2 nn 0],aq cs ts nn] (Rt (.int .i64 (Hk (Cr m (Em b0 b1 b2 th) (Em b0 b1 b2 th).length) (Nk ts th).r (Ea cs ts th))) [O (bO 1 (D5 m (Nk ts th).r (Ea cs ts th)) (SZ p0 b0) (SZ p1 b1) (SZ p2 b2)),O [.sl 2 nn 0],aq cs ts nn]):=by
 have MO:0≤th∧th<3:=by omega
 have FF:=hC.r th.toNat (by have:=hC.m;omega)
 cases hm:CK (Ea cs ts th)with
 |false=>
  have h:=Yy m cs ts nn p0 p1 p2 b0 b1 b2 th hC Bo Cx MO hm
  unfold Hk D5
  rw [if_neg (α7 hm),if_neg (α7 hm)]
  exact h
 | true=>
  have D7:=FF.szs GX (HX hm)
  have Lj:0≤(Ea cs ts th).loc∧(Ea cs ts th).loc<3:=FF.loc GX (HX hm)
  rcases HX hm with ho|ho|ho
  ·have h:=Yw m cs ts nn p0 p1 p2 b0 b1 b2 th _ _ _ hC Bo Cx MO XA XB (Dx hm) (F8 hm D7) Lj (Df D7) D7 ho
   have hw:MC (Ea cs ts th)=false:=by unfold MC;rw [ho];rfl
   unfold Hk D5
   rw [if_pos hm,if_pos hm,if_neg (α7 hw)]
   exact h
  ·exact absurd ho h5
  ·have hw:MC (Ea cs ts th)=true:=by unfold MC;rw [ho];rfl
   have h:=Yx m cs ts nn p0 p1 p2 b0 b1 b2 th _ _ _ hC Bo Cx MO (Dx hm) (F8 hm D7) Lj (Df D7) D7 hw ho
   have e:=h6 ho
   unfold Hk D5
   rw [if_pos hm,if_pos hm,if_pos hw,e]
   exact h
theorem uB (m:Nat→Int)(cs:List AD)(ts:List Th)(nn:Nat)(p0 p1 p2:Option Loc)(b0 b1 b2:List Wr)(i th:Int)(hC:Ac cs ts nn)(Bo:0≤th∧th<((nn:Nat):Int))(Cx:nn≤3)(XA:∀k,k<(Em b0 b1 b2 th).length→(0≤((Em b0 b1 b2 th).getD k Wr.z).lc∧((Em b0 b1 b2 th).getD k Wr.z).lc<3)∧OS ((Em b0 b1 b2 th).getD k Wr.z).o ((Em b0 b1 b2 th).getD k Wr.z).s)(XB:(Em b0 b1 b2 th).length≤1000000)(GX:(Nk ts th).at_<(cs.getD (th.toNat) AD.z).l.length)(h5:(Ea cs ts th).op≠5)(h6:(Ea cs ts th).op=6→(Em b0 b1 b2 th)=[])(hi:0≤i∧i<(((Ab cs ts (Aj b0 b1 b2) nn).length:Nat):Int))(Lq:((Ab cs ts (Aj b0 b1 b2) nn).getD i.toNat (0,0,0)).1=2)(Le:((Ab cs ts (Aj b0 b1 b2) nn).getD i.toNat (0,0,0)).2.1=th):BQ (Wc cs p0 p1 p2 b0 b1 b2) Tryz.prog 30 [.ptr 0 0,.n9 i] [O (bO 1 m (SZ p0 b0) (SZ p1 b1) (SZ p2 b2)),O [.sl 2 nn 0],aq cs ts nn] (Rt (.tt) [O (bO 1 (D5 m (Nk ts th).r (Ea cs ts th)) (SZ p0 b0) (SZ p1 b1) (SZ p2 b2)),O [.sl 2 nn 0],some (.row 125 10 nn 0 (fun zz=>If (cs.getD zz AD.z) ((Ak cs ts th (Hk (Cr m (Em b0 b1 b2 th) (Em b0 b1 b2 th).length) (Nk ts th).r (Ea cs ts th))).getD zz Th.z)))]):=
 Aa (n:=40) (by kernel_rfl) Tryz.func30 U U U fun G w a h0 hI A=>N9 8 A U U fun A=>I9 [0,1,2] AH.ok hI.1 (MI m cs ts nn p0 p1 p2 b0 b1 b2 hC Cx) A U fun A=>N9 16 A U U fun A=>fork 16 A U
  (fun h1 A=>absurd h1 (by simp;omega))
  (fun h1 A=>N9 10 A U (AE (by omega)<|AE (by omega)<|AE (by omega)<|AB) fun A=>have A:=AG A 21 (.int .i64 th) U (fun _=>congrArg (fun z=>some (Value.int .i64 z)) Le);N9 11 A U (AE (by omega)<|AE (by omega)<|AE (by omega)<|AB) fun A=>have A:=AG A 26 (.int .i64 2) U (fun _=>congrArg (fun z=>some (Value.int .i64 z)) Lq);N9 3 A U U fun A=>AV 27 A U
   (fun h2 A=>absurd h2 (by decide))
   (fun h2 A=>N9 4 A U U fun A=>A9 hX BW [] [(7,.n9 (Hk (Cr m (Em b0 b1 b2 th) (Em b0 b1 b2 th).length) (Nk ts th).r (Ea cs ts th)),[O (bO 1 (D5 m (Nk ts th).r (Ea cs ts th)) (SZ p0 b0) (SZ p1 b1) (SZ p2 b2)),O [.sl 2 nn 0],aq cs ts nn,some (.row 44 4 ((Ab cs ts (Aj b0 b1 b2) nn).length) 0 (B4 (Ab cs ts (Aj b0 b1 b2) nn)))]),(8,.tt,[O (bO 1 (D5 m (Nk ts th).r (Ea cs ts th)) (SZ p0 b0) (SZ p1 b1) (SZ p2 b2)),O [.sl 2 nn 0],some (.row 125 10 nn 0 (fun zz=>If (cs.getD zz AD.z) ((Ak cs ts th (Hk (Cr m (Em b0 b1 b2 th) (Em b0 b1 b2 th).length) (Nk ts th).r (Ea cs ts th))).getD zz Th.z))),some (.row 44 4 ((Ab cs ts (Aj b0 b1 b2) nn).length) 0 (B4 (Ab cs ts (Aj b0 b1 b2) nn)))])] A U U U U (by kernel_rfl) ⟨CU [0,1,2] Wc.ok hI (Y3 m cs ts nn p0 p1 p2 b0 b1 b2 th hC Bo Cx XA XB GX h5 h6) U U U U U U U,⟨CU [1,2] AH.ok hI.1 (Nm cs ts nn th (Hk (Cr m (Em b0 b1 b2 th) (Em b0 b1 b2 th).length) (Nk ts th).r (Ea cs ts th)) hC Bo GX) U U U U U U U,trivial⟩⟩ trivial fun A=>N9 2 A U U fun A=>R9 A U h0 U U U))
theorem oK (m:Nat→Int)(cs:List AD)(ts:List Th)(nn:Nat)(p0 p1 p2:Option Loc)(b0 b1 b2:List Wr)(i:Int)(hC:Ac cs ts nn)(Cx:nn≤3)(hi:¬(0≤i∧i<(((Ab cs ts (Aj b0 b1 b2) nn).length:Nat):Int))):BQ (TI cs) Tryz.prog 30 [.ptr 0 0,.n9 i] [O (bO 1 m (SZ p0 b0) (SZ p1 b1) (SZ p2 b2)),O [.sl 2 nn 0],aq cs ts nn] (Rt (.ff) [O (bO 1 m (SZ p0 b0) (SZ p1 b1) (SZ p2 b2)),O [.sl 2 nn 0],aq cs ts nn]):=
 Aa (n:=40) (by kernel_rfl) Tryz.func30 U U U fun G w a h0 hI A=>N9 8 A U U fun A=>I9 [0,1,2] AH.ok hI.1 (MI m cs ts nn p0 p1 p2 b0 b1 b2 hC Cx) A U fun A=>N9 16 A U U fun A=>fork 16 A U
  (fun h1 A=>N9 7 A U U fun A=>R9 A U h0 U U U)
  (fun h1 A=>absurd h1 (by simp;omega))
abbrev _root_.Go.Proofs.YtbbdanhpphlbpaaGreatDoor.KE (i:Nat)(m:Nat→Int):List SV:=[.ptr i 0,.int .i64 (m 0),.int .i64 (m 1),.int .i64 (m 2)]
theorem oL (m:Nat→Int)(cs:List AD)(ts:List Th)(nn:Nat)(p1 p2:Option Loc)(b0 b1 b2:List Wr)(i lc o s v:Int)(hC:Ac cs ts nn)(Bo:0≤(0:Int)∧(0:Int)<((nn:Nat):Int))(Cx:nn≤3)(GX:(Nk ts (0:Int)).at_<(cs.getD ((0:Int).toNat) AD.z).l.length)(Er:b0.length≤1000000)(IG:Jq (Ea cs ts (0:Int))=lc)(KH:Jr (Nk ts (0:Int)).r (Ea cs ts (0:Int))=AY o s)(Qt:BR (Nk ts (0:Int)).r (Ea cs ts (0:Int))=v)(BM:(Ea cs ts (0:Int)).op=5)(hi:0≤i∧i<(((Ab cs ts (Aj b0 b1 b2) nn).length:Nat):Int))(Lq:((Ab cs ts (Aj b0 b1 b2) nn).getD i.toNat (0,0,0)).1=2)(Le:((Ab cs ts (Aj b0 b1 b2) nn).getD i.toNat (0,0,0)).2.1=0):BQ (TI cs) Tryz.prog 30 [.ptr 0 0,.n9 i] [O (bO 1 m (.sl 3 b0.length 0) (SZ p1 b1) (SZ p2 b2)),O [.sl 2 nn 0],aq cs ts nn,some (.buf 123 3 b0.length (Bh b0))] (Rt (.tt) [O (bO 1 m (.sl 4 ((b0++[(⟨lc,o,s,v⟩:Wr)]).length) 0) (SZ p1 b1) (SZ p2 b2)),O [.sl 2 nn 0],aq cs (Ak cs ts 0 0) nn,none,some (.buf 123 3 ((b0++[(⟨lc,o,s,v⟩:Wr)]).length) (Bh (b0++[(⟨lc,o,s,v⟩:Wr)])))]):=
 Aa (n:=40) (by kernel_rfl) Tryz.func30 U U U fun G w a h0 hI A=>N9 6 A U U fun A=>ζ2 (PO h0 3 U) fun q hq=>have A:=A.cellOne 0 (KE 1 m) [.sla (AK p1) b1.length (rm p1),.sla (AK p2) b2.length (rm p2)] (H':=[O (bO 1 m (SZ q b0) (SZ p1 b1) (SZ p2 b2)),O [.sl 2 nn 0],aq cs ts nn,some (.buf 123 3 b0.length (Bh b0))]) (Bj (A.atp hq)) U U;N9 2 A U U fun A=>I9 [0,1,2] AH.ok hI.1 (MI m cs ts nn q p1 p2 b0 b1 b2 hC Cx) A U fun A=>N9 16 A U U fun A=>fork 16 A U
  (fun h1 A=>absurd h1 (by simp;omega))
  (fun h1 A=>N9 10 A U (AE (by omega)<|AE (by omega)<|AE (by omega)<|AB) fun A=>have A:=AG A 21 (.int .i64 0) U (fun _=>congrArg (fun z=>some (Value.int .i64 z)) Le);N9 11 A U (AE (by omega)<|AE (by omega)<|AE (by omega)<|AB) fun A=>have A:=AG A 26 (.int .i64 2) U (fun _=>congrArg (fun z=>some (Value.int .i64 z)) Lq);N9 3 A U U fun A=>AV 27 A U
   (fun h2 A=>absurd h2 (by decide))
   (fun h2 A=>N9 4 A U U fun A=>have A:=A.cellOne 0 (KE 1 m) [.sla (AK p1) b1.length (rm p1),.sla (AK p2) b2.length (rm p2)] (H':=[O (bO 1 m (.sl 3 b0.length 0) (SZ p1 b1) (SZ p2 b2)),O [.sl 2 nn 0],aq cs ts nn,some (.buf 123 3 b0.length (Bh b0)),some (.row 44 4 ((Ab cs ts (Aj b0 b1 b2) nn).length) 0 (B4 (Ab cs ts (Aj b0 b1 b2) nn)))]) (Bj (A.atp hq)).symm rfl rfl;A9 hX BW [] [(7,.n9 0,[O (bO 1 m (.sl 5 ((b0++[(⟨lc,o,s,v⟩:Wr)]).length) 0) (SZ p1 b1) (SZ p2 b2)),O [.sl 2 nn 0],aq cs ts nn,none,some (.row 44 4 ((Ab cs ts (Aj b0 b1 b2) nn).length) 0 (B4 (Ab cs ts (Aj b0 b1 b2) nn))),some (.buf 123 3 ((b0++[(⟨lc,o,s,v⟩:Wr)]).length) (Bh (b0++[(⟨lc,o,s,v⟩:Wr)])))]),(8,.tt,[O (bO 1 m (.sl 5 ((b0++[(⟨lc,o,s,v⟩:Wr)]).length) 0) (SZ p1 b1) (SZ p2 b2)),O [.sl 2 nn 0],aq cs (Ak cs ts 0 0) nn,none,some (.row 44 4 ((Ab cs ts (Aj b0 b1 b2) nn).length) 0 (B4 (Ab cs ts (Aj b0 b1 b2) nn))),some (.buf 123 3 ((b0++[(⟨lc,o,s,v⟩:Wr)]).length) (Bh (b0++[(⟨lc,o,s,v⟩:Wr)])))])] A U U U U (by kernel_rfl) ⟨CU [0,1,2,3] TI.ok hI (Wf m cs ts nn p1 p2 b0 b1 b2 lc o s v hC Bo Er IG KH Qt BM) U U U U U U U,⟨CU [1,2] AH.ok hI.1 (Nm cs ts nn 0 0 hC Bo GX) U U U U U U U,trivial⟩⟩ trivial fun A=>N9 2 A U U fun A=>KC hX [5] A ⟨rfl,rfl⟩ U U U U U U U U h0))
theorem oM (m:Nat→Int)(cs:List AD)(ts:List Th)(nn:Nat)(p1 p2:Option Loc)(b0 b1 b2:List Wr)(i:Int)(hC:Ac cs ts nn)(Cx:nn≤3)(hW:∀k,k<b0.length→(0≤(b0.getD k Wr.z).lc∧(b0.getD k Wr.z).lc<3)∧OS (b0.getD k Wr.z).o (b0.getD k Wr.z).s)(Er:b0.length≤1000000)(Bw:0<b0.length)(hi:0≤i∧i<(((Ab cs ts (Aj b0 b1 b2) nn).length:Nat):Int))(Lq:((Ab cs ts (Aj b0 b1 b2) nn).getD i.toNat (0,0,0)).1=3)(Le:((Ab cs ts (Aj b0 b1 b2) nn).getD i.toNat (0,0,0)).2.1=0):BQ (TI cs) Tryz.prog 30 [.ptr 0 0,.n9 i] [O (bO 1 m (.sl 3 b0.length 0) (SZ p1 b1) (SZ p2 b2)),O [.sl 2 nn 0],aq cs ts nn,some (.buf 123 3 b0.length (Bh b0))] (Rt (.tt) [O (bO 1 (AX m ((b0.getD 0 Wr.z).lc).toNat (AM (m ((b0.getD 0 Wr.z).lc).toNat) (b0.getD 0 Wr.z).o (b0.getD 0 Wr.z).s (b0.getD 0 Wr.z).v)) (.st 3 3 1 (b0.length - 1) 0) (SZ p1 b1) (SZ p2 b2)),O [.sl 2 nn 0],aq cs ts nn,some (.buf 123 3 b0.length (Bh b0))]):=
 Aa (n:=40) (by kernel_rfl) Tryz.func30 U U U fun G w a h0 hI A=>N9 6 A U U fun A=>ζ2 (PO h0 3 U) fun q hq=>have A:=A.cellOne 0 (KE 1 m) [.sla (AK p1) b1.length (rm p1),.sla (AK p2) b2.length (rm p2)] (H':=[O (bO 1 m (SZ q b0) (SZ p1 b1) (SZ p2 b2)),O [.sl 2 nn 0],aq cs ts nn,some (.buf 123 3 b0.length (Bh b0))]) (Bj (A.atp hq)) U U;N9 2 A U U fun A=>I9 [0,1,2] AH.ok hI.1 (MI m cs ts nn q p1 p2 b0 b1 b2 hC Cx) A U fun A=>N9 16 A U U fun A=>fork 16 A U
  (fun h1 A=>absurd h1 (by simp;omega))
  (fun h1 A=>N9 10 A U (AE (by omega)<|AE (by omega)<|AE (by omega)<|AB) fun A=>have A:=AG A 21 (.int .i64 0) U (fun _=>congrArg (fun z=>some (Value.int .i64 z)) Le);N9 11 A U (AE (by omega)<|AE (by omega)<|AE (by omega)<|AB) fun A=>have A:=AG A 26 (.int .i64 3) U (fun _=>congrArg (fun z=>some (Value.int .i64 z)) Lq);N9 3 A U U fun A=>AV 27 A U
   (fun h2 A=>N9 2 A U U fun A=>have A:=A.cellOne 0 (KE 1 m) [.sla (AK p1) b1.length (rm p1),.sla (AK p2) b2.length (rm p2)] (H':=[O (bO 1 m (.sl 3 b0.length 0) (SZ p1 b1) (SZ p2 b2)),O [.sl 2 nn 0],aq cs ts nn,some (.buf 123 3 b0.length (Bh b0)),some (.row 44 4 ((Ab cs ts (Aj b0 b1 b2) nn).length) 0 (B4 (Ab cs ts (Aj b0 b1 b2) nn)))]) (Bj (A.atp hq)).symm rfl rfl;N9 3 A U U fun A=>I9 [0,1,2,3] AP.ok hI.2 (WZ m cs ts nn p1 p2 b0 b1 b2 hW Er Bw) A U fun A=>N9 8 A U U fun A=>R9 A U h0 U U U)
   (fun h2 A=>absurd U h2))
theorem oN (m:Nat→Int)(cs:List AD)(ts:List Th)(nn:Nat)(p0 p2:Option Loc)(b0 b1 b2:List Wr)(i lc o s v:Int)(hC:Ac cs ts nn)(Bo:0≤(1:Int)∧(1:Int)<((nn:Nat):Int))(Cx:nn≤3)(GX:(Nk ts (1:Int)).at_<(cs.getD ((1:Int).toNat) AD.z).l.length)(Er:b1.length≤1000000)(IG:Jq (Ea cs ts (1:Int))=lc)(KH:Jr (Nk ts (1:Int)).r (Ea cs ts (1:Int))=AY o s)(Qt:BR (Nk ts (1:Int)).r (Ea cs ts (1:Int))=v)(BM:(Ea cs ts (1:Int)).op=5)(hi:0≤i∧i<(((Ab cs ts (Aj b0 b1 b2) nn).length:Nat):Int))(Lq:((Ab cs ts (Aj b0 b1 b2) nn).getD i.toNat (0,0,0)).1=2)(Le:((Ab cs ts (Aj b0 b1 b2) nn).getD i.toNat (0,0,0)).2.1=1):BQ (TI cs) Tryz.prog 30 [.ptr 0 0,.n9 i] [O (bO 1 m (SZ p0 b0) (.sl 3 b1.length 0) (SZ p2 b2)),O [.sl 2 nn 0],aq cs ts nn,some (.buf 123 3 b1.length (Bh b1))] (Rt (.tt) [O (bO 1 m (SZ p0 b0) (.sl 4 ((b1++[(⟨lc,o,s,v⟩:Wr)]).length) 0) (SZ p2 b2)),O [.sl 2 nn 0],aq cs (Ak cs ts 1 0) nn,none,some (.buf 123 3 ((b1++[(⟨lc,o,s,v⟩:Wr)]).length) (Bh (b1++[(⟨lc,o,s,v⟩:Wr)])))]):=
 Aa (n:=40) (by kernel_rfl) Tryz.func30 U U U fun G w a h0 hI A=>N9 6 A U U fun A=>ζ2 (PO h0 3 U) fun q hq=>have A:=A.cellOne 0 [.ptr 1 0,.n9 (m 0),.n9 (m 1),.n9 (m 2),.sla (AK p0) b0.length (rm p0)] [.sla (AK p2) b2.length (rm p2)] (H':=[O (bO 1 m (SZ p0 b0) (SZ q b1) (SZ p2 b2)),O [.sl 2 nn 0],aq cs ts nn,some (.buf 123 3 b1.length (Bh b1))]) (Bj (A.atp hq)) U U;N9 2 A U U fun A=>I9 [0,1,2] AH.ok hI.1 (MI m cs ts nn p0 q p2 b0 b1 b2 hC Cx) A U fun A=>N9 16 A U U fun A=>fork 16 A U
  (fun h1 A=>absurd h1 (by simp;omega))
  (fun h1 A=>N9 10 A U (AE (by omega)<|AE (by omega)<|AE (by omega)<|AB) fun A=>have A:=AG A 21 (.int .i64 1) U (fun _=>congrArg (fun z=>some (Value.int .i64 z)) Le);N9 11 A U (AE (by omega)<|AE (by omega)<|AE (by omega)<|AB) fun A=>have A:=AG A 26 (.int .i64 2) U (fun _=>congrArg (fun z=>some (Value.int .i64 z)) Lq);N9 3 A U U fun A=>AV 27 A U
   (fun h2 A=>absurd h2 (by decide))
   (fun h2 A=>N9 4 A U U fun A=>have A:=A.cellOne 0 [.ptr 1 0,.n9 (m 0),.n9 (m 1),.n9 (m 2),.sla (AK p0) b0.length (rm p0)] [.sla (AK p2) b2.length (rm p2)] (H':=[O (bO 1 m (SZ p0 b0) (.sl 3 b1.length 0) (SZ p2 b2)),O [.sl 2 nn 0],aq cs ts nn,some (.buf 123 3 b1.length (Bh b1)),some (.row 44 4 ((Ab cs ts (Aj b0 b1 b2) nn).length) 0 (B4 (Ab cs ts (Aj b0 b1 b2) nn)))]) (Bj (A.atp hq)).symm rfl rfl;A9 hX BW [] [(7,.n9 0,[O (bO 1 m (SZ p0 b0) (.sl 5 ((b1++[(⟨lc,o,s,v⟩:Wr)]).length) 0) (SZ p2 b2)),O [.sl 2 nn 0],aq cs ts nn,none,some (.row 44 4 ((Ab cs ts (Aj b0 b1 b2) nn).length) 0 (B4 (Ab cs ts (Aj b0 b1 b2) nn))),some (.buf 123 3 ((b1++[(⟨lc,o,s,v⟩:Wr)]).length) (Bh (b1++[(⟨lc,o,s,v⟩:Wr)])))]),(8,.tt,[O (bO 1 m (SZ p0 b0) (.sl 5 ((b1++[(⟨lc,o,s,v⟩:Wr)]).length) 0) (SZ p2 b2)),O [.sl 2 nn 0],aq cs (Ak cs ts 1 0) nn,none,some (.row 44 4 ((Ab cs ts (Aj b0 b1 b2) nn).length) 0 (B4 (Ab cs ts (Aj b0 b1 b2) nn))),some (.buf 123 3 ((b1++[(⟨lc,o,s,v⟩:Wr)]).length) (Bh (b1++[(⟨lc,o,s,v⟩:Wr)])))])] A U U U U (by kernel_rfl) ⟨CU [0,1,2,3] TI.ok hI (Wg m cs ts nn p0 p2 b0 b1 b2 lc o s v hC Bo Er IG KH Qt BM) U U U U U U U,⟨CU [1,2] AH.ok hI.1 (Nm cs ts nn 1 0 hC Bo GX) U U U U U U U,trivial⟩⟩ trivial fun A=>N9 2 A U U fun A=>KC hX [5] A ⟨rfl,rfl⟩ U U U U U U U U h0))
theorem oO (m:Nat→Int)(cs:List AD)(ts:List Th)(nn:Nat)(p0 p2:Option Loc)(b0 b1 b2:List Wr)(i:Int)(hC:Ac cs ts nn)(Cx:nn≤3)(hW:∀k,k<b1.length→(0≤(b1.getD k Wr.z).lc∧(b1.getD k Wr.z).lc<3)∧OS (b1.getD k Wr.z).o (b1.getD k Wr.z).s)(Er:b1.length≤1000000)(Bw:0<b1.length)(hi:0≤i∧i<(((Ab cs ts (Aj b0 b1 b2) nn).length:Nat):Int))(Lq:((Ab cs ts (Aj b0 b1 b2) nn).getD i.toNat (0,0,0)).1=3)(Le:((Ab cs ts (Aj b0 b1 b2) nn).getD i.toNat (0,0,0)).2.1=1):BQ (TI cs) Tryz.prog 30 [.ptr 0 0,.n9 i] [O (bO 1 m (SZ p0 b0) (.sl 3 b1.length 0) (SZ p2 b2)),O [.sl 2 nn 0],aq cs ts nn,some (.buf 123 3 b1.length (Bh b1))] (Rt (.tt) [O (bO 1 (AX m ((b1.getD 0 Wr.z).lc).toNat (AM (m ((b1.getD 0 Wr.z).lc).toNat) (b1.getD 0 Wr.z).o (b1.getD 0 Wr.z).s (b1.getD 0 Wr.z).v)) (SZ p0 b0) (.st 3 3 1 (b1.length - 1) 0) (SZ p2 b2)),O [.sl 2 nn 0],aq cs ts nn,some (.buf 123 3 b1.length (Bh b1))]):=
 Aa (n:=40) (by kernel_rfl) Tryz.func30 U U U fun G w a h0 hI A=>N9 6 A U U fun A=>ζ2 (PO h0 3 U) fun q hq=>have A:=A.cellOne 0 [.ptr 1 0,.n9 (m 0),.n9 (m 1),.n9 (m 2),.sla (AK p0) b0.length (rm p0)] [.sla (AK p2) b2.length (rm p2)] (H':=[O (bO 1 m (SZ p0 b0) (SZ q b1) (SZ p2 b2)),O [.sl 2 nn 0],aq cs ts nn,some (.buf 123 3 b1.length (Bh b1))]) (Bj (A.atp hq)) U U;N9 2 A U U fun A=>I9 [0,1,2] AH.ok hI.1 (MI m cs ts nn p0 q p2 b0 b1 b2 hC Cx) A U fun A=>N9 16 A U U fun A=>fork 16 A U
  (fun h1 A=>absurd h1 (by simp;omega))
  (fun h1 A=>N9 10 A U (AE (by omega)<|AE (by omega)<|AE (by omega)<|AB) fun A=>have A:=AG A 21 (.int .i64 1) U (fun _=>congrArg (fun z=>some (Value.int .i64 z)) Le);N9 11 A U (AE (by omega)<|AE (by omega)<|AE (by omega)<|AB) fun A=>have A:=AG A 26 (.int .i64 3) U (fun _=>congrArg (fun z=>some (Value.int .i64 z)) Lq);N9 3 A U U fun A=>AV 27 A U
   (fun h2 A=>N9 2 A U U fun A=>have A:=A.cellOne 0 [.ptr 1 0,.n9 (m 0),.n9 (m 1),.n9 (m 2),.sla (AK p0) b0.length (rm p0)] [.sla (AK p2) b2.length (rm p2)] (H':=[O (bO 1 m (SZ p0 b0) (.sl 3 b1.length 0) (SZ p2 b2)),O [.sl 2 nn 0],aq cs ts nn,some (.buf 123 3 b1.length (Bh b1)),some (.row 44 4 ((Ab cs ts (Aj b0 b1 b2) nn).length) 0 (B4 (Ab cs ts (Aj b0 b1 b2) nn)))]) (Bj (A.atp hq)).symm rfl rfl;N9 3 A U U fun A=>I9 [0,1,2,3] AP.ok hI.2 (Wa m cs ts nn p0 p2 b0 b1 b2 hW Er Bw) A U fun A=>N9 8 A U U fun A=>R9 A U h0 U U U)
   (fun h2 A=>absurd U h2))
theorem oP (m:Nat→Int)(cs:List AD)(ts:List Th)(nn:Nat)(p0 p1:Option Loc)(b0 b1 b2:List Wr)(i lc o s v:Int)(hC:Ac cs ts nn)(Bo:0≤(2:Int)∧(2:Int)<((nn:Nat):Int))(Cx:nn≤3)(GX:(Nk ts (2:Int)).at_<(cs.getD ((2:Int).toNat) AD.z).l.length)(Er:b2.length≤1000000)(IG:Jq (Ea cs ts (2:Int))=lc)(KH:Jr (Nk ts (2:Int)).r (Ea cs ts (2:Int))=AY o s)(Qt:BR (Nk ts (2:Int)).r (Ea cs ts (2:Int))=v)(BM:(Ea cs ts (2:Int)).op=5)(hi:0≤i∧i<(((Ab cs ts (Aj b0 b1 b2) nn).length:Nat):Int))(Lq:((Ab cs ts (Aj b0 b1 b2) nn).getD i.toNat (0,0,0)).1=2)(Le:((Ab cs ts (Aj b0 b1 b2) nn).getD i.toNat (0,0,0)).2.1=2):BQ (TI cs) Tryz.prog 30 [.ptr 0 0,.n9 i] [O (bO 1 m (SZ p0 b0) (SZ p1 b1) (.sl 3 b2.length 0)),O [.sl 2 nn 0],aq cs ts nn,some (.buf 123 3 b2.length (Bh b2))] (Rt (.tt) [O (bO 1 m (SZ p0 b0) (SZ p1 b1) (.sl 4 ((b2++[(⟨lc,o,s,v⟩:Wr)]).length) 0)),O [.sl 2 nn 0],aq cs (Ak cs ts 2 0) nn,none,some (.buf 123 3 ((b2++[(⟨lc,o,s,v⟩:Wr)]).length) (Bh (b2++[(⟨lc,o,s,v⟩:Wr)])))]):=
 Aa (n:=40) (by kernel_rfl) Tryz.func30 U U U fun G w a h0 hI A=>N9 6 A U U fun A=>ζ2 (PO h0 3 U) fun q hq=>have A:=A.cellOne 0 [.ptr 1 0,.n9 (m 0),.n9 (m 1),.n9 (m 2),.sla (AK p0) b0.length (rm p0),.sla (AK p1) b1.length (rm p1)] [] (H':=[O (bO 1 m (SZ p0 b0) (SZ p1 b1) (SZ q b2)),O [.sl 2 nn 0],aq cs ts nn,some (.buf 123 3 b2.length (Bh b2))]) (Bj (A.atp hq)) U U;N9 2 A U U fun A=>I9 [0,1,2] AH.ok hI.1 (MI m cs ts nn p0 p1 q b0 b1 b2 hC Cx) A U fun A=>N9 16 A U U fun A=>fork 16 A U
  (fun h1 A=>absurd h1 (by simp;omega))
  (fun h1 A=>N9 10 A U (AE (by omega)<|AE (by omega)<|AE (by omega)<|AB) fun A=>have A:=AG A 21 (.int .i64 2) U (fun _=>congrArg (fun z=>some (Value.int .i64 z)) Le);N9 11 A U (AE (by omega)<|AE (by omega)<|AE (by omega)<|AB) fun A=>have A:=AG A 26 (.int .i64 2) U (fun _=>congrArg (fun z=>some (Value.int .i64 z)) Lq);N9 3 A U U fun A=>AV 27 A U
   (fun h2 A=>absurd h2 (by decide))
   (fun h2 A=>N9 4 A U U fun A=>have A:=A.cellOne 0 [.ptr 1 0,.n9 (m 0),.n9 (m 1),.n9 (m 2),.sla (AK p0) b0.length (rm p0),.sla (AK p1) b1.length (rm p1)] [] (H':=[O (bO 1 m (SZ p0 b0) (SZ p1 b1) (.sl 3 b2.length 0)),O [.sl 2 nn 0],aq cs ts nn,some (.buf 123 3 b2.length (Bh b2)),some (.row 44 4 ((Ab cs ts (Aj b0 b1 b2) nn).length) 0 (B4 (Ab cs ts (Aj b0 b1 b2) nn)))]) (Bj (A.atp hq)).symm rfl rfl;A9 hX BW [] [(7,.n9 0,[O (bO 1 m (SZ p0 b0) (SZ p1 b1) (.sl 5 ((b2++[(⟨lc,o,s,v⟩:Wr)]).length) 0)),O [.sl 2 nn 0],aq cs ts nn,none,some (.row 44 4 ((Ab cs ts (Aj b0 b1 b2) nn).length) 0 (B4 (Ab cs ts (Aj b0 b1 b2) nn))),some (.buf 123 3 ((b2++[(⟨lc,o,s,v⟩:Wr)]).length) (Bh (b2++[(⟨lc,o,s,v⟩:Wr)])))]),(8,.tt,[O (bO 1 m (SZ p0 b0) (SZ p1 b1) (.sl 5 ((b2++[(⟨lc,o,s,v⟩:Wr)]).length) 0)),O [.sl 2 nn 0],aq cs (Ak cs ts 2 0) nn,none,some (.row 44 4 ((Ab cs ts (Aj b0 b1 b2) nn).length) 0 (B4 (Ab cs ts (Aj b0 b1 b2) nn))),some (.buf 123 3 ((b2++[(⟨lc,o,s,v⟩:Wr)]).length) (Bh (b2++[(⟨lc,o,s,v⟩:Wr)])))])] A U U U U (by kernel_rfl) ⟨CU [0,1,2,3] TI.ok hI (Wh m cs ts nn p0 p1 b0 b1 b2 lc o s v hC Bo Er IG KH Qt BM) U U U U U U U,⟨CU [1,2] AH.ok hI.1 (Nm cs ts nn 2 0 hC Bo GX) U U U U U U U,trivial⟩⟩ trivial fun A=>N9 2 A U U fun A=>KC hX [5] A ⟨rfl,rfl⟩ U U U U U U U U h0))
theorem oQ (m:Nat→Int)(cs:List AD)(ts:List Th)(nn:Nat)(p0 p1:Option Loc)(b0 b1 b2:List Wr)(i:Int)(hC:Ac cs ts nn)(Cx:nn≤3)(hW:∀k,k<b2.length→(0≤(b2.getD k Wr.z).lc∧(b2.getD k Wr.z).lc<3)∧OS (b2.getD k Wr.z).o (b2.getD k Wr.z).s)(Er:b2.length≤1000000)(Bw:0<b2.length)(hi:0≤i∧i<(((Ab cs ts (Aj b0 b1 b2) nn).length:Nat):Int))(Lq:((Ab cs ts (Aj b0 b1 b2) nn).getD i.toNat (0,0,0)).1=3)(Le:((Ab cs ts (Aj b0 b1 b2) nn).getD i.toNat (0,0,0)).2.1=2):BQ (TI cs) Tryz.prog 30 [.ptr 0 0,.n9 i] [O (bO 1 m (SZ p0 b0) (SZ p1 b1) (.sl 3 b2.length 0)),O [.sl 2 nn 0],aq cs ts nn,some (.buf 123 3 b2.length (Bh b2))] (Rt (.tt) [O (bO 1 (AX m ((b2.getD 0 Wr.z).lc).toNat (AM (m ((b2.getD 0 Wr.z).lc).toNat) (b2.getD 0 Wr.z).o (b2.getD 0 Wr.z).s (b2.getD 0 Wr.z).v)) (SZ p0 b0) (SZ p1 b1) (.st 3 3 1 (b2.length - 1) 0)),O [.sl 2 nn 0],aq cs ts nn,some (.buf 123 3 b2.length (Bh b2))]):=
 Aa (n:=40) (by kernel_rfl) Tryz.func30 U U U fun G w a h0 hI A=>N9 6 A U U fun A=>ζ2 (PO h0 3 U) fun q hq=>have A:=A.cellOne 0 [.ptr 1 0,.n9 (m 0),.n9 (m 1),.n9 (m 2),.sla (AK p0) b0.length (rm p0),.sla (AK p1) b1.length (rm p1)] [] (H':=[O (bO 1 m (SZ p0 b0) (SZ p1 b1) (SZ q b2)),O [.sl 2 nn 0],aq cs ts nn,some (.buf 123 3 b2.length (Bh b2))]) (Bj (A.atp hq)) U U;N9 2 A U U fun A=>I9 [0,1,2] AH.ok hI.1 (MI m cs ts nn p0 p1 q b0 b1 b2 hC Cx) A U fun A=>N9 16 A U U fun A=>fork 16 A U
  (fun h1 A=>absurd h1 (by simp;omega))
  (fun h1 A=>N9 10 A U (AE (by omega)<|AE (by omega)<|AE (by omega)<|AB) fun A=>have A:=AG A 21 (.int .i64 2) U (fun _=>congrArg (fun z=>some (Value.int .i64 z)) Le);N9 11 A U (AE (by omega)<|AE (by omega)<|AE (by omega)<|AB) fun A=>have A:=AG A 26 (.int .i64 3) U (fun _=>congrArg (fun z=>some (Value.int .i64 z)) Lq);N9 3 A U U fun A=>AV 27 A U
   (fun h2 A=>N9 2 A U U fun A=>have A:=A.cellOne 0 [.ptr 1 0,.n9 (m 0),.n9 (m 1),.n9 (m 2),.sla (AK p0) b0.length (rm p0),.sla (AK p1) b1.length (rm p1)] [] (H':=[O (bO 1 m (SZ p0 b0) (SZ p1 b1) (.sl 3 b2.length 0)),O [.sl 2 nn 0],aq cs ts nn,some (.buf 123 3 b2.length (Bh b2)),some (.row 44 4 ((Ab cs ts (Aj b0 b1 b2) nn).length) 0 (B4 (Ab cs ts (Aj b0 b1 b2) nn)))]) (Bj (A.atp hq)).symm rfl rfl;N9 3 A U U fun A=>I9 [0,1,2,3] AP.ok hI.2 (Wb m cs ts nn p0 p1 b0 b1 b2 hW Er Bw) A U fun A=>N9 8 A U U fun A=>R9 A U h0 U U U)
   (fun h2 A=>absurd U h2))
end Mc
namespace Mc.Ts
open Go.RowKit
structure N7 (e:Nat)(p:Nat→Option Loc)(b:Nat→List Wr)(N:Nat)(w:World)(ks:ae):Prop where
 ok:∀k,k<3→Ag [] w (p k) (.buf e 3 (b k).length (Bh (b k)))
 lo:∀k,k<3→∀L:Loc,p k=some L→N≤L.b∧ks.contains L.b=false
 ap:∀j k,j<3→k<3→j≠k→∀L M:Loc,p j=some L→p k=some M→L.b≠M.b
def bB (p:Nat→Option Loc):List Nat:=bk (p 0)++(bk (p 1)++bk (p 2))
theorem Cv {p:Nat→Option Loc}{b:Nat}:(bB p).contains b=true↔∃k,k<3∧∃L,p k=some L∧L.b=b:=by
 unfold bB
 rw [AN,AN,Dg,Dg,Dg]
 constructor
 ·rintro (h|h|h)
  ·exact⟨0,by omega,h⟩
  ·exact⟨1,by omega,h⟩
  ·exact⟨2,by omega,h⟩
 ·rintro ⟨k,hk,h⟩
  match k,hk,h with
  |0,_,h=>exact .inl h
  |1,_,h=>exact .inr (.inl h)
  |2,_,h=>exact .inr (.inr h)
theorem BJ {l:ae}{b:Nat}(h:l.contains b=true→False):l.contains b=false:=by
 cases hz:l.contains b with
 |false=>rfl
 |true=>exact(h hz).elim
theorem Ay {l:ae}{b:Nat}(h:l.contains b=false)(h2:l.contains b=true):False:=by rw [h]at h2;cases h2
section
variable {e:Nat}{p:Nat→Option Loc}{b:Nat→List Wr}{N:Nat}{w w':World}{ks ks' X:ae}
theorem N7.lt (h:N7 e p b N w ks){k:Nat}(hk:k<3){L:Loc}(hL:p k=some L):L.b<w.heap.size:=by
 have:=h.ok k hk
 rw [hL]at this
 exact Ag.lt this (fun h=>h)
theorem N7.mv (h:N7 e p b N w ks)(m:CQ X w w')(hX:∀b,(bB p).contains b=true→X.contains b=false)(hk:∀b,(bB p).contains b=true→ks'.contains b=false):N7 e p b N w' ks':=
 ⟨fun k qI=>(h.ok k qI).mix m fun _ L hL=>hX _ (Cv.2 ⟨k,qI,L,hL,rfl⟩),fun k qI L hL=>⟨(h.lo k qI L hL).1,hk _ (Cv.2 ⟨k,qI,L,hL,rfl⟩)⟩,h.ap⟩
theorem N7.off (h:N7 e p b N w ks){c:Nat}(hc:(bB p).contains c=true):N≤c∧ks.contains c=false∧c<w.heap.size:=by
 obtain⟨k,hk,L,hL,rfl⟩:=Cv.1 hc
 exact⟨(h.lo k hk L hL).1,(h.lo k hk L hL).2,h.lt hk hL⟩
theorem N7.am:Dl.OK (N7 e p b N):=fun w ks w' ks' h m hk=>h.mv m (fun c hc=>(h.off hc).2.1) fun c hc=>BJ fun hz=>by
 have:=h.off hc
 rcases hk c hz with q|q
 ·exact Ay this.2.1 q
 ·omega
theorem FA {α:Type}{f:Nat→α}{k:Nat}{x:α}:AQ f k x k=x:=by unfold AQ;rw [if_pos U]
theorem EV {α:Type}{f:Nat→α}{k j:Nat}{x:α}(h:j≠k):AQ f k x j=f j:=by unfold AQ;rw [if_neg h]
theorem N7.set (h:N7 e p b N w ks){k:Nat}(hk:k<3)(m:CQ X w w')(hX:∀j,j<3→j≠k→∀L:Loc,p j=some L→X.contains L.b=false){p':Option Loc}{l':List Wr}(hp:Ag [] w' p' (.buf e 3 l'.length (Bh l')))(D2:∀L:Loc,p'=some L→N≤L.b∧ks'.contains L.b=false)(y6:∀j,j<3→j≠k→∀L M:Loc,p j=some L→p'=some M→L.b≠M.b)(Lr:∀j,j<3→j≠k→∀L:Loc,p j=some L→ks'.contains L.b=false):N7 e (AQ p k p') (AQ b k l') N w' ks':=by
 refine⟨fun j hj=>?_,fun j hj L hL=>?_,fun i j hi hj Ge L M hL hM=>?_⟩
 ·by_cases Eb:j=k
  ·subst Eb;rw [FA,FA];exact hp
  ·rw [EV Eb,EV Eb];exact(h.ok j hj).mix m fun _ L hL=>hX j hj Eb L hL
 ·by_cases Eb:j=k
  ·subst Eb;rw [FA]at hL;exact D2 L hL
  ·rw [EV Eb]at hL;exact⟨(h.lo j hj L hL).1,Lr j hj Eb L hL⟩
 ·by_cases h1:i=k
  ·subst h1
   rw [FA]at hL
   rw [EV (ε9 Ge)]at hM
   exact fun z=>y6 j hj (ε9 Ge) M L hM hL z.symm
  ·rw [EV h1]at hL
   by_cases h2:j=k
   ·subst h2;rw [FA]at hM;exact y6 i hi Ge L M hL hM
   ·rw [EV h2]at hM;exact h.ap i j hi hj Ge L M hL hM
theorem Qk {k:Nat}{p':Option Loc}{c:Nat}(h:(bB (AQ p k p')).contains c=true):(∃L,p'=some L∧L.b=c)∨∃j,j<3∧j≠k∧∃L,p j=some L∧L.b=c:=by
 obtain⟨j,hj,L,hL,hc⟩:=Cv.1 h
 by_cases Eb:j=k
 ·subst Eb;rw [FA]at hL;exact .inl ⟨L,hL,hc⟩
 ·rw [EV Eb]at hL;exact .inr ⟨j,hj,Eb,L,hL,hc⟩
end
section
variable {cs:List AD}{ts ts':List Th}{tr tr' z:List Tr}{ra:ak}{nn N:Nat}{w w':World}{ks ks' X K K':ae}{mp rp:Nat→Option Loc}{bm br:Nat→List Wr}
structure Bk (cs:List AD)(ts:List Th)(tr z:List Tr)(ra:ak)(nn N:Nat)(mp rp:Nat→Option Loc)(bm br:Nat→List Wr)(w:World)(ks:ae):Prop where
 mb:N7 123 mp bm N w ks
 rb:N7 107 rp br N w (ks++bB mp)
 rd:RD cs ts tr z ra nn N w (ks++(bB mp++bB rp))
theorem Bk.ok:Dl.OK (Bk cs ts tr z ra nn N mp rp bm br):=fun w ks w' ks' h m hk=>by
 have hm:∀Z:List Nat,CQ (ks++Z) w w':=fun Z=>MD m fun b hb=>AN.2 (.inl hb)
 refine⟨N7.am _ _ _ _ h.mb m hk,N7.am _ _ _ _ h.rb (hm _) fun b hb=>?_,RD.ok _ _ _ _ h.rd (hm _) fun b hb=>?_⟩<;>rcases AN.1 hb with q|q
 ·exact(hk b q).imp (fun r=>AN.2 (.inl r)) id
 ·exact .inl (AN.2 (.inr q))
 ·exact(hk b q).imp (fun r=>AN.2 (.inl r)) id
 ·exact .inl (AN.2 (.inr q))
theorem RD.step (h:RD cs ts tr z ra nn N w K)(m:CQ X w w')(hX:∀b,X.contains b=true→(K++CF tr).contains b=true)(hj:JT cs ts' tr' 0 w' ks)(hl:tr'.length=nn)(hL:∀k,k<nn→(tr'.getD k Tr.z).L=(tr.getD k Tr.z).L)(D2:∀b,(CF tr').contains b=true→N≤b∧K'.contains b=false)(hT:∀b,(CF tr').contains b=true→X.contains b=true∨w.heap.size≤b)(hK:∀b,K'.contains b=true→(K++CF tr).contains b=true∨w.heap.size≤b):RD cs ts' tr' z ra nn N w' K':=by
 refine⟨⟨hj.out,hj.len,fun k hk b hb=>D2 b (C4.2 ⟨k,hk,hb⟩),hj.ap⟩,?_,hl,fun k hk=>(hL k hk).trans (h.hl k hk)⟩
 refine AP.ok _ _ _ _ h.row (MD m hX) fun b hb=>?_
 rcases AN.1 hb with q|q
 ·exact hK b q
 ·exact(hT b q).imp (hX b) id
theorem Bk.setM (h:Bk cs ts tr z ra nn N mp rp bm br w ks){k:Nat}(hk:k<3){p':Option Loc}{l':List Wr}(m:CQ (ks++bk (mp k)) w w')(hp:Ag [] w' p' (.buf 123 3 l'.length (Bh l')))(D2:∀L:Loc,p'=some L→((bk (mp k)).contains L.b=true∨w.heap.size≤L.b)∧ks'.contains L.b=false)(hN:N≤w.heap.size)(Lr:∀b,ks'.contains b=true→ks.contains b=true∨w.heap.size≤b):Bk cs ts tr z ra nn N (AQ mp k p') rp (AQ bm k l') br w' ks':=by
 have hold:∀L:Loc,mp k=some L→(bB mp).contains L.b=true:=fun L hL=>Cv.2 ⟨k,hk,L,hL,rfl⟩
 have hX:∀j,j<3→j≠k→∀L:Loc,mp j=some L→(ks++bk (mp k)).contains L.b=false:=fun j hj Eb L hL=>BJ fun hz=>by
  rcases AN.1 hz with q|q
  ·exact Ay (h.mb.lo j hj L hL).2 q
  ·obtain⟨M,hM,e⟩:=Dg.1 q
   exact h.mb.ap j k hj hk Eb L M hL hM e.symm
 have xB:∀c,(bB mp).contains c=true→ks'.contains c=false:=fun c hc=>BJ fun hz=>by
  have:=h.mb.off hc
  rcases Lr c hz with q|q
  ·exact Ay this.2.1 q
  ·omega
 have HD:∀c,(bB (AQ mp k p')).contains c=true→(bB mp).contains c=true∨w.heap.size≤c:=fun c hc=>by
  rcases Qk hc with⟨L,hL,rfl⟩|⟨j,hj,_,L,hL,rfl⟩
  ·rcases(D2 L hL).1 with q|q
   ·obtain⟨M,hM,e⟩:=Dg.1 q
    exact .inl (e▸hold M hM)
   ·exact .inr q
  ·exact .inl (Cv.2 ⟨j,hj,L,hL,rfl⟩)
 have ML:CQ (ks++bB mp) w w':=MD m fun b hb=>(AN.1 hb).elim (fun q=>AN.2 (.inl q)) fun q=>by
  obtain⟨M,hM,e⟩:=Dg.1 q
  exact AN.2 (.inr (e▸hold M hM))
 refine⟨h.mb.set hk m hX hp (fun L hL=>⟨?_,(D2 L hL).2⟩) (fun j hj Eb L M hL hM e=>?_) (fun j hj Eb L hL=>xB _ (Cv.2 ⟨j,hj,L,hL,rfl⟩)),N7.am _ _ _ _ h.rb ML fun c hc=>?_,RD.ok _ _ _ _ h.rd (MD ML fun b hb=>(AN.1 hb).elim (fun q=>AN.2 (.inl q)) fun q=>AN.2 (.inr (AN.2 (.inl q)))) fun c hc=>?_⟩
 ·rcases(D2 L hL).1 with q|q
  ·obtain⟨M,hM,e⟩:=Dg.1 q
   exact e▸(h.mb.lo k hk M hM).1
  ·omega
 ·rcases(D2 M hM).1 with q|q
  ·obtain⟨M2,I5,e2⟩:=Dg.1 q
   exact h.mb.ap j k hj hk Eb L M2 hL I5 (e.trans e2.symm)
  ·have:=h.mb.lt hj hL
   omega
 ·rcases AN.1 hc with q|q
  ·exact(Lr c q).imp (fun r=>AN.2 (.inl r)) id
  ·exact(HD c q).imp (fun r=>AN.2 (.inr r)) id
 ·rcases AN.1 hc with q|q
  ·exact(Lr c q).imp (fun r=>AN.2 (.inl r)) id
  ·rcases AN.1 q with q|q
   ·exact(HD c q).imp (fun r=>AN.2 (.inr (AN.2 (.inl r)))) id
   ·exact .inl (AN.2 (.inr (AN.2 (.inr q))))
theorem Bk.setR (h:Bk cs ts tr z ra nn N mp rp bm br w ks) {rp':Nat→Option Loc} {br':Nat→List Wr} {k d:Nat} (hk:k<3) (hd:ks.contains d=true) (m:CQ (d::(bk (rp k)++CF tr)) w w') (hj:JT cs ts' tr' 0 w' [d]) (hl:tr'.length=nn) (hL:∀k,k<nn→(tr'.getD k Tr.z).L=(tr.getD k Tr.z).L) (hT:∀b,(CF tr').contains b=true→(d::(bk (rp k)++CF tr)).contains b=true∨w.heap.size≤b)
  (hb:N7 107 rp' br' N w' (ks'++bB mp)) (hr:∀b,(bB rp').contains b=true→((bB rp).contains b=true∨(CF tr).contains b=true∨w.heap.size≤b)∧(CF tr').contains b=false) (hN:N≤w.heap.size) (Lr:∀b,ks'.contains b=true→ks.contains b=true∨w.heap.size≤b) (wM:∀b,ks'.contains b=true→b<w.heap.size):Bk cs ts' tr' z ra nn N mp rp' bm br' w' ks':=by
 have xC:∀b,(bk (rp k)).contains b=true→(bB rp).contains b=true:=fun b hb=>by
  obtain⟨M,hM,e⟩:=Dg.1 hb
  exact Cv.2 ⟨k,hk,M,hM,e⟩
 have y7:∀b,(CF tr).contains b=true→N≤b∧(ks++(bB mp++bB rp)).contains b=false:=fun b hb=>by
  obtain⟨j,hj,h2⟩:=C4.1 hb
  exact h.rd.jt.lo j hj b h2
 have hX:∀b,(d::(bk (rp k)++CF tr)).contains b=true→((ks++(bB mp++bB rp))++CF tr).contains b=true:=fun b hb=>by
  rw [ε8,β9]at hb
  rcases hb with hb|hb
  ·have e:b=d:=by simpa using hb
   subst e
   exact AN.2 (.inl (AN.2 (.inl hd)))
  ·rcases AN.1 hb with q|q
   ·exact AN.2 (.inl (AN.2 (.inr (AN.2 (.inr (xC b q))))))
   ·exact AN.2 (.inr q)
 have hmX:∀b,(bB mp).contains b=true→(d::(bk (rp k)++CF tr)).contains b=false:=fun b hb=>BJ fun hz=>by
  rw [ε8,β9]at hz
  rcases hz with hz|hz
  ·have e:b=d:=by simpa using hz
   subst e
   exact Ay (h.mb.off hb).2.1 hd
  ·rcases AN.1 hz with q|q
   ·exact Ay (h.rb.off (xC b q)).2.1 (AN.2 (.inr hb))
   ·exact Ay (y7 b q).2 (AN.2 (.inr (AN.2 (.inl hb))))
 refine⟨h.mb.mv m hmX fun b hb=>BJ fun hz=>?_,hb,RD.step h.rd m hX hj hl hL (fun b hb=>?_) hT fun b hb=>?_⟩
 ·rcases Lr b hz with q|q
  ·exact Ay (h.mb.off hb).2.1 q
  ·have:=(h.mb.off hb).2.2;omega
 ·have hbd:b≠d:=fun e=>by
   obtain⟨j,Jj,h2⟩:=C4.1 hb
   have:=(hj.lo j Jj b h2).2
   rw [e]at this;simp at this
  have key:N≤b∧(ks.contains b=false∨w.heap.size≤b)∧(bB mp).contains b=false:=by
   rcases hT b hb with q|q
   ·rw [ε8,β9]at q
    rcases q with q|q
    ·exact absurd (by simpa using q) hbd
    ·rcases AN.1 q with q|q
     ·have:=h.rb.off (xC b q)
      exact⟨this.1,.inl (BJ fun z=>Ay this.2.1 (AN.2 (.inl z))),BJ fun z=>Ay this.2.1 (AN.2 (.inr z))⟩
     ·have:=y7 b q
      exact⟨this.1,.inl (BJ fun z=>Ay this.2 (AN.2 (.inl z))),BJ fun z=>Ay this.2 (AN.2 (.inr (AN.2 (.inl z))))⟩
   ·exact⟨by omega,.inr q,BJ fun z=>by have:=(h.mb.off z).2.2;omega⟩
  refine⟨key.1,BJ fun hz=>?_⟩
  rcases AN.1 hz with q|q
  ·have BU:=wM b q
   rcases Lr b q with r|r
   ·rcases key.2.1 with s|s
    ·exact Ay s r
    ·omega
   ·omega
  ·rcases AN.1 q with q|q
   ·exact Ay key.2.2 q
   ·exact Ay (hr b q).2 hb
 ·rcases AN.1 hb with q|q
  ·exact(Lr b q).imp (fun r=>AN.2 (.inl (AN.2 (.inl r)))) id
  ·rcases AN.1 q with q|q
   ·exact .inl (AN.2 (.inl (AN.2 (.inr (AN.2 (.inl q))))))
   ·rcases(hr b q).1 with r|r|r
    ·exact .inl (AN.2 (.inl (AN.2 (.inr (AN.2 (.inr r))))))
    ·exact .inl (AN.2 (.inr r))
    ·exact .inr r
end
end Mc.Ts
namespace Mc.Ts
open Go.RowKit
theorem Ql (tv:Nat→Value)(m:Rg)(nn:Nat)(ra:ak)(rc:Nat)(rp:Nat→Option Loc)(bw:Nat→List Wr):AO [] (dT tv m nn ra rc rp bw)=some (dW tv m nn ra rc rp bw):=rfl
section
variable {n:Nat}{ks:ae}{G0:Gr}{w0:World}{T:List (Nat×SV)}{H:Hp}{G:Gr}{a:Act}{w:World}{ops:ah}{o:Oper}{rest:ai}{Q:ab}{K:List Fr}{cs:List AD}{ts:List Th}{tr z:List Tr}{ra:ak}{rc nn:Nat}{tv:Nat→Value}{m:Rg}{mp rp:Nat→Option Loc}{bm bw:Nat→List Wr}
theorem N8 {N:Nat}{X:ae}{H1:Hp}(hm:Jw H1 G N)(hX:∀b,X.contains b=true→N≤b∧(keys H1 G).contains b=false):IC H1 G X:=fun i e M q1 q2 q3=>BJ fun hc=>by
 have h3:=hX _ hc
 cases aI:e.mut with
 |true=>exact Ay h3.2 (mem_keys.2 ⟨i,e,M,q1,aI,q2,rfl⟩)
 |false=>have:=hm i e M q1 aI q2 q3;omega
theorem Cw {x b:Nat}{l:ae}:(x::l).contains b=true↔b=x∨l.contains b=true:=by
 rw [ε8,β9,ε5]
structure Wv (H H1 H2:Hp)(G:Gr)(L:Loc):Prop where
 kL:(keys H G).contains L.b=true
 k1:∀b,(keys H1 G).contains b=true→(keys H G).contains b=true
 k2:∀b,(keys H2 G).contains b=true→b=L.b∨(keys H1 G).contains b=true
theorem Qm {H1 H2:Hp}{cells:List SV}{L:Loc}(p:Nat)(J6:H[p]?=some (some (.blk cells)))(T4:CE H p none=H1){c2:List SV}(Ty:CE H1 p (some (.blk c2))=H2)(hG:G[p]?=some (some L)):Wv H H1 H2 G L:=by
 have I4:p<H.length:=(α0.1 J6).1
 refine⟨mem_keys.2 ⟨p,_,L,J6,rfl,hG,rfl⟩,fun b hb=>?_,fun b hb=>?_⟩
 ·obtain⟨i,e,M,g1,g2,g3,g4⟩:=mem_keys.1 hb
  subst T4
  rw [Aw]at g1
  by_cases hi:i=p
  ·subst hi;rw [γ7 I4]at g1;cases g1
  ·rw [γ0 (ε9 hi)]at g1;exact mem_keys.2 ⟨i,e,M,g1,g2,g3,g4⟩
 ·obtain⟨i,e,M,g1,g2,g3,g4⟩:=mem_keys.1 hb
  subst Ty
  rw [Aw]at g1
  by_cases hi:i=p
  ·subst hi;rw [hG]at g3;cases g3;exact .inl g4.symm
  ·rw [γ0 (ε9 hi)]at g1;exact .inr (mem_keys.2 ⟨i,e,M,g1,g2,g3,g4⟩)
theorem Wj {L:Loc}{N:Nat}{kb KS:ae}(rd:RD cs ts tr z ra nn N w KS)(hL:KS.contains L.b=true)(Pd:∀b,kb.contains b=true→KS.contains b=true):AP ra 1 nn (R0 tr) w (L.b::(kb++CF tr)):=by
 have DV:AP ra 1 nn (R0 z) w (L.b::(kb++CF tr)):=AP.ok _ _ _ _ rd.row (CQ.refl _ _) fun b hb=>.inl (by
  rcases Cw.1 hb with rfl|hb
  ·exact AN.2 (.inl hL)
  ·exact(AN.1 hb).elim (fun q=>AN.2 (.inl (Pd b q))) fun q=>AN.2 (.inr q))
 refine⟨fun j=>⟨_,rfl⟩,?_⟩
 rcases DV.2 with q|⟨b,oo,e1,e2,e3,e4⟩
 ·exact .inl q
 ·refine .inr ⟨b,oo,e1,e2,e3,fun j hj=>?_⟩
  have:=e4 j hj
  unfold R0 at this⊢
  rw [rd.hl j hj];exact this
theorem Bk.tb {N:Nat}{KS:ae}(J:Bk cs ts tr z ra nn N mp rp bm bw w KS){b:Nat}(hb:(CF tr).contains b=true):N≤b∧KS.contains b=false∧(bB mp).contains b=false∧(bB rp).contains b=false:=by
 obtain⟨j,hj,h2⟩:=C4.1 hb
 have:=J.rd.jt.lo j hj b h2
 exact⟨this.1,BJ fun q=>Ay this.2 (AN.2 (.inl q)),BJ fun q=>Ay this.2 (AN.2 (.inr (AN.2 (.inl q)))),BJ fun q=>Ay this.2 (AN.2 (.inr (AN.2 (.inr q))))⟩
theorem Bk.rbo {N:Nat}{KS:ae}(J:Bk cs ts tr z ra nn N mp rp bm bw w KS){b:Nat}(hb:(bB rp).contains b=true):N≤b∧KS.contains b=false∧(bB mp).contains b=false∧b<w.heap.size∧(CF tr).contains b=false:=by
 have:=J.rb.off hb
 exact⟨this.1,BJ fun q=>Ay this.2.1 (AN.2 (.inl q)),BJ fun q=>Ay this.2.1 (AN.2 (.inr q)),this.2.2,BJ fun q=>Ay (J.tb q).2.2.2 hb⟩
theorem gL {k:Nat}(hk:k<3){b:Nat}(h:(bk (rp k)).contains b=true):(bB rp).contains b=true:=by
 obtain⟨M,hM,e⟩:=Dg.1 h
 exact Cv.2 ⟨k,hk,M,hM,e⟩
theorem uC (p t:Nat) {H1 H2:Hp} (A:Sy n T H ks G0 w0 G a w) (J:Bk cs ts tr z ra nn w0.heap.size mp rp bm bw w (keys H G)) (hC:AH cs w0 ks) (hm:Jw H1 G w0.heap.size) (hp:lg H p=some (some (.blk (dT tv m nn ra rc rp bw)))) (ht:look T t=some (.ptr p 0)) (Ls:ts.length=nn) (hle:nn≤cs.length) (Cx:nn≤3) (th at_:Int) (Bo:0≤th∧th<((nn:Nat):Int)) (FF:Fo (cs.getD th.toNat AD.z).l) (D6:(ts.getD th.toNat Th.z).at_<(cs.getD th.toNat AD.z).l.length) (T3:∀k,k<3→inr (m k)) (wS:∀k,k<(bw th.toNat).length→(0≤((bw th.toNat).getD k Wr.z).lc∧((bw th.toNat).getD k Wr.z).lc<3)∧OS ((bw th.toNat).getD k Wr.z).o ((bw th.toNat).getD k Wr.z).s∧inr ((bw th.toNat).getD k Wr.z).v) (Er:(bw th.toNat).length≤1000000) (h5:((cs.getD th.toNat AD.z).l.getD ((((ts.getD th.toNat Th.z).at_:Nat):Int)).toNat In.z).op≠5) (h6:((cs.getD th.toNat AD.z).l.getD ((((ts.getD th.toNat Th.z).at_:Nat):Int)).toNat In.z).op=6→(bw th.toNat)=[])
  (h1:∀L:Loc,Bi n ops ((t,EZ L.b L.pre.length)::T) o=some (16,[EZ L.b L.pre.length,.agg [.n9 2,.n9 th,.n9 at_,.z9]])) (T4:CE H p none=H1) (Ty:CE H1 p (some (.blk (dT tv (D5 m (ts.getD th.toNat Th.z).r ((cs.getD th.toNat AD.z).l.getD ((((ts.getD th.toNat Th.z).at_:Nat):Int)).toNat In.z)) nn ra rc rp bw)))=H2)
  (k:∀tr' {a' w' x} (L:Loc),Bk cs (Ak cs ts th (Hk (Cr m (bw th.toNat) (bw th.toNat).length) (ts.getD th.toNat Th.z).r ((cs.getD th.toNat AD.z).l.getD ((((ts.getD th.toNat Th.z).at_:Nat):Int)).toNat In.z))) tr' z ra nn w0.heap.size mp rp bm bw w' (keys H2 G)→Sy n (BN ((t,EZ L.b L.pre.length)::T) o.dst x) H2 ks G0 w0 G a' w'→Goal Tryz.prog Q K (.ops ops rest) a' w'):Goal Tryz.prog Q K (.ops ops (o::rest)) a w:=by
 have J6:=hp
 rw [At]at J6
 have I4:p<H.length:=(α0.1 J6).1
 refine Rz (P:=Tryz.prog) p t A hp (Ql tv m nn ra rc rp bw) ht T4 fun L A1 HZ UC Cy Do hG=>?_
 have P:=Qm p J6 T4 Ty hG
 have h3:th.toNat<3:=by omega
 have Lk:∀b,(L.b::CF tr).contains b=true→ks.contains b=true∨w0.heap.size≤b:=fun b hb=>by
  rcases Cw.1 hb with rfl|hb
  ·exact Do
  ·exact .inr (J.tb hb).1
 have qJ:(keys H G++(bB mp++bB rp)).contains L.b=true:=AN.2 (.inl P.kL)
 have JB:rB tv m cs ts nn ra rc tr rp bw L [] w:=⟨HZ,Wj J.rd qJ (fun b hb=>by cases hb),JT.ok _ _ _ _ ⟨J.rd.jt.out,J.rd.jt.len,fun j hj b hb=>⟨β7 _,(J.rd.jt.lo j hj b hb).2⟩,J.rd.jt.ap⟩ (CQ.refl _ _) (fun b hb=>.inl (by
  rcases Cw.1 hb with rfl|hb
  ·exact qJ
  ·cases hb)),AH.ok _ _ _ _ hC A.mix Lk⟩
 have xD:AP (AK (rp th.toNat)) 3 (bw th.toNat).length (Bh (bw th.toNat)) w (L.b::CF tr):=HS (J.rb.ok _ h3) fun M hM=>BJ fun hz=>by
  have:=J.rbo (Cv.2 ⟨_,h3,M,hM,rfl⟩)
  rcases Cw.1 hz with e|hz
  ·exact Ay this.2.1 (e▸P.kL)
  ·exact Ay this.2.2.2.2 hz
 have XI:IC H1 G (L.b::CF tr):=fun i e M q1 q2 q3=>BJ fun hc=>by
  rcases Cw.1 hc with hc|hc
  ·exact Ay (Cy i e M q1 q2 q3) (by simpa using hc)
  ·exact Ay (N8 hm (fun b hb=>⟨(J.tb hb).1,BJ fun q=>Ay (J.tb hb).2.1 (P.k1 b q)⟩) i e M q1 q2 q3) hc
 refine Jp [] (oD tv m cs ts nn ra rc tr rp bw L th at_ J.rd.ln Ls hle Cx Bo FF D6 T3 wS Er h5 h6) A1 ⟨JB,xD⟩ XI Lk (h1 L) U U U U fun{x a' w'} ML hJ A'=>?_
 obtain⟨tr',j1,j2,j3,j4,j5⟩:=hJ
 have A2:=Jg A' p (by subst T4;rw [Aw,η2];exact I4) hG (Ql _ _ _ _ _ _ _) j1 Cy Do Ty
 have BU:∀b,(keys H1 G).contains b=true→b<w.heap.size:=fun b hb=>EK A1.mem hb
 have Pe:∀b,(keys H2 G).contains b=true→(keys H G).contains b=true:=fun b hb=>(P.k2 b hb).elim (fun e=>e▸P.kL) (P.k1 b)
 have y8:∀b,(bB rp).contains b=true→(L.b::CF tr).contains b=false:=fun b hb=>BJ fun hz=>by
  have:=J.rbo hb
  rcases Cw.1 hz with e|hz
  ·exact Ay this.2.1 (e▸P.kL)
  ·exact Ay this.2.2.2.2 hz
 refine k tr' L (J.setR (k:=th.toNat) h3 P.kL (MD ML fun b hb=>(Cw.1 hb).elim (fun e=>Cw.2 (.inl e)) fun q=>Cw.2 (.inr (AN.2 (.inr q)))) j2 j3 j4 (fun b hb=>(j5 b hb).imp (fun q=>(Cw.1 q).elim (fun e=>Cw.2 (.inl e)) fun q=>Cw.2 (.inr (AN.2 (.inr q)))) id) (J.rb.mv ML y8 fun b hb=>BJ fun hz=>?_) (fun b hb=>⟨.inl hb,BJ fun hz=>?_⟩) A.mix.size (fun b hb=>.inl (Pe b hb)) (fun b hb=>EK A.mem (Pe b hb))) A2
 ·exact(AN.1 hz).elim (fun q=>Ay (J.rbo hb).2.1 (Pe b q)) fun q=>Ay (J.rbo hb).2.2.1 q
 ·rcases j5 b hz with q|q
  ·exact Ay (y8 b hb) q
  ·have:=(J.rbo hb).2.2.2.1;omega
theorem uD (p t:Nat) {H1:Hp} {H2:Option Loc→Hp} (A:Sy n T H ks G0 w0 G a w) (J:Bk cs ts tr z ra nn w0.heap.size mp rp bm bw w (keys H G)) (hC:AH cs w0 ks) (hm:Jw H1 G w0.heap.size) (hp:lg H p=some (some (.blk (dT tv m nn ra rc rp bw)))) (ht:look T t=some (.ptr p 0)) (Ls:ts.length=nn) (hle:nn≤cs.length) (Cx:nn≤3) (th at_:Int) (Bo:0≤th∧th<((nn:Nat):Int)) (FF:Fo (cs.getD th.toNat AD.z).l) (D6:(ts.getD th.toNat Th.z).at_<(cs.getD th.toNat AD.z).l.length) (Er:(bw th.toNat).length≤1000000) (BM:((cs.getD th.toNat AD.z).l.getD ((((ts.getD th.toNat Th.z).at_:Nat):Int)).toNat In.z).op=5)
  (h1:∀L:Loc,Bi n ops ((t,EZ L.b L.pre.length)::T) o=some (16,[EZ L.b L.pre.length,.agg [.n9 2,.n9 th,.n9 at_,.z9]])) (T4:CE H p none=H1) (Ty:∀p2:Option Loc,CE H1 p (some (.blk (dT tv m nn ra rc (AQ rp th.toNat p2) (AQ bw th.toNat ((bw th.toNat)++[(⟨((cs.getD th.toNat AD.z).l.getD ((((ts.getD th.toNat Th.z).at_:Nat):Int)).toNat In.z).loc,Bg (ts.getD th.toNat Th.z).r ((cs.getD th.toNat AD.z).l.getD ((((ts.getD th.toNat Th.z).at_:Nat):Int)).toNat In.z),((cs.getD th.toNat AD.z).l.getD ((((ts.getD th.toNat Th.z).at_:Nat):Int)).toNat In.z).sz,BR (ts.getD th.toNat Th.z).r ((cs.getD th.toNat AD.z).l.getD ((((ts.getD th.toNat Th.z).at_:Nat):Int)).toNat In.z)⟩:Wr)])))))=H2 p2)
  (k:∀tr' (p2:Option Loc) {a' w' x} (L:Loc),Bk cs (Ak cs ts th 0) tr' z ra nn w0.heap.size mp (AQ rp th.toNat p2) bm (AQ bw th.toNat ((bw th.toNat)++[(⟨((cs.getD th.toNat AD.z).l.getD ((((ts.getD th.toNat Th.z).at_:Nat):Int)).toNat In.z).loc,Bg (ts.getD th.toNat Th.z).r ((cs.getD th.toNat AD.z).l.getD ((((ts.getD th.toNat Th.z).at_:Nat):Int)).toNat In.z),((cs.getD th.toNat AD.z).l.getD ((((ts.getD th.toNat Th.z).at_:Nat):Int)).toNat In.z).sz,BR (ts.getD th.toNat Th.z).r ((cs.getD th.toNat AD.z).l.getD ((((ts.getD th.toNat Th.z).at_:Nat):Int)).toNat In.z)⟩:Wr)])) w' (keys (H2 p2) G)→Sy n (BN ((t,EZ L.b L.pre.length)::T) o.dst x) (H2 p2) ks G0 w0 G a' w'→Goal Tryz.prog Q K (.ops ops rest) a' w'):Goal Tryz.prog Q K (.ops ops (o::rest)) a w:=by
 have J6:=hp
 rw [At]at J6
 have I4:p<H.length:=(α0.1 J6).1
 refine Rz (P:=Tryz.prog) p t A hp (Ql tv m nn ra rc rp bw) ht T4 fun L A1 HZ UC Cy Do hG=>?_
 have h3:th.toNat<3:=by omega
 have Pd:∀b,(bk (rp th.toNat)).contains b=true→(bB rp).contains b=true:=fun b hb=>gL h3 hb
 have P:=fun p2=>Qm p J6 T4 (Ty p2) hG
 have P0:=P none
 have Lk:∀b,(L.b::(bk (rp th.toNat)++CF tr)).contains b=true→ks.contains b=true∨w0.heap.size≤b:=fun b hb=>by
  rcases Cw.1 hb with rfl|hb
  ·exact Do
  ·exact .inr ((AN.1 hb).elim (fun q=>(J.rbo (Pd b q)).1) fun q=>(J.tb q).1)
 have qJ:(keys H G++(bB mp++bB rp)).contains L.b=true:=AN.2 (.inl P0.kL)
 have y9:∀b,(bk (rp th.toNat)).contains b=true→(keys H G++(bB mp++bB rp)).contains b=true:=fun b hb=>AN.2 (.inr (AN.2 (.inr (Pd b hb))))
 have JB:rB tv m cs ts nn ra rc tr rp bw L (bk (rp th.toNat)) w:=⟨HZ,Wj J.rd qJ y9,JT.ok _ _ _ _ ⟨J.rd.jt.out,J.rd.jt.len,fun j hj b hb=>⟨β7 _,(J.rd.jt.lo j hj b hb).2⟩,J.rd.jt.ap⟩ (CQ.refl _ _) (fun b hb=>.inl (by
  rcases Cw.1 hb with rfl|hb
  ·exact qJ
  ·exact y9 b hb)),AH.ok _ _ _ _ hC A.mix Lk⟩
 have Bw:∀M:Loc,rp th.toNat=some M→M.b≠L.b:=fun M hM e=>Ay (J.rbo (Cv.2 ⟨_,h3,M,hM,rfl⟩)).2.1 (e▸P0.kL)
 have XI:IC H1 G (L.b::(bk (rp th.toNat)++CF tr)):=fun i e M q1 q2 q3=>BJ fun hc=>by
  rcases Cw.1 hc with hc|hc
  ·exact Ay (Cy i e M q1 q2 q3) (by simpa using hc)
  ·exact Ay (N8 (X:=bk (rp th.toNat)++CF tr) hm (fun b hb=>(AN.1 hb).elim (fun q=>⟨(J.rbo (Pd b q)).1,BJ fun r=>Ay (J.rbo (Pd b q)).2.1 (P0.k1 b r)⟩) fun q=>⟨(J.tb q).1,BJ fun r=>Ay (J.tb q).2.1 (P0.k1 b r)⟩) i e M q1 q2 q3) hc
 refine Jp [] (oI tv m cs ts nn ra rc tr rp bw L th at_ J.rd.ln Ls hle Cx Bo FF D6 Er BM) A1 ⟨JB,J.rb.ok _ h3,Bw⟩ XI Lk (h1 L) U U U U fun{x a' w'} ML hJ A'=>?_
 obtain⟨tr',p2,j1,j2,j3,j4,j5,j6,j7⟩:=hJ
 have A2:=Jg A' p (by subst T4;rw [Aw,η2];exact I4) hG (Ql _ _ _ _ _ _ _) j1 Cy Do (Ty p2)
 have Pe:∀b,(keys (H2 p2) G).contains b=true→(keys H G).contains b=true:=fun b hb=>((P p2).k2 b hb).elim (fun e=>e▸P0.kL) ((P p2).k1 b)
 have iX:∀j,j<3→j≠th.toNat→∀M:Loc,rp j=some M→(L.b::(bk (rp th.toNat)++CF tr)).contains M.b=false:=fun j hj OH M hM=>BJ fun hz=>by
  have hr:=J.rbo (Cv.2 ⟨j,hj,M,hM,rfl⟩)
  rcases Cw.1 hz with e|hz
  ·exact Ay hr.2.1 (e▸P0.kL)
  ·rcases AN.1 hz with q|q
   ·obtain⟨M2,I5,e⟩:=Dg.1 q
    exact J.rb.ap j _ hj h3 OH M M2 hM I5 e.symm
   ·exact Ay hr.2.2.2.2 q
 have hX2:∀b,(bk (rp th.toNat)++CF tr).contains b=true→w0.heap.size≤b∧(keys H G).contains b=false∧(bB mp).contains b=false:=fun b hb=>(AN.1 hb).elim (fun q=>⟨(J.rbo (Pd b q)).1,(J.rbo (Pd b q)).2.1,(J.rbo (Pd b q)).2.2.1⟩) fun q=>⟨(J.tb q).1,(J.tb q).2.1,(J.tb q).2.2.1⟩
 have Pf:∀M:Loc,p2=some M→(w0.heap.size≤M.b∧(keys H G).contains M.b=false∧(bB mp).contains M.b=false)∨w.heap.size≤M.b:=fun M hM=>by
  obtain⟨q1,q2,_⟩:=j7 M hM
  rcases q1 with q|q
  ·rcases Cw.1 q with e|q
   ·exact absurd e q2
   ·exact .inl (hX2 _ q)
  ·exact .inr q
 have hN:=A.mix.size
 refine k tr' p2 L (J.setR (k:=th.toNat) h3 P0.kL ML j2 j3 j4 j5 (J.rb.set h3 ML iX j6 (fun M hM=>?_) (fun j hj OH M M2 hM I5 e=>?_) (fun j hj OH M hM=>BJ fun hz=>?_)) (fun b hb=>?_) hN (fun b hb=>.inl (Pe b hb)) (fun b hb=>EK A.mem (Pe b hb))) A2
 ·rcases Pf M hM with q|q
  ·exact⟨q.1,BJ fun hz=>(AN.1 hz).elim (fun r=>Ay q.2.1 (Pe _ r)) fun r=>Ay q.2.2 r⟩
  ·refine⟨by omega,BJ fun hz=>?_⟩
   rcases AN.1 hz with r|r
   ·have:=EK A.mem (Pe _ r);omega
   ·have:=(J.mb.off r).2.2;omega
 ·obtain⟨q1,q2,_⟩:=j7 M2 I5
  rcases q1 with q|q
  ·exact Ay (iX j hj OH M hM) (e▸q)
  ·have:=(J.rbo (Cv.2 ⟨j,hj,M,hM,rfl⟩)).2.2.2.1;omega
 ·have hr:=J.rbo (Cv.2 ⟨j,hj,M,hM,rfl⟩)
  exact(AN.1 hz).elim (fun q=>Ay hr.2.1 (Pe _ q)) fun q=>Ay hr.2.2.1 q
 ·rcases Qk hb with⟨M,hM,rfl⟩|⟨j,hj,OH,M,hM,rfl⟩
  ·obtain⟨q1,q2,q3⟩:=j7 M hM
   refine⟨?_,q3⟩
   rcases q1 with q|q
   ·rcases Cw.1 q with e|q
    ·exact absurd e q2
    ·exact(AN.1 q).elim (fun r=>.inl (Pd _ r)) fun r=>.inr (.inl r)
   ·exact .inr (.inr q)
  ·have I5:=Cv.2 ⟨j,hj,M,hM,rfl⟩
   refine⟨.inl I5,BJ fun hz=>?_⟩
   rcases j5 _ hz with q|q
   ·exact Ay (iX j hj OH M hM) q
   ·have:=(J.rbo I5).2.2.2.1;omega
theorem uE (p t:Nat) {H1:Hp} {H2:Option Loc→Hp} (A:Sy n T H ks G0 w0 G a w) (J:Bk cs ts tr z ra nn w0.heap.size mp rp bm bw w (keys H G)) (hC:AH cs w0 ks) (hm:Jw H1 G w0.heap.size) (hp:lg H p=some (some (.blk (dT tv m nn ra rc rp bw)))) (ht:look T t=some (.ptr p 0)) (th at_:Int) (Bo:0≤th∧th<3) (T3:∀k,k<3→inr (m k)) (qF:(0≤((bw th.toNat).getD 0 Wr.z).lc∧((bw th.toNat).getD 0 Wr.z).lc<3)∧OS ((bw th.toNat).getD 0 Wr.z).o ((bw th.toNat).getD 0 Wr.z).s∧inr ((bw th.toNat).getD 0 Wr.z).v) (Er:(bw th.toNat).length≤1000000) (xE:0<(bw th.toNat).length)
  (h1:∀L:Loc,Bi n ops ((t,EZ L.b L.pre.length)::T) o=some (16,[EZ L.b L.pre.length,.agg [.n9 3,.n9 th,.n9 at_,.z9]])) (T4:CE H p none=H1) (Ty:∀p2:Option Loc,CE H1 p (some (.blk (dT tv (AX m (((bw th.toNat).getD 0 Wr.z).lc).toNat (AM (m (((bw th.toNat).getD 0 Wr.z).lc).toNat) ((bw th.toNat).getD 0 Wr.z).o ((bw th.toNat).getD 0 Wr.z).s ((bw th.toNat).getD 0 Wr.z).v)) nn ra rc (AQ rp th.toNat p2) (AQ bw th.toNat ((bw th.toNat).drop 1)))))=H2 p2)
  (k:∀(p2:Option Loc) {a' w' x} (L:Loc),Bk cs ts tr z ra nn w0.heap.size mp (AQ rp th.toNat p2) bm (AQ bw th.toNat ((bw th.toNat).drop 1)) w' (keys (H2 p2) G)→Sy n (BN ((t,EZ L.b L.pre.length)::T) o.dst x) (H2 p2) ks G0 w0 G a' w'→Goal Tryz.prog Q K (.ops ops rest) a' w'):Goal Tryz.prog Q K (.ops ops (o::rest)) a w:=by
 have J6:=hp
 rw [At]at J6
 have I4:p<H.length:=(α0.1 J6).1
 refine Rz (P:=Tryz.prog) p t A hp (Ql tv m nn ra rc rp bw) ht T4 fun L A1 HZ UC Cy Do hG=>?_
 have h3:th.toNat<3:=by omega
 have P:=fun p2=>Qm p J6 T4 (Ty p2) hG
 have P0:=P none
 have Lk:∀b,([L.b]:ae).contains b=true→ks.contains b=true∨w0.heap.size≤b:=fun b hb=>by
  have e:b=L.b:=by simpa using hb
  rw [e];exact Do
 have Bw:∀M:Loc,rp th.toNat=some M→M.b≠L.b:=fun M hM e=>Ay (J.rbo (Cv.2 ⟨_,h3,M,hM,rfl⟩)).2.1 (e▸P0.kL)
 refine Jp [] (oH tv m nn ra rc rp bw L th at_ Bo T3 qF Er xE) A1 ⟨HZ,J.rb.ok _ h3,Bw⟩ Cy Lk (h1 L) U U U U fun{x a' w'} ML hJ A'=>?_
 obtain⟨p2,j1,j6,j7⟩:=hJ
 have A2:=Jg A' p (by subst T4;rw [Aw,η2];exact I4) hG (Ql _ _ _ _ _ _ _) j1 Cy Do (Ty p2)
 have Pe:∀b,(keys (H2 p2) G).contains b=true→(keys H G).contains b=true:=fun b hb=>((P p2).k2 b hb).elim (fun e=>e▸P0.kL) ((P p2).k1 b)
 have hN:=A.mix.size
 have hX1:∀b,(keys H G).contains b=false→([L.b]:ae).contains b=false:=fun b hb=>BJ fun hz=>by
  have e:b=L.b:=by simpa using hz
  exact Ay hb (e▸P0.kL)
 have OH:JT cs ts tr 0 w' [L.b]:=JT.ok _ _ _ _ (JT.ok (N:=0) _ _ _ [L.b] ⟨J.rd.jt.out,J.rd.jt.len,fun j hj b hb=>⟨β7 _,(J.rd.jt.lo j hj b hb).2⟩,J.rd.jt.ap⟩ (CQ.refl _ _) (fun b hb=>.inl (by
  have e:b=L.b:=by simpa using hb
  rw [e];exact AN.2 (.inl P0.kL)))) ML fun b hb=>.inl hb
 refine k p2 L (J.setR (k:=th.toNat) h3 P0.kL (MD ML fun b hb=>Cw.2 (.inl (by simpa using hb))) OH J.rd.ln (fun _ _=>rfl) (fun b hb=>.inl (Cw.2 (.inr (AN.2 (.inr hb))))) (J.rb.set h3 ML (fun j hj OH M hM=>hX1 _ (J.rbo (Cv.2 ⟨j,hj,M,hM,rfl⟩)).2.1) j6 (fun M hM=>?_) (fun j hj OH M M2 hM I5 e=>?_) (fun j hj OH M hM=>BJ fun hz=>?_)) (fun b hb=>?_) hN (fun b hb=>.inl (Pe b hb)) (fun b hb=>EK A.mem (Pe b hb))) A2
 ·have h7:=j7 M hM
  refine⟨by omega,BJ fun hz=>?_⟩
  rcases AN.1 hz with r|r
  ·have:=EK A.mem (Pe _ r);omega
  ·have:=(J.mb.off r).2.2;omega
 ·have:=j7 M2 I5
  have:=(J.rbo (Cv.2 ⟨j,hj,M,hM,rfl⟩)).2.2.2.1;omega
 ·have hr:=J.rbo (Cv.2 ⟨j,hj,M,hM,rfl⟩)
  exact(AN.1 hz).elim (fun q=>Ay hr.2.1 (Pe _ q)) fun q=>Ay hr.2.2.1 q
 ·rcases Qk hb with⟨M,hM,rfl⟩|⟨j,hj,OH,M,hM,rfl⟩
  ·have h7:=j7 M hM
   exact⟨.inr (.inr h7),BJ fun hz=>by
    obtain⟨q,hq,h2⟩:=C4.1 hz
    have:=F9 (J.rd.jt.out q hq) _ h2;omega⟩
  ·have I5:=Cv.2 ⟨j,hj,M,hM,rfl⟩
   exact⟨.inl I5,(J.rbo I5).2.2.2.2⟩
end
end Mc.Ts
end Go.Proofs.YtbbdanhpphlbpaaGreatDoor
