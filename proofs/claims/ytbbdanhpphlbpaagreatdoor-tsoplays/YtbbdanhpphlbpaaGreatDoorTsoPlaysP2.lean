/- TsoPlays, part 2: the engine, contracts, theory. -/
import Derived.Test.YtbbdanhpphlbpaaGreatDoorTsoPlaysP1
import Derived.Test.YtbbdanhpphlbpaaGreatDoorProg
import Derived.Lib.SliceRun
import Derived.Test.YtbbdanhpphlbpaaGreatDoorChecked
import Derived.Lib.ConvBytes
import Derived.WideLaws
import Derived.Laws.AppendOwn
import Derived.Laws.OwnMore
set_option linter.unusedVariables false
set_option linter.unusedSimpArgs false
set_option linter.unusedSectionVars false
set_option maxRecDepth 100000
set_option maxHeartbeats 2000000
namespace Go.Proofs.YtbbdanhpphlbpaaGreatDoor
section
open Go.RowKit
structure Ms (H:Hp)(ks:ae)(G0:Gr)(w0:World)(G:Gr)(w:World):Prop where
 mem:Mem H G w
 pre:∃F,G=G0++F
 own:∀(i:Nat) (e:BZ) (L:Loc),H[i]?=some (some e)→e.mut=true→G[i]?=some (some L)→ks.contains L.b=true∨w0.heap.size≤L.b
 mix:CQ ks w0 w
section
variable {n:Nat}{T:List (Nat×SV)}{H:Hp}{ks:ae}{G0:Gr}{w0:World}{G:Gr}{a:Act}{w w':World}
theorem Sy.ms (A:Sy n T H ks G0 w0 G a w):Ms H ks G0 w0 G w:=⟨A.mem,A.pre,A.own,A.mix⟩
theorem Ms.sy (h:Ms H ks G0 w0 G w)(h1:a.tmps.size=n)(h2:a.defers=[])(h3:∀t x,look T t=some x→den G x=some (a.tmps.getD t undef)):Sy n T H ks G0 w0 G a w:=⟨h1,h2,h3,h.mem,h.pre,h.own,h.mix⟩
theorem Ms.grow (h:Ms H ks G0 w0 G w)(hg:By w w'):Ms H ks G0 w0 G w':=
 ⟨⟨h.mem.len,fun i e hi=>(h.mem.ent i e hi).mix hg.mix (fun _ _ _=>rfl),h.mem.sep⟩,h.pre,h.own,h.mix.grow hg⟩
end
def kD (o:Oper)(j:Nat):Nat→Bool
 |0=>true
 |i+1=>(Nat.beq i j||waits o i)&&kD o j i
theorem NP {o:Oper}{j:Nat}:∀{c:Nat},kD o j c=true→∀i,i<c→i≠j→waits o i=true
 |0,_,_,h,_=>by omega
 | c+1,hb,i,h,Bw=>by
  simp only [kD,α3,β9]at hb
  by_cases hi:i=c
  ·subst hi
   rcases hb.1 with h1|h1
   ·exact absurd (α5 h1) Bw
   ·exact h1
  ·exact NP hb.2 i (by omega) Bw
def MX (t c:Nat):List Oper→Nat→Bool
 | [],_=>true
 |o::l,j=>(match o.dst with|some d=> !Nat.beq d t||kD o j c|none=>true)&&MX t c l (j+1)
theorem Hu {t c:Nat}:∀{l:ai} {j:Nat},MX t c l j=true→∀(i:Nat) (o:Oper),l[i]?=some o→o.dst=some t→kD o (j+i) c=true
 | [],_,_,_,_,h,_=>by cases h
 | p::l,j,hb,i,o,h,hd=>by
  simp only [MX,α3]at hb
  cases i with
  |zero=>
   cases h
   have:=hb.1
   rw [hd]at this
   simpa using this
  |succ i=>rw [show j+(i+1)=j+1+i by omega];exact Hu hb.2 i o h hd
def Dk (l:ai):List (Nat×SV)→List (Nat×SV)
 | []=>[]
 |(t,x)::T=>bif MX t l.length l 0 then(t,x)::Dk l T else Dk l T
theorem D9 {l:ai}:∀{T:List (Nat×SV)} {t:Nat} {x:SV},look (Dk l T) t=some x→look T t=some x∧MX t l.length l 0=true
 | [],_,_,h=>by cases h
 | (k,y)::T,t,x,h=>by
  unfold Dk at h
  cases hb:MX k l.length l 0 with
  | false=>
   rw [hb]at h
   obtain⟨h1,h2⟩:=D9 h
   refine⟨?_,h2⟩
   unfold look
   cases hk:Nat.beq k t with
   |false=>exact h1
   |true=>
    exfalso
    have:=α5 hk
    subst this
    rw [hb]at h2;cases h2
  | true=>
   rw [hb]at h
   simp only [θ5]at h
   unfold look at h⊢
   cases hk:Nat.beq k t with
   |true=>
    rw [hk]at h
    have:=α5 hk
    subst this
    exact⟨h,hb⟩
   |false=>rw [hk]at h;exact D9 h
def Kv (o:Oper):List Oper→List SV→Nat→List (Nat×SV)→List (Nat×SV)
 |p::l,x::xs,k,T=>bif waits o k then BN (Kv o l xs (k+1) T) p.dst x else Kv o l xs (k+1) T
 |_,_,_,T=>T
theorem RN {o:Oper}{T:List (Nat×SV)}{t:Nat}{x:SV}:∀{l:ai} {xs:List SV} {k:Nat},look (Kv o l xs k T) t=some x→(∃i p,l[i]?=some p∧xs[i]?=some x∧waits o (k+i)=true∧p.dst=some t)∨look T t=some x
 | [],_,_,h=>.inr h
 |_::_,[],_,h=>.inr h
 | p ::l,y::xs,k,h=>by
  have rest:look (Kv o l xs (k+1) T) t=some x→(∃i q,(p::l)[i]?=some q∧(y::xs)[i]?=some x∧waits o (k+i)=true∧q.dst=some t)∨look T t=some x:=fun h=>by
   rcases RN h with⟨i,q,h1,h2,h3,h4⟩|h
   ·exact .inl ⟨i+1,q,by simpa using h1,by simpa using h2,by rw [show k+(i+1)=k+1+i by omega];exact h3,h4⟩
   ·exact .inr h
  unfold Kv at h
  cases hb:waits o k with
  |false=>rw [hb]at h;exact rest h
  | true=>
   rw [hb]at h
   simp only [θ5]at h
   cases hd:p.dst with
   |none=>rw [hd]at h;exact rest h
   | some d=>
    rw [hd]at h
    simp only [BN,look]at h
    cases hk:Nat.beq d t with
    |false=>rw [hk]at h;exact rest h
    |true=>
     rw [hk]at h
     cases h
     have:=α5 hk
     subst this
     exact .inl ⟨0,p,rfl,rfl,by simpa using hb,hd⟩
def Jn (X:Tx) (n:Nat) (ops:ah) (pc:List (Nat×SV)) (cl:List (Nat×SV×Hp)):List Oper→Nat→List (Nat×SV)→Hp→Option (List SV×List (Nat×Hp))
  | [],_,_,_=>some ([],[])
  | o ::l,j,T,H=>match cl.lookup j with
    | some (x,H')=>match Jn X n ops pc cl l (j+1) (BN T o.dst x) H' with
      |some (xs,hs)=>some (x::xs,(j,H')::hs)
      |none=>none
    | none=>match look pc j with
     |some x=>match Jn X n ops pc cl l (j+1) (BN T o.dst x) H with
      |some (xs,hs)=>some (x::xs,hs)
      |none=>none
     |none=>match DY X n ops T H o with
      | some (.val x _)=>match Jn X n ops pc cl l (j+1) (BN T o.dst x) H with
        |some (xs,hs)=>some (x::xs,hs)
        |none=>none
      | some (.new t en x)=>Pt (H++[some en]) fun H'=>match Jn X n ops pc cl l (j+1) (BN T o.dst x) H' with
        |some (xs,hs)=>some (x::xs,(j,H')::hs)
        |none=>none
      | some (.upd i cs _)=>Pt (CE H i (some (.blk cs))) fun H'=>match Jn X n ops pc cl l (j+1) T H' with
        |some (xs,hs)=>some (.tup []::xs,(j,H')::hs)
        |none=>none
      |none=>none
def Xq (ops:ah)(p:Nat):Nat→List Edge→Bool
 |0,_=>false
 |f+1,l=>l.any fun e=>Region.binds .any e&&(match ops[e.on]? with|some q=>waits q p||Xq ops p f q.after.toList|none=>false)
theorem Fv {ops:ah}{listed:Array Bool}{p:Nat}(Tv:∀(j:Nat) (o:Oper) (p:Nat),ops[j]?=some o→listed.getD j false=true→waits o p=true→listed.getD p false=true):∀(f:Nat) (l:List Edge),(∀e∈l,Region.binds .any e=true→listed.getD e.on false=true)→Xq ops p f l=true→listed.getD p false=true
 |0,_,_,h=>by cases h
 | f+1,l,hl,h=>by
  unfold Xq at h
  rw [κ9]at h
  obtain⟨e,he,hb⟩:=h
  rw [α3]at hb
  have h1:=hl e he hb.1
  split at hb
  ·next q hq=>
   have h2:=hb.2
   rw [β9]at h2
   rcases h2 with h2|h2
   ·exact Tv _ q p hq h1 h2
   ·refine Fv Tv f _ (fun e' iE aH=>?_) h2
    refine Tv _ q e'.on hq h1 ?_
    unfold waits
    rw [κ9]
    exact⟨e',iE,by simp [aH]⟩
  ·exact absurd hb.2 (by simp)
def wt (ops:ah)(o:Oper)(p:Nat):Bool:=bif waits o p then true else Xq ops p 2 o.after.toList
def Lx (ops:ah)(o:Oper)(j k:Nat):List (Nat×Hp)→Nat→Bool
 | [],_=>true
 |(p,_)::es,m=>(!wt ops o p||Nat.blt m k)&&(match ops[p]? with|some q=> !waits q j||Nat.ble k m|none=>true)&&Lx ops o j k es (m+1)
theorem Od {ops:ah}{o:Oper}{j k:Nat}:∀{es:List (Nat×Hp)} {m:Nat},(∀i p H',es[i]?=some (p,H')→(wt ops o p=true→m+i<k)∧(∀q,ops[p]?=some q→waits q j=true→k≤m+i))→Lx ops o j k es m=true
 | [],_,_=>rfl
 | (p,H')::es,m,h=>by
  obtain⟨h1,h2⟩:=h 0 p H' U
  unfold Lx
  simp only [α3,β9,κ0]
  refine⟨⟨?_,?_⟩,Od fun i q H2 hi=>?_⟩
  ·cases hw:wt ops o p with
   |false=>exact .inl U
   |true=>exact .inr (by have:=h1 hw;simp [μ7];omega)
  ·split
   ·next q hq=>
    simp only [β9,κ0]
    cases hw:waits q j with
    |false=>exact .inl U
    |true=>exact .inr (by have:=h2 q hq hw;simpa using this)
   ·rfl
  ·have:=h (i+1) q H2 hi
   rw [show m+1+i=m+(i+1) by omega];exact this
def NQ (X:Tx)(n:Nat)(ops:ah)(es:List (Nat×Hp))(Tw:List (Nat×SV))(o:Oper)(j:Nat):Nat→List Hp→Option (List SV×Ob)
 |_,[]=>some ([],[])
 | k,H::hs=>match NQ X n ops es Tw o j (k+1) hs with
  |some (D,E)=>bif Lx ops o j k es 0 then(match DY X n ops Tw H o with
   |some (.val x F)=>some (x::D,F++E)
   |_=>none)else some (D,E)
  |none=>none
theorem Gq {X:Tx}{n:Nat}{ops:ah}{es:List (Nat×Hp)}{Tw:List (Nat×SV)}{o:Oper}{j:Nat}:∀{hs:List Hp} {k:Nat} {D:List SV} {E:Ob},NQ X n ops es Tw o j k hs=some (D,E)→Dc E→∀(i:Nat) (H:Hp),hs[i]?=some H→Lx ops o j (k+i) es 0=true→
  ∃x F,DY X n ops Tw H o=some (.val x F)∧Dc F∧x∈D
 | [],k,D,E,h,hE,i,H,hi,hm=>by cases hi
 | H0 ::hs,k,D,E,h,hE,i,H,hi,hm=>by
  unfold NQ at h
  split at h
  ·next D1 E1 iG=>
   cases hb:Lx ops o j k es 0 with
   |false=>
    rw [hb]at h
    cases h
    cases i with
    |zero=>rw [ι6,hb]at hm;cases hm
    |succ i=>exact Gq iG hE i H hi (by rw [show k+1+i=k+(i+1) by omega];exact hm)
   | true=>
    rw [hb]at h
    simp only [θ5]at h
    split at h
    ·next x F hx=>
     cases h
     obtain⟨e1,e2⟩:=Ae hE
     cases i with
     |zero=>cases hi;exact⟨x,F,hx,e1,by simp⟩
     |succ i=>
      obtain⟨y,F',q1,q2,q3⟩:=Gq iG e2 i H hi (by rw [show k+1+i=k+(i+1) by omega];exact hm)
      exact⟨y,F',q1,q2,κ6 _ q3⟩
    ·cases h
  ·cases h
def Gs (j:Nat):List (Nat×Hp)→Bool
 | []=>false
 |(p,_)::es=>Nat.beq p j||Gs j es
theorem Kw {j:Nat}:∀{es:List (Nat×Hp)},Gs j es=true→∃(i:Nat) (H:Hp),es[i]?=some (j,H)
 | [],h=>by cases h
 |(p,H)::es,h=>by
  simp only [Gs,β9]at h
  rcases h with h|h
  ·exact⟨0,H,by rw [α5 h];rfl⟩
  ·obtain⟨i,H',hi⟩:=Kw h;exact⟨i+1,H',hi⟩
theorem RO {j:Nat}:∀{es:List (Nat×Hp)},Gs j es=false→∀(i p:Nat) (H:Hp),es[i]?=some (p,H)→p≠j
 | [],_,i,p,H,h=>by cases h
 |(q,H')::es,hb,i,p,H,h=>by
  simp only [Gs,ε3]at hb
  cases i with
  |zero=>cases h;exact fun e=>by subst e;simp at hb
  |succ i=>exact RO hb.2 i p H h
def Oe (X:Tx) (n:Nat) (ops:ah) (all:ai) (xs:List SV) (T:List (Nat×SV)) (es:List (Nat×Hp)) (hs:List Hp) (pc:List (Nat×SV)):List Oper→List SV→Nat→Option (List (SV×SV)×Ob)
 | [],_,_=>some ([],[])
 |_::_,[],_=>none
 | o::l,x::ys,j=>match Oe X n ops all xs T es hs pc l ys (j+1)with
  | some (D,E)=>bif Gs j es then some (D,E)else(match look pc j with
   |some z=>some ((z,x)::D,E)
   |none=>match NQ X n ops es (Kv o all xs 0 T) o j 0 hs with
    |some (zs,F)=>some (zs.map (fun z=>(z,x))++D,F++E)
    |none=>none)
  |none=>none
theorem Kx {X:Tx} {n:Nat} {ops:ah} {all:ai} {xs:List SV} {T:List (Nat×SV)} {es:List (Nat×Hp)} {hs:List Hp} {pc:List (Nat×SV)}:∀{l:ai} {ys:List SV} {j:Nat} {D:List (SV×SV)} {E:Ob},Oe X n ops all xs T es hs pc l ys j=some (D,E)→Dc E→D.map (·.1)=D.map (·.2)→
  ∀(i:Nat) (o:Oper),l[i]?=some o→Gs (j+i) es=false→∃x,ys[i]?=some x∧(look pc (j+i)=some x∨∀(k:Nat) (H:Hp),hs[k]?=some H→Lx ops o (j+i) k es 0=true→∃F,DY X n ops (Kv o all xs 0 T) H o=some (.val x F)∧Dc F)
 | [],ys,j,D,E,h,hE,hD,i,o,hi,_=>by cases hi
 |_::_,[],j,D,E,h,hE,hD,i,o,hi,_=>by cases h
 | p :: l,y::ys,j,D,E,h,hE,hD,i,o,hi,he=>by
  have step:∀{D1:List (SV×SV)} {E1:Ob},Oe X n ops all xs T es hs pc l ys (j+1)=some (D1,E1)→Dc E1→D1.map (·.1)=D1.map (·.2)→∀i,l[i]?=some o→Gs (j+(i+1)) es=false→∃x,ys[i]?=some x∧(look pc (j+(i+1))=some x∨∀(k:Nat) (H:Hp),hs[k]?=some H→Lx ops o (j+(i+1)) k es 0=true→∃F,DY X n ops (Kv o all xs 0 T) H o=some (.val x F)∧Dc F):=by
   intro D1 E1 h1 e1 d1 i hi he
   have:=Kx h1 e1 d1 i o hi (by rw [show j+1+i=j+(i+1) by omega];exact he)
   rw [show j+1+i=j+(i+1) by omega]at this
   exact this
  unfold Oe at h
  split at h
  ·next D1 E1 h1=>
   cases hb:Gs j es with
   |true=>
    rw [hb]at h
    cases h
    cases i with
    |zero=>rw [ι6,hb]at he;cases he
    |succ i=>exact step h1 hE hD i hi he
   | false=>
    rw [hb]at h
    simp only [cond_false]at h
    split at h
    ·next z hz=>
     cases h
     simp only [ζ0,ι8]at hD
     cases i with
     |zero=>
      cases hi
      refine⟨y,rfl,.inl ?_⟩
      rw [ι6,hz,hD.1]
     |succ i=>exact step h1 hE hD.2 i hi he
    ·split at h
     ·next zs F hz=>
      cases h
      obtain⟨e1,e2⟩:=Ae hE
      simp only [ζ5]at hD
      obtain⟨d1,d2⟩:=υ1 hD (by simp)
      cases i with
      | zero=>
       cases hi
       refine⟨y,rfl,.inr fun k H hk hm=>?_⟩
       obtain⟨x,F',q1,q2,q3⟩:=Gq hz e1 k H hk (by rw [δ1];exact hm)
       have:x=y:=by
        simp only [τ9]at d1
        have:=List.map_inj_left.1 d1 x q3
        simpa using this
       subst this
       exact⟨F',q1,q2⟩
      |succ i=>exact step h1 e2 d2 i hi he
     ·cases h
  ·cases h
def Ee (ops:ah):List (Nat×Hp)→Bool
 |(p,H)::(q,H')::es=>(match ops[q]? with|some o=>wt ops o p|none=>false)&&Nat.blt p q&&Ee ops ((q,H')::es)
 |_=>true
theorem Ky {ops:ah}:∀{es:List (Nat×Hp)},Ee ops es=true→∀(i p:Nat) (H:Hp) (q:Nat) (H':Hp),es[i]?=some (p,H)→es[i+1]?=some (q,H')→∃o,ops[q]?=some o∧wt ops o p=true
 | [],_,i,p,H,q,H',h,_=>by cases h
 | [_],_,i,p,H,q,H',_,h=>by simp at h
 | (a,Ha)::(b,Hb)::es,hb,i,p,H,q,H',h1,h2=>by
  simp only [Ee,α3]at hb
  cases i with
  |zero=>
   cases h1;cases h2
   have:=hb.1.1
   split at this
   ·next o ho=>exact⟨o,ho,this⟩
   ·cases this
  |succ i=>exact Ky hb.2 i p H q H' h1 h2
theorem Si {ops:ah}:∀{es:List (Nat×Hp)},Ee ops es=true→∀(i k p:Nat) (H H':Hp),es[i]?=some (p,H)→es[k]?=some (p,H')→i=k:=by
 have lt:∀{es:List (Nat×Hp)} {p:Nat} {H:Hp},Ee ops ((p,H)::es)=true→∀(k q:Nat) (H':Hp),es[k]?=some (q,H')→p<q:=by
  intro es
  induction es with
  |nil=>intro p H _ k q H' h;cases h
  |cons x es ih=>
   obtain⟨b,Hb⟩:=x
   intro p H hb k q H' h
   simp only [Ee,α3]at hb
   have h1:p<b:=by have:=hb.1.2;simpa [μ7]using this
   cases k with
   |zero=>cases h;exact h1
   |succ k=>have:=ih hb.2 k q H' h;omega
 intro es
 induction es with
 |nil=>intro _ i k p H H' h;cases h
 | cons x es ih=>
  obtain⟨b,Hb⟩:=x
  intro hb i k p H H' h1 h2
  have UA:Ee ops es=true:=by
   cases es with
   |nil=>rfl
   |cons y es=>simp only [Ee,α3]at hb;exact hb.2
  cases i with
  |zero=>
   cases k with
   |zero=>rfl
   |succ k=>cases h1;exact absurd (lt hb k _ H' h2) (by omega)
  |succ i=>
   cases k with
   |zero=>cases h2;exact absurd (lt hb i _ H h1) (by omega)
   |succ k=>rw [ih UA i k p H H' h1 h2]
def JN:List Oper→List SV→List (Nat×SV)→List (Nat×SV)
 |o::l,x::xs,T=>BN (JN l xs T) o.dst x
 |_,_,T=>T
theorem Kz {T:List (Nat×SV)}{t:Nat}{x:SV}:∀{l:ai} {xs:List SV},xs.length=l.length→look (JN l xs T) t=some x→(∃(i:Nat) (p:Oper),l[i]?=some p∧xs[i]?=some x∧p.dst=some t)∨(look T t=some x∧∀(i:Nat) (p:Oper),l[i]?=some p→p.dst≠some t)
 | [],_,_,h=>.inr ⟨h,fun i p h=>by cases h⟩
 |_::_,[],hl,h=>by cases hl
 | p::l,y::xs,hl,h=>by
  have rest:look (JN l xs T) t=some x→p.dst≠some t→(∃(i:Nat) (q:Oper),(p::l)[i]?=some q∧(y::xs)[i]?=some x∧q.dst=some t)∨(look T t=some x∧∀(i:Nat) (q:Oper),(p::l)[i]?=some q→q.dst≠some t):=fun h hp=>by
   rcases Kz (by simpa using hl) h with⟨i,q,h1,h2,h4⟩|⟨h1,h2⟩
   ·exact .inl ⟨i+1,q,by simpa using h1,by simpa using h2,h4⟩
   ·refine .inr ⟨h1,fun i q hq=>?_⟩
    cases i with
    |zero=>cases hq;exact hp
    |succ i=>exact h2 i q (by simpa using hq)
  unfold JN at h
  cases hd:p.dst with
  |none=>rw [hd]at h;exact rest h (by rw [hd];simp)
  | some d=>
   rw [hd]at h
   simp only [BN,look]at h
   cases hk:Nat.beq d t with
   |false=>
    rw [hk]at h
    refine rest h fun e=>?_
    rw [hd]at e;cases e
    rw [show Nat.beq t t=true from η8 t]at hk;cases hk
   |true=>
    rw [hk]at h
    cases h
    have:=α5 hk
    subst this
    exact .inl ⟨0,p,rfl,rfl,hd⟩
section
variable {P:Program}{X:Tx}{n:Nat}{ks:ae}{G0:Gr}{w0:World}{T:List (Nat×SV)}{l:ai}{xs:List SV}{es:List (Nat×Hp)}{hs:List Hp}{Q:ab}
structure kE (n:Nat)(ks:ae)(G0:Gr)(w0:World)(T:List (Nat×SV))(l:ai)(xs:List SV)(es:List (Nat×Hp))(hs:List Hp)(listed:Array Bool)(k:Nat)(G:Gr)(a:Act)(w:World):Prop where
 size:a.tmps.size=n
 defers:a.defers=[]
 base:∀t x,look T t=some x→(∀(j:Nat) (o:Oper),l[j]?=some o→o.dst=some t→listed.getD j false=false)→den G x=some (a.tmps.getD t undef)
 done:∀(j:Nat) (o:Oper) (x:SV) (d:Nat),l[j]?=some o→listed.getD j false=true→xs[j]?=some x→o.dst=some d→den G x=some (a.tmps.getD d undef)
 ms:∃H,hs[k]?=some H∧Ms H ks G0 w0 G w
 eff:∀(i p:Nat) (H':Hp),es[i]?=some (p,H')→(listed.getD p false=true↔i<k)
 closed:∀(j:Nat) (o:Oper) (p:Nat),l[j]?=some o→listed.getD j false=true→waits o p=true→listed.getD p false=true
def BG (P:Program)(n:Nat)(ops:ah)(ks:ae)(G0:Gr)(w0:World)(Tw:List (Nat×SV))(H:Hp)(o:Oper)(x:SV)(H':Hp):Prop:=
 ∀G a w,Sy n Tw H ks G0 w0 G a w→BY P ops o a w fun v w'=>∃F,den (G++F) x=some v∧Ms H' ks G0 w0 (G++F) w'
theorem Ua {ops:ah}{o:Oper}{H:Hp}{Tw:List (Nat×SV)}{G:Gr}{a:Act}{w:World}(hX:X.ok P=true)(A:Sy n Tw H ks G0 w0 G a w){x:SV}{E:Ob}(h:DY X n ops Tw H o=some (.val x E))(hE:Dc E):∃z,den G x=some z∧∀K:Value→World→Prop,K z w→BY P ops o a w K:=by
 unfold DY at h
 have u9:KA none:=fun g hg=>by cases hg
 split at h
 ·next hd=>
  split at h
  ·next hg=>
   obtain⟨z,hz,k⟩:=KP (P:=P) (ops:=ops) hX A h
   exact⟨z,hz,k hE u9 (A7 (gd:=none) A hg)⟩
  ·next hg=>cases h;exact⟨undef,rfl,fun K hK=>FS (RG A hg) hK⟩
  ·next b hg=>
   split at h
   ·next y F hx=>
    cases h
    have hw:=Pr A hg
    obtain⟨z,hz,k⟩:=KP (P:=P) (ops:=ops) hX A hx
    cases b with
    |true=>exact⟨z,by simp [den,hz],k hE (fun g hg=>by cases hg;rfl) hw⟩
    |false=>exact⟨undef,by simp [den,hz],fun K hK=>FS hw hK⟩
   ·cases h
  ·cases h
 ·cases h
theorem Ub (hX:X.ok P=true) (FQ:Kj l.toArray n []=true) (Wy:Ee l.toArray es=true) (hT:∀t x,look T t=some x→∀(j:Nat) (o:Oper),l[j]?=some o→o.dst=some t→∀i,i<l.length→i≠j→waits o i=true) (hl:xs.length=l.length) (hlen:hs.length=es.length+1)
  (pQ:∀(i:Nat) (o:Oper),l[i]?=some o→Gs i es=false→∃x,xs[i]?=some x∧∀(k:Nat) (H:Hp),hs[k]?=some H→Lx l.toArray o i k es 0=true→BG P n l.toArray ks G0 w0 (Kv o l xs 0 T) H o x H)
  (pR:∀(m p:Nat) (H':Hp),es[m]?=some (p,H')→hs[m+1]?=some H'∧∃o x H,l[p]?=some o∧xs[p]?=some x∧hs[m]?=some H∧BG P n l.toArray ks G0 w0 (Kv o l xs 0 T) H o x H')
  (Wz:∀G a w H,hs[es.length]?=some H→Sy n (JN l xs T) H ks G0 w0 G a w→Q .normal a w):
  ∀(fuel:Nat) (listed:Array Bool) (a:Act) (w:World) (k:Nat) (G:Gr),listed.size=l.length→((List.range l.length).filter fun i=> !listed.getD i true).length≤fuel→kE n ks G0 w0 T l xs es hs listed k G a w→wpAny P .any l.toArray Q fuel listed a w:=by
 have last:∀(listed:Array Bool) (a:Act) (w:World) (k:Nat) (G:Gr),listed.size=l.length→Region.ready .any l.toArray listed=[]→kE n ks G0 w0 T l xs es hs listed k G a w→Q .normal a w:=by
  intro listed a w k G Kh hr I
  have all:∀i,i<l.length→listed.getD i false=true:=by
   intro i
   induction i using Nat.strongRecOn with
   | _ i ih=>
    intro hi
    cases hq:listed.getD i false with
    |true=>rfl
    | false=>
     exfalso
     have:i∈Region.ready .any l.toArray listed:=by
      rw [mem_ready]
      have vE:i<listed.size:=by omega
      have OF:l.toArray[i]?=some l[i]:=by simp [hi]
      refine⟨by simpa [vE]using hq,l[i],OF,fun e he hb=>?_⟩
      have BU:=(IH FQ OF).2 e he hb
      exact ih e.on BU (by omega)
     rw [hr]at this;cases this
  obtain⟨H,h1,h2⟩:=I.ms
  have hk:k=es.length:=by
   have rI:k<hs.length:=(α0.1 h1).1
   by_cases hk:k<es.length
   ·exfalso
    have he:es[k]?=some (es[k].1,es[k].2):=by simp [hk]
    obtain⟨_,o,x,_,ho,_⟩:=pR k _ _ he
    have hp:es[k].1<l.length:=(α0.1 ho).1
    have:=(I.eff k _ _ he).1 (all _ hp)
    omega
   ·omega
  subst hk
  refine Wz G a w H h1 (h2.sy I.size I.defers fun t x hx=>?_)
  rcases Kz hl hx with⟨i,p,q1,q2,q3⟩|⟨hx,ZG⟩
  ·exact I.done i p x t q1 (all i (α0.1 q1).1) q2 q3
  ·exact I.base t x hx fun j o h1 h2=>absurd h2 (ZG j o h1)
 intro fuel
 induction fuel with
 | zero=>
  intro listed a w k G Kh hf I
  have hr:Region.ready .any l.toArray listed=[]:=by
   unfold Region.ready
   rw [μ9]
   intro i hi
   have W0:((List.range l.length).filter fun i=> !listed.getD i true)=[]:=γ9 (by omega)
   rw [μ9]at W0
   have:=W0 i (by simpa using hi)
   simp only [τ5,σ3]at this
   simp [this]
  exact⟨hr,last listed a w k G Kh hr I⟩
 | succ fuel ih=>
  intro listed a w k G Kh hf I
  refine⟨fun hr=>last listed a w k G Kh hr I,fun i hi=>?_⟩
  obtain⟨pS,o,OF,GZ⟩:=mem_ready.1 hi
  have XO:i<l.length:=by have:=(ε1.1 OF).1;simpa using this
  have KL:l[i]?=some o:=by simpa using OF
  obtain⟨pT,uI⟩:=IH FQ OF
  have Lf:listed.getD i false=false:=by
   have BU:i<listed.size:=by omega
   simpa [BU]using pS
  have hw:∀p,waits o p=true→listed.getD p false=true:=fun p hp=>by
   unfold waits at hp
   rw [κ9]at hp
   obtain⟨e,iE,hb⟩:=hp
   have he:e∈o.after:=by simpa using iE
   simp only [α3,ε5]at hb
   rw [←hb.2]
   exact GZ e he hb.1
  obtain⟨H,vF,hMs⟩:=I.ms
  have A:Sy n (Kv o l xs 0 T) H ks G0 w0 G a w:=hMs.sy I.size I.defers fun t x hx=>by
   rcases RN hx with⟨j,p,q1,q2,q3,q4⟩|hx
   ·exact I.done j p x t q1 (hw j (by simpa using q3)) q2 q4
   ·refine I.base t x hx fun j p h1 h2=>?_
    by_cases Gf:j=i
    ·subst Gf;exact Lf
    ·cases hlj:listed.getD j false with
     |false=>rfl
     |true=>
      have:=I.closed j p i h1 hlj (hT t x hx j p h1 h2 i XO (ε9 Gf))
      rw [Lf]at this;cases this
  have next:∀(x:SV) (v:Value) (w':World) (F:Gr) (k':Nat),xs[i]?=some x→den (G++F) x=some v→(∃H',hs[k']?=some H'∧Ms H' ks G0 w0 (G++F) w')→
    (∀(m p:Nat) (H':Hp),es[m]?=some (p,H')→((p=i∨m<k)↔m<k'))→wpAny P .any l.toArray Q fuel (listed.setIfInBounds i true) (a.put o.dst v) w':=by
   intro x v w' F k' hx hv jF Dz
   have BU:i<listed.size:=by omega
   have Jk:∀j,(listed.setIfInBounds i true).getD j false=true↔(j=i∨listed.getD j false=true):=by
    intro j
    by_cases Gf:j=i
    ·subst Gf;simp [BU]
    ·rw [Kk false (ε9 Gf)];simp [Gf]
   refine ih _ _ _ k' (G++F) (by simpa using Kh) ?_ ⟨?_,?_,fun t y hy ZG=>?_,fun j p y d q1 q2 q3 q4=>?_,jF,fun m p H' hm=>?_,fun j p r q1 q2 q3=>?_⟩
   ·have:((List.range l.length).filter fun k=> !(listed.setIfInBounds i true).getD k true).length<((List.range l.length).filter fun k=> !listed.getD k true).length:=by
     have HD:((List.range l.length).filter fun k=> !(listed.setIfInBounds i true).getD k true)=((List.range l.length).filter fun k=> !listed.getD k true).filter (fun k=>k !=i):=by
      rw [List.filter_filter]
      apply σ9
      intro k _
      by_cases hk:k=i
      ·subst hk;simp [BU]
      ·rw [Kk true (ε9 hk)];simp [hk]
     rw [HD]
     refine ν4.2 ⟨i,?_,by simp⟩
     simp only [ν0,ζ8]
     exact⟨XO,by rw [pS];rfl⟩
    omega
   ·cases hd:o.dst<;>simp [Act.put,I.size]
   ·cases hd:o.dst<;>simp [Act.put,I.defers]
   ·have iH:∀(j:Nat) (q:Oper),l[j]?=some q→q.dst=some t→listed.getD j false=false:=fun j q h1 h2=>by
     have h3:=ZG j q h1 h2
     cases hlj:listed.getD j false with
     |false=>rfl
     |true=>rw [(Jk j).2 (.inr hlj)]at h3;cases h3
    have h1:=Ax F y (I.base t y hy iH)
    cases hd:o.dst with
    |none=>exact h1
    | some d=>
     have Bw:d≠t:=fun e=>by
      have h3:=ZG i o KL (by rw [hd,e])
      rw [(Jk i).2 (.inl U)]at h3;cases h3
     simp only [Act.put,β5]
     rw [η7 Bw,←β5]
     exact h1
   ·by_cases Gf:j=i
    ·subst Gf
     rw [KL]at q1;cases q1
     rw [hx]at q3;cases q3
     have vG:d<a.tmps.size:=by rw [I.size];exact(pT d q4).1
     rw [q4]
     simp [Act.put,vG,hv]
    ·have h2:listed.getD j false=true:=by
      rcases(Jk j).1 q2 with h|h
      ·exact absurd h Gf
      ·exact h
     have h1:=Ax F y (I.done j p y d q1 h2 q3 q4)
     cases hd:o.dst with
     |none=>exact h1
     | some d'=>
      have Bw:d'≠d:=fun e=>by
       subst e
       exact Gf ((pT d' hd).2.1 j (by simpa using (α0.1 q1).1) (by simp [Ki,q1,q4]))
      simp only [Act.put,β5]
      rw [η7 Bw,←β5]
      exact h1
   ·rw [Jk p,I.eff m p H' hm];exact Dz m p H' hm
   ·rw [Jk r]
    by_cases Gf:j=i
    ·subst Gf;rw [KL]at q1;cases q1;exact .inr (hw r q3)
    ·rcases(Jk j).1 q2 with h|h
     ·exact absurd h Gf
     ·exact .inr (I.closed j p r q1 h q3)
  have fin:∀{x:SV} {k':Nat},xs[i]?=some x→(∀(m p:Nat) (H':Hp),es[m]?=some (p,H')→((p=i∨m<k)↔m<k'))→∀{H':Hp},hs[k']?=some H'→BY P l.toArray o a w (fun v w'=>∃F,den (G++F) x=some v∧Ms H' ks G0 w0 (G++F) w')→wpOp P l.toArray Q i (wpAny P .any l.toArray Q fuel (listed.setIfInBounds i true)) a w:=by
   intro x k' hx Dz H' W1 hd
   unfold wpOp
   rcases hd with⟨W2,h⟩|⟨W2,F,h1,h2⟩
   ·simp only [OF,W2,if_true]
    refine .inl (κ4 (fun a2 w2 h=>?_) (h Q))
    obtain⟨v,rfl,F,h1,h2⟩:=h
    exact next x v w2 F k' hx h1 ⟨H',W1,h2⟩ Dz
   ·simp only [OF,W2,θ3,ξ6]
    exact next x undef w F k' hx h1 ⟨H',W1,h2⟩ Dz
  cases he:Gs i es with
  | true=>
   obtain⟨m,H',hm⟩:=Kw he
   obtain⟨W1,o',x,Hm,e1,e2,e3,e4⟩:=pR m i H' hm
   rw [KL]at e1;cases e1
   have rJ:m=k:=by
    have h1:¬m<k:=fun h=>by have:=(I.eff m i H' hm).2 h;rw [this]at Lf;cases Lf
    have h2:m≤k:=by
     cases m with
     |zero=>omega
     | succ m=>
      have vH:m<es.length:=by have:=(α0.1 hm).1;omega
      have yK:es[m]?=some (es[m].1,es[m].2):=by simp [vH]
      obtain⟨o2,g1,g2⟩:=Ky Wy m _ _ i H' yK hm
      rw [OF]at g1;cases g1
      have g3:listed.getD es[m].1 false=true:=by
       unfold wt at g2
       cases hd:waits o es[m].1 with
       |true=>exact hw _ hd
       |false=>
        rw [hd]at g2
        refine Fv (fun j q p' hq hj vI=>I.closed j q p' (by simpa using hq) hj vI) 2 _ (fun e he hb=>hw e.on ?_) g2
        unfold waits
        rw [κ9]
        exact⟨e,he,by simp [hb]⟩
      have:=(I.eff m _ _ yK).1 g3
      omega
    omega
   subst rJ
   rw [vF]at e3;cases e3
   refine fin e2 (k':=m+1) (fun m' p H2 PR=>?_) W1 (e4 G a w A)
   constructor
   ·rintro (rfl|h)
    ·have:=Si Wy m' m _ H2 H' PR hm;omega
    ·omega
   ·intro h
    by_cases vJ:m'=m
    ·subst vJ;rw [hm]at PR;cases PR;exact .inl U
    ·exact .inr (by omega)
  | false=>
   obtain⟨x,e1,e2⟩:=pQ i o KL he
   have iI:Lx l.toArray o i k es 0=true:=Od fun m p H' hm=>by
    rw [δ1]
    refine⟨fun Hr=>(I.eff m p H' hm).1 ?_,fun q hq Hr=>?_⟩
    ·unfold wt at Hr
     cases hd:waits o p with
     |true=>exact hw p hd
     |false=>
      rw [hd]at Hr
      refine Fv (fun j q p' hq hj vI=>I.closed j q p' (by simpa using hq) hj vI) 2 _ (fun e he hb=>hw e.on ?_) Hr
      unfold waits
      rw [κ9]
      exact⟨e,he,by simp [hb]⟩
    by_cases rJ:m<k
    ·exfalso
     have hp:=(I.eff m p H' hm).2 rJ
     have:=I.closed p q i (by simpa using hq) hp Hr
     rw [this]at Lf;cases Lf
    ·omega
   refine fin e1 (k':=k) (fun m p H' hm=>?_) vF (e2 k H vF iI G a w A)
   constructor
   ·rintro (rfl|h)
    ·exact absurd U (RO he m _ H' hm)
    ·exact h
   ·exact fun h=>.inr h
end
def bL (H:Hp):Out→SV
 | .val x _=>x
 | .new _ _ x=>x
 | .upd _ _ _=>.tup []
def RP (X:Tx) (n:Nat) (ops:ah) (l:ai) (xs:List SV) (T:List (Nat×SV)) (cl:List (Nat×SV×Hp)):List (Nat×Hp)→Hp→Option (List (SV×SV)×List (Hp×Hp)×Ob)
 | [],_=>some ([],[],[])
 | (p,H')::es,H=>match RP X n ops l xs T cl es H' with
  | some (D,DH,E)=>match lg l p,lg xs p with
   | some o,some x=>match cl.lookup p with
    |some (y,_)=>some ((y,x)::D,DH,E)
    |none=>match DY X n ops (Kv o l xs 0 T) H o with
     |some out=>some ((bL H out,x)::D,(Lw H out,H')::DH,OV out++E)
     |none=>none
   |_,_=>none
  |none=>none
section
variable {P:Program}{X:Tx}{n:Nat}{ks:ae}{G0:Gr}{w0:World}{T:List (Nat×SV)}{l:ai}{xs:List SV}{Q:ab}{cl:List (Nat×SV×Hp)}
def JO (P:Program)(n:Nat)(ops:ah)(ks:ae)(G0:Gr)(w0:World)(l:ai)(xs:List SV)(T:List (Nat×SV))(cl:List (Nat×SV×Hp)):List (Nat×Hp)→Hp→Prop
 | [],_=>True
 |(p,H')::es,H=>(match cl.lookup p,lg l p with|some (x,_),some o=>BG P n ops ks G0 w0 (Kv o l xs 0 T) H o x H'|_,_=>True)∧JO P n ops ks G0 w0 l xs T cl es H'
theorem An {ops:ah}:∀(es:List (Nat×Hp)) (H:Hp),JO P n ops ks G0 w0 l xs T [] es H
 | [],_=>trivial
 |(p,H')::es,H=>⟨by simp,An es H'⟩
theorem AT {ops:ah}{o:Oper}{H:Hp}{Tw:List (Nat×SV)}{out:Out}(hX:X.ok P=true)(h:DY X n ops Tw H o=some out)(hE:Dc (OV out)):BG P n ops ks G0 w0 Tw H o (bL H out) (Lw H out):=by
 intro G a w A
 cases out with
 |val x E=>
  obtain⟨z,hz,k⟩:=Ua (P:=P) hX A h hE
  exact k _ ⟨[],by simpa [bL]using hz,by simpa [Lw]using A.ms⟩
 | new t en x=>
  unfold DY at h
  split at h
  ·next hd=>
   split at h
   ·next hg=>
    exact KQ (P:=P) (ops:=ops) hX A h (A7 (gd:=none) A hg) fun g w' v a1 a2 a3 a4 a5=>⟨[some ⟨g,[],[],t⟩],a5,(A.newBlk a1 a2 a3 a4).ms⟩
   ·cases h
   ·split at h<;>cases h
   ·cases h
  ·cases h
 | upd i cs E=>
  unfold DY at h
  split at h
  ·next hd=>
   split at h
   ·next hg=>
    refine RH hX A h hE (A7 (gd:=none) A hg) fun cs0 L vs' w' a1 a2 a3 a4 a5=>⟨[],rfl,?_⟩
    simpa [Lw]using (A.turn a1 a2 a3 a4 a5).ms
   ·cases h
   ·split at h<;>cases h
   ·cases h
  ·cases h
theorem Hv {ops:ah}(hX:X.ok P=true):∀{es:List (Nat×Hp)} {H:Hp} {D:List (SV×SV)} {DH:List (Hp×Hp)} {E:Ob},RP X n ops l xs T cl es H=some (D,DH,E)→Dc E→D.map (·.1)=D.map (·.2)→DH.map (·.1)=DH.map (·.2)→JO P n ops ks G0 w0 l xs T cl es H→
  ∀(m p:Nat) (H':Hp),es[m]?=some (p,H')→(H::es.map (·.2))[m+1]?=some H'∧∃o x Hm,l[p]?=some o∧xs[p]?=some x∧(H::es.map (·.2))[m]?=some Hm∧BG P n ops ks G0 w0 (Kv o l xs 0 T) Hm o x H'
 | [],_,_,_,_,_,_,_,_,_,m,p,H',hm=>by cases hm
 | (q, Hq)::es,H,D,DH,E,h,hE,hD,XP,hA,m,p,H',hm=>by
  unfold RP at h
  obtain⟨vK,yL⟩:=hA
  split at h
  ·next D1 DH1 E1 h1=>
   split at h
   ·next o x ho hx=>
    rw [ho]at vK
    rw [At]at ho hx
    split at h
    ·next y Hy hc=>
     cases h
     simp only [ζ0,ι8]at hD
     rw [hc]at vK
     cases m with
     |zero=>
      cases hm
      refine⟨by simp,o,x,H,ho,hx,rfl,?_⟩
      have:=hD.1
      subst this
      exact vK
     |succ m=>
      have:=Hv hX h1 hE hD.2 XP yL m p H' (by simpa using hm)
      simpa using this
    ·next hc=>
     split at h
     ·next out hs=>
      cases h
      obtain⟨e1,e2⟩:=Ae hE
      simp only [ζ0,ι8]at hD XP
      cases m with
      |zero=>
       cases hm
       refine⟨by simp,o,x,H,ho,hx,rfl,?_⟩
       have:=AT (P:=P) (ks:=ks) (G0:=G0) (w0:=w0) hX hs e1
       rw [hD.1,XP.1]at this
       exact this
      |succ m=>
       have:=Hv hX h1 e2 hD.2 XP.2 yL m p H' (by simpa using hm)
       simpa using this
     ·cases h
   ·cases h
  ·cases h
theorem EY {ops:ah}{pc:List (Nat×SV)}:∀{l:ai} {j:Nat} {T:List (Nat×SV)} {H:Hp} {xs:List SV} {es:List (Nat×Hp)},Jn X n ops pc cl l j T H=some (xs,es)→xs.length=l.length
 | [],_,_,_,_,_,h=>by cases h;rfl
 | o ::l,j,T,H,xs,es,h=>by
  unfold Jn at h
  split at h
  ·split at h
   ·next xs' rK h1=>cases h;simp [EY h1]
   ·cases h
  ·split at h
   ·split at h
    ·next xs' rK h1=>cases h;simp [EY h1]
    ·cases h
   ·split at h
    ·split at h
     ·next xs' rK h1=>cases h;simp [EY h1]
     ·cases h
    ·rw [Gn]at h
     split at h
     ·next xs' rK h1=>cases h;simp [EY h1]
     ·cases h
    ·rw [Gn]at h
     split at h
     ·next xs' rK h1=>cases h;simp [EY h1]
     ·cases h
    ·cases h
def MY:Hp→List (Nat×Hp)→Hp
 |H,[]=>H
 |_,(_,H)::es=>MY H es
theorem Of:∀(es:List (Nat×Hp)) (H:Hp),(H::es.map (·.2))[es.length]?=some (MY H es)
 | [],H=>rfl
 |(p,H')::es,H=>by simpa [MY]using Of es H'
theorem Ct {ops:ah}{Tw:List (Nat×SV)}{H:Hp}{o:Oper}{f:Nat}{az:List SV}{x:SV}(h:Bi n ops Tw o=some (f,az))(JB:HH 0 az=true)(hf:Fn P f az [] (Rt x [])):BG P n ops ks G0 w0 Tw H o x H:=by
 intro G a w A
 obtain⟨CG,hf⟩:=hf
 obtain⟨hd,vs,hv,Lp⟩:=DO (P:=P) (ops:=ops) A h CG
 have hM:Mem [] [] w:=⟨rfl,fun i e h=>(by cases h),fun i j e f L M _ h=>(by cases h)⟩
 have iJ:AO [] az=some vs:=by
  have:=BS (G:=G) az JB
  simp only [θ4]at this
  rw [this];exact hv
 refine Lp (hf [] w vs hM iJ) ?_
 rintro e w' ⟨y,H',F,v,⟨rfl,rfl⟩,hx,rfl,I5,DE,_⟩
 have hF:F=[]:=by have:=I5.len;simp at this;exact γ9 this.symm
 subst hF
 have hg:By w w':=⟨DE.os,DE.tape,DE.output,DE.size,fun k hk=>DE.block k hk U⟩
 refine⟨v,rfl,[],?_,by simpa using A.ms.grow hg⟩
 have:=Ax (G:=[]) G y (by simpa using hx)
 simpa using this
def Og (n:Nat) (ops:ah) (T:List (Nat×SV)) (o:Oper):Option (Bool×Nat×List SV×Ob):=match DF n o.dst with
 | true=>match Av ops T o.guard with
  | some (.sym b)=>match o.op with
   | .call c=>match c.callee with
    | .value x=>match HG (some b) T x with
     |some (.fn f l,E0)=>match Sc (some b) T c.args.toList with
      |some (az,E)=>some (b,f,az++l,E0++E)
      |_=>none
     |_=>none
    |_=>none
   |_=>none
  |_=>none
 |false=>none
theorem Oh {ops:ah}{o:Oper}{H:Hp}{T:List (Nat×SV)}{G:Gr}{a:Act}{w:World}(A:Sy n T H ks G0 w0 G a w){b:Bool}{f:Nat}{az:List SV}{E:Ob}(h:Og n ops T o=some (b,f,az,E))(hE:Dc E)(CG:b=true→HT P f=some (false,false)):(b=false→Region.wanted o (yielded ops a.tmps)=false)∧(b=true→∃vs,AO G az=some vs∧∀{R:Ending→World→Prop} {K:Value→World→Prop},Calls P f vs.toArray w R→(∀e w',R e w'→∃v,e=.returned v∧K v w')→BY P ops o a w K):=by
 obtain⟨d,i,ty,pos,af,gd⟩:=o
 unfold Og at h
 split at h
 ·next hd=>
  split at h
  ·next b' hg=>
   have hw:=Pr A hg
   split at h
   ·next c hc=>
    simp only at hc
    subst hc
    obtain⟨callee,args,ats⟩:=c
    simp only at h
    split at h
    ·next x=>
     split at h
     ·next f' l E0 hx=>
      split at h
      ·next az' E' hs=>
       cases h
       refine⟨fun hb=>by rw [hw,hb],fun hb=>?_⟩
       subst hb
       have h1:=A.evg (fun g hg=>by cases hg;rfl) hx (Ae hE).1
       unfold den at h1
       obtain⟨ls,h2,h3⟩:=γ8.1 h1
       obtain⟨us,h4,h5⟩:=KO A hs
       have h6:=h5 (Ae hE).2 (fun g hg=>by cases hg;rfl)
       refine⟨us++ls,Cj h4 h2,fun hc hk=>?_⟩
       refine RL (lb:=ls.toArray) (vs:=us.toArray) (us:=(us++ls).toArray) hw h3.symm (CG U) ?_ (by simp) hc hk
       rw [←h6];apply ν6;simp
      ·cases h
     ·cases h
    ·cases h
   ·cases h
  ·cases h
 ·cases h
theorem Sj {ops:ah}{Tw:List (Nat×SV)}{H:Hp}{o:Oper}{b:Bool}{f:Nat}{az:List SV}{E:Ob}{x:SV}{v0:Value}(h:Og n ops Tw o=some (b,f,az,E))(hE:Dc E)(JB:HH 0 az=true)(vL:den [] x=some v0)(hf:b=true→Fn P f az [] (Rt x [])):BG P n ops ks G0 w0 Tw H o (.opt b x) H:=by
 intro G a w A
 obtain⟨k1,k2⟩:=Oh (P:=P) (ops:=ops) A h hE (fun hb=>(hf hb).1)
 cases b with
 |false=>
  refine FS (k1 U) ⟨[],?_,by simpa using A.ms⟩
  have:=Ax (G:=[]) G x (by simpa using vL)
  simp at this
  simp [den,this]
 | true=>
  obtain⟨CG,hf⟩:=hf U
  obtain⟨vs,hv,Lp⟩:=k2 U
  have hM:Mem [] [] w:=⟨rfl,fun i e h=>(by cases h),fun i j e f L M _ h=>(by cases h)⟩
  have iJ:AO [] az=some vs:=by
   have:=BS (G:=G) az JB
   simp only [θ4]at this
   rw [this];exact hv
  refine Lp (hf [] w vs hM iJ) ?_
  rintro e w' ⟨y,H',F,v,⟨rfl,rfl⟩,hx,rfl,I5,DE,_⟩
  have hF:F=[]:=by have:=I5.len;simp at this;exact γ9 this.symm
  subst hF
  have hg:By w w':=⟨DE.os,DE.tape,DE.output,DE.size,fun k hk=>DE.block k hk U⟩
  refine⟨v,rfl,[],?_,by simpa using A.ms.grow hg⟩
  have:=Ax (G:=[]) G y (by simpa using hx)
  simp at this
  simp [den,this]
def kF (P:Program)(n:Nat)(ops:ah)(Tw:List (Nat×SV))(o:Oper)(x:SV):Prop:=
 (∃f az,Bi n ops Tw o=some (f,az)∧HH 0 az=true∧Fn P f az [] (Rt x []))∨∃b y f az E v0,Og n ops Tw o=some (b,f,az,E)∧x=.opt b y∧Dc E∧HH 0 az=true∧den [] y=some v0∧(b=true→Fn P f az [] (Rt y []))
def Oi (P:Program)(n:Nat)(ops:ah)(l:ai)(xs:List SV)(T:List (Nat×SV)):List (Nat×SV)→Prop
 | []=>True
 |(j,x)::pc=>(match lg l j with|some o=>kF P n ops (Kv o l xs 0 T) o x|none=>True)∧Oi P n ops l xs T pc
theorem Zb {ops:ah}:∀{pc:List (Nat×SV)} {j:Nat} {x:SV} {o:Oper},Oi P n ops l xs T pc→look pc j=some x→l[j]?=some o→kF P n ops (Kv o l xs 0 T) o x
 | [],_,_,_,_,h,_=>by cases h
 | (k,y)::pc,j,x,o,hA,h,ho=>by
  unfold look at h
  cases hb:Nat.beq k j with
  |true=>
   rw [hb]at h
   cases h
   have:=α5 hb
   subst this
   have:=hA.1
   rw [At,ho]at this
   exact this
  |false=>rw [hb]at h;exact Zb hA.2 h ho
structure qS where
 xs:List SV
 es:List (Nat×Hp)
 D:List (SV×SV)
 DH:List (Hp×Hp)
 E:Ob
def RQ (X:Tx)(n:Nat)(pc:List (Nat×SV))(cl:List (Nat×SV×Hp))(l:ai)(T:List (Nat×SV))(H:Hp):Option qS:=match Jn X n l.toArray pc cl l 0 T H with
 | some (xs,es)=>match Oe X n l.toArray l xs T es (H::es.map (·.2)) pc l xs 0 with
  |some (D,E)=>match RP X n l.toArray l xs T cl es H with
   |some (D',DH,E')=>bif Ee l.toArray es then some ⟨xs,es,D++D',DH,E++E'⟩else none
   |none=>none
  |none=>none
 |none=>none
theorem Zc {id:Nat} {H:Hp} {G:Gr} {a:Act} {w:World} {K:List Fr} {r:qS} (hX:X.ok P=true) (BW:P.follows .mixedOrders=true) (pc:List (Nat×SV)) (cl:List (Nat×SV×Hp)) (A:Sy n T H ks G0 w0 G a w) (h:RQ X n pc cl l (Dk l T) H=some r) (hE:Dc r.E) (hD:r.D.map (·.1)=r.D.map (·.2)) (XP:r.DH.map (·.1)=r.DH.map (·.2)) (FQ:Kj l.toArray n []=true)
  (hA:JO P n l.toArray ks G0 w0 l r.xs (Dk l T) cl r.es H) (hP:Oi P n l.toArray l r.xs (Dk l T) pc) (hk:∀{G a w},Sy n (JN l r.xs (Dk l T)) (MY H r.es) ks G0 w0 G a w→Goal P Q K .norm a w):Goal P Q K (.code (.region id l.toArray true)) a w:=by
 unfold RQ at h
 split at h
 ·next xs es h1=>
  split at h
  ·next D E h2=>
   split at h
   ·next D' DH E' h3=>
    cases hc:Ee l.toArray es with
    |false=>rw [hc]at h;cases h
    | true=>
     rw [hc]at h
     cases h
     obtain⟨e1,e2⟩:=Ae hE
     simp only [ζ5]at hD
     obtain⟨d1,d2⟩:=υ1 hD (by
      have:=congrArg List.length hD
      simp at this⊢)
     refine π7 BW ?_
     have hB:Ms H ks G0 w0 G w.drew:=A.ms.grow (By.refl w).drew
     refine Ub (P:=P) (X:=X) (xs:=xs) (es:=es) (hs:=H::es.map (·.2)) (T:=Dk l T) hX FQ hc (fun t x hx j o h3 h4 i hi Bw=>NP (by have:=Hu (D9 hx).2 j o h3 h4;rwa [δ1]at this) i hi Bw) (EY h1) (by simp) (fun i o hi he=>?_) (Hv hX h3 e2 d2 XP hA) (fun G a w H' W1 A'=>?_) _ _ _ _ 0 G (by simp) (by
      refine β3 (μ4 _ _) (by simp)) ⟨A.size,A.defers,fun t x hx _=>A.get t x (D9 hx).1,fun j o x d _ hj=>?_,⟨H,rfl,hB⟩,fun i p H' hi=>?_,fun j o p _ hj=>?_⟩
     ·obtain⟨x,g1,g2⟩:=Kx h2 e1 d1 i o hi (by rw [δ1];exact he)
      rw [δ1]at g2
      refine⟨x,g1,fun k H hk hm=>?_⟩
      rcases g2 with g2|g2
      ·rcases Zb hP g2 hi with⟨f,az,c1,c2,c3⟩|⟨b,y,f,az,E,v0,c1,rfl,c3,c4,c5,c6⟩
       ·exact Ct c1 c2 c3
       ·exact Sj c1 c3 c4 c5 c6
      ·obtain⟨F,s1,s2⟩:=g2 k H hk hm
       exact AT (out:=.val x F) hX s1 s2
     ·rw [Of]at W1
      cases W1
      exact hk A'
     ·exfalso;simp [β5,ε6]at hj;split at hj<;>simp at hj
     ·constructor
      ·intro hj;exfalso;simp [β5,ε6]at hj;split at hj<;>simp at hj
      ·intro hj;omega
     ·exfalso;simp [β5,ε6]at hj;split at hj<;>simp at hj
   ·cases h
  ·cases h
 ·cases h
theorem bM {Y:Tb} {id:Nat} {H:Hp} {G:Gr} {a:Act} {w:World} {K:List Fr} {r:qS} (hX:Y.ok P=true) (BW:P.follows .mixedOrders=true) (pc:List (Nat×SV)) (cl:List (Nat×SV×Hp)) (A:Sy n T H ks G0 w0 G a w) (h:RQ ⟨Y,false⟩ n pc cl l (Dk l T) H=some r) (hE:Dc r.E) (hD:r.D.map (·.1)=r.D.map (·.2)) (XP:r.DH.map (·.1)=r.DH.map (·.2)) (FQ:Kj l.toArray n []=true)
  (hA:JO P n l.toArray ks G0 w0 l r.xs (Dk l T) cl r.es H) (hP:Oi P n l.toArray l r.xs (Dk l T) pc) (hk:∀{G a w},Sy n (JN l r.xs (Dk l T)) (MY H r.es) ks G0 w0 G a w→Goal P Q K .norm a w):Goal P Q K (.code (.region id l.toArray true)) a w:=Zc (X:=⟨Y,false⟩) hX BW pc cl A h hE hD XP FQ hA hP hk
theorem A9 {Y:Tb} {id:Nat} {H:Hp} {G:Gr} {a:Act} {w:World} {K:List Fr} {r:qS} (hX:Y.ok P=true) (BW:P.follows .mixedOrders=true) (pc:List (Nat×SV)) (cl:List (Nat×SV×Hp)) (A:Sy n T H ks G0 w0 G a w) (h:RQ ⟨Y,true⟩ n pc cl l (Dk l T) H=some r) (hE:Dc r.E) (hD:r.D.map (·.1)=r.D.map (·.2)) (XP:r.DH.map (·.1)=r.DH.map (·.2)) (FQ:Kj l.toArray n []=true)
  (hA:JO P n l.toArray ks G0 w0 l r.xs (Dk l T) cl r.es H) (hP:Oi P n l.toArray l r.xs (Dk l T) pc) (hk:∀{G a w},Sy n (JN l r.xs (Dk l T)) (MY H r.es) ks G0 w0 G a w→Goal P Q K .norm a w):Goal P Q K (.code (.region id l.toArray true)) a w:=Zc (X:=⟨Y,true⟩) hX BW pc cl A h hE hD XP FQ hA hP hk
end
theorem _root_.Go.Proofs.YtbbdanhpphlbpaaGreatDoor.CL {a b k:Nat}(h:a=b)(h2:Nat.ble a k=true):b≤k:=h▸δ8 h2
def qT (k:Nat):List (Nat×SV)→Bool
 | []=>true
 |(_,x)::T=>Lm k x&&qT k T
theorem Uc {k:Nat}:∀{T:List (Nat×SV)} {t:Nat} {x:SV},qT k T=true→look T t=some x→Lm k x=true
 | [],_,_,_,h=>by cases h
 |(j,y)::T,t,x,hb,h=>by
  simp only [qT,α3]at hb
  unfold look at h
  cases hc:Nat.beq j t with
  |true=>rw [hc]at h;cases h;exact hb.1
  |false=>rw [hc]at h;exact Uc hb.2 h
def Zd (k:Nat):Hp→Bool
 | []=>true
 |some (.blk cs)::H=>HH k cs&&Zd k H
 |_::H=>Zd k H
theorem Ud {k:Nat}:∀{H:Hp} {i:Nat} {cs:List SV},Zd k H=true→H[i]?=some (some (.blk cs))→HH k cs=true
 | [],_,_,_,h=>by cases h
 |x::H,0,cs,hb,h=>by cases h;simp only [Zd,α3]at hb;exact hb.1
 |x::H,i+1,cs,hb,h=>by
  refine Ud (H:=H) (i:=i) ?_ h
  unfold Zd at hb
  split at hb
  ·next h=>cases h
  ·next h=>cases h;rw [α3]at hb;exact hb.2
  ·next h=>cases h;exact hb
mutual
def nb:SV→SV
 | .tt=>.bool true
 | .ff=>.bool false
 | .agg l=>.agg (B5 l)
 | .tup l=>.tup (B5 l)
 |x=>x
def B5:List SV→List SV
 | []=>[]
 |x::l=>nb x::B5 l
end
mutual
theorem Pv {G:Gr}:∀(x:SV),den G (nb x)=den G x
 | .tt=>rfl
 | .ff=>rfl
 | .agg l=>by simp only [nb,den,IU l]
 | .tup l=>by simp only [nb,den,IU l]
 | .ptr _ _=>rfl
 | .el _ _ _ _=>rfl
 | .ix _ _ _ _ _=>rfl
 | .sl _ _ _=>rfl
 | .fn _ _=>rfl
 | .opt _ _=>rfl
 | .int _ _=>rfl
 | .bool _=>rfl
 | .str _=>rfl
 | .sla _ _ _=>rfl
 | .sp _ _ _=>rfl
 | .st _ _ _ _ _=>rfl
 | .v _=>rfl
theorem IU {G:Gr}:∀(l:List SV),AO G (B5 l)=AO G l
 | []=>rfl
 |x::l=>by simp only [B5,AO,Pv x,IU l]
end
def Bx:Hp→Hp
 | []=>[]
 |some (.blk cs)::H=>some (.blk (B5 cs))::Bx H
 |e::H=>e::Bx H
theorem Pw:∀(H:Hp) (i:Nat),(Bx H)[i]?=(H[i]?).map fun e=>match e with|some (.blk cs)=>some (.blk (B5 cs))|e=>e
 | [],i=>by simp [Bx]
 |e::H,0=>by
  cases e with
  |none=>rfl
  |some q=>cases q<;>rfl
 |e::H,i+1=>by
  have:=Pw H i
  cases e with
  |none=>simpa [Bx]using this
  |some q=>cases q<;>simpa [Bx]using this
theorem RR (H:Hp):(Bx H).length=H.length:=by
 induction H with
 |nil=>rfl
 |cons e H ih=>
  cases e with
  |none=>simp [Bx,ih]
  |some q=>cases q<;>simp [Bx,ih]
theorem KR {H H2:Hp}(h:Bx H=Bx H2)(i:Nat)(e:BZ)(he:H2[i]?=some (some e)):∃e',H[i]?=some (some e')∧e'.mut=e.mut∧(e'.empty↔e.empty)∧∀G w p,Ag G w p e'→Ag G w p e:=by
 have h1:=Pw H i
 have h2:=Pw H2 i
 rw [h,h2,he]at h1
 cases hq:H[i]? with
 |none=>rw [hq]at h1;simp at h1
 | some o=>
  rw [hq]at h1
  cases o with
  |none=>cases e<;>simp at h1
  | some e'=>
   cases e with
   | blk cs=>
    cases e' with
    |blk cs'=>
     simp at h1
     refine⟨_,rfl,rfl,ν9,fun G w p CJ=>?_⟩
     obtain⟨L,vs,k1,k2,k3⟩:=CJ
     exact⟨L,vs,k1,by rw [←IU,h1,IU];exact k2,k3⟩
    |lst=>simp at h1
    |row=>simp at h1
    |fac=>simp at h1
    |buf=>simp at h1
   |fac b o=>
    cases e' with
    |blk cs'=>simp at h1
    |lst=>simp at h1
    |row=>simp at h1
    |fac=>simp at h1;obtain⟨rfl,rfl⟩:=h1;exact⟨_,rfl,rfl,ν9,fun G w p CJ=>CJ⟩
    |buf=>simp at h1
   |lst s n f=>
    cases e' with
    |blk cs'=>simp at h1
    |lst=>simp at h1;obtain⟨rfl,rfl,rfl⟩:=h1;exact⟨_,rfl,rfl,ν9,fun G w p CJ=>CJ⟩
    |row=>simp at h1
    |fac=>simp at h1
    |buf=>simp at h1
   |row a b c d f=>
    cases e' with
    |blk cs'=>simp at h1
    |lst=>simp at h1
    |fac=>simp at h1
    |row=>simp at h1;obtain⟨rfl,rfl,rfl,rfl,rfl⟩:=h1;exact⟨_,rfl,rfl,ν9,fun G w p CJ=>CJ⟩
    |buf=>simp at h1
   |buf a b c f=>
    cases e' with
    |buf=>simp at h1;obtain⟨rfl,rfl,rfl,rfl⟩:=h1;exact⟨_,rfl,rfl,ν9,fun G w p CJ=>CJ⟩
    |_=>simp at h1
section
variable {P:Program}{X:Tx}{n:Nat}{ks:ae}{G0:Gr}{w0:World}{T:List (Nat×SV)}{H:Hp}{G:Gr}{a:Act}{w:World}{Q:ab}
theorem Sy.sayT (A:Sy n T H ks G0 w0 G a w){T':List (Nat×SV)}(h:T=T'):Sy n T' H ks G0 w0 G a w:=h▸A
theorem Sy.sayH (A:Sy n T H ks G0 w0 G a w){H':Hp}(h:H=H'):Sy n T H' ks G0 w0 G a w:=h▸A
theorem Sy.say (A:Sy n T H ks G0 w0 G a w)(t:Nat)(y:SV){x:SV}(h:look T t=some x)(e:x=y):Sy n ((t,y)::T) H ks G0 w0 G a w:=
 ⟨A.size,A.defers,fun s z hz=>by
  simp only [look]at hz
  cases hc:Nat.beq t s with
  |true=>rw [hc]at hz;cases hz;have:=α5 hc;subst this;subst e;exact A.get t _ h
  |false=>rw [hc]at hz;exact A.get s z hz,A.mem,A.pre,A.own,A.mix⟩
def Xr (T:List (Nat×SV)):List Nat→Option (List (Nat×SV))
 | []=>some []
 |t::l=>match look T t,Xr T l with
  |some x,some r=>some ((t,x)::r)
  |_,_=>none
theorem Oj {T:List (Nat×SV)}:∀{l:ae} {r:List (Nat×SV)},Xr T l=some r→∀t x,look r t=some x→look T t=some x
 | [],r,h,t,x,hx=>by cases h;cases hx
 | k::l,r,h,t,x,hx=>by
  unfold Xr at h
  split at h
  ·next y r' hy hr=>
   cases h
   simp only [look]at hx
   cases hb:Nat.beq k t with
   |true=>rw [hb]at hx;cases hx;rw [←α5 hb];exact hy
   |false=>rw [hb]at hx;exact Oj hr t x hx
  ·cases h
theorem Sy.cut (A:Sy n T H ks G0 w0 G a w)(l:ae){T':List (Nat×SV)}(h:Xr T l=some T'):Sy n T' H ks G0 w0 G a w:=
 ⟨A.size,A.defers,fun t x hx=>A.get t x (Oj h t x hx),A.mem,A.pre,A.own,A.mix⟩
theorem Sy.trunc (A:Sy n T H ks G0 w0 G a w)(k:Nat){H':Hp}(hT:qT k T=true)(hH:H.take k=H')(hi:Zd k H'=true)(hk:G0.length≤k):Sy n T H' ks G0 w0 (G.take k) a w:=by
 have at_:∀(i:Nat) (e:BZ),H'[i]?=some (some e)→H[i]?=some (some e)∧i<k:=by
  intro i e h
  rw [←hH]at h
  have ZD:i<k:=by
   have:=(α0.1 h).1
   simp at this;omega
  rw [γ1 ZD]at h
  exact⟨h,ZD⟩
 have hG:∀i,i<k→(G.take k)[i]?=G[i]?:=fun i h=>γ1 h
 refine⟨A.size,A.defers,fun t x hx=>by rw [Ds x (Uc hT hx)];exact A.get t x hx,⟨by rw [←hH];simp [A.mem.len],fun i e h=>?_,fun i j e f L M Ge h1 h2 h3 h4 h5=>?_⟩,?_,fun i e L h1 h2 h3=>?_,A.mix⟩
 ·obtain⟨h1,h2⟩:=at_ i e h
  rw [hG i h2]
  have:=A.mem.ent i e h1
  cases e with
  |blk cs=>
   obtain⟨L,vs,q1,q2,q3⟩:=this
   exact⟨L,vs,q1,by rw [BS cs (Ud hi h)];exact q2,q3⟩
  |lst=>exact this
  |fac=>exact this
  |row=>exact this
  |buf=>exact this
 ·obtain⟨a1,a2⟩:=at_ i e h1
  obtain⟨b1,b2⟩:=at_ j f h2
  rw [hG i a2]at h4
  rw [hG j b2]at h5
  exact A.mem.sep i j e f L M Ge a1 b1 h3 h4 h5
 ·obtain⟨F,hF⟩:=A.pre
  exact⟨F.take (k - G0.length),by rw [hF,List.take_append,ε4 hk]⟩
 ·obtain⟨a1,a2⟩:=at_ i e h1
  rw [hG i a2]at h3
  exact A.own i e L a1 h2 h3
theorem sB {Y:Tb}{fn:Func}{x:SV}{H2 H0:Hp}(hX:Y.ok P=true){y:SV}{H':Hp}{r:List SV}{rv:List ResultVar}(A:Sy n T H (keys H0 G0) G0 w0 G a w)(hr:fn.results.toList=rv)(hv:KB ⟨Y,false⟩ T H rv=some r)(hy:Am r=y)(h0:H0.length=G0.length)(hi:Lm H0.length y=true)(hH:H.take H0.length=H')(hj:Zd H0.length H'=true)(ZE:RK H0 H2=UZ H2)(hR:nb y=nb x)(hS:Bx H'=Bx H2):bodyPost P fn (NO (Rt x H2) H0 G0 w0) .ret a w:=by
 obtain⟨v,h1,h2⟩:=IT (X:=⟨Y,false⟩) (fn:=fn) hX A hr hv hy
 have A':=(A.cut [] U).trunc H0.length U hH hj (by omega)
 obtain⟨F,hF⟩:=A.pre
 have hG:G.take H0.length=G0:=by rw [hF,h0];simp
 rw [hG]at A'
 have OG:H2.length=H'.length:=by rw [←RR H2,←hS,RR]
 refine⟨A.defers,v,h2,x,H2,[],v,⟨rfl,rfl⟩,?_,rfl,?_,A.mix,?_,Ev ZE,fun i e he hm L hL=>?_⟩
 ·rw [ε0,←Pv,←hR,Pv,←hG,Ds y hi];exact h1
 ·rw [ε0]
  refine⟨by rw [OG];exact A'.mem.len,fun i e he=>?_,fun i j e f L M Ge he hf hm hL hM Bw=>?_⟩
  ·obtain⟨e',k1,_,_,k2⟩:=KR hS i e he
   exact k2 _ _ _ (A'.mem.ent i e' k1)
  ·obtain⟨e',k1,k2,_,_⟩:=KR hS i e he
   obtain⟨f',l1,_,l2,_⟩:=KR hS j f hf
   exact A'.mem.sep i j e' f' L M Ge k1 l1 (by rw [k2];exact hm) hL hM (fun h=>Bw (l2.1 h))
 ·rw [OG,A'.mem.len];exact β8 _
 ·rw [ε0]at hL
  obtain⟨e',k1,k2,_,_⟩:=KR hS i e he
  exact A'.own i e' L k1 (by rw [k2];exact hm) hL
theorem bN {β:Type} {c:Code} {K:List Fr} (T':β→List (Nat×SV)) (H':β→Hp) (I:β→Prop) (μ:β→Nat) (z:β) (hI:I z) (A:Sy n (T' z) (H' z) ks G0 w0 G a w)
  (round:∀z,I z→∀{G a w},Sy n (T' z) (H' z) ks G0 w0 G a w→Goal P Q (.lp (fun a w=>∃z' G,μ z'<μ z∧I z'∧Sy n (T' z') (H' z') ks G0 w0 G a w)::K) (.code c) a w):Goal P Q K (.code (.loop c)) a w:=by
 refine Qv (fun m a w=>∃z G,μ z=m∧I z∧Sy n (T' z) (H' z) ks G0 w0 G a w) (μ z) ⟨z,G,rfl,hI,A⟩ ?_
 rintro m a w ⟨z,G,rfl,hz,A⟩
 refine ρ8 (fun e a' w' h=>?_) (round z hz A)
 cases e with
 |normal=>obtain⟨z',G',h1,h2,h3⟩:=h;exact⟨μ z',h1,z',G',rfl,h2,h3⟩
 |_=>exact h
theorem Bq {α:Type} {c:Code} {K:List Fr} (T':α→List (Nat×SV)) (H':α→Hp) (I:α→Prop) (μ:α→Nat) (x:α) (hI:I x) (A:Sy n (T' x) (H' x) ks G0 w0 G a w)
  (round:∀x,I x→∀{G a w},Sy n (T' x) (H' x) ks G0 w0 G a w→Goal P Q (.lp (fun a w=>∃x' G,μ x'<μ x∧I x'∧Sy n (T' x') (H' x') ks G0 w0 G a w)::K) (.code c) a w):Goal P Q K (.code (.loop c)) a w:=bN T' H' I μ x hI A round
theorem RS {c:Code}{K:List Fr}{J J':Act→World→Prop}(h:∀a w,J a w→J' a w)(hg:Goal P Q (.lp J::K) (.code c) a w):Goal P Q (.lp J'::K) (.code c) a w:=by
 refine ρ8 (fun e a' w' hq=>?_) hg
 cases e with
 |normal=>exact h _ _ hq
 |_=>exact hq
theorem Ok {α β:Type} {c:Code} {K:List Fr} (T':α→β→List (Nat×SV)) (H':α→β→Hp) (I:α→β→Prop) (μ:α→β→Nat) (x:α) (y:β) (hI:I x y) (A:Sy n (T' x y) (H' x y) ks G0 w0 G a w)
  (round:∀x y,I x y→∀{G a w},Sy n (T' x y) (H' x y) ks G0 w0 G a w→Goal P Q (.lp (fun a w=>∃x' y' G,μ x' y'<μ x y∧I x' y'∧Sy n (T' x' y') (H' x' y') ks G0 w0 G a w)::K) (.code c) a w):Goal P Q K (.code (.loop c)) a w:=
 bN (fun z:α×β=>T' z.1 z.2) (fun z=>H' z.1 z.2) (fun z=>I z.1 z.2) (fun z=>μ z.1 z.2) (x,y) hI A fun z hz {G a w} A=>RS (fun a w ⟨x',y',G,h1,h2,h3⟩=>⟨(x',y'),G,h1,h2,h3⟩) (round z.1 z.2 hz A)
theorem kG {α β γ:Type} {c:Code} {K:List Fr} (T':α→β→γ→List (Nat×SV)) (H':α→β→γ→Hp) (I:α→β→γ→Prop) (μ:α→β→γ→Nat) (x:α) (y:β) (u:γ) (hI:I x y u) (A:Sy n (T' x y u) (H' x y u) ks G0 w0 G a w)
  (round:∀x y u,I x y u→∀{G a w},Sy n (T' x y u) (H' x y u) ks G0 w0 G a w→Goal P Q (.lp (fun a w=>∃x' y' u' G,μ x' y' u'<μ x y u∧I x' y' u'∧Sy n (T' x' y' u') (H' x' y' u') ks G0 w0 G a w)::K) (.code c) a w):Goal P Q K (.code (.loop c)) a w:=
 bN (fun z:α×β×γ=>T' z.1 z.2.1 z.2.2) (fun z=>H' z.1 z.2.1 z.2.2) (fun z=>I z.1 z.2.1 z.2.2) (fun z=>μ z.1 z.2.1 z.2.2) (x,y,u) hI A fun z hz {G a w} A=>RS (fun a w ⟨x',y',u',G,h1,h2,h3⟩=>⟨(x',y',u'),G,h1,h2,h3⟩) (round z.1 z.2.1 z.2.2 hz A)
theorem sC {β:Type} {c:Code} {K:List Fr} (T':β→List (Nat×SV)) (H':β→Hp) (I:β→Prop) (A:Sy n T H ks G0 w0 G a w) (h:∀{G a w},Sy n T H ks G0 w0 G a w→Goal P Q (.lp (fun a w=>∃z G,I z∧Sy n (T' z) (H' z) ks G0 w0 G a w)::K) (.code c) a w)
  (hk:∀z,I z→∀{G a w},Sy n (T' z) (H' z) ks G0 w0 G a w→Goal P Q K .norm a w):Goal P Q K (.code c) a w:=by
 refine ρ8 (fun e a' w' h=>?_) (h A)
 cases e with
 |normal=>obtain⟨z,G,h1,h2⟩:=h;exact hk z h1 h2
 |_=>exact h
end
theorem AE {p:Prop}[Decidable p]{E:Ob}(h:p)(k:Dc E):Dc ((decide p,true)::E):=by unfold Dc at*;simp [h,k]
theorem JP {b:Bool}{p:Prop}[Decidable p]{E:Ob}(h:b=true→p)(k:Dc E):Dc ((!b||decide p,true)::E):=by
 unfold Dc at*
 cases b with
 |false=>simp [k]
 |true=>simp [h U,k]
theorem Bz {b:Bool}{E:Ob}(k:Dc E):Dc ((b,b)::E):=by unfold Dc at*;simp [k]
theorem JQ {w:World}{e s n:Nat}{v:Value}{xs:aj}(h:w.ownsRow 0 e s v n xs):∃(p:Option Loc),v=.slice (p.map fun L=>⟨L.b,L.pre.length,none⟩) n (0+rm p)∧(∀L,p=some L→L.pre=[])∧v.ownBlock=p.map (·.b):=by
 rcases h.2 with⟨rfl,rfl⟩|⟨g,cap,cur,rfl,_⟩
 ·exact⟨none,rfl,fun L h=>(by cases h),rfl⟩
 ·exact⟨some ⟨g,[],List.replicate cap undef,e⟩,by simp [rm],fun L h=>(by cases h;rfl),rfl⟩
section
variable {P:Program}{X:Tx}{n:Nat}{ks:ae}{G0:Gr}{w0:World}{T:List (Nat×SV)}{H:Hp}{G:Gr}{a:Act}{w w':World}{Q:ab}{K:List Fr}{ops:ah}{o:Oper}{rest:ai}
theorem Sy.entMove (A:Sy n T H ks G0 w0 G a w) {i:Nat} {en en':BZ} {p':Option Loc} (hi:H[i]?=some (some en)) (Lq:en.mut=true) (Le:en'.mut=true)
  (hg:w.grownBy w' (((G[i]?).getD none).map (·.b))) (SO:Ag (G++[p']) w' p' en') (Lh:p'.map (·.b)=((G[i]?).getD none).map (·.b)∨p'.map (·.b)=some w.heap.size):Sy n T (CE H i none++[some en']) ks G0 w0 (G++[p']) a w':=by
 have hlen:=A.mem.len
 have IA:i<H.length:=(α0.1 hi).1
 have UB:(CE H i none).length=H.length:=by rw [Aw];simp
 obtain⟨q,hq⟩:∃q,G[i]?=some q:=⟨G[i],by simp [←hlen,IA]⟩
 rw [hq]at hg Lh
 simp only [δ2]at hg Lh
 have hold:∀(j:Nat) (x:BZ),(CE H i none++[some en'])[j]?=some (some x)→(j≠i∧H[j]?=some (some x)∧j<H.length)∨(j=H.length∧x=en'):=by
  intro j x h
  by_cases hj:j<H.length
  ·rw [α2 (by omega),Aw]at h
   by_cases Gf:j=i
   ·subst Gf;rw [γ7 IA]at h;cases h
   ·rw [γ0 (ε9 Gf)]at h;exact .inl ⟨Gf,h,hj⟩
  ·rw [α1 (by omega),UB]at h
   have:j - H.length=0:=by
    cases hq:j - H.length with
    |zero=>rfl
    |succ k=>rw [hq]at h;simp at h
   rw [this]at h
   simp at h
   exact .inr ⟨by omega,h.symm⟩
 have hG:∀j,j<H.length→(G++[p'])[j]?=G[j]?:=fun j hj=>α2 (by omega)
 have rL:(G++[p'])[H.length]?=some p':=by rw [α1 (by omega),hlen];simp
 have Cy:∀(j:Nat) (x:BZ) (L:Loc),j≠i→H[j]?=some (some x)→G[j]?=some (some L)→¬x.empty→q.map (·.b)≠some L.b∧L.b<w.heap.size:=by
  intro j x L Gf hx hL Bw
  have BU:L.b<w.heap.size:=by
   have:=A.mem.ent j x hx
   rw [hL]at this
   exact Ag.lt this Bw
  refine⟨fun hb=>?_,BU⟩
  cases q with
  |none=>cases hb
  |some M=>
   simp only [δ0,β1]at hb
   exact A.mem.sep i j _ x M L (ε9 Gf) hi hx Lq hq hL Bw hb
 have ML:CQ (match q with|some M=>[M.b]|none=>[]) w w':=⟨hg.os,hg.tape,hg.output,hg.size,fun k hk hc=>hg.block k hk (fun hb=>by
  cases q with
  |none=>cases hb
  |some M=>simp at hb hc;exact hc hb)⟩
 have vM:∀L,p'=some L→(ks.contains L.b=true∨w0.heap.size≤L.b):=by
  intro L hL
  subst hL
  rcases Lh with h|h
  ·cases q with
   |none=>cases h
   |some M=>simp at h;rw [h];exact A.own i _ M hi Lq hq
  ·simp at h;right;rw [h];exact A.mix.size
 refine⟨A.size,A.defers,fun t x hx=>Ax _ x (A.get t x hx),⟨by simp [UB,hlen],?_,?_⟩,?_,?_,?_⟩
 ·intro j x h
  rcases hold j x h with⟨h1,h2,h3⟩|⟨rfl,rfl⟩
  ·rw [hG j h3]
   refine((A.mem.ent j x h2).mix ML fun Bw L hL=>?_).more _
   have:=(Cy j x L h1 h2 (DB hL) Bw).1
   cases q with
   |none=>rfl
   |some M=>simp at this⊢;exact fun h=>this h.symm
  ·rw [rL];exact SO
 ·intro j k x y L M Eb h1 h2 h3 h4 h5 h6
  rcases hold j x h1 with⟨a1,a2,a3⟩|⟨rfl,rfl⟩
  ·rw [hG j a3]at h4
   rcases hold k y h2 with⟨b1,b2,b3⟩|⟨rfl,rfl⟩
   ·rw [hG k b3]at h5;exact A.mem.sep j k x y L M Eb a2 b2 h3 h4 h5 h6
   ·rw [rL]at h5
    cases h5
    obtain⟨g1,g2⟩:=Cy j x L a1 a2 h4 (BI h3)
    intro iF
    rcases Lh with h|h
    ·rw [←h]at g1;simp at g1;exact g1 iF.symm
    ·simp at h;omega
  ·rw [rL]at h4
   cases h4
   rcases hold k y h2 with⟨b1,b2,b3⟩|⟨rfl,rfl⟩
   ·rw [hG k b3]at h5
    obtain⟨g1,g2⟩:=Cy k y M b1 b2 h5 h6
    intro iF
    rcases Lh with h|h
    ·rw [←h]at g1;simp at g1;exact g1 iF
    ·simp at h;omega
   ·exact absurd U Eb
 ·obtain⟨F,hF⟩:=A.pre;exact⟨F++[p'],by rw [hF,γ2]⟩
 ·intro j x L h1 h2 h3
  rcases hold j x h1 with⟨a1,a2,a3⟩|⟨rfl,rfl⟩
  ·rw [hG j a3]at h3;exact A.own j x L a2 h2 h3
  ·rw [rL]at h3;cases h3;exact vM L U
 ·refine A.mix.mix ML fun k hk hc=>?_
  cases q with
  |none=>rfl
  |some M=>
   simp only [ε8,List.contains_nil,Bool.or_false,δ7,ne_eq]
   intro hkM
   subst hkM
   rcases A.own i _ M hi Lq hq with h|h
   ·rw [h]at hc;cases hc
   ·omega
theorem Sy.rowMove (A:Sy n T H ks G0 w0 G a w) {i e s m c m' c':Nat} {f f':Nat→List SV} {xs':aj} {p':Option Loc} (hi:H[i]?=some (some (.row e s m c f)))
  (hg:w.grownBy w' (((G[i]?).getD none).map (·.b))) (Do:w'.ownsRow 0 e s (.slice (p'.map fun L=>⟨L.b,L.pre.length,none⟩) m' (c'+rm p')) m' xs') (D0:∀L,p'=some L→L.pre=[]) (Lh:p'.map (·.b)=((G[i]?).getD none).map (·.b)∨p'.map (·.b)=some w.heap.size)
  (hf:CD f' m'=some xs') (Be:∀k,∃vs,AO [] (f' k)=some vs∧vs.length=s):Sy n T (CE H i none++[some (.row e s m' c' f')]) ks G0 w0 (G++[p']) a w':=
 A.entMove hi U U hg ⟨Be,D0,xs',hf,Do⟩ Lh
theorem Sy.nilRow (A:Sy n T H ks G0 w0 G a w)(t e s:Nat)(f:Nat→List SV)(h:look T t=some (.sla none 0 0))(Be:∀k,∃vs,AO [] (f k)=some vs∧vs.length=s):Sy n ((t,.sl H.length 0 0)::T) (H++[some (.row e s 0 0 f)]) ks G0 w0 (G++[none]) a w:=
 (A.noRow e s f Be).slotEq t h (by
  unfold den
  rw [α1 (by rw [A.mem.len];exact β8 _),A.mem.len];simp [rm])
def Ue (X:Tx) (n:Nat) (ops:ah) (T:List (Nat×SV)) (H:Hp) (o:Oper):Option ((Nat×Nat×Nat×Nat×Nat)×(Nat→List SV)×List SV×(Nat×Nat)×Ob):=match DF n o.dst with
 | true =>match Av ops T o.guard with
  | some .run=>match o.op with
   | .call c=>match c.callee,c.args.toList,c.argTypes.toList with
    | .builtin .append,[x,y],[t,t']=>match DA T x,DA T y,Nat.beq t t' with
     | some (.sl i nn cc),some (.sl j 1 1),true=>match lg H i,lg H j,X.get t with
      | some (some (.row e s m c f)),some (some (.blk cs)),some ti=>match ti.elm,FU cs with
       |some (e',s',b),some E=>match Nat.beq e e'&&Nat.beq s s'&&Nat.beq cs.length s&&Nat.ble b 10000&&HH 0 cs with
        |true=>some ((i,e,s,m,c),f,cs,(nn,cc),E)
        |false=>none
       |_,_=>none
      |_,_,_=>none
     |_,_,_=>none
    |_,_,_=>none
   |_=>none
  |_=>none
 |false=>none
theorem NR {Y:Tb} {i e s m c nn cc:Nat} {f:Nat→List SV} {cs:List SV} {E:Ob} (hX:Y.ok P=true) (m':Nat) (f':Nat→List SV) (h:Ue ⟨Y,false⟩ n ops T H o=some ((i,e,s,m,c),f,cs,(nn,cc),E)) (hE:Dc E) (h1:nn=m) (h2:cc=c) (hb:m≤1000000) (PR:m'=m+1)
  (hf:∀k,k<m→f' k=f k) (hn:f' m=cs) (Be:∀k,∃vs,AO [] (f' k)=some vs∧vs.length=s):BG P n ops ks G0 w0 T H o (.sl H.length m' 0) (CE H i none++[some (.row e s m' 0 f')]):=by
 intro G a w A
 subst PR
 obtain⟨d,op,ty,pos,af,gd⟩:=o
 unfold Ue at h
 split at h
 ·next hd =>
  split at h
  ·next hg=>
   have hw:=A7 (gd:=none) A hg
   split at h
   ·next ca aJ=>
    simp only at aJ
    subst aJ
    obtain⟨callee,args,ats⟩:=ca
    simp only at h
    split at h
    ·next x y t t' ha ht=>
     split at h
     ·next i' nn' cc' j hx hy SL=>
      split at h
      ·next e' s' m' c1 f1 cs' ti hi hj Fm=>
       split at h
       ·next e2 s2 b E' MK ZH=>
        split at h
        ·next En=>
         cases h
         subst h1;subst h2
         simp only [α3]at En
         obtain⟨⟨⟨⟨c1,c2⟩,c3⟩,c4⟩,c5⟩:=En
         have e1:=α5 c1
         have e2:=α5 c2
         have e3:=α5 c3
         have e4:=α5 SL
         have PS:=δ8 c4
         subst e1;subst e2;subst e4
         rw [At]at hi hj
         have FD:args= #[x,y]:=by have:=congrArg List.toArray ha;simpa using this
         have W3:ats= #[t,t]:=by have:=congrArg List.toArray ht;simpa using this
         subst FD;subst W3
         obtain⟨r1,r2,xs,r3,r4⟩:=A.mem.ent i _ hi
         obtain⟨L,vs,b1,b2,b3⟩:=A.mem.ent j _ hj
         obtain⟨ie,z,f1',f2',f3',f4',f5',f6',f7'⟩:=Cp (DJ (i:=ti) (Tb.at (X:=Y) hX Fm) MK)
         have Bb:=A.ev hx
         have C8:=A.ev hy
         obtain⟨q,hq⟩:∃q,G[i]?=some q:=by
          have:i<G.length:=by rw [←A.mem.len];exact(α0.1 hi).1
          exact⟨G[i],by simp [this]⟩
         rw [hq]at r2 r4
         simp only [δ2]at r2 r4
         unfold den at Bb C8
         rw [hq]at Bb
         rw [DB b1]at C8
         simp only [β1]at Bb C8
         have W4:AO [] cs=some vs:=by
          have:=BS (G:=G) cs c5
          simp only [θ4]at this
          rw [this];exact b2
         have FO:vs.length=s:=by rw [BF b2,e3]
         have Qr:=Ag.range (A.mem.ent j _ hj)
         obtain⟨L2,vs2,g1,g2,g3⟩:=Qr
         rw [b1]at g1;cases g1
         rw [b2]at g2;cases g2
         have Bc:=Cq ZH hE b2
         have hmul:(nn+1)*b≤1000001*10000:=μ2 (by omega) PS
         obtain⟨v',w',hr,k1,k2,_,k4⟩:=τ0 (P:=P) w 0 t ty e ie z s b f1' f2' f3' f4' f5' f6' f7' _ nn xs r4 ⟨L.b,L.pre.length,none⟩ 1 (1+rm (some L)) vs (by omega)
          (fun j u hj=>by rw [ζ3];exact g3 j u hj) (fun u hu=>(δ3.1 Bc) u hu) (by simp only [maxLen];omega) (by omega) (β7 _)
         obtain⟨p',o1,o2,o3⟩:=JQ k1
         have Li:CD f' (nn+1)=some (xs++vs):=by
          unfold CD
          rw [Dd hf,r3,hn,W4]
         have ZI:Value.ownBlock (.slice (q.map fun L=>⟨L.b,L.pre.length,none⟩) nn (cc+rm q))=q.map (·.b):=by cases q<;>rfl
         rw [ZI]at k2 k4
         rw [o3]at k4
         rw [o1]at k1
         refine Ad (v:=v') (w':=w') hw ?_ ?_
         ·unfold execOp
          simp only [resolve,invoke,builtin,γ4,γ6,α9,θ0,ζ0,ι7,←Bb,←C8]
          simp only [δ0]at hr⊢
          simp only [hr,α9]
         ·have A2:=A.rowMove (p':=p') hi (by rw [hq];exact k2) k1 o2 (by rw [hq];exact k4) Li Be
          refine⟨[p'],?_,A2.ms⟩
          unfold den
          rw [α1 (by rw [A.mem.len];exact β8 _),A.mem.len]
          simp [o1]
        ·cases h
       ·cases h
      ·cases h
     ·cases h
    ·cases h
   ·cases h
  ·cases h
 ·cases h
theorem Af {x:SV}{H':Hp}(A:Sy n T H ks G0 w0 G a w)(hd:DF n o.dst=true)(h:BG P n ops ks G0 w0 T H o x H')(hk:∀{G a w},Sy n (BN T o.dst x) H' ks G0 w0 G a w→Goal P Q K (.ops ops rest) a w):Goal P Q K (.ops ops (o::rest)) a w:=by
 refine DN (Q:=He P Q K) ?_
 rcases h G a w A with⟨hw,h⟩|⟨hw,F,h1,h2⟩
 ·refine .inl ⟨hw,fun Q'=>?_⟩
  refine κ4 (fun a' w' hh=>?_) (h Q')
  obtain⟨v,rfl,F,h1,h2⟩:=hh
  exact⟨v,rfl,hk (Sy.put (h2.sy A.size A.defers fun t y hy=>Ax F y (A.get t y hy)) hd h1)⟩
 ·exact .inr ⟨hw,hk (Sy.put (h2.sy A.size A.defers fun t y hy=>Ax F y (A.get t y hy)) hd h1)⟩
theorem Uf {X:Tx}{r:(Nat×Nat×Nat×Nat×Nat)×(Nat→List SV)×List SV×(Nat×Nat)×Ob}(h:Ue X n ops T H o=some r):DF n o.dst=true:=by
 unfold Ue at h
 split at h
 ·next hd=>exact hd
 ·cases h
theorem Hw {Y:Tb} {i e s m c nn cc:Nat} {f:Nat→List SV} {cs:List SV} {E:Ob} (hX:Y.ok P=true) (m':Nat) (f':Nat→List SV) (A:Sy n T H ks G0 w0 G a w) (h:Ue ⟨Y,false⟩ n ops T H o=some ((i,e,s,m,c),f,cs,(nn,cc),E)) (hE:Dc E) (h1:nn=m) (h2:cc=c) (hb:m≤1000000) (PR:m'=m+1)
  (hf:∀k,k<m→f' k=f k) (hn:f' m=cs) (Be:∀k,∃vs,AO [] (f' k)=some vs∧vs.length=s)
  (hk:∀{G a w},Sy n (BN T o.dst (.sl H.length m' 0)) (CE H i none++[some (.row e s m' 0 f')]) ks G0 w0 G a w→Goal P Q K (.ops ops rest) a w):Goal P Q K (.ops ops (o::rest)) a w:=
 Af A (Uf h) (NR hX m' f' h hE h1 h2 hb PR hf hn Be) hk
end
theorem Gt {f:Nat→List SV}{s:Nat}(hs:∀k,∃vs,AO [] (f k)=some vs∧vs.length=s):∀{n:Nat} {xs:aj},CD f n=some xs→∀(j:Nat) (u:Value),xs[j]?=some u→∃k q vs,k<n∧AO [] (f k)=some vs∧vs[q]?=some u∧j=k*s+q
 |0,xs,h,j,u,hj=>by cases h;cases hj
 | n+1,xs,h,j,u,hj=>by
  unfold CD at h
  obtain⟨vs,h1,h2⟩:=hs n
  split at h
  ·next l hl=>
   rw [h1]at h
   cases h
   have ZB:=DG hs hl
   by_cases SP:j<l.length
   ·rw [α2 SP]at hj
    obtain⟨k,q,us,a1,a2,a3,a4⟩:=Gt hs hl j u hj
    exact⟨k,q,us,by omega,a2,a3,a4⟩
   ·rw [α1 (by omega)]at hj
    exact⟨n,j - l.length,vs,by omega,h1,hj,by omega⟩
  ·cases h
theorem JR {f:Nat→List SV}:∀(m n:Nat) {xs ys:aj},CD f n=some xs→CD (fun k=>f (n+k)) m=some ys→CD f (n+m)=some (xs++ys)
 |0,n,xs,ys,h,k=>by cases k;simpa using h
 | m+1,n,xs,ys,h,k=>by
  unfold CD at k
  split at k
  ·next l hl=>
   split at k
   ·next vs hv=>
    cases k
    rw [show n+(m+1)=(n+m)+1 by omega]
    unfold CD
    rw [JR m n h hl,hv]
    simp
   ·cases k
  ·cases k
theorem K0 {f f':Nat→List SV}{s k:Nat}{vs':aj}(hs:∀k,∃vs,AO [] (f k)=some vs∧vs.length=s)(Bw:∀j,j≠k→f' j=f j)(hk:AO [] (f' k)=some vs')(hl:vs'.length=s):∀{n:Nat} {xs:aj},CD f n=some xs→k<n→CD f' n=some (xs.take (k*s)++vs'++xs.drop ((k+1)*s))
 |0,xs,h,GY=>by omega
 | n+1,xs,h,GY=>by
  unfold CD at h
  obtain⟨vs,h1,h2⟩:=hs n
  split at h
  ·next l ZB=>
   rw [h1]at h
   cases h
   have hlen:=DG hs ZB
   unfold CD
   by_cases FC:k=n
   ·subst FC
    rw [Dd (g:=f) (fun j hj=>Bw j (by omega)),ZB,hk]
    simp only [β1]
    rw [κ5 (by omega),ε4 (by omega),List.drop_of_length_le (by simp [θ6];omega)]
    simp
   ·rw [K0 hs Bw hk hl ZB (by omega),Bw n (fun e=>FC e.symm),h1]
    simp only [β1]
    have hmul:(k+1)*s≤n*s:=θ2 s (by omega)
    have yM:(k+1)*s=k*s+s:=by simp [θ6]
    rw [κ5 (by omega),List.drop_append_of_le_length (by omega)]
    simp
  ·cases h
section
variable {P:Program}{X:Tx}{n:Nat}{ks:ae}{G0:Gr}{w0:World}{T:List (Nat×SV)}{H:Hp}{G:Gr}{a:Act}{w w':World}{Q:ab}{K:List Fr}{ops:ah}{o:Oper}{rest:ai}
theorem Sy.asList (A:Sy n T H ks G0 w0 G a w)(i:Nat){s m:Nat}{f g:Nat→List SV}{e:BZ}(hi:H[i]?=some (some e))(he:(∃ty c,e=.row ty s m c f)∨∃cs,e=.blk cs∧∀k,k<m→tk s (dp (k*s) cs)=some (f k)∧HH 0 (f k)=true)(hg:∀k,k<m→g k=f k)(Be:∀k,∃vs,AO [] (g k)=some vs):Sy n T (CE H i (some (.lst s m g))) ks G0 w0 G a w:=by
 have IA:i<H.length:=(α0.1 hi).1
 have KJ:e.mut=true:=by rcases he with⟨_,_,rfl⟩|⟨_,rfl,_⟩<;>rfl
 have hold:∀(j:Nat) (x:BZ),(CE H i (some (.lst s m g)))[j]?=some (some x)→(j≠i∧H[j]?=some (some x))∨(j=i∧x=.lst s m g):=by
  intro j x h
  rw [Aw]at h
  by_cases hj:j=i
  ·subst hj;rw [γ7 IA]at h;cases h;exact .inr ⟨rfl,rfl⟩
  ·rw [γ0 (ε9 hj)]at h;exact .inl ⟨hj,h⟩
 refine⟨A.size,A.defers,A.get,⟨by rw [Aw];simpa using A.mem.len,?_,?_⟩,A.pre,?_,A.mix⟩
 ·intro j x h
  rcases hold j x h with⟨k1,k2⟩|⟨rfl,rfl⟩
  ·exact A.mem.ent j x k2
  ·refine⟨Be,?_⟩
   by_cases h0:m=0
   ·exact .inl h0
   ·right
    have CG:=A.mem.ent j e hi
    rcases he with⟨ty,c,rfl⟩|⟨cs,rfl,Ld⟩
    ·obtain⟨L,_,q1,_⟩:=DQ CG (k:=0) (by omega)
     have BU:L.b<w.heap.size:=by rw [q1]at CG;exact Ag.lt CG (fun h=>h)
     refine⟨L,q1,BU,fun k hk=>?_⟩
     obtain⟨L',vs,r1,r2,_,r4⟩:=DQ CG hk
     rw [q1]at r1;cases r1
     exact⟨vs,by rw [hg k hk];exact r2,r4⟩
    ·obtain⟨L,us,q1,q2,q3⟩:=CG.range
     have BU:L.b<w.heap.size:=by rw [q1]at CG;exact Ag.lt CG (fun h=>h)
     refine⟨L,q1,BU,fun k hk=>?_⟩
     obtain⟨r1,r2⟩:=Ld k hk
     obtain⟨r3,r4⟩:=IL r1
     rw [Hd]at r3 r4
     have hd:AO G (f k)=some ((us.drop (k*s)).take s):=by rw [r3];exact CO s (CP _ q2)
     refine⟨(us.drop (k*s)).take s,?_,fun q v hv=>?_⟩
     ·rw [hg k hk]
      have:=BS (G:=G) (f k) r2
      simp only [θ4]at this
      rw [this];exact hd
     ·have hq:=(α0.1 hv).1
      simp only [δ6,γ3]at hq
      rw [γ1 (by omega),η0]at hv
      have:=q3 _ v hv
      rwa [←η4]at this
 ·intro j k x y L M Eb h1 h2 h3 h4 h5 h6
  rcases hold j x h1 with⟨_,a2⟩|⟨rfl,rfl⟩
  ·rcases hold k y h2 with⟨_,b2⟩|⟨rfl,rfl⟩
   ·exact A.mem.sep j k x y L M Eb a2 b2 h3 h4 h5 h6
   ·exact A.mem.sep j k x e L M Eb a2 hi h3 h4 h5 (BI KJ)
  ·cases h3
 ·intro j x L h1 h2 h3
  rcases hold j x h1 with⟨_,a2⟩|⟨rfl,rfl⟩
  ·exact A.own j x L a2 h2 h3
  ·cases h2
theorem Sy.freeze (A:Sy n T H ks G0 w0 G a w)(i:Nat){e s m c:Nat}{f:Nat→List SV}(h:lg H i=some (some (.row e s m c f))):Sy n T (CE H i (some (.lst s m f))) ks G0 w0 G a w:=by
 rw [At]at h
 exact A.asList i h (.inl ⟨e,c,rfl⟩) (fun _ _=>rfl) (fun k=>by obtain⟨vs,h1,_⟩:=(A.mem.ent i _ h).1 k;exact⟨vs,h1⟩)
theorem Sy.rowSet (A:Sy n T H ks G0 w0 G a w) {i e s m c k q:Nat} {f f':Nat→List SV} {l:List SV} {us:aj} (hi:H[i]?=some (some (.row e s m c f))) (hk:k<m) (Bw:∀j,j≠k→f' j=f j) (pU:sp q (f k) l=some (f' k)) (hl:AO [] l=some us):∃L,G[i]?=some (some L)∧L.pre=[]∧(∀j,j<l.length→(w.cell? ⟨L.b,k*s+q+j,none⟩).isSome=true∧w.frozen? ⟨L.b,k*s+q+j,none⟩=false)∧
  XW L.b w (w.setCells L.b (k*s+q) us)∧Sy n T (CE H i (some (.row e s m c f'))) ks G0 w0 G a (w.setCells L.b (k*s+q) us):=by
 have IA:i<H.length:=(α0.1 hi).1
 obtain⟨h1,h2,xs,h3,h4,h5⟩:=A.mem.ent i _ hi
 obtain⟨vs,v1,v2⟩:=h1 k
 obtain⟨p1,p2⟩:=Jl pU
 have yG:=BF hl
 have yN:AO [] (f' k)=some (vs.take q++us++vs.drop (q+l.length)):=by rw [p1];exact Cj (Cj (CO q v1) hl) (CP _ v1)
 have hfl:(f k).length=s:=by rw [←BF v1];exact v2
 have Be:∀j,∃vs,AO [] (f' j)=some vs∧vs.length=s:=fun j=>by
  by_cases hj:j=k
  ·subst hj;exact⟨_,yN,by simp;omega⟩
  ·rw [Bw j hj];exact h1 j
 rcases h5 with⟨_,h5⟩|⟨g,cap,cur,q1,_,q3,q4,q5,q6,q7⟩
 ·omega
 cases hp:(G[i]?).getD none with
 |none=>rw [hp]at q1;cases q1
 | some L =>
  rw [hp]at q1
  simp only [δ0,θ8,β1,μ6]at q1
  obtain⟨⟨q8,q9,_⟩,_,q10⟩:=q1
  have D0:=h2 L hp
  subst q8
  have Tt:=DG h1 h3
  have Lq:(k+1)*s≤m*s:=θ2 s (by omega)
  have Le:(k+1)*s=k*s+s:=by simp [θ6]
  have Ld:m*s≤cap*s:=θ2 s q4
  have Tv:cur.toList.length=cap*s:=by simpa using q6
  have GH:cur.toList=cur.toList.take (k*s+q)++(cur.toList.drop (k*s+q)).take l.length++cur.toList.drop (k*s+q+l.length):=by
   have e2:cur.toList.drop (k*s+q+l.length)=(cur.toList.drop (k*s+q)).drop l.length:=by rw [μ1]
   rw [e2,γ2,θ7,θ7]
  have HZ:D3 w L.b (cur.toList.take (k*s+q)++(cur.toList.drop (k*s+q)).take l.length++cur.toList.drop (k*s+q+l.length)).toArray e:=by rw [←GH];unfold D3;simpa using q3
  have hA:(cur.toList.take (k*s+q)).length=k*s+q:=by simp;omega
  obtain⟨g1,g2⟩:=JG us _ _ _ w (by simp;omega) HZ
  rw [hA]at g1 g2
  refine⟨L,DB hp,D0,fun j hj=>⟨?_,?_⟩,g2,?_⟩
  ·have BU:k*s+q+j<cur.size:=by omega
   rw [cell_of_row w L.b _ cur e _ q3,Array.getElem?_eq_getElem BU];rfl
  ·have:D3 w L.b cur e:=q3
   exact this.frozen _
  have hold:∀(j:Nat) (x:BZ),(CE H i (some (.row e s m c f')))[j]?=some (some x)→(j≠i∧H[j]?=some (some x))∨(j=i∧x=.row e s m c f'):=by
   intro j x h
   rw [Aw]at h
   by_cases hj:j=i
   ·subst hj;rw [γ7 IA]at h;cases h;exact .inr ⟨rfl,rfl⟩
   ·rw [γ0 (ε9 hj)]at h;exact .inl ⟨hj,h⟩
  refine⟨A.size,A.defers,A.get,⟨by rw [Aw];simpa using A.mem.len,?_,?_⟩,A.pre,?_,A.mix.upd g2 (A.own i _ L hi U (DB hp))⟩
  ·intro j x h
   rcases hold j x h with⟨k1,k2⟩|⟨rfl,rfl⟩
   ·refine(A.mem.ent j x k2).mix g2.mix fun vN M hM=>?_
    have:=A.mem.sep i j _ x L M (ε9 k1) hi k2 U (DB hp) (DB hM) vN
    simp;exact fun e=>this e.symm
   ·rw [hp]
    refine⟨Be,fun L' hL'=>by cases hL';exact D0,_,K0 h1 Bw yN (by simp;omega) h3 hk,?_,.inr ⟨L.b,cap,_,?_,β7 _,g1,q4,q5,?_,?_⟩⟩
    ·simp;omega
    ·simp [D0,q10]
    ·simp;omega
    ·rw [←q7]
     simp only [List.toList_toArray]
     apply θ9
     intro z
     by_cases hz:z<m*s
     ·rw [γ1 hz]
      have yO:∀z',z'<s→vs[z']?=cur.toList[k*s+z']?:=fun z' hz'=>by
       obtain⟨us',u1,u2⟩:=IK h1 h3 k hk
       rw [v1]at u1;cases u1
       have hh:vs[z']?=some (vs[z']'(by omega)):=β4 (by omega)
       have:=u2 z' _ hh
       rw [←q7,γ1 (by omega)]at this
       rw [hh,this]
      by_cases c1:z<k*s
      ·rw [γ2,γ2,α2 (by simp;omega),γ1 (by omega)]
       rw [γ2,α2 (by simp;omega),γ1 c1,γ1 (by omega)]
      ·by_cases c2:z<k*s+q
       ·rw [γ2,α2 (by simp;omega),γ1 (by omega)]
        rw [γ2,α1 (by simp;omega),γ2,γ2,α2 (by simp;omega),γ1 (by simp;omega)]
        have:=yO (z - k*s) (by omega)
        rw [show k*s+(z - k*s)=z by omega]at this
        rw [←this];congr 1;simp;omega
       ·by_cases c3:z<k*s+q+l.length
        ·rw [γ2,α1 (by simp;omega),α2 (by simp;omega)]
         rw [γ2,α1 (by simp;omega),γ2,γ2,α1 (by simp;omega),α2 (by simp;omega)]
         congr 1;simp;omega
        ·by_cases c4:z<k*s+s
         ·rw [α1 (by simp;omega),η0]
          rw [γ2,α1 (by simp;omega),α2 (by simp;omega),α1 (by simp;omega),η0]
          have:=yO (z - k*s) (by omega)
          rw [show k*s+(z - k*s)=z by omega]at this
          rw [show k*s+q+l.length+(z - (List.take (k*s+q) cur.toList++us).length)=z by simp;omega,←this]
          congr 1;simp;omega
         ·rw [α1 (by simp;omega),η0]
          rw [α1 (by simp;omega),η0,γ1 (by simp;omega)]
          congr 1;simp;omega
     ·rw [γ5 (by simp;omega),γ5 (by simp;omega)]
  ·intro j k' x y L' M Eb b1 b2 b3 b4 b5 b6
   have a1:∃x',H[j]?=some (some x')∧x'.mut=x.mut:=by
    rcases hold j x b1 with⟨_,k2⟩|⟨rfl,rfl⟩
    ·exact⟨x,k2,rfl⟩
    ·exact⟨_,hi,rfl⟩
   have a2:∃y',H[k']?=some (some y')∧¬y'.empty:=by
    rcases hold k' y b2 with⟨_,k2⟩|⟨rfl,rfl⟩
    ·exact⟨y,k2,b6⟩
    ·exact⟨_,hi,fun h=>h⟩
   obtain⟨x',c1,c2⟩:=a1
   obtain⟨y',c3,c4⟩:=a2
   exact A.mem.sep j k' x' y' L' M Eb c1 c3 (by rw [c2];exact b3) b4 b5 c4
  ·intro j x L' b1 b2 b3
   rcases hold j x b1 with⟨_,k2⟩|⟨rfl,rfl⟩
   ·exact A.own j x L' k2 b2 b3
   ·exact A.own j _ L' hi U b3
end
section
variable {P:Program}{Y:Tb}{n:Nat}{ks:ae}{G0:Gr}{w0:World}{T:List (Nat×SV)}{H:Hp}{G:Gr}{a:Act}{w w':World}{Q:ab}{K:List Fr}{ops:ah}{o:Oper}{rest:ai}
def Ug (Y:Tb) (n:Nat) (ops:ah) (T:List (Nat×SV)) (H:Hp) (o:Oper):Option ((Nat×Nat×Nat×Nat×Nat)×(Nat→List SV)×(Int×Nat)×List SV×Ob):=match DF n o.dst with
 | true=>match Av ops T o.guard with
  | some .run=>match o.op with
   | .store t x y=>match DA T x,DA T y with
    | some (.el i s j q),some v=>match lg H i,Y.get t,JI v with
     | some (some (.row e s' m c f)),some ti,some l=>match FU l with
      |some E=>match Nat.beq s s'&&HH 0 l&&(match ti.row,v with|some r,.agg _=>Nat.beq l.length r|none,.agg _=>false|none,_=>ti.one|some _,_=>false)with
       |true=>some ((i,e,s,m,c),f,(j,q),l,E)
       |false=>none
      |none=>none
     |_,_,_=>none
    |_,_=>none
   |_=>none
  |_=>none
 |false=>none
theorem sD {i e s m c q : Nat} {j:Int} {f:Nat→List SV} {l:List SV} {E:Ob} (hY:Y.ok P=true) (k:Nat) (f':Nat→List SV) (h:Ug Y n ops T H o=some ((i,e,s,m,c),f,(j,q),l,E)) (hE:Dc E) (hj:j.toNat=k) (hk:k<m)
    (Bw:∀j,j≠k→f' j=f j) (pU:sp q (f k) l=some (f' k)):BG P n ops ks G0 w0 T H o (.tup []) (CE H i (some (.row e s m c f'))):=by
  intro G a w A
  obtain⟨d,op,ty,pos,af,gd⟩:=o
  unfold Ug at h
  split at h
  · next hd =>
    split at h
    · next ZJ=>
      have hw:=A7 (gd:=none) A ZJ
      split at h
      · next t x y BM=>
        simp only at BM
        subst BM
        split at h
        · next i' s' j' q' v hx hy=>
          split at h
          · next e' s2 m' c' f1 ti l' hi Fm hl=>
            split at h
            · next E' ZH=>
              split at h
              · next En=>
                cases h
                rw [α3,α3]at En
                have es:=α5 En.1.1
                subst es
                rw [At]at hi
                have C8:=A.ev hy
                have Ch:=Ed hl C8
                have vO:AO [] l=some (a.eval y).cells.toList:=by
                  have:=BS (G:=G) l En.1.2
                  simp only [θ4]at this
                  rw [this];exact Ch
                obtain⟨L,hL,D0,FE,hu,A2⟩:=A.rowSet hi hk Bw pU vO
                have Bc:=Cq ZH hE Ch
                have hlen:=BF Ch
                have Bb:=A.ev hx
                unfold den at Bb
                rw [hL]at Bb
                simp only [δ0,D0,β2,δ1,hj,β1]at Bb
                have SL:=Tb.at hY Fm
                refine MQ (w':=w.setCells L.b (k*s+q) (a.eval y).cells.toList) hw ?_ ⟨[],rfl,by rw [ε0];exact A2.ms⟩
                have GX : (Instr.storeAt t (.pointer (some ⟨L.b,k*s+q,none⟩)) (a.eval y)).run P w=.ok () (w.setCells L.b (k*s+q) (a.eval y).cells.toList):=by
                  cases rH:v with
                  | agg ll=>
                    rw [rH]at En C8 hl
                    cases hr:ti.row with
                    |none=>rw [hr]at En;exact absurd En.2 (by simp)
                    | some r=>
                      rw [hr]at En
                      have M8:=α5 En.2
                      unfold den at C8
                      obtain⟨us,u1,u2⟩:=γ8.1 C8
                      rw [←u2]
                      rw [←u2]at Bc hlen
                      simp only [Value.cells,List.toList_toArray]at Bc hlen⊢
                      have:=run_storeAt_mid (P:=P) w L.b (k*s+q) t us.toArray (fun z hz=>FE z (by simp at hz;omega)) (by simp;rw [hlen,M8];simpa using (EW (JF SL hr)).2) (by simpa using Bc)
                      simpa using this
                  | _ =>
                    all_goals
                      rw [rH]at En C8 hl
                      cases hr:ti.row with
                      |some r=>rw [hr]at En;exact absurd En.2 (by simp)
                      | none =>
                        rw [hr]at En
                        first
                        |(cases hl;done)
                        | (cases hl
                           have iK:(a.eval y).cells= #[a.eval y]:=by
                             have h1:=hlen
                             have h2:(a.eval y).oneCell'=true∨True:=.inr trivial
                             have IB:=Ch
                             obtain⟨v0,ws,w1,w2,w3⟩:=BH IB
                             cases w2
                             rw [C8]at w1
                             cases w1
                             apply ν6
                             simpa using w3
                           rw [iK]at Bc⊢
                           have hc:=FE 0 (by simp)
                           simp only [ι6]at hc
                           simp only [List.all_cons,List.all_nil,Bool.and_true]at Bc
                           cases hq:w.cell? ⟨L.b,k*s+q,none⟩with
                           |none=>rw [hq]at hc;cases hc.1
                           | some u=>
                             have ho:=JE SL En.2
                             unfold oneB at ho
                             rw [α3]at ho
                             have iG:(P.info? t).map (·.size)=some 1:=by simpa using ho.2
                             cases hqi:P.info? t with
                             |none=>simp [hqi]at iG
                             | some inf=>
                               have vP:inf.size=1:=by simpa [hqi]using iG
                               have hz:(sizeOf t).run P w=.ok 1 w:=by simp [sizeOf,typeInfo,hqi,vP]
                               have vQ:(store ((⟨L.b,k*s+q,none⟩:Addr).add 0) (a.eval y)).run P w=.ok () (w.setCell ⟨L.b,k*s+q,none⟩ (a.eval y)):=by
                                 rw [ζ3,ι6,run_store P w _ _ _ Bc,hq]
                                 simp [hc.2]
                               simp [Instr.storeAt,Instr.sureAddr,storeVar,hz,iK,storeCells,vQ,World.setCells])
                unfold execOp
                simp only [←Bb,γ4,GX,α9,γ6]
              ·cases h
            ·cases h
          ·cases h
        ·cases h
      ·cases h
    ·cases h
  ·cases h
theorem Uh {r:(Nat×Nat×Nat×Nat×Nat)×(Nat→List SV)×(Int×Nat)×List SV×Ob}(h:Ug Y n ops T H o=some r):DF n o.dst=true:=by
 unfold Ug at h
 split at h
 ·next hd=>exact hd
 ·cases h
theorem xS {i e s m c q:Nat} {j:Int} {f:Nat→List SV} {l:List SV} {E:Ob} (hY:Y.ok P=true) (k:Nat) (f':Nat→List SV) (A:Sy n T H ks G0 w0 G a w) (h:Ug Y n ops T H o=some ((i,e,s,m,c),f,(j,q),l,E)) (hE:Dc E) (hj:j.toNat=k) (hk:k<m)
  (Bw:∀j,j≠k→f' j=f j) (pU:sp q (f k) l=some (f' k)) (hg:∀{G a w},Sy n (BN T o.dst (.tup [])) (CE H i (some (.row e s m c f'))) ks G0 w0 G a w→Goal P Q K (.ops ops rest) a w):Goal P Q K (.ops ops (o::rest)) a w:=
 Af A (Uh h) (sD hY k f' h hE hj hk Bw pU) hg
end
section
variable {P:Program}{Y:Tb}{n:Nat}{ks:ae}{G0:Gr}{w0:World}{T:List (Nat×SV)}{H:Hp}{G:Gr}{a:Act}{w w':World}{Q:ab}{K:List Fr}{ops:ah}{o:Oper}{rest:ai}
def Xs (Y:Tb) (n:Nat) (ops:ah) (T:List (Nat×SV)) (H:Hp) (o:Oper):Option ((Nat×Nat×Nat×Nat×Nat)×(Nat→List SV)×(Nat×Nat×Nat)×(Nat→List SV)×(Nat×Nat)):=match DF n o.dst with
 | true =>match Av ops T o.guard with
  | some .run=>match o.op with
   | .call c=>match c.callee,c.args.toList,c.argTypes.toList with
    | .builtin .append,[x,y],[t,t']=>match DA T x,DA T y,Nat.beq t t' with
     | some (.sl i nn cc),some (.sl j mm mc),true=>match lg H i,partsOf (lg H j),Y.get t with
      | some (some (.row e s m c f)),some (s2,mb,g),some ti=>match ti.elm with
       |some (e',s',b)=>match Nat.beq e e'&&Nat.beq s s'&&Nat.beq s s2&&Nat.ble b 10000 with
        |true=>some ((i,e,s,m,c),f,(mm,mb,mc),g,(nn,cc))
        |false=>none
       |_=>none
      |_,_,_=>none
     |_,_,_=>none
    |_,_,_=>none
   |_=>none
  |_=>none
 |false=>none
end
section
variable {n:Nat}{ks:ae}{G0:Gr}{w0:World}{T:List (Nat×SV)}{H:Hp}{G:Gr}{a:Act}{w:World}
theorem Sy.rowAs (A:Sy n T H ks G0 w0 G a w)(i m':Nat)(f':Nat→List SV){e s m c:Nat}{f:Nat→List SV}(h:lg H i=some (some (.row e s m c f)))(hm:m'=m)(hf:∀k,k<m→f' k=f k)(Be:∀k,∃vs,AO [] (f' k)=some vs∧vs.length=s):Sy n T (CE H i (some (.row e s m' c f'))) ks G0 w0 G a w:=by
 subst hm
 rw [At]at h
 have IA:i<H.length:=(α0.1 h).1
 have hold:∀(j:Nat) (x:BZ),(CE H i (some (.row e s m' c f')))[j]?=some (some x)→(j≠i∧H[j]?=some (some x))∨(j=i∧x=.row e s m' c f'):=by
  intro j x h
  rw [Aw]at h
  by_cases hj:j=i
  ·subst hj;rw [γ7 IA]at h;cases h;exact .inr ⟨rfl,rfl⟩
  ·rw [γ0 (ε9 hj)]at h;exact .inl ⟨hj,h⟩
 refine⟨A.size,A.defers,A.get,⟨by rw [Aw];simpa using A.mem.len,?_,?_⟩,A.pre,?_,A.mix⟩
 ·intro j x hx
  rcases hold j x hx with⟨k1,k2⟩|⟨rfl,rfl⟩
  ·exact A.mem.ent j x k2
  ·obtain⟨h1,h2,xs,h3,h4⟩:=A.mem.ent j _ h
   exact⟨Be,h2,xs,by rw [Dd hf];exact h3,h4⟩
 ·intro j k x y L M Eb b1 b2 b3 b4 b5 b6
  have a1:∃x',H[j]?=some (some x')∧x'.mut=x.mut:=by
   rcases hold j x b1 with⟨_,k2⟩|⟨rfl,rfl⟩
   ·exact⟨x,k2,rfl⟩
   ·exact⟨_,h,rfl⟩
  have a2:∃y',H[k]?=some (some y')∧¬y'.empty:=by
   rcases hold k y b2 with⟨_,k2⟩|⟨rfl,rfl⟩
   ·exact⟨y,k2,b6⟩
   ·exact⟨_,h,fun h=>h⟩
  obtain⟨x',c1,c2⟩:=a1
  obtain⟨y',c3,c4⟩:=a2
  exact A.mem.sep j k x' y' L M Eb c1 c3 (by rw [c2];exact b3) b4 b5 c4
 ·intro j x L b1 b2 b3
  rcases hold j x b1 with⟨_,k2⟩|⟨rfl,rfl⟩
  ·exact A.own j x L k2 b2 b3
  ·exact A.own j _ L h U b3
end
section
variable {α:Type}{l m:List α}{d x:α}{k:Nat}
theorem BC (h:k<l.length):(l++m).getD k d=l.getD k d:=by simp [List.getD,α2 h]
theorem Br:(l++m).getD (l.length+k) d=m.getD k d:=by simp [List.getD,α1]
theorem De:(l++[x]).getD l.length d=x:=by simp [List.getD]
end
end
section
open Go.RowKit
abbrev zI:SV:=.int .i64 0
abbrev zS:SV:=.str []
def X:Tb:=(.n 140 ⟨true,none,(some [.sla none 0 0]),[],none,false,false,(some (125,10,96)),none,none⟩ (.n 70 ⟨false,(some 3),(some [zI,zI,zI]),[],none,false,false,none,(some [0,0,0]),(some (3,3,1))⟩ (.n 29 ⟨true,none,(some [.sla none 0 0]),[],none,false,false,(some (3,1,8)),none,none⟩ (.n 22 ⟨false,(some 3),(some [zI,zI,zI]),[],none,false,false,none,(some [0,0,0]),(some (3,3,1))⟩ (.n 5 ⟨true,none,(some [.int .u8 0]),[],(some .u8),false,false,none,none,none⟩ (.n 3 ⟨true,none,(some [zI]),[],(some .i64),false,false,none,none,none⟩ (.n 2 ⟨true,none,(some [zI]),[],(some .i64),false,false,none,none,none⟩ .e .e) (.n 4 ⟨true,none,(some [.ff]),[],none,false,true,none,none,none⟩ .e .e)) (.n 21 ⟨true,none,(some [.int .i32 0]),[],(some .i32),false,false,none,none,none⟩ (.n 9 ⟨true,none,(some [zS]),[],none,true,false,none,none,none⟩ .e .e) .e)) (.n 25 ⟨true,none,(some [.sla none 0 0]),[],none,false,false,(some (64,1,24)),none,none⟩ (.n 24 ⟨false,(some 24),(some [zI,zI,zI,zI,zI,zI,zI,zI,zI,zI,zI,zI,zI,zI,zI,zI,zI,zI,zI,zI,zI,zI,zI,zI]),[],none,false,false,none,(some [0,0,0,0,0,0,0,0,0,0,0,0,0,0,0,0,0,0,0,0,0,0,0,0]),(some (3,23,8))⟩ (.n 23 ⟨false,(some 8),(some [zI,zI,zI,zI,zI,zI,zI,zI]),[],none,false,false,none,(some [0,0,0,0,0,0,0,0]),(some (8,3,1))⟩ .e .e) .e) (.n 28 ⟨false,(some 32),(some [zI,zS,zI,zI,zI,zI,zI,zI,zI,zI,zI,zI,zI,zI,zI,zI,zI,zI,zI,zI,zI,zI,zI,zI,zI,zI,zI,zI,zI,.sla none 0 0,zI,.sla none 0 0]),[(3,0,1),(9,1,1),(22,2,3),(24,5,24),(25,29,1),(3,30,1),(26,31,1)],none,false,false,none,none,none⟩ (.n 26 ⟨true,none,(some [.sla none 0 0]),[],none,false,false,(some (66,5,40)),none,none⟩ .e .e) .e))) (.n 53 ⟨false,(some 27),(some [zI,zI,zI,zI,zI,zI,zI,zI,zI,zI,zI,zI,zI,zI,zI,zI,zI,zI,zI,zI,zI,zI,zI,zI,zI,zI,zI]),[(24,0,24),(22,24,3)],none,false,false,none,(some [0,0,0,0,0,0,0,0,0,0,0,0,0,0,0,0,0,0,0,0,0,0,0,0,0,0,0]),none⟩ (.n 39 ⟨true,none,(some [.sla none 0 0]),[],none,false,false,(some (44,4,32)),none,none⟩ (.n 33 ⟨true,none,(some [.v (.pointer none)]),[],none,false,false,none,none,none⟩ (.n 31 ⟨true,none,(some [zI]),[],(some .i64),false,false,none,none,none⟩ .e .e) (.n 36 ⟨true,none,(some [.v (.pointer none)]),[],none,false,false,none,none,none⟩ .e .e)) (.n 48 ⟨true,none,(some [.v .nilIface]),[],none,false,false,none,none,none⟩ (.n 44 ⟨false,(some 4),(some [zI,zI,zI,zI]),[(3,0,1),(3,1,1),(3,2,1),(3,3,1)],none,false,false,none,(some [0,0,0,0]),none⟩ .e .e) .e)) (.n 64 ⟨true,none,(some [.sla none 0 0]),[],none,false,false,(some (63,17,120)),none,none⟩ (.n 63 ⟨false,(some 17),(some [zI,zI,zI,zI,zI,zI,zI,zI,zI,zI,.ff,.ff,.ff,zI,zI,zI,.ff]),[(3,0,1),(3,1,1),(3,2,1),(3,3,1),(3,4,1),(3,5,1),(3,6,1),(3,7,1),(3,8,1),(3,9,1),(4,10,1),(4,11,1),(4,12,1),(3,13,1),(3,14,1),(3,15,1),(4,16,1)],none,false,false,none,(some [0,0,0,0,0,0,0,0,0,0,1,1,1,0,0,0,1]),none⟩ (.n 58 ⟨true,none,(some [.v (.pointer none)]),[],none,false,false,none,none,none⟩ .e .e) .e) (.n 69 ⟨true,none,(some [.v (.pointer none)]),[],none,false,false,none,none,none⟩ (.n 66 ⟨false,(some 5),(some [zI,zI,zI,zI,zI]),[(3,0,1),(3,1,1),(3,2,1),(3,3,1),(3,4,1)],none,false,false,none,(some [0,0,0,0,0]),none⟩ .e .e) .e)))) (.n 99 ⟨true,none,(some [.v (.pointer none)]),[],none,false,false,none,none,none⟩ (.n 82 ⟨true,none,(some [.v .nilFunc]),[],none,false,false,none,none,none⟩ (.n 79 ⟨false,(some 4),(some [.v (.pointer none),zI,zI,zI]),[(69,0,1),(70,1,3)],none,false,false,none,none,none⟩ (.n 73 ⟨false,(some 3),(some [.sla none 0 0,.sla none 0 0,.sla none 0 0]),[],none,false,false,none,none,(some (3,72,1))⟩ (.n 72 ⟨true,none,(some [.sla none 0 0]),[],none,false,false,(some (123,3,24)),none,none⟩ .e .e) (.n 75 ⟨false,(some 7),(some [.v (.pointer none),zI,zI,zI,.sla none 0 0,.sla none 0 0,.sla none 0 0]),[(69,0,1),(70,1,3),(73,4,3)],none,false,false,none,none,none⟩ .e .e)) (.n 81 ⟨true,none,(some [.v .nilFunc]),[],none,false,false,none,none,none⟩ (.n 80 ⟨true,none,(some [.v .nilFunc]),[],none,false,false,none,none,none⟩ .e .e) .e)) (.n 95 ⟨true,none,(some [.sla none 0 0]),[],none,false,false,(some (107,3,24)),none,none⟩ (.n 94 ⟨true,none,(some [.sla none 0 0]),[],none,false,false,(some (99,1,8)),none,none⟩ (.n 84 ⟨false,(some 4),(some [zS,.v .nilFunc,.v .nilFunc,.v .nilFunc]),[(9,0,1),(80,1,1),(81,2,1),(82,3,1)],none,false,false,none,none,none⟩ .e .e) .e) (.n 98 ⟨false,(some 40),(some [zI,zS,zI,zI,zI,zI,zI,zI,zI,zI,zI,zI,zI,zI,zI,zI,zI,zI,zI,zI,zI,zI,zI,zI,zI,zI,zI,zI,zI,.sla none 0 0,zI,.sla none 0 0,.sla none 0 0,zI,zI,zI,.sla none 0 0,.sla none 0 0,.sla none 0 0,.ff]),[(28,0,32),(94,32,1),(22,33,3),(96,36,3),(4,39,1)],none,false,false,none,none,none⟩ (.n 96 ⟨false,(some 3),(some [.sla none 0 0,.sla none 0 0,.sla none 0 0]),[],none,false,false,none,none,(some (3,95,1))⟩ .e .e) .e))) (.n 125 ⟨false,(some 10),(some [.sla none 0 0,zI,zI,zI,zI,zI,zI,zI,zI,zI]),[(64,0,1),(3,1,1),(23,2,8)],none,false,false,none,none,none⟩ (.n 108 ⟨true,none,(some [.v .nilFunc]),[],none,false,false,none,none,none⟩ (.n 105 ⟨false,(some 2),(some [zI,zI]),[(3,0,1),(3,1,1)],none,false,false,none,(some [0,0]),none⟩ (.n 101 ⟨false,(some 11),(some [.sla none 0 0,zI,zI,zI,zI,zI,zI,zI,zI,zI,.sla none 0 0]),[(64,0,1),(23,1,8),(3,9,1),(29,10,1)],none,false,false,none,none,none⟩ .e .e) (.n 107 ⟨false,(some 3),(some [zI,zI,zI]),[(105,0,2),(3,2,1)],none,false,false,none,(some [0,0,0]),none⟩ .e .e)) (.n 123 ⟨false,(some 3),(some [zI,zI,zI]),[(105,0,2),(3,2,1)],none,false,false,none,(some [0,0,0]),none⟩ (.n 112 ⟨false,(some 15),(some [zI,zI,zI,zI,zI,zI,.ff,.ff,zI,zI,.ff,.ff,.ff,zI,zI]),[(3,0,1),(3,1,1),(3,2,1),(3,3,1),(105,4,2),(4,6,1),(4,7,1),(3,8,1),(3,9,1),(4,10,1),(4,11,1),(4,12,1),(3,13,1),(3,14,1)],none,false,false,none,(some [0,0,0,0,0,0,1,1,0,0,1,1,1,0,0]),none⟩ .e .e) .e)) (.n 130 ⟨true,none,(some [.sla none 0 0]),[],none,false,false,(some (134,4,40)),none,none⟩ (.n 128 ⟨true,none,(some [.sla none 0 0]),[],none,false,false,(some (84,4,40)),none,none⟩ (.n 126 ⟨true,none,(some [.v (.pointer none)]),[],none,false,false,none,none,none⟩ .e .e) .e) (.n 139 ⟨true,none,(some [.sla none 0 0]),[],none,false,false,(some (23,8,64)),none,none⟩ (.n 134 ⟨false,(some 4),(some [zI,zS,zI,zI]),[(3,0,1),(9,1,1),(3,2,1),(3,3,1)],none,false,false,none,(some [0,2,0,0]),none⟩ .e .e) .e))))) (.n 233 ⟨false,(some 2),(some [.sla none 0 0,zI]),[(130,0,1),(3,1,1)],none,false,false,none,none,none⟩ (.n 191 ⟨true,none,(some [.v (.pointer none)]),[],none,false,false,none,none,none⟩ (.n 173 ⟨true,none,(some [.sla none 0 0]),[],none,false,false,(some (203,20,176)),none,none⟩ (.n 170 ⟨false,(some 8),(some [zS,zS,zS,zS,zS,zS,zS,zS]),[],none,false,false,none,(some [2,2,2,2,2,2,2,2]),(some (8,9,1))⟩ (.n 152 ⟨true,none,(some [.sla none 0 0]),[],none,false,false,(some (5,1,1)),none,none⟩ (.n 142 ⟨false,(some 1),(some [.sla none 0 0]),[(140,0,1)],none,false,false,none,none,none⟩ .e .e) (.n 154 ⟨true,none,(some [.v (.pointer none)]),[],none,false,false,none,none,none⟩ .e .e)) (.n 172 ⟨false,(some 3),(some [zS,zS,zS]),[],none,false,false,none,(some [2,2,2]),(some (3,9,1))⟩ (.n 171 ⟨false,(some 4),(some [zS,zS,zS,zS]),[],none,false,false,none,(some [2,2,2,2]),(some (4,9,1))⟩ .e .e) .e)) (.n 185 ⟨true,none,(some [.int .u64 0]),[],(some .u64),false,false,none,none,none⟩ (.n 178 ⟨true,none,(some [.v .nilFunc]),[],none,false,false,none,none,none⟩ (.n 175 ⟨false,(some 17),(some [zS,zS,zS,zS,zS,zS,zS,zS,zS,zS,zS,zS,zS,zS,zS,zS,.sla none 0 0]),[(170,0,8),(171,8,4),(9,12,1),(172,13,3),(173,16,1)],none,false,false,none,none,none⟩ .e .e) .e) (.n 190 ⟨true,none,(some [.v (.pointer none)]),[],none,false,false,none,none,none⟩ (.n 188 ⟨true,none,(some [.int .u64 0]),[],(some .u64),false,false,none,none,none⟩ .e .e) .e))) (.n 208 ⟨true,none,(some [zI]),[],(some .i64),false,false,none,none,none⟩ (.n 201 ⟨true,none,(some [.sla none 0 0]),[],none,false,false,(some (208,1,8)),none,none⟩ (.n 195 ⟨true,none,(some [.v (.pointer none)]),[],none,false,false,none,none,none⟩ (.n 194 ⟨false,(some 36),(some [.v (.pointer none),zS,zS,zS,zS,zS,zS,zS,zS,zS,zS,zS,zS,zS,zS,zS,zS,.sla none 0 0,zI,zI,zI,zI,zI,zI,zI,zI,zI,zI,.ff,.ff,.ff,zI,zI,zI,.ff,zS]),[(191,0,1),(175,1,17),(63,18,17),(9,35,1)],none,false,false,none,none,none⟩ .e .e) (.n 197 ⟨false,(some 3),(some [.v (.pointer none),zI,zI]),[(195,0,1),(31,1,1),(3,2,1)],none,false,false,none,none,none⟩ .e .e)) (.n 207 ⟨true,none,(some [.sla none 0 0]),[],none,false,false,(some (9,1,16)),none,none⟩ (.n 203 ⟨false,(some 20),(some [zS,zS,zI,zI,zI,zI,zI,zI,zI,zI,zI,zI,.ff,.ff,.ff,zI,zI,zI,.ff,.sla none 0 0]),[(9,0,1),(9,1,1),(63,2,17),(201,19,1)],none,false,false,none,none,none⟩ .e .e) .e)) (.n 226 ⟨true,none,(some [.int .u32 0]),[],(some .u32),false,false,none,none,none⟩ (.n 220 ⟨false,(some 24),(some [.int .u8 0,.int .u8 0,.int .u8 0,.int .u8 0,.int .u8 0,.int .u8 0,.int .u8 0,.int .u8 0,.int .u8 0,.int .u8 0,.int .u8 0,.int .u8 0,.int .u8 0,.int .u8 0,.int .u8 0,.int .u8 0,.int .u8 0,.int .u8 0,.int .u8 0,.int .u8 0,.int .u8 0,.int .u8 0,.int .u8 0,.int .u8 0]),[],none,false,false,none,(some [0,0,0,0,0,0,0,0,0,0,0,0,0,0,0,0,0,0,0,0,0,0,0,0]),(some (24,5,1))⟩ (.n 215 ⟨true,none,(some [.v .nilIface]),[],none,false,false,none,none,none⟩ .e .e) .e) (.n 228 ⟨true,none,(some [.sla none 0 0]),[],none,false,false,(some (227,2,24)),none,none⟩ (.n 227 ⟨false,(some 2),(some [zS,zI]),[(9,0,1),(3,1,1)],none,false,false,none,(some [2,0]),none⟩ .e .e) .e)))) (.n 257 ⟨true,none,(some [.sla none 0 0]),[],none,false,false,(some (256,3,32)),none,none⟩ (.n 251 ⟨true,none,(some [.sla none 0 0]),[],none,false,false,(some (250,3,24)),none,none⟩ (.n 248 ⟨false,(some 2),(some [zS,zI]),[(9,0,1),(3,1,1)],none,false,false,none,(some [2,0]),none⟩ (.n 244 ⟨false,(some 2),(some [.v (.pointer none),.sla none 0 0]),[(242,0,1),(152,1,1)],none,false,false,none,none,none⟩ (.n 242 ⟨true,none,(some [.v (.pointer none)]),[],none,false,false,none,none,none⟩ .e .e) (.n 247 ⟨true,none,(some [.sla none 0 0]),[],none,false,false,(some (173,1,24)),none,none⟩ .e .e)) (.n 250 ⟨false,(some 3),(some [zS,.ff,.ff]),[(9,0,1),(4,1,1),(4,2,1)],none,false,false,none,(some [2,1,1]),none⟩ (.n 249 ⟨true,none,(some [.sla none 0 0]),[],none,false,false,(some (248,2,24)),none,none⟩ .e .e) .e)) (.n 254 ⟨false,(some 3),(some [zS,.ff,.ff]),[(9,0,1),(4,1,1),(4,2,1)],none,false,false,none,(some [2,1,1]),none⟩ (.n 253 ⟨true,none,(some [.sla none 0 0]),[],none,false,false,(some (252,2,24)),none,none⟩ (.n 252 ⟨false,(some 2),(some [zS,zI]),[(9,0,1),(3,1,1)],none,false,false,none,(some [2,0]),none⟩ .e .e) .e) (.n 256 ⟨false,(some 3),(some [zS,zI,zI]),[(9,0,1),(3,1,1),(3,2,1)],none,false,false,none,(some [2,0,0]),none⟩ (.n 255 ⟨true,none,(some [.sla none 0 0]),[],none,false,false,(some (254,3,24)),none,none⟩ .e .e) .e))) (.n 277 ⟨true,none,(some [.v (.pointer none)]),[],none,false,false,none,none,none⟩ (.n 262 ⟨false,(some 32),(some [.int .u8 0,.int .u8 0,.int .u8 0,.int .u8 0,.int .u8 0,.int .u8 0,.int .u8 0,.int .u8 0,.int .u8 0,.int .u8 0,.int .u8 0,.int .u8 0,.int .u8 0,.int .u8 0,.int .u8 0,.int .u8 0,.int .u8 0,.int .u8 0,.int .u8 0,.int .u8 0,.int .u8 0,.int .u8 0,.int .u8 0,.int .u8 0,.int .u8 0,.int .u8 0,.int .u8 0,.int .u8 0,.int .u8 0,.int .u8 0,.int .u8 0,.int .u8 0]),[],none,false,false,none,(some [0,0,0,0,0,0,0,0,0,0,0,0,0,0,0,0,0,0,0,0,0,0,0,0,0,0,0,0,0,0,0,0]),(some (32,5,1))⟩ (.n 261 ⟨false,(some 65),(some [.int .u8 0,.int .u8 0,.int .u8 0,.int .u8 0,.int .u8 0,.int .u8 0,.int .u8 0,.int .u8 0,.int .u8 0,.int .u8 0,.int .u8 0,.int .u8 0,.int .u8 0,.int .u8 0,.int .u8 0,.int .u8 0,.int .u8 0,.int .u8 0,.int .u8 0,.int .u8 0,.int .u8 0,.int .u8 0,.int .u8 0,.int .u8 0,.int .u8 0,.int .u8 0,.int .u8 0,.int .u8 0,.int .u8 0,.int .u8 0,.int .u8 0,.int .u8 0,.int .u8 0,.int .u8 0,.int .u8 0,.int .u8 0,.int .u8 0,.int .u8 0,.int .u8 0,.int .u8 0,.int .u8 0,.int .u8 0,.int .u8 0,.int .u8 0,.int .u8 0,.int .u8 0,.int .u8 0,.int .u8 0,.int .u8 0,.int .u8 0,.int .u8 0,.int .u8 0,.int .u8 0,.int .u8 0,.int .u8 0,.int .u8 0,.int .u8 0,.int .u8 0,.int .u8 0,.int .u8 0,.int .u8 0,.int .u8 0,.int .u8 0,.int .u8 0,.int .u8 0]),[],none,false,false,none,(some [0,0,0,0,0,0,0,0,0,0,0,0,0,0,0,0,0,0,0,0,0,0,0,0,0,0,0,0,0,0,0,0,0,0,0,0,0,0,0,0,0,0,0,0,0,0,0,0,0,0,0,0,0,0,0,0,0,0,0,0,0,0,0,0,0]),(some (65,5,1))⟩ (.n 260 ⟨false,(some 20),(some [.int .u64 0,.int .u64 0,.int .u64 0,.int .u64 0,.int .u64 0,.int .u64 0,.int .u64 0,.int .u64 0,.int .u64 0,.int .u64 0,.int .u64 0,.int .u64 0,.int .u64 0,.int .u64 0,.int .u64 0,.int .u64 0,.int .u64 0,.int .u64 0,.int .u64 0,.int .u64 0]),[],none,false,false,none,(some [0,0,0,0,0,0,0,0,0,0,0,0,0,0,0,0,0,0,0,0]),(some (20,185,1))⟩ .e .e) .e) (.n 271 ⟨true,none,(some [.v .nilFunc]),[],none,false,false,none,none,none⟩ (.n 263 ⟨false,(some 64),(some [.int .u8 0,.int .u8 0,.int .u8 0,.int .u8 0,.int .u8 0,.int .u8 0,.int .u8 0,.int .u8 0,.int .u8 0,.int .u8 0,.int .u8 0,.int .u8 0,.int .u8 0,.int .u8 0,.int .u8 0,.int .u8 0,.int .u8 0,.int .u8 0,.int .u8 0,.int .u8 0,.int .u8 0,.int .u8 0,.int .u8 0,.int .u8 0,.int .u8 0,.int .u8 0,.int .u8 0,.int .u8 0,.int .u8 0,.int .u8 0,.int .u8 0,.int .u8 0,.int .u8 0,.int .u8 0,.int .u8 0,.int .u8 0,.int .u8 0,.int .u8 0,.int .u8 0,.int .u8 0,.int .u8 0,.int .u8 0,.int .u8 0,.int .u8 0,.int .u8 0,.int .u8 0,.int .u8 0,.int .u8 0,.int .u8 0,.int .u8 0,.int .u8 0,.int .u8 0,.int .u8 0,.int .u8 0,.int .u8 0,.int .u8 0,.int .u8 0,.int .u8 0,.int .u8 0,.int .u8 0,.int .u8 0,.int .u8 0,.int .u8 0,.int .u8 0]),[],none,false,false,none,(some [0,0,0,0,0,0,0,0,0,0,0,0,0,0,0,0,0,0,0,0,0,0,0,0,0,0,0,0,0,0,0,0,0,0,0,0,0,0,0,0,0,0,0,0,0,0,0,0,0,0,0,0,0,0,0,0,0,0,0,0,0,0,0,0]),(some (64,5,1))⟩ .e .e) .e)) (.n 304 ⟨false,(some 2),(some [.int .u8 0,.int .u8 0]),[(5,0,1),(5,1,1)],none,false,false,none,(some [0,0]),none⟩ (.n 298 ⟨false,(some 3),(some [zS,zS,.v .nilIface]),[(9,0,1),(9,1,1),(215,2,1)],none,false,false,none,none,none⟩ (.n 293 ⟨true,none,(some [.v (.pointer none)]),[],none,false,false,none,none,none⟩ .e .e) .e) (.n 308 ⟨false,(some 1),(some [zS]),[(9,0,1)],none,false,false,none,(some [2]),none⟩ (.n 305 ⟨false,(some 32),(some [.int .u8 0,.int .u8 0,.int .u8 0,.int .u8 0,.int .u8 0,.int .u8 0,.int .u8 0,.int .u8 0,.int .u8 0,.int .u8 0,.int .u8 0,.int .u8 0,.int .u8 0,.int .u8 0,.int .u8 0,.int .u8 0,.int .u8 0,.int .u8 0,.int .u8 0,.int .u8 0,.int .u8 0,.int .u8 0,.int .u8 0,.int .u8 0,.int .u8 0,.int .u8 0,.int .u8 0,.int .u8 0,.int .u8 0,.int .u8 0,.int .u8 0,.int .u8 0]),[],none,false,false,none,(some [0,0,0,0,0,0,0,0,0,0,0,0,0,0,0,0,0,0,0,0,0,0,0,0,0,0,0,0,0,0,0,0]),(some (16,304,2))⟩ .e .e) .e))))))
theorem hX:Tb.ok Tryz.prog X=true:=by kernel_rfl
section
variable {n:Nat}{ks:ae}{G0:Gr}{w0:World}{T T':List (Nat×SV)}{H H':Hp}{G:Gr}{a:Act}{w:World}{Q:ab}{K K':List Fr}{pos pos':Pos}{E:Ob}
abbrev SV.z9:SV:=.int .i64 0
abbrev SV.n9 (x:Int):SV:=.int .i64 x
theorem N9 (f:Nat)(A:Sy n T H ks G0 w0 G a w)(h:bH ⟨X,true⟩ n f T H K pos=⟨T',H',K',pos',E⟩)(hE:Dc E)(hk:∀{G a w},Sy n T' H' ks G0 w0 G a w→Goal Tryz.prog Q K' pos' a w):Goal Tryz.prog Q K pos a w:=N hX f A h hE hk
theorem R9 {fn:Func}{x:SV}{H2 H0:Hp}{y:SV}{r:List SV}{rv:List ResultVar}(A:Sy n T H (keys H0 G0) G0 w0 G a w)(h1:(fn.results.toList,KB ⟨X,false⟩ T H rv,Am r)=(rv,some r,y))(h0:H0.length=G0.length)(h2:(Lm H0.length y,H.take H0.length,Zd H0.length H',RK H0 H2)=(true,H',true,UZ H2))(hR:nb y=nb x)(hS:Bx H'=Bx H2):bodyPost Tryz.prog fn (NO (Rt x H2) H0 G0 w0) .ret a w:=by
 simp only [κ8]at h1 h2
 exact sB hX A h1.1 h1.2.1 h1.2.2 h0 h2.1 h2.2.1 h2.2.2.1 h2.2.2.2 hR hS
theorem C9 {ops:ah}{o:Oper}{rest:ai}{f:Nat}{args az:List SV}{H2 l l2:Hp}{x y:SV}(m:ae)(hf:Fn Tryz.prog f args H' (Rt x H2))(A:Sy n T H ks G0 w0 G a w)(h:(Bi n ops T o,D8 m args,DR m H',DC H m,Ks m,D4 (m++BT H.length (H2.length - m.length)) x,DR (m++BT H.length (H2.length - m.length)) H2)=(some (f,az),some az,some l,some l,true,some y,some l2))(hk:∀{G a w},Sy n (BN T o.dst y) (CN H m l2) ks G0 w0 G a w→Goal Tryz.prog Q K (.ops ops rest) a w):Goal Tryz.prog Q K (.ops ops (o::rest)) a w:=by
 simp only [κ8]at h
 exact kC m hf A h.1 h.2.1 h.2.2.1 h.2.2.2.1 h.2.2.2.2.1 h.2.2.2.2.2.1 h.2.2.2.2.2.2 hk
end
end
section
open Go.RowKit
def Xt (m:ae):List (Nat×SV)→Option (List (Nat×SV))
 | []=>some []
 | (t,x)::T=>match D4 m x with
  |some y=>match Xt m T with
   |some r=>some ((t,y)::r)
   |none=>none
  |none=>none
theorem MZ {m:ae}:∀{T' T:List (Nat×SV)},Xt m T'=some T→∀t x,look T' t=some x→∃y,look T t=some y∧D4 m x=some y
 | [],T,h,t,x,hx=>by cases hx
 | (k,z)::T',T,h,t,x,hx=>by
  unfold Xt at h
  split at h
  ·next y hy=>
   split at h
   ·next r hr=>
    cases h
    simp only [look]at hx⊢
    cases hb:Nat.beq k t with
    |true=>rw [hb]at hx;cases hx;exact⟨y,rfl,hy⟩
    |false=>rw [hb]at hx;exact MZ hr t x hx
   ·cases h
  ·cases h
section
variable {n:Nat}{ks:ae}{G0:Gr}{w0:World}{T:List (Nat×SV)}{H:Hp}{G:Gr}{a:Act}{w:World}
theorem Sy.mv (A:Sy n T H ks G0 w0 G a w)(k:Nat)(m:ae){T':List (Nat×SV)}{H' l:Hp}(hT:Xt (BT 0 k++m) T'=some T)(h1:DC H (BT 0 k++m)=some l)(h2:DR (BT 0 k++m) H'=some l)(hn:Ks (BT 0 k++m)=true)(hk:G0.length=k):Sy n T' H' ks G0 w0 (BE (BT 0 k++m) G) a w:=by
 obtain⟨p1,p2,p3⟩:=Du h1
 obtain⟨r1,r2⟩:=EG h2
 have hm:∀j∈BT 0 k++m,j<G.length:=fun j hj=>by rw [←A.mem.len];exact p2 j hj
 refine⟨A.size,A.defers,fun t x hx=>?_,A.mem.sub h1 h2 hn,?_,fun i e L he KJ hL=>?_,A.mix⟩
 ·obtain⟨y,h3,h4⟩:=MZ hT t x hx
  rw [Eu hm x h4]
  exact A.get t y h3
 ·obtain⟨F,hF⟩:=A.pre
  refine⟨BE m G,?_⟩
  have:BE (BT 0 k++m) G=BE (BT 0 k) G++BE m G:=by simp [BE]
  rw [this,←hk,hF,Oa]
 ·obtain⟨f,h3,h4⟩:=r2 i _ he
  have hi:i<(BT 0 k++m).length:=by rw [←p1];exact(α0.1 h3).1
  obtain⟨f',rfl⟩:=Dj h4
  have hj:(BT 0 k++m)[i]?=some (BT 0 k++m)[i]:=by simp [hi]
  rw [Bp hm hj]at hL
  exact A.own _ f' L (by rw [←p3 i _ hj];exact h3) (by rw [(Ck h4).1];exact KJ) hL
end
end
section
open Go.RowKit
section
variable {P:Program}{Y:Tb}{n:Nat}{ks:ae}{G0:Gr}{w0:World}{T:List (Nat×SV)}{H:Hp}{G:Gr}{a:Act}{w w':World}{Q:ab}{K:List Fr}{ops:ah}{o:Oper}{rest:ai}
theorem Ef {f:Nat} {args az:List SV} {H' H2 l l2:Hp} {x y:SV} (m:ae) (hf:Fn P f args H' (Rt x H2)) (h1:Bi n ops T o=some (f,az)) (h2:D8 m args=some az) (h3:DR m H'=some l) (h4:DC H m=some l) (h5:Ks m=true)
  (h6:D4 (m++BT H.length (H2.length - m.length)) x=some y) (h7:DR (m++BT H.length (H2.length - m.length)) H2=some l2):BG P n ops ks G0 w0 T H o y (CN H m l2):=by
 intro G a w A
 rcases RM (R2:=fun z H3=>z=y∧H3=CN H m l2) m hf A h1 h2 h3 h4 h5 (fun x' H' ⟨e1,e2⟩=>by subst e1;subst e2;exact⟨y,l2,h6,h7,rfl,rfl⟩)with⟨hw,h⟩|⟨hw,z,H3,F,⟨rfl,rfl⟩,g2,g3⟩
 ·refine .inl ⟨hw,fun Q'=>?_⟩
  refine κ4 (fun a' w' hh=>?_) (h Q')
  obtain⟨v,rfl,z,H3,F,⟨rfl,rfl⟩,g2,g3⟩:=hh
  exact⟨v,rfl,F,g2,g3.ms⟩
 ·exact .inr ⟨hw,F,g2,g3.ms⟩
theorem GP {fn:Func}{R:Ending→World→Prop}(h:bodyPost P fn R .ret a w):bodyPost P fn R .normal a w:=h
theorem kH {α:Type} {c:Code} (T':α→List (Nat×SV)) (H':α→Hp) (I:α→Prop) (A:Sy n T H ks G0 w0 G a w) (h:∀{G a w},Sy n T H ks G0 w0 G a w→Goal P Q (.lp (fun a w=>∃x G,I x∧Sy n (T' x) (H' x) ks G0 w0 G a w)::K) (.code c) a w)
  (hk:∀x,I x→∀{G a w},Sy n (T' x) (H' x) ks G0 w0 G a w→Goal P Q K .norm a w):Goal P Q K (.code c) a w:=sC T' H' I A h hk
end
abbrev Dl:=World→List Nat→Prop
def Dl.OK (I:Dl):Prop:=∀w ks w' ks',I w ks→CQ ks w w'→(∀b,ks'.contains b=true→ks.contains b=true∨w.heap.size≤b)→I w' ks'
def BQ (I:Dl)(P:Program)(f:Nat)(args:List SV)(H:Hp)(R:SV→Hp→Prop):Prop:=
 HT P f=some (false,false)∧∀G w vs,Mem H G w→I w (keys H G)→AO G args=some vs→Calls P f vs.toArray w (NO R H G w)
theorem Fn.toI {I:Dl}{P:Program}{f:Nat}{args:List SV}{H:Hp}{R:SV→Hp→Prop}(h:Fn P f args H R):BQ I P f args H R:=⟨h.1,fun G w vs hM _ hv=>h.2 G w vs hM hv⟩
theorem BQ.mono {I J:Dl}{P:Program}{f:Nat}{args:List SV}{H:Hp}{R:SV→Hp→Prop}(h:BQ I P f args H R)(hj:∀w ks,J w ks→I w ks):BQ J P f args H R:=⟨h.1,fun G w vs hM hJ hv=>h.2 G w vs hM (hj _ _ hJ) hv⟩
section
variable {P:Program}{X:Tx}{n:Nat}{ks:ae}{G0:Gr}{w0:World}{T:List (Nat×SV)}{H:Hp}{G:Gr}{a:Act}{w:World}{ops:ah}{o:Oper}{rest:ai}{Q:ab}{K:List Fr}{I:Dl}
theorem BQ.at {f:Nat}{args:List SV}{H':Hp}{R:SV→Hp→Prop}(h:BQ I P f args H' R)(hI:I.OK)(h0:I w0 ks)(hm:CQ ks w0 w){Gp:Gr}:bK P f args H' R Gp w ks w0:=
 ⟨h.1,fun vs hM Do hv=>h.2 Gp w vs hM (hI _ _ _ _ h0 hm Do) hv⟩
theorem Ol {f:Nat} {args az:List SV} {H' l:Hp} {R R2:SV→Hp→Prop} (m:ae) (A:Sy n T H ks G0 w0 G a w) (hf:bK P f args H' R (BE m G) w ks w0) (h1:Bi n ops T o=some (f,az)) (h2:D8 m args=some az) (h3:DR m H'=some l) (h4:DC H m=some l) (h5:Ks m=true)
  (hk:∀x H2,R x H2→∃y l2,D4 (m++BT H.length (H2.length - m.length)) x=some y∧DR (m++BT H.length (H2.length - m.length)) H2=some l2∧R2 y (CN H m l2)):BY P ops o a w fun v w'=>∃y H3 F,R2 y H3∧den (G++F) y=some v∧Sy n T H3 ks G0 w0 (G++F) a w':=
 Oc m A hf (DO A h1 hf.1) h2 h3 h4 h5 hk
theorem kI {f:Nat} {args az:List SV} {H' H2 l l2:Hp} {x y:SV} (m:ae) (hI:I.OK) (h0:I w0 ks) (hf:BQ I P f args H' (Rt x H2)) (A:Sy n T H ks G0 w0 G a w) (h1:Bi n ops T o=some (f,az)) (h2:D8 m args=some az) (h3:DR m H'=some l) (h4:DC H m=some l) (h5:Ks m=true)
  (h6:D4 (m++BT H.length (H2.length - m.length)) x=some y) (h7:DR (m++BT H.length (H2.length - m.length)) H2=some l2) (hk:∀{G a w},Sy n (BN T o.dst y) (CN H m l2) ks G0 w0 G a w→Goal P Q K (.ops ops rest) a w):Goal P Q K (.ops ops (o::rest)) a w:=by
 have hd:=(DO (P:=P) (ops:=ops) A h1 hf.1).1
 refine DN (Q:=He P Q K) ?_
 rcases Ol (R2:=fun y H3=>∀{G a w},Sy n (BN T o.dst y) H3 ks G0 w0 G a w→Goal P Q K (.ops ops rest) a w) m A (hf.at hI h0 A.mix) h1 h2 h3 h4 h5 (fun x' H' ⟨e1,e2⟩=>by subst e1;subst e2;exact⟨y,l2,h6,h7,hk⟩)with⟨hw,h⟩|⟨hw,y,H3,F,g1,g2,g3⟩
 ·refine .inl ⟨hw,fun Q'=>?_⟩
  refine κ4 (fun a' w' hh=>?_) (h Q')
  obtain⟨v,rfl,y,H3,F,g1,g2,g3⟩:=hh
  exact⟨v,rfl,g1 (Sy.put g3 hd g2)⟩
 ·exact .inr ⟨hw,g1 (Sy.put g3 hd g2)⟩
theorem CU {f:Nat} {args az:List SV} {H' H2 l l2:Hp} {x y:SV} (m:ae) (hI:I.OK) (h0:I w0 ks) (hf:BQ I P f args H' (Rt x H2)) (h1:Bi n ops T o=some (f,az)) (h2:D8 m args=some az) (h3:DR m H'=some l) (h4:DC H m=some l) (h5:Ks m=true)
  (h6:D4 (m++BT H.length (H2.length - m.length)) x=some y) (h7:DR (m++BT H.length (H2.length - m.length)) H2=some l2):BG P n ops ks G0 w0 T H o y (CN H m l2):=by
 intro G a w A
 rcases Ol (R2:=fun z H3=>z=y∧H3=CN H m l2) m A (hf.at hI h0 A.mix) h1 h2 h3 h4 h5 (fun x' H' ⟨e1,e2⟩=>by subst e1;subst e2;exact⟨y,l2,h6,h7,rfl,rfl⟩)with⟨hw,h⟩|⟨hw,z,H3,F,⟨rfl,rfl⟩,g2,g3⟩
 ·refine .inl ⟨hw,fun Q'=>?_⟩
  refine κ4 (fun a' w' hh=>?_) (h Q')
  obtain⟨v,rfl,z,H3,F,⟨rfl,rfl⟩,g2,g3⟩:=hh
  exact⟨v,rfl,F,g2,g3.ms⟩
 ·exact .inr ⟨hw,F,g2,g3.ms⟩
theorem Aa {f:Nat} {fn:Func} {c:Code} {args:List SV} {R:SV→Hp→Prop} (CG:HT P f=some (false,false)) (hf:P.funcs[f]?=some fn) (hb:fn.body=some c) (hn:fn.ntmps=n) (hl:Nat.ble args.length n=true)
  (h:∀G w a,H.length=G.length→I w (keys H G)→Sy n (OZ args 0) H (keys H G) G w G a w→Goal P (bodyPost P fn (NO R H G w)) [] (.code c) a w):BQ I P f args H R:=by
 refine⟨CG,fun G w vs hM hI hv=>?_⟩
 refine π8 hf hb (h G w _ hM.len hI ⟨?_,rfl,fun t x hx=>?_,hM,⟨[],by simp⟩,fun i e L h1 h2 h3=>.inl (mem_keys.2 ⟨i,e,L,h1,h2,h3,rfl⟩),CQ.refl _ _⟩)
 ·have:=BF hv
  have:=δ8 hl
  simp [hn];omega
 ·obtain⟨_,h2⟩:=EX hx
  simp only [ξ7]at h2
  obtain⟨v,h3,h4⟩:=C0 hv h2
  have BU:t<vs.length:=(α0.1 h3).1
  rw [h4]
  simp [β5,κ1,BU]at h3⊢
  exact h3.symm
end
section
variable {n:Nat}{ks:ae}{G0:Gr}{w0:World}{T T':List (Nat×SV)}{H H':Hp}{G:Gr}{a:Act}{w:World}{Q:ab}{K K':List Fr}{pos pos':Pos}{E:Ob}
theorem I9 {I:Dl}{ops:ah}{o:Oper}{rest:ai}{f:Nat}{args az:List SV}{H2 l l2:Hp}{x y:SV}(m:ae)(hI:I.OK)(h0:I w0 ks)(hf:BQ I Tryz.prog f args H' (Rt x H2))(A:Sy n T H ks G0 w0 G a w)(h:(Bi n ops T o,D8 m args,DR m H',DC H m,Ks m,D4 (m++BT H.length (H2.length - m.length)) x,DR (m++BT H.length (H2.length - m.length)) H2)=(some (f,az),some az,some l,some l,true,some y,some l2))(hk:∀{G a w},Sy n (BN T o.dst y) (CN H m l2) ks G0 w0 G a w→Goal Tryz.prog Q K (.ops ops rest) a w):Goal Tryz.prog Q K (.ops ops (o::rest)) a w:=by
 simp only [κ8]at h
 exact kI m hI h0 hf A h.1 h.2.1 h.2.2.1 h.2.2.2.1 h.2.2.2.2.1 h.2.2.2.2.2.1 h.2.2.2.2.2.2 hk
end
mutual
def IV:SV→List (Option Addr)
 | .sla ao _ _=>[ao]
 | .agg l=>Px l
 |_=>[]
def Px:List SV→List (Option Addr)
 | []=>[]
 |x::l=>IV x++Px l
end
mutual
def Sk (i:Nat):SV→SV
 | .sla _ m c=>.sl i m c
 | .agg l=>.agg (bQ i l)
 |x=>x
def bQ (i:Nat):List SV→List SV
 | []=>[]
 |x::l=>Sk i x::bQ i l
end
def K1:Option Addr→Option Loc
 |some a=>some ⟨a.block,[],[],0⟩
 |none=>none
mutual
theorem Ui {G:Gr}{i:Nat}{ao:ak}(ha:∀a,ao=some a→a=⟨a.block,0,none⟩)(hG:G[i]?=some (K1 ao)):∀(x:SV),(∀z∈IV x,z=ao)→den G (Sk i x)=den G x
 | .sla a m c,h=>by
  have h1:a=ao:=h a (by unfold IV;exact ι9.2 U)
  subst h1
  unfold Sk den
  rw [hG]
  cases a with
  |none=>rfl
  |some a=>have:=ha a U;simp only [K1,δ0,rm,β2,ι6];rw [this]
 | .agg l,h=>by unfold Sk den;rw [NS ha hG l (by unfold IV at h;exact h)]
 | .int _ _,_=>rfl
 | .bool _,_=>rfl
 | .tt,_=>rfl
 | .ff,_=>rfl
 | .str _,_=>rfl
 | .ptr _ _,_=>rfl
 | .el _ _ _ _,_=>rfl
 | .ix _ _ _ _ _,_=>rfl
 | .sl _ _ _,_=>rfl
 | .sp _ _ _,_=>rfl
 | .st _ _ _ _ _,_=>rfl
 | .tup _,_=>rfl
 | .fn _ _,_=>rfl
 | .opt _ _,_=>rfl
 | .v _,_=>rfl
theorem NS {G:Gr}{i:Nat}{ao:ak}(ha:∀a,ao=some a→a=⟨a.block,0,none⟩)(hG:G[i]?=some (K1 ao)):∀(l:List SV),(∀z∈Px l,z=ao)→AO G (bQ i l)=AO G l
 | [],_=>rfl
 |x::l,h=>by
  unfold Px at h
  unfold bQ AO
  rw [Ui ha hG x (fun z hz=>h z (ρ0 _ hz)),NS ha hG l (fun z hz=>h z (π1 _ hz))]
end
def C6 (ao:ak)(ps:List Int)(w:World)(ks:ae):Prop:=
 (ao=none∧ps=[])∨∃b,ao=some ⟨b,0,none⟩∧b<w.heap.size∧ks.contains b=false∧w.rangeAt b 0 (ps.map (Value.int .i64))
theorem C6.go {ao:ak}{ps:List Int}{w w':World}{ks ks':ae}(h:C6 ao ps w ks)(m:CQ ks w w')(hk:∀b,ks'.contains b=true→ks.contains b=true∨w.heap.size≤b):C6 ao ps w' ks':=by
 rcases h with h|⟨b,h1,h2,h3,h4⟩
 ·exact .inl h
 ·refine .inr ⟨b,h1,ζ7 h2 m.size,?_,HF h4 m h2 h3⟩
  cases hc:ks'.contains b with
  |false=>rfl
  |true=>
   rcases hk b hc with h5|h5
   ·rw [h5]at h3;cases h3
   ·omega
abbrev iZ (ps:List Int):BZ:=.lst 1 ps.length fun j=>[.int .i64 (ps.getD j 0)]
section
variable {P:Program}{n:Nat}{ks:ae}{G0:Gr}{w0:World}{T:List (Nat×SV)}{H:Hp}{G:Gr}{a:Act}{w:World}{Q:ab}{K:List Fr}{pos:Pos}
theorem Sy.adopt (A:Sy n T H ks G0 w0 G a w){ao:ak}{ps:List Int}(h0:C6 ao ps w0 ks)(t:Nat){x:SV}(hx:look T t=some x)(hs:∀z∈IV x,z=ao):Sy n ((t,Sk H.length x)::T) (H++[some (iZ ps)]) ks G0 w0 (G++[K1 ao]) a w:=by
 have hl:=h0.go A.mix (ks':=ks) fun b hb=>.inl hb
 have ha:∀q,ao=some q→q=⟨q.block,0,none⟩:=by
  intro q hq
  rcases h0 with⟨h1,_⟩|⟨b,h1,_⟩
  ·rw [h1]at hq;cases hq
  ·rw [h1]at hq;cases hq;rfl
 refine(A.addE (p:=K1 ao) (en:=iZ ps) ⟨fun k=>⟨_,rfl⟩,?_⟩ (fun i e L M h1 h2 h3 h=>?_) fun h=>by cases h).slotEq t hx (Ui ha (by rw [α1 (by rw [A.mem.len];exact β8 _),A.mem.len];simp) x hs)
 ·rcases hl with⟨_,h2⟩|⟨b,h1,h2,_,h4⟩
  ·left;rw [h2];rfl
  ·right
   subst h1
   refine⟨_,rfl,h2,fun k hk=>⟨_,rfl,fun j y hy=>?_⟩⟩
   cases j with
   |succ j=>simp at hy
   |zero=>
    simp at hy
    subst hy
    simpa using h4 k (.int .i64 (ps.getD k 0)) (by simp [List.getD,hk])
 ·rcases h0 with⟨q,_⟩|⟨b,q,q4,q5,_⟩<;>subst q<;>cases h3
  exact A.apart q4 q5 h1 h2 (h.elim (fun z=>by cases z.2) (·.1))
theorem Ze {ao:ak}{ps:List Int}(t:Nat)(h0:C6 ao ps w0 ks)(A:Sy n T H ks G0 w0 G a w){x y:SV}{H':Hp}(hx:look T t=some x)(hs:IV x=[ao])(hy:Sk H.length x=y)(hH:H++[some (iZ ps)]=H')(hk:∀{G},Sy n ((t,y)::T) H' ks G0 w0 G a w→Goal P Q K pos a w):Goal P Q K pos a w:=by
 subst hy;subst hH
 exact hk (A.adopt h0 t hx fun z hz=>by rw [hs]at hz;exact ι9.1 hz)
end
def K2 (b o:Nat)(vs:aj)(w:World)(ks:ae):Prop:=b<w.heap.size∧ks.contains b=false∧w.rangeAt b o vs
theorem K2.go {b o:Nat}{vs:aj}{w w':World}{ks ks':ae}(h:K2 b o vs w ks)(m:CQ ks w w')(hk:∀b,ks'.contains b=true→ks.contains b=true∨w.heap.size≤b):K2 b o vs w' ks':=by
 obtain⟨h1,h2,h3⟩:=h
 refine⟨ζ7 h1 m.size,?_,HF h3 m h1 h2⟩
 cases hc:ks'.contains b with
 |false=>rfl
 |true=>
  rcases hk b hc with h5|h5
  ·rw [h5]at h2;cases h2
  ·omega
abbrev EZ (b o:Nat):SV:=.v (.pointer (some ⟨b,o,none⟩))
section
variable {P:Program}{n:Nat}{ks:ae}{G0:Gr}{w0:World}{T:List (Nat×SV)}{H:Hp}{G:Gr}{a:Act}{w:World}{Q:ab}{K:List Fr}{pos:Pos}{ops:ah}{o:Oper}{rest:ai}
theorem Sy.base (A:Sy n T H ks G0 w0 G a w):Sy n T H (keys H G) G w G a w:=
 ⟨A.size,A.defers,A.get,A.mem,⟨[],by simp⟩,fun i e L h1 h2 h3=>.inl (mem_keys.2 ⟨i,e,L,h1,h2,h3,rfl⟩),CQ.refl _ _⟩
theorem Sy.keys_own (A:Sy n T H ks G0 w0 G a w):∀b,(keys H G).contains b=true→ks.contains b=true∨w0.heap.size≤b:=fun b hb=>by
 obtain⟨i,e,L,h1,h2,h3,h4⟩:=mem_keys.1 hb
 rw [←h4];exact A.own i e L h1 h2 h3
theorem Sy.trans {n':Nat}{T1:List (Nat×SV)}{H1:Hp}{G1:Gr}{a1:Act}{w1:World}(B:Sy n' T1 H1 ks G0 w0 G1 a1 w1)(A:Sy n T H (keys H1 G1) G1 w1 G a w):Sy n T H ks G0 w0 G a w:=by
 obtain⟨F1,h1⟩:=B.pre
 obtain⟨F2,h2⟩:=A.pre
 refine⟨A.size,A.defers,A.get,A.mem,⟨F1++F2,by rw [h2,h1,γ2]⟩,fun i e L k1 k2 k3=>?_,B.mix.mix A.mix fun k hk hc=>?_⟩
 ·rcases A.own i e L k1 k2 k3 with h|h
  ·exact B.keys_own _ h
  ·exact .inr (β3 B.mix.size h)
 ·cases hq:(keys H1 G1).contains k with
  |false=>rfl
  |true=>
   rcases B.keys_own k hq with h|h
   ·rw [h]at hc;cases hc
   ·omega
theorem Dl.OK.now {I:Dl}(hI:I.OK)(A:Sy n T H ks G0 w0 G a w)(h0:I w0 ks):I w (keys H G):=hI _ _ _ _ h0 A.mix A.keys_own
theorem kJ {β:Type} {c:Code} (T':β→List (Nat×SV)) (H':β→Hp) (J:β→World→Gr→Prop) (μ:β→Nat) (z:β) (A:Sy n (T' z) (H' z) ks G0 w0 G a w) (hJ:J z w G)
  (round:∀z G a w,J z w G→G0.length≤G.length→Sy n (T' z) (H' z) (keys (H' z) G) G w G a w→Sy n (T' z) (H' z) ks G0 w0 G a w→Goal P Q (.lp (fun a' w'=>∃z' G',μ z'<μ z∧J z' w' G'∧Sy n (T' z') (H' z') ks G0 w0 G' a' w')::K) (.code c) a w):Goal P Q K (.code (.loop c)) a w:=by
 refine Qv (fun m a w=>∃z G,μ z=m∧J z w G∧Sy n (T' z) (H' z) ks G0 w0 G a w) (μ z) ⟨z,G,rfl,hJ,A⟩ ?_
 rintro m a w ⟨z,G,rfl,hz,A⟩
 obtain⟨F,hF⟩:=A.pre
 refine ρ8 (fun e a' w' h=>?_) (round z G a w hz (by rw [hF];simp) A.base A)
 cases e with
 |normal=>obtain⟨z',G',h1,h2,h3⟩:=h;exact⟨μ z',h1,z',G',rfl,h2,h3⟩
 |_=>exact h
theorem GK {β:Type} {c:Code} (T':β→List (Nat×SV)) (H':β→Hp) (J:β→World→List Nat→Prop) (μ:β→Nat) (z:β) (A:Sy n (T' z) (H' z) ks G0 w0 G a w) (hJ:J z w (keys (H' z) G))
  (round:∀z G a w,J z w (keys (H' z) G)→G0.length≤G.length→Sy n (T' z) (H' z) (keys (H' z) G) G w G a w→Sy n (T' z) (H' z) ks G0 w0 G a w→Goal P Q (.lp (fun a' w'=>∃z' G',μ z'<μ z∧J z' w' (keys (H' z') G')∧Sy n (T' z') (H' z') ks G0 w0 G' a' w')::K) (.code c) a w):Goal P Q K (.code (.loop c)) a w:=
 kJ T' H' (fun z w G=>J z w (keys (H' z) G)) μ z A hJ round
end
theorem Bv {H H' l:Hp}{G:Gr}{m:ae}(hlen:H.length=G.length)(h1:DC H m=some l)(h2:DR m H'=some l):∀b,(keys H' (BE m G)).contains b=true→(keys H G).contains b=true:=fun b hb=>by
 obtain⟨p1,p2,p3⟩:=Du h1
 obtain⟨r1,r2⟩:=EG h2
 have hm:∀j∈m,j<G.length:=fun j hj=>by rw [←hlen];exact p2 j hj
 obtain⟨i,e,L,k1,km,k2,k3⟩:=mem_keys.1 hb
 obtain⟨f,q1,q2⟩:=r2 i _ k1
 obtain⟨f',rfl⟩:=Dj q2
 have hi:i<m.length:=by rw [←p1];exact(α0.1 q1).1
 have hj:m[i]?=some m[i]:=by simp [hi]
 rw [Bp hm hj]at k2
 rw [p3 i _ hj]at q1
 exact mem_keys.2 ⟨m[i],f',L,q1,by rw [(Ck q2).1];exact km,k2,k3⟩
def Ly (P:Program)(f:Nat)(args:List SV)(H:Hp)(J:SV→World→World→Prop):Prop:=
 HT P f=some (false,false)∧∀G w vs,Mem H G w→AO G args=some vs→Calls P f vs.toArray w fun e w'=>∃x v,den [] x=some v∧e=.returned v∧By w w'∧J x w w'
section
variable {P:Program}{n:Nat}{ks:ae}{G0:Gr}{w0:World}{T:List (Nat×SV)}{H:Hp}{G:Gr}{a:Act}{w:World}{Q:ab}{K:List Fr}{pos:Pos}{ops:ah}{o:Oper}{rest:ai}
theorem EA {f:Nat} {fn:Func} {c:Code} {args:List SV} {J:SV→World→World→Prop} (CG:HT P f=some (false,false)) (hf:P.funcs[f]?=some fn) (hb:fn.body=some c) (hn:fn.ntmps=n) (hl:Nat.ble args.length n=true)
  (h:∀G w a,H.length=G.length→Sy n (OZ args 0) H (keys H G) G w G a w→Goal P (bodyPost P fn fun e w'=>∃x v,den [] x=some v∧e=.returned v∧By w w'∧J x w w') [] (.code c) a w):Ly P f args H J:=by
 refine⟨CG,fun G w vs hM hv=>?_⟩
 refine π8 hf hb (h G w _ hM.len ⟨?_,rfl,fun t x hx=>?_,hM,⟨[],by simp⟩,fun i e L h1 h2 h3=>.inl (mem_keys.2 ⟨i,e,L,h1,h2,h3,rfl⟩),CQ.refl _ _⟩)
 ·have:=BF hv
  have:=δ8 hl
  simp [hn];omega
 ·obtain⟨_,h2⟩:=EX hx
  simp only [ξ7]at h2
  obtain⟨v,h3,h4⟩:=C0 hv h2
  have BU:t<vs.length:=(α0.1 h3).1
  rw [h4]
  simp [β5,κ1,BU]at h3⊢
  exact h3.symm
theorem JS {Y:Tb}{fn:Func}{J:SV→World→World→Prop}{H0:Hp}(hX:Y.ok P=true){y:SV}{r:List SV}{rv:List ResultVar}{v':Value}(A:Sy n T H (keys H0 G0) G0 w0 G a w)(SQ:∀(i:Nat) (e:BZ),H0[i]?=some (some e)→e.mut=false)(hr:fn.results.toList=rv)(hv:KB ⟨Y,false⟩ T H rv=some r)(hy:Am r=y)(hc:den [] y=some v')(hJ:J y w0 w):bodyPost P fn (fun e w'=>∃x v,den [] x=some v∧e=.returned v∧By w0 w'∧J x w0 w') .ret a w:=by
 obtain⟨v,h1,h2⟩:=IT (X:=⟨Y,false⟩) (fn:=fn) hX A hr hv hy
 have h3:den G y=some v':=by simpa using Ax G y hc
 rw [h3]at h1
 cases h1
 have hk:∀k,(keys H0 G0).contains k=false:=fun k=>by
  cases hz:(keys H0 G0).contains k with
  |false=>rfl
  |true=>
   obtain⟨i,e',L,q1,q2,_⟩:=mem_keys.1 hz
   rw [SQ i e' q1]at q2;cases q2
 have hm:=A.mix
 exact⟨A.defers,v',h2,y,v',hc,rfl,⟨hm.os,hm.tape,hm.output,hm.size,fun k Dz=>hm.block k Dz (hk k)⟩,hJ⟩
theorem Om {f:Nat} {args az:List SV} {H' l:Hp} {J:SV→World→World→Prop} (m:ae) (hf:Ly P f args H' J) (A:Sy n T H ks G0 w0 G a w) (h1:Bi n ops T o=some (f,az)) (h2:D8 m args=some az) (h3:DR m H'=some l) (h4:DC H m=some l) (h5:Ks m=true)
  (hk:∀x a' w',J x w w'→(∀k,(keys H G).contains k=true→k<w.heap.size)→Sy n (BN T o.dst x) H ks G0 w0 G a' w'→Goal P Q K (.ops ops rest) a' w'):Goal P Q K (.ops ops (o::rest)) a w:=by
 obtain⟨hd,us,hu,Lp⟩:=DO (P:=P) (ops:=ops) A h1 hf.1
 obtain⟨p1,p2,p3⟩:=Du h4
 have hm:∀j∈m,j<G.length:=fun j hj=>by rw [←A.mem.len];exact p2 j hj
 have hM:=A.mem.sub h4 h3 h5
 have Qp:AO (BE m G) args=some us:=by rw [Dt hm args h2];exact hu
 refine DN (Q:=He P Q K) (Lp (hf.2 _ w us hM Qp) fun e w' he=>?_)
 obtain⟨x,v,e1,rfl,hg,hJ⟩:=he
 refine⟨v,rfl,hk x _ _ hJ (fun k hz=>?_) (Sy.put ⟨A.size,A.defers,A.get,⟨A.mem.len,fun i e hi=>(A.mem.ent i e hi).mix hg.mix (fun _ _ _=>rfl),A.mem.sep⟩,A.pre,A.own,A.mix.grow hg⟩ hd (by simpa using Ax G x e1))⟩
 obtain⟨i,e,L,q1,q2,q3,q4⟩:=mem_keys.1 hz
 have:=A.mem.ent i e q1
 rw [q3]at this
 rw [←q4];exact Ag.lt this (BI q2)
theorem IW {H0:Hp}(B:Sy n T H (keys H0 G0) G0 w0 G a w)(SQ:∀(i:Nat) (e:BZ),H0[i]?=some (some e)→e.mut=false){b:Nat}(h:(keys H G).contains b=true∨w.heap.size≤b):w0.heap.size≤b:=by
 rcases h with h|h
 ·rcases B.keys_own b h with h|h
  ·obtain⟨i,e',L,q1,q2,_⟩:=mem_keys.1 h
   rw [SQ i e' q1]at q2;cases q2
  ·exact h
 ·exact β3 B.mix.size h
end
def Gl (os:List (Nat×Obj)):Dl:=fun w ks=>∀p∈os,w.heap[p.1]?=some p.2∧ks.contains p.1=false
theorem Gl.ok {os:List (Nat×Obj)}:Dl.OK (Gl os):=fun w ks w' ks' h m hk p hp=>by
 obtain⟨h1,h2⟩:=h p hp
 have hl:p.1<w.heap.size:=(ε1.1 h1).1
 refine⟨by rw [m.block p.1 hl h2];exact h1,?_⟩
 cases hc:ks'.contains p.1 with
 |false=>rfl
 |true=>
  rcases hk _ hc with h3|h3
  ·rw [h3]at h2;cases h2
  ·omega
theorem IX {I:Dl}{P:Program}{f:Nat}{args:List SV}{vs:aj}{x:SV}{v:Value}(CG:HT P f=some (false,false))(ha:AO [] args=some vs)(hx:den [] x=some v)(h:∀w ks,I w ks→Calls P f vs.toArray w fun e w'=>e=.returned v∧By w w'):BQ I P f args [] (Rt x []):=by
 refine⟨CG,fun G w us hM hI hv=>?_⟩
 have h1:AO G args=some vs:=by simpa using A6 G args ha
 rw [h1]at hv
 cases hv
 have hG:G=[]:=γ9 hM.len.symm
 subst hG
 refine(h w _ hI).mono ?_
 rintro e w' ⟨rfl,hg⟩
 exact⟨x,[],[],v,⟨rfl,rfl⟩,by simpa using hx,rfl,⟨rfl,fun i e he=>by simp at he,fun i j e f L M _ he=>by simp at he⟩,(CQ.refl _ w).grow hg,β8 _,fun i e he _=>by simp at he,fun i e he=>by simp at he⟩
theorem Xu {P:Program}{f:Nat}{args:List SV}{vs:aj}{x:SV}{v:Value}(CG:HT P f=some (false,false))(ha:AO [] args=some vs)(hx:den [] x=some v)(h:∀w,Calls P f vs.toArray w fun e w'=>e=.returned v∧By w w'):Fn P f args [] (Rt x []):=by
 have:=IX (I:=fun _ _=>True) CG ha hx fun w _ _=>h w
 exact⟨this.1,fun G w us hM hv=>this.2 G w us hM trivial hv⟩
theorem RT {I:Dl}{P:Program}{f:Nat}{az:List SV}{H H2:Hp}{x y:SV}(h:BQ I P f az H (Rt x H2))(e:∀G,den G x=den G y):BQ I P f az H (Rt y H2):=
 ⟨h.1,fun G w vs hM hI hv=>π3 (h.2 G w vs hM hI hv) fun e' w' ⟨x',H',F,v,⟨q1,q2⟩,r⟩=>by subst q1;subst q2;exact⟨y,_,F,v,⟨rfl,rfl⟩,by rw [←e];exact r.1,r.2⟩⟩
section
variable {P:Program}{n:Nat}{ks:ae}{G0:Gr}{w0:World}{I:Dl}
theorem Py {ops:ah}{Tw:List (Nat×SV)}{H:Hp}{o:Oper}{b:Bool}{f:Nat}{az:List SV}{E:Ob}{x:SV}{v0:Value}(CJ:I.OK)(h0:I w0 ks)(h:Og n ops Tw o=some (b,f,az,E))(hE:Dc E)(JB:HH 0 az=true)(vL:den [] x=some v0)(hf:b=true→BQ I P f az [] (Rt x [])):BG P n ops ks G0 w0 Tw H o (.opt b x) H:=by
 intro G a w A
 obtain⟨k1,k2⟩:=Oh (P:=P) (ops:=ops) A h hE (fun hb=>(hf hb).1)
 cases b with
 |false=>
  refine FS (k1 U) ⟨[],?_,by simpa using A.ms⟩
  have:=Ax (G:=[]) G x (by simpa using vL)
  simp at this
  simp [den,this]
 | true=>
  obtain⟨CG,hf⟩:=hf U
  obtain⟨vs,hv,Lp⟩:=k2 U
  have hM:Mem [] [] w:=⟨rfl,fun i e h=>(by cases h),fun i j e f L M _ h=>(by cases h)⟩
  have iJ:AO [] az=some vs:=by
   have:=BS (G:=G) az JB
   simp only [θ4]at this
   rw [this];exact hv
  refine Lp (hf [] w vs hM (CJ _ _ _ _ h0 A.mix fun b hb=>by simp [keys]at hb) iJ) ?_
  rintro e w' ⟨y,H',F,v,⟨rfl,rfl⟩,hx,rfl,I5,DE,_⟩
  have hF:F=[]:=by have:=I5.len;simp at this;exact γ9 this.symm
  subst hF
  have hg:By w w':=⟨DE.os,DE.tape,DE.output,DE.size,fun k hk=>DE.block k hk U⟩
  refine⟨v,rfl,[],?_,by simpa using A.ms.grow hg⟩
  have:=Ax (G:=[]) G y (by simpa using hx)
  simp at this
  simp [den,this]
end
theorem C6.ok {ao:ak}{ps:List Int}:Dl.OK (C6 ao ps):=fun w ks w' ks' h m hk=>h.go m hk
end
section
def Hz (b:UInt8):Bool:=decide (48≤b.toNat∧b.toNat≤57)
def Pz (b:UInt8):Bool:=decide (97≤b.toNat∧b.toNat≤122∨65≤b.toNat∧b.toNat≤90)
def HU (b:UInt8):Bool:=decide (b.toNat=32∨b.toNat=9∨b.toNat=10)
def ES (b:UInt8):Bool:=Pz b||Hz b
def KD (b:UInt8):Bool:=Pz b||b.toNat==95
def GQ (b:UInt8):Bool:=KD b||(Hz b||b.toNat==46)
def rn (p:UInt8→Bool)(l:ag):Nat:=(l.takeWhile p).length
theorem Ew (p:UInt8→Bool)(l:ag):rn p l≤l.length:=by
 unfold rn;exact(List.takeWhile_sublist p).length_le
theorem bR (p:UInt8→Bool):rn p []=0:=rfl
theorem RU (p:UInt8→Bool)(b:UInt8)(l:ag):rn p (b::l)=if p b then rn p l+1 else 0:=by
 unfold rn;rw [List.takeWhile_cons];split<;>rfl
theorem HI {l:ag}{n:Nat}{y:UInt8}(h:l[n]?=some y):l.drop n=y::l.drop (n+1):=by
 obtain⟨h1,h2⟩:=α0.1 h
 rw [η1 h1,h2]
theorem Zf {p:UInt8→Bool}{l:ag}{n:Nat}{y:UInt8}(h:l[n]?=some y)(hp:p y=true):rn p (l.drop n)=rn p (l.drop (n+1))+1:=by
 rw [HI h,RU,if_pos hp]
theorem Xv {p:UInt8→Bool}{l:ag}{n:Nat}{y:UInt8}(h:l[n]?=some y)(hp:p y=false):rn p (l.drop n)=0:=by
 rw [HI h,RU,if_neg (by simp [hp])]
theorem bS {p:UInt8→Bool}{l:ag}{n:Nat}(h:l.length≤n):rn p (l.drop n)=0:=by
 rw [ι4 h,bR]
end
section
open Go.RowKit
set_option simprocs false
theorem BW:Tryz.prog.follows .mixedOrders=true:=by kernel_rfl
theorem JU {P:Program}{f:Nat}{az:List SV}{H H2:Hp}{x y:SV}(h:Fn P f az H (Rt x H2))(e:∀G,den G x=den G y):Fn P f az H (Rt y H2):=
 ⟨h.1,fun G w vs hM hv=>π3 (h.2 G w vs hM hv) fun e' w' ⟨x',H',F,v,⟨q1,q2⟩,r⟩=>by subst q1;subst q2;exact⟨y,_,F,v,⟨rfl,rfl⟩,by rw [←e];exact r.1,r.2⟩⟩
theorem IY {p q:Bool}(h:p=q):∀G,den G (.bool p)=den G (.bool q):=fun _=>by rw [h]
theorem Bf {k:IntKind}{p q:Int}(h:p=q):∀G,den G (.int k p)=den G (.int k q):=fun _=>by rw [h]
theorem K3 (c:Int):Fn Tryz.prog 153 [.int .u8 c] [] (Rt (.bool ((decide (48≤c))&&(decide (c≤57)))) []):=
 AR (n:=9) (by kernel_rfl) Tryz.func153 U U U fun G w a h0 A=>N9 17 A U U fun A=>R9 A U h0 U U U
theorem Sm (b:UInt8):Fn Tryz.prog 153 [.int .u8 ((b.toNat:Nat):Int)] [] (Rt (.bool (Hz b)) []):=JU (K3 ((b.toNat:Nat):Int)) (IY (by rw [ν1];simp [Hz,HU,Pz,KD,GQ,ES];try omega))
theorem Uj (c:Int):Fn Tryz.prog 150 [.int .u8 c] [] (Rt (.bool (((c==32)||(c==9))||(c==10))) []):=
 AR (n:=13) (by kernel_rfl) Tryz.func150 U U U fun G w a h0 A=>N9 21 A U U fun A=>R9 A U h0 U U U
theorem Sn (b:UInt8):Fn Tryz.prog 150 [.int .u8 ((b.toNat:Nat):Int)] [] (Rt (.bool (HU b)) []):=JU (Uj ((b.toNat:Nat):Int)) (IY (by rw [ν1];simp [Hz,HU,Pz,KD,GQ,ES];try omega))
theorem Ma (c:Int):Fn Tryz.prog 206 [.int .u8 c] [] (Rt (.bool (((decide (97≤c))&&(decide (c≤122)))||((decide (65≤c))&&(decide (c≤90))))) []):=
 AR (n:=17) (by kernel_rfl) Tryz.func206 U U U fun G w a h0 A=>N9 25 A U U fun A=>R9 A U h0 U U U
theorem IZ (c:Int):Fn Tryz.prog 157 [.int .u8 c] [] (Rt (.bool ((((decide (97≤c))&&(decide (c≤122)))||((decide (65≤c))&&(decide (c≤90))))||(c==95))) []):=
 AR (n:=9) (by kernel_rfl) Tryz.func157 U U U fun G w a h0 A=>N9 8 A U U fun A=>C9 [] (Ma c) A U fun A=>N9 8 A U U fun A=>R9 A U h0 U U U
theorem Lz (b:UInt8):Fn Tryz.prog 157 [.int .u8 ((b.toNat:Nat):Int)] [] (Rt (.bool (KD b)) []):=JU (IZ ((b.toNat:Nat):Int)) (IY (by rw [ν1];simp [Hz,HU,Pz,KD,GQ,ES];try omega))
def Ex (c:Int):Bool:=if((((decide (97≤c))&&(decide (c≤122)))||((decide (65≤c))&&(decide (c≤90))))||(c==95))=true then true else((decide (48≤c))&&(decide (c≤57)))||(c==46)
theorem On (c:Int):Fn Tryz.prog 158 [.int .u8 c] [] (Rt (.bool (Ex c)) []):=
 AR (n:=13) (by kernel_rfl) Tryz.func158 U U U fun G w a h0 A=>N9 8 A U U fun A=>C9 [] (IZ c) A U fun A=>N9 1 A U U fun A=>fork 5 A U
  (fun h1 A=>N9 11 A U U fun A=>R9 A U h0 U (by simp only [Am,nb,B5,Bx,Ex,if_pos h1]) U)
  (fun h1 A=>N9 1 A U U fun A=>C9 [] (K3 c) A U fun A=>N9 9 A U U fun A=>R9 A U h0 U (by simp only [Am,nb,B5,Bx,Ex,if_neg (α7 h1)]) U)
theorem NT (b:UInt8):Fn Tryz.prog 158 [.int .u8 ((b.toNat:Nat):Int)] [] (Rt (.bool (GQ b)) []):=JU (On ((b.toNat:Nat):Int)) (IY (by rw [ν1];simp [Ex,Hz,HU,Pz,KD,GQ,ES];try omega))
def EI (c:Int):Bool:=if(((decide (97≤c))&&(decide (c≤122)))||((decide (65≤c))&&(decide (c≤90))))=true then true else(decide (48≤c))&&(decide (c≤57))
theorem L0 (c:Int):Fn Tryz.prog 156 [.int .u8 c] [] (Rt (.bool (EI c)) []):=
 AR (n:=9) (by kernel_rfl) Tryz.func156 U U U fun G w a h0 A=>N9 8 A U U fun A=>C9 [] (Ma c) A U fun A=>N9 1 A U U fun A=>fork 5 A U
  (fun h1 A=>N9 7 A U U fun A=>R9 A U h0 U (by simp only [Am,nb,B5,Bx,EI,if_pos h1]) U)
  (fun h1 A=>N9 1 A U U fun A=>C9 [] (K3 c) A U fun A=>N9 5 A U U fun A=>R9 A U h0 U (by simp only [Am,nb,B5,Bx,EI,if_neg (α7 h1)]) U)
theorem K4 (b:UInt8):Fn Tryz.prog 156 [.int .u8 ((b.toNat:Nat):Int)] [] (Rt (.bool (ES b)) []):=JU (L0 ((b.toNat:Nat):Int)) (IY (by rw [ν1];simp [EI,Hz,HU,Pz,KD,GQ,ES];try omega))
theorem Cz {l:ag}{k:Nat}(h:(k:Int)<(l.length:Int)):l[k]?=some (l.getD ((k:Int)).toNat 0):=by
 have hk:k<l.length:=by omega
 simp [List.getD,hk]
theorem Uk {p:UInt8→Bool}{l:ag}{k:Nat}(h:k≤l.length∧k+rn p (l.drop k)=rn p l)(h1:(k:Int)<(l.length:Int))(h2:p (l.getD ((k:Int)).toNat 0)=true):k+1≤l.length∧k+1+rn p (l.drop (k+1))=rn p l:=by
 have:=Zf (Cz h1) h2
 exact⟨by omega,by omega⟩
theorem Oo {p:UInt8→Bool}{l:ag}{k:Nat}(h:k≤l.length∧k+rn p (l.drop k)=rn p l)(h2:¬(k:Int)<(l.length:Int)∨((k:Int)<(l.length:Int)∧p (l.getD ((k:Int)).toNat 0)=false)):(k:Int)=((rn p l:Nat):Int):=by
 rcases h2 with h2|⟨h1,h2⟩
 ·have:=bS (p:=p) (l:=l) (n:=k) (by omega);omega
 ·have:=Xv (Cz h1) h2;omega
theorem kK (f:Nat)(p:UInt8→Bool)(l:ag)(hf:∀b:UInt8,Fn Tryz.prog f [.int .u8 ((b.toNat:Nat):Int)] [] (Rt (.bool (p b)) []))(hl:l.length≤1000000):Fn Tryz.prog 155 [.str l,.fn f []] [] (Rt (.int .i64 ((rn p l:Nat):Int)) []):=
 AR (n:=20) (by kernel_rfl) Tryz.func155 U U U fun G w a h0 A=>N9 12 A U U fun A=>Bq (fun(k:Nat)=>[(0,.str l),(1,.fn f []),(4,.n9 0),(5,.n9 (k:Int))]) (fun(k:Nat)=>[]) (fun(k:Nat)=>k≤l.length∧k+rn p (l.drop k)=rn p l) (fun(k:Nat)=>l.length - k) 0 ⟨β7 _,by simp⟩ ((A.cut [0,1,4,5] U).trunc 0 U U U (CL h0 U)) fun k hI {G a w} A=>N9 8 A U U fun A=>AU 10 A U
   (fun h1 A=>N9 4 A U (AE (by omega)<|AB) fun A=>C9 [] (hf (l.getD ((k:Int)).toNat 0)) A U fun A=>N9 3 A U U fun A=>fork 16 A U
    (fun h2 A=>N9 10 A U (AE (by omega)<|AB) fun A=>⟨k+1,_,(by omega),(Uk hI h1 h2),((A.cut [0,1,4,5] U).trunc 0 U U U (CL h0 U))⟩)
    (fun h2 A=>N9 10 A U U fun A=>R9 A U h0 U (congrArg (SV.int IntKind.i64) (Oo hI (.inr ⟨h1,h2⟩))) U))
   (fun h1 A=>N9 18 A U U fun A=>R9 A U h0 U (congrArg (SV.int IntKind.i64) (Oo hI (.inl h1))) U)
theorem FH (r:Int):Fn Tryz.prog 162 [.n9 r] [] (Rt (.bool ((decide (r≥0))&&(decide (r<8)))) []):=
 AR (n:=9) (by kernel_rfl) Tryz.func162 U U U fun G w a h0 A=>N9 17 A U U fun A=>R9 A U h0 U U U
def Cm (r:Int):Bool:=if r=(-1)then true else(decide (r≥0))&&(decide (r<8))
theorem Fw (r:Int):Fn Tryz.prog 163 [.n9 r] [] (Rt (.bool (Cm r)) []):=
 AR (n:=9) (by kernel_rfl) Tryz.func163 U U U fun G w a h0 A=>N9 10 A U U fun A=>AV 5 A U
  (fun h1 A=>N9 7 A U U fun A=>R9 A U h0 U (by simp only [Am,nb,B5,Bx,Cm,if_pos h1]) U)
  (fun h1 A=>N9 1 A U U fun A=>C9 [] (FH r) A U fun A=>N9 5 A U U fun A=>R9 A U h0 U (by simp only [Am,nb,B5,Bx,Cm,if_neg (h1)]) U)
theorem Mb (r:Int):Fn Tryz.prog 165 [.n9 r] [] (Rt (.bool (((r==1)||(r==2))||(r==3))) []):=
 AR (n:=13) (by kernel_rfl) Tryz.func165 U U U fun G w a h0 A=>N9 21 A U U fun A=>R9 A U h0 U U U
theorem Md (op dst ra rb imm loc off ix sz fn:Int)(acq weak rel:Bool)(pred succ to_:Int)(zero:Bool):Fn Tryz.prog 122 [.agg [.n9 op,.n9 dst,.n9 ra,.n9 rb,.n9 imm,.n9 loc,.n9 off,.n9 ix,.n9 sz,.n9 fn,.bool acq,.bool weak,.bool rel,.n9 pred,.n9 succ,.n9 to_,.bool zero]] [] (Rt (.bool (op==9)) []):=
 AR (n:=6) (by kernel_rfl) Tryz.func122 U U U fun G w a h0 A=>N9 15 A U U fun A=>R9 A U h0 U U U
theorem NU (op dst ra rb imm loc off ix sz fn:Int)(acq weak rel:Bool)(pred succ to_:Int)(zero:Bool):Fn Tryz.prog 129 [.agg [.n9 op,.n9 dst,.n9 ra,.n9 rb,.n9 imm,.n9 loc,.n9 off,.n9 ix,.n9 sz,.n9 fn,.bool acq,.bool weak,.bool rel,.n9 pred,.n9 succ,.n9 to_,.bool zero]] [] (Rt (.bool ((op==4)||(op==6))) []):=
 AR (n:=11) (by kernel_rfl) Tryz.func129 U U U fun G w a h0 A=>N9 20 A U U fun A=>R9 A U h0 U U U
theorem KT (op dst ra rb imm loc off ix sz fn:Int)(acq weak rel:Bool)(pred succ to_:Int)(zero:Bool):Fn Tryz.prog 132 [.agg [.n9 op,.n9 dst,.n9 ra,.n9 rb,.n9 imm,.n9 loc,.n9 off,.n9 ix,.n9 sz,.n9 fn,.bool acq,.bool weak,.bool rel,.n9 pred,.n9 succ,.n9 to_,.bool zero]] [] (Rt (.bool ((op==5)||(op==6))) []):=
 AR (n:=11) (by kernel_rfl) Tryz.func132 U U U fun G w a h0 A=>N9 20 A U U fun A=>R9 A U h0 U U U
def Bl (op dst ra rb imm loc off ix sz fn:Int)(acq weak rel:Bool)(pred succ to_:Int)(zero:Bool):Bool:=if((op==4)||(op==6))=true then true else(op==5)||(op==6)
theorem Hf (b c d e f g h i j k:Int)(l m o:Bool)(p q r:Int)(s:Bool):Fn Tryz.prog 161 [.agg [.n9 b,.n9 c,.n9 d,.n9 e,.n9 f,.n9 g,.n9 h,.n9 i,.n9 j,.n9 k,.bool l,.bool m,.bool o,.n9 p,.n9 q,.n9 r,.bool s]] [] (Rt (.bool (Bl b c d e f g h i j k l m o p q r s)) []):=
 AR (n:=9) (by kernel_rfl) Tryz.func161 U U U fun G w a h0 A=>N9 9 A U U fun A=>C9 [] (NU b c d e f g h i j k l m o p q r s) A U fun A=>N9 1 A U U fun A=>fork 5 A U
  (fun h1 A=>N9 7 A U U fun A=>R9 A U h0 U (by simp only [Am,nb,B5,Bx,Bl,if_pos h1]) U)
  (fun h1 A=>N9 1 A U U fun A=>C9 [] (KT b c d e f g h i j k l m o p q r s) A U fun A=>N9 5 A U U fun A=>R9 A U h0 U (by simp only [Am,nb,B5,Bx,Bl,if_neg (α7 h1)]) U)
def Fx (op dst ra rb imm loc off ix sz fn:Int)(acq weak rel:Bool)(pred succ to_:Int)(zero:Bool)(rr:Int):Int:=if rr≠(-1)then 0 else imm
theorem RV (b c d e f g h i j k:Int)(l m o:Bool)(p q r:Int)(s:Bool)(rr:Int):Fn Tryz.prog 160 [.agg [.n9 b,.n9 c,.n9 d,.n9 e,.n9 f,.n9 g,.n9 h,.n9 i,.n9 j,.n9 k,.bool l,.bool m,.bool o,.n9 p,.n9 q,.n9 r,.bool s],.n9 rr] [] (Rt (.int .i64 (Fx b c d e f g h i j k l m o p q r s rr)) []):=
 AR (n:=9) (by kernel_rfl) Tryz.func160 U U U fun G w a h0 A=>N9 13 A U U fun A=>FY 6 A U
  (fun h1 A=>N9 7 A U U fun A=>R9 A U h0 U (by simp only [Am,nb,B5,Bx,Fx,if_pos h1]) U)
  (fun h1 A=>N9 11 A U U fun A=>R9 A U h0 U (by simp only [Am,nb,B5,Bx,Fx,if_neg (η6 h1)]) U)
theorem NV (sz:Int):Fn Tryz.prog 209 [.n9 sz] [] (Rt (.bool ((((sz==1)||(sz==2))||(sz==4))||(sz==8))) []):=
 AR (n:=17) (by kernel_rfl) Tryz.func209 U U U fun G w a h0 A=>N9 25 A U U fun A=>R9 A U h0 U U U
theorem JV (a1 sz:Int):Fn Tryz.prog 171 [.n9 a1,.n9 sz] [] (Rt (.bool (((((((sz==1)||(sz==2))||(sz==4))||(sz==8))&&(decide (a1≥0)))&&(decide (a1≤(IntKind.wrap .i64 (8 - sz)))))&&((Int.tmod a1 sz)==0))) []):=
 AR (n:=23) (by kernel_rfl) Tryz.func171 U U U fun G w a h0 A=>M hX 8 A U U fun A=>C9 [] (NV sz) A U fun A=>M hX 20 A U (Bz<|Bz<|Bz<|Bz<|Bz<|Bz<|Bz<|Bz<|JP (fun hg=>(by(try simp at hg);first|omega|(simp;omega)))<|Bz<|Bz<|AB) fun A=>R9 A U h0 U U U
def K5 (a1 sz:Int):Int:=if(!(((((((sz==1)||(sz==2))||(sz==4))||(sz==8))&&(decide (a1≥0)))&&(decide (a1≤(IntKind.wrap .i64 (8 - sz)))))&&((Int.tmod a1 sz)==0)))=true then 0 else IntKind.wrap .i64 ((IntKind.wrap .i64 ((IntKind.wrap .i64 (1*2^min sz.toNat (IntKind.bits .i64))) - 1))*2^min a1.toNat (IntKind.bits .i64))
theorem bT (a1 sz:Int):Fn Tryz.prog 174 [.n9 a1,.n9 sz] [] (Rt (.int .i64 (K5 a1 sz)) []):=
 AR (n:=14) (by kernel_rfl) Tryz.func174 U U U fun G w a h0 A=>M hX 10 A U U fun A=>C9 [] (JV a1 sz) A U fun A=>M hX 3 A U U fun A=>fork 8 A U
  (fun h1 A=>M hX 7 A U U fun A=>R9 A U h0 U (by simp only [Am,nb,B5,Bx,K5,if_pos h1]) U)
  (fun h1 A=>M hX 14 A U (AE (by(try simp at h1);first|omega|(simp;omega))<|AE (by(try simp at h1);first|omega|(simp;omega))<|AB) fun A=>R9 A U h0 U (by simp only [Am,nb,B5,Bx,K5,if_neg (α7 h1)]) U)
def CH (op dst ra rb imm loc off ix sz fn:Int)(acq weak rel:Bool)(pred succ to_:Int)(zero:Bool):Bool:=if loc≥0 then if loc<3 then if(Cm ix)=true then !((K5 off sz)==0)else false else false else false
theorem JW (b c d e f g h i j k:Int)(l m o:Bool)(p q r:Int)(s:Bool):Fn Tryz.prog 164 [.agg [.n9 b,.n9 c,.n9 d,.n9 e,.n9 f,.n9 g,.n9 h,.n9 i,.n9 j,.n9 k,.bool l,.bool m,.bool o,.n9 p,.n9 q,.n9 r,.bool s]] [] (Rt (.bool (CH b c d e f g h i j k l m o p q r s)) []):=
 AR (n:=24) (by kernel_rfl) Tryz.func164 U U U fun G w a h0 A=>N9 12 A U U fun A=>AU 6 A U
  (fun h1 A=>N9 5 A U U fun A=>AU 11 A U
   (fun h2 A=>N9 2 A U U fun A=>C9 [] (Fw i) A U fun A=>N9 2 A U U fun A=>fork 16 A U
    (fun h3 A=>N9 4 A U U fun A=>C9 [] (bT h j) A U fun A=>N9 6 A U U fun A=>R9 A U h0 U (by simp only [Am,nb,B5,Bx,CH,if_pos h1,if_pos h2,if_pos h3]) U)
    (fun h3 A=>N9 11 A U U fun A=>R9 A U h0 U (by simp only [Am,nb,B5,Bx,CH,if_pos h1,if_pos h2,if_neg (α7 h3)]) U))
   (fun h2 A=>N9 16 A U U fun A=>R9 A U h0 U (by simp only [Am,nb,B5,Bx,CH,if_pos h1,if_neg h2]) U))
  (fun h1 A=>N9 21 A U U fun A=>R9 A U h0 U (by simp only [Am,nb,B5,Bx,CH,if_neg h1]) U)
def CV (op dst ra rb imm loc off ix sz fn:Int)(acq weak rel:Bool)(pred succ to_:Int)(zero:Bool):Int:=if op=1 then dst else if op=2 then dst else if op=3 then dst else if op=4 then dst else if op=5 then(-1)else if op=6 then dst else(-1)
def CW (op dst ra rb imm loc off ix sz fn:Int)(acq weak rel:Bool)(pred succ to_:Int)(zero:Bool):Int:=if op=1 then(-1)else if op=2 then ra else if op=3 then ra else if op=4 then(-1)else if op=5 then ra else if op=6 then ra else if op=7 then(-1)else if op=9 then ra else(-1)
def CX (op dst ra rb imm loc off ix sz fn:Int)(acq weak rel:Bool)(pred succ to_:Int)(zero:Bool):Int:=if op=1 then(-1)else if op=2 then(-1)else if op=3 then rb else(-1)
def CY (a b c d e f g h i j:Int)(k l m:Bool)(n o p:Int)(q:Bool):Int:=if a=1 then e else if a=2 then 0 else if a=3 then Fx a b c d e f g h i j k l m n o p q d else if a=4 then 0 else if a=5 then Fx a b c d e f g h i j k l m n o p q c else 0
def CZ (a b c d e f g h i j:Int)(k l m:Bool)(n o p:Int)(q:Bool):Int:=if a=1 then if(Bl a b c d e f g h i j k l m n o p q)=true then f else 0 else if a=2 then if(Bl a b c d e f g h i j k l m n o p q)=true then f else 0 else if a=3 then if(Bl a b c d e f g h i j k l m n o p q)=true then f else 0 else if a=4 then if(Bl a b c d e f g h i j k l m n o p q)=true then f else 0 else if a=5 then if(Bl a b c d e f g h i j k l m n o p q)=true then f else 0 else if a=6 then if(Bl a b c d e f g h i j k l m n o p q)=true then f else 0 else if a=7 then if(Bl a b c d e f g h i j k l m n o p q)=true then f else 0 else if a=9 then if(Bl a b c d e f g h i j k l m n o p q)=true then f else 0 else if(Bl a b c d e f g h i j k l m n o p q)=true then f else 0
def Ca (a b c d e f g h i j:Int)(k l m:Bool)(n o p:Int)(q:Bool):Int:=if a=1 then if(Bl a b c d e f g h i j k l m n o p q)=true then g else 0 else if a=2 then if(Bl a b c d e f g h i j k l m n o p q)=true then g else 0 else if a=3 then if(Bl a b c d e f g h i j k l m n o p q)=true then g else 0 else if a=4 then if(Bl a b c d e f g h i j k l m n o p q)=true then g else 0 else if a=5 then if(Bl a b c d e f g h i j k l m n o p q)=true then g else 0 else if a=6 then if(Bl a b c d e f g h i j k l m n o p q)=true then g else 0 else if a=7 then if(Bl a b c d e f g h i j k l m n o p q)=true then g else 0 else if a=9 then if(Bl a b c d e f g h i j k l m n o p q)=true then g else 0 else if(Bl a b c d e f g h i j k l m n o p q)=true then g else 0
def Cb (a b c d e f g h i j:Int)(k l m:Bool)(n o p:Int)(q:Bool):Int:=if a=1 then if(Bl a b c d e f g h i j k l m n o p q)=true then h else(-1)else if a=2 then if(Bl a b c d e f g h i j k l m n o p q)=true then h else(-1)else if a=3 then if(Bl a b c d e f g h i j k l m n o p q)=true then h else(-1)else if a=4 then if(Bl a b c d e f g h i j k l m n o p q)=true then h else(-1)else if a=5 then if(Bl a b c d e f g h i j k l m n o p q)=true then h else(-1)else if a=6 then if(Bl a b c d e f g h i j k l m n o p q)=true then h else(-1)else if a=7 then if(Bl a b c d e f g h i j k l m n o p q)=true then h else(-1)else if a=9 then if(Bl a b c d e f g h i j k l m n o p q)=true then h else(-1)else if(Bl a b c d e f g h i j k l m n o p q)=true then h else(-1)
def Cc (a b c d e f g h i j:Int)(k l m:Bool)(n o p:Int)(q:Bool):Int:=if a=1 then if(Bl a b c d e f g h i j k l m n o p q)=true then i else 0 else if a=2 then if(Bl a b c d e f g h i j k l m n o p q)=true then i else 0 else if a=3 then if(Bl a b c d e f g h i j k l m n o p q)=true then i else 0 else if a=4 then if(Bl a b c d e f g h i j k l m n o p q)=true then i else 0 else if a=5 then if(Bl a b c d e f g h i j k l m n o p q)=true then i else 0 else if a=6 then if(Bl a b c d e f g h i j k l m n o p q)=true then i else 0 else if a=7 then if(Bl a b c d e f g h i j k l m n o p q)=true then i else 0 else if a=9 then if(Bl a b c d e f g h i j k l m n o p q)=true then i else 0 else if(Bl a b c d e f g h i j k l m n o p q)=true then i else 0
def plain8 (op dst ra rb imm loc off ix sz fn:Int)(acq weak rel:Bool)(pred succ to_:Int)(zero:Bool):Int:=if op=1 then 0 else if op=2 then 0 else if op=3 then fn else if op=4 then 0 else if op=5 then 0 else if op=6 then fn else 0
def Cd (op dst ra rb imm loc off ix sz fn:Int)(acq weak rel:Bool)(pred succ to_:Int)(zero:Bool):Bool:=if op=1 then false else if op=2 then false else if op=3 then false else if op=4 then acq else if op=5 then false else if op=6 then acq else false
def B6 (op dst ra rb imm loc off ix sz fn:Int)(acq weak rel:Bool)(pred succ to_:Int)(zero:Bool):Bool:=if op=1 then false else if op=2 then false else if op=3 then false else if op=4 then weak else false
def B7 (op dst ra rb imm loc off ix sz fn:Int)(acq weak rel:Bool)(pred succ to_:Int)(zero:Bool):Bool:=if op=1 then false else if op=2 then false else if op=3 then false else if op=4 then false else if op=5 then rel else if op=6 then rel else false
def B8 (op dst ra rb imm loc off ix sz fn:Int)(acq weak rel:Bool)(pred succ to_:Int)(zero:Bool):Int:=if op=1 then 0 else if op=2 then 0 else if op=3 then 0 else if op=4 then 0 else if op=5 then 0 else if op=6 then 0 else if op=7 then pred else 0
def B9 (op dst ra rb imm loc off ix sz fn:Int)(acq weak rel:Bool)(pred succ to_:Int)(zero:Bool):Int:=if op=1 then 0 else if op=2 then 0 else if op=3 then 0 else if op=4 then 0 else if op=5 then 0 else if op=6 then 0 else if op=7 then succ else 0
def CA (op dst ra rb imm loc off ix sz fn:Int)(acq weak rel:Bool)(pred succ to_:Int)(zero:Bool):Int:=if op=1 then 0 else if op=2 then 0 else if op=3 then 0 else if op=4 then 0 else if op=5 then 0 else if op=6 then 0 else if op=7 then 0 else if op=9 then to_ else 0
def CB (op dst ra rb imm loc off ix sz fn:Int)(acq weak rel:Bool)(pred succ to_:Int)(zero:Bool):Bool:=if op=1 then false else if op=2 then false else if op=3 then false else if op=4 then false else if op=5 then false else if op=6 then false else if op=7 then false else if op=9 then zero else false
theorem bU (b c d e f g h i j k:Int) (l m o:Bool) (p q r:Int) (s:Bool):Fn Tryz.prog 120 [.agg [.n9 b,.n9 c,.n9 d,.n9 e,.n9 f,.n9 g,.n9 h,.n9 i,.n9 j,.n9 k,.bool l,.bool m,.bool o,.n9 p,.n9 q,.n9 r,.bool s]] [] (Rt (.agg [.n9 b,.n9 (CV b c d e f g h i j k l m o p q r s),.n9 (CW b c d e f g h i j k l m o p q r s),.n9 (CX b c d e f g h i j k l m o p q r s),.n9 (CY b c d e f g h i j k l m o p q r s),.n9 (CZ b c d e f g h i j k l m o p q r s),.n9 (Ca b c d e f g h i j k l m o p q r s),.n9 (Cb b c d e f g h i j k l m o p q r s),.n9 (Cc b c d e f g h i j k l m o p q r s),.n9 (plain8 b c d e f g h i j k l m o p q r s),.bool (Cd b c d e f g h i j k l m o p q r s),.bool (B6 b c d e f g h i j k l m o p q r s),.bool (B7 b c d e f g h i j k l m o p q r s),.n9 (B8 b c d e f g h i j k l m o p q r s),.n9 (B9 b c d e f g h i j k l m o p q r s),.n9 (CA b c d e f g h i j k l m o p q r s),.bool (CB b c d e f g h i j k l m o p q r s)]) []):=
 AR (n:=119) (by kernel_rfl) Tryz.func120 U U U fun G w a h0 A=>N9 29 A U U fun A=>AV 9 A U
  (fun h1 A=>N9 1 A U U fun A=>A9 hX BW [] [] A U U U U (by kernel_rfl) (An _ _) trivial fun A=>N9 6 A U U fun A=>C9 [] (Hf b c d e f g h i j k l m o p q r s) A U fun A=>N9 2 A U U fun A=>fork 105 A U
   (fun h2 A=>N9 1 A U U fun A=>A9 hX BW [] [] A U U U U (by kernel_rfl) (An _ _) trivial fun A=>N9 8 A U U fun A=>R9 A U h0 U (by simp only [Am,nb,B5,Bx,CV,CW,CX,CY,CZ,Ca,Cb,Cc,plain8,Cd,B6,B7,B8,B9,CA,CB,if_pos h1,if_pos h2]) U)
   (fun h2 A=>N9 10 A U U fun A=>R9 A U h0 U (by simp only [Am,nb,B5,Bx,CV,CW,CX,CY,CZ,Ca,Cb,Cc,plain8,Cd,B6,B7,B8,B9,CA,CB,if_pos h1,if_neg (α7 h2)]) U))
  (fun h1 A=>N9 7 A U U fun A=>AV 17 A U
   (fun h3 A=>N9 1 A U U fun A=>A9 hX BW [] [] A U U U U (by kernel_rfl) (An _ _) trivial fun A=>N9 6 A U U fun A=>C9 [] (Hf b c d e f g h i j k l m o p q r s) A U fun A=>N9 2 A U U fun A=>fork 105 A U
    (fun h4 A=>N9 1 A U U fun A=>A9 hX BW [] [] A U U U U (by kernel_rfl) (An _ _) trivial fun A=>N9 8 A U U fun A=>R9 A U h0 U (by simp only [Am,nb,B5,Bx,CV,CW,CX,CY,CZ,Ca,Cb,Cc,plain8,Cd,B6,B7,B8,B9,CA,CB,if_neg (h1),if_pos h3,if_pos h4]) U)
    (fun h4 A=>N9 10 A U U fun A=>R9 A U h0 U (by simp only [Am,nb,B5,Bx,CV,CW,CX,CY,CZ,Ca,Cb,Cc,plain8,Cd,B6,B7,B8,B9,CA,CB,if_neg (h1),if_pos h3,if_neg (α7 h4)]) U))
   (fun h3 A=>N9 7 A U U fun A=>AV 25 A U
    (fun h5 A=>N9 1 A U U fun A=>A9 hX BW [(11,.n9 (Fx b c d e f g h i j k l m o p q r s e))] [] A U U U U (by kernel_rfl) (An _ _) ⟨.inl ⟨_,_,rfl,rfl,RV b c d e f g h i j k l m o p q r s e⟩,trivial⟩ fun A=>N9 6 A U U fun A=>C9 [] (Hf b c d e f g h i j k l m o p q r s) A U fun A=>N9 2 A U U fun A=>fork 105 A U
     (fun h6 A=>N9 1 A U U fun A=>A9 hX BW [] [] A U U U U (by kernel_rfl) (An _ _) trivial fun A=>N9 8 A U U fun A=>R9 A U h0 U (by simp only [Am,nb,B5,Bx,CV,CW,CX,CY,CZ,Ca,Cb,Cc,plain8,Cd,B6,B7,B8,B9,CA,CB,if_neg (h1),if_neg (h3),if_pos h5,if_pos h6]) U)
     (fun h6 A=>N9 10 A U U fun A=>R9 A U h0 U (by simp only [Am,nb,B5,Bx,CV,CW,CX,CY,CZ,Ca,Cb,Cc,plain8,Cd,B6,B7,B8,B9,CA,CB,if_neg (h1),if_neg (h3),if_pos h5,if_neg (α7 h6)]) U))
    (fun h5 A=>N9 7 A U U fun A=>AV 44 A U
     (fun h7 A=>N9 1 A U U fun A=>A9 hX BW [] [] A U U U U (by kernel_rfl) (An _ _) trivial fun A=>N9 6 A U U fun A=>C9 [] (Hf b c d e f g h i j k l m o p q r s) A U fun A=>N9 2 A U U fun A=>fork 105 A U
      (fun h8 A=>N9 1 A U U fun A=>A9 hX BW [] [] A U U U U (by kernel_rfl) (An _ _) trivial fun A=>N9 8 A U U fun A=>R9 A U h0 U (by simp only [Am,nb,B5,Bx,CV,CW,CX,CY,CZ,Ca,Cb,Cc,plain8,Cd,B6,B7,B8,B9,CA,CB,if_neg (h1),if_neg (h3),if_neg (h5),if_pos h7,if_pos h8]) U)
      (fun h8 A=>N9 10 A U U fun A=>R9 A U h0 U (by simp only [Am,nb,B5,Bx,CV,CW,CX,CY,CZ,Ca,Cb,Cc,plain8,Cd,B6,B7,B8,B9,CA,CB,if_neg (h1),if_neg (h3),if_neg (h5),if_pos h7,if_neg (α7 h8)]) U))
     (fun h7 A=>N9 7 A U U fun A=>AV 55 A U
      (fun h9 A=>N9 1 A U U fun A=>A9 hX BW [(5,.n9 (Fx b c d e f g h i j k l m o p q r s d))] [] A U U U U (by kernel_rfl) (An _ _) ⟨.inl ⟨_,_,rfl,rfl,RV b c d e f g h i j k l m o p q r s d⟩,trivial⟩ fun A=>N9 6 A U U fun A=>C9 [] (Hf b c d e f g h i j k l m o p q r s) A U fun A=>N9 2 A U U fun A=>fork 105 A U
       (fun GG A=>N9 1 A U U fun A=>A9 hX BW [] [] A U U U U (by kernel_rfl) (An _ _) trivial fun A=>N9 8 A U U fun A=>R9 A U h0 U (by simp only [Am,nb,B5,Bx,CV,CW,CX,CY,CZ,Ca,Cb,Cc,plain8,Cd,B6,B7,B8,B9,CA,CB,if_neg (h1),if_neg (h3),if_neg (h5),if_neg (h7),if_pos h9,if_pos GG]) U)
       (fun GG A=>N9 10 A U U fun A=>R9 A U h0 U (by simp only [Am,nb,B5,Bx,CV,CW,CX,CY,CZ,Ca,Cb,Cc,plain8,Cd,B6,B7,B8,B9,CA,CB,if_neg (h1),if_neg (h3),if_neg (h5),if_neg (h7),if_pos h9,if_neg (α7 GG)]) U))
      (fun h9 A=>N9 7 A U U fun A=>AV 68 A U
       (fun Fq A=>N9 1 A U U fun A=>A9 hX BW [] [] A U U U U (by kernel_rfl) (An _ _) trivial fun A=>N9 6 A U U fun A=>C9 [] (Hf b c d e f g h i j k l m o p q r s) A U fun A=>N9 2 A U U fun A=>fork 105 A U
        (fun OC A=>N9 1 A U U fun A=>A9 hX BW [] [] A U U U U (by kernel_rfl) (An _ _) trivial fun A=>N9 8 A U U fun A=>R9 A U h0 U (by simp only [Am,nb,B5,Bx,CV,CW,CX,CY,CZ,Ca,Cb,Cc,plain8,Cd,B6,B7,B8,B9,CA,CB,if_neg (h1),if_neg (h3),if_neg (h5),if_neg (h7),if_neg (h9),if_pos Fq,if_pos OC]) U)
        (fun OC A=>N9 10 A U U fun A=>R9 A U h0 U (by simp only [Am,nb,B5,Bx,CV,CW,CX,CY,CZ,Ca,Cb,Cc,plain8,Cd,B6,B7,B8,B9,CA,CB,if_neg (h1),if_neg (h3),if_neg (h5),if_neg (h7),if_neg (h9),if_pos Fq,if_neg (α7 OC)]) U))
       (fun Fq A=>N9 7 A U U fun A=>AV 85 A U
        (fun MM A=>N9 1 A U U fun A=>A9 hX BW [] [] A U U U U (by kernel_rfl) (An _ _) trivial fun A=>N9 6 A U U fun A=>C9 [] (Hf b c d e f g h i j k l m o p q r s) A U fun A=>N9 2 A U U fun A=>fork 105 A U
         (fun Qs A=>N9 1 A U U fun A=>A9 hX BW [] [] A U U U U (by kernel_rfl) (An _ _) trivial fun A=>N9 8 A U U fun A=>R9 A U h0 U (by simp only [Am,nb,B5,Bx,CV,CW,CX,CY,CZ,Ca,Cb,Cc,plain8,Cd,B6,B7,B8,B9,CA,CB,if_neg (h1),if_neg (h3),if_neg (h5),if_neg (h7),if_neg (h9),if_neg (Fq),if_pos MM,if_pos Qs]) U)
         (fun Qs A=>N9 10 A U U fun A=>R9 A U h0 U (by simp only [Am,nb,B5,Bx,CV,CW,CX,CY,CZ,Ca,Cb,Cc,plain8,Cd,B6,B7,B8,B9,CA,CB,if_neg (h1),if_neg (h3),if_neg (h5),if_neg (h7),if_neg (h9),if_neg (Fq),if_pos MM,if_neg (α7 Qs)]) U))
        (fun MM A=>N9 7 A U U fun A=>AV 93 A U
         (fun SR A=>N9 1 A U U fun A=>A9 hX BW [] [] A U U U U (by kernel_rfl) (An _ _) trivial fun A=>N9 6 A U U fun A=>C9 [] (Hf b c d e f g h i j k l m o p q r s) A U fun A=>N9 2 A U U fun A=>fork 105 A U
          (fun T0 A=>N9 1 A U U fun A=>A9 hX BW [] [] A U U U U (by kernel_rfl) (An _ _) trivial fun A=>N9 8 A U U fun A=>R9 A U h0 U (by simp only [Am,nb,B5,Bx,CV,CW,CX,CY,CZ,Ca,Cb,Cc,plain8,Cd,B6,B7,B8,B9,CA,CB,if_neg (h1),if_neg (h3),if_neg (h5),if_neg (h7),if_neg (h9),if_neg (Fq),if_neg (MM),if_pos SR,if_pos T0]) U)
          (fun T0 A=>N9 10 A U U fun A=>R9 A U h0 U (by simp only [Am,nb,B5,Bx,CV,CW,CX,CY,CZ,Ca,Cb,Cc,plain8,Cd,B6,B7,B8,B9,CA,CB,if_neg (h1),if_neg (h3),if_neg (h5),if_neg (h7),if_neg (h9),if_neg (Fq),if_neg (MM),if_pos SR,if_neg (α7 T0)]) U))
         (fun SR A=>N9 8 A U U fun A=>C9 [] (Hf b c d e f g h i j k l m o p q r s) A U fun A=>N9 2 A U U fun A=>fork 105 A U
          (fun XQ A=>N9 1 A U U fun A=>A9 hX BW [] [] A U U U U (by kernel_rfl) (An _ _) trivial fun A=>N9 8 A U U fun A=>R9 A U h0 U (by simp only [Am,nb,B5,Bx,CV,CW,CX,CY,CZ,Ca,Cb,Cc,plain8,Cd,B6,B7,B8,B9,CA,CB,if_neg (h1),if_neg (h3),if_neg (h5),if_neg (h7),if_neg (h9),if_neg (Fq),if_neg (MM),if_neg (SR),if_pos XQ]) U)
          (fun XQ A=>N9 10 A U U fun A=>R9 A U h0 U (by simp only [Am,nb,B5,Bx,CV,CW,CX,CY,CZ,Ca,Cb,Cc,plain8,Cd,B6,B7,B8,B9,CA,CB,if_neg (h1),if_neg (h3),if_neg (h5),if_neg (h7),if_neg (h9),if_neg (Fq),if_neg (MM),if_neg (SR),if_neg (α7 XQ)]) U)))))))))
def Bs (a b c d e f g h i j:Int)(k l m:Bool)(n o p:Int)(q:Bool):Bool:=if a=1 then(decide (b≥0))&&(decide (b<8))else if a=2 then if((decide (b≥0))&&(decide (b<8)))=true then(decide (c≥0))&&(decide (c<8))else false else if a=3 then if((decide (b≥0))&&(decide (b<8)))=true then if((decide (c≥0))&&(decide (c<8)))=true then((Cm d)&&(decide (j≥1)))&&(decide (j≤5))else false else false else if a=4 then if((decide (b≥0))&&(decide (b<8)))=true then(CH a b c d e f g h i j k l m n o p q)&&(!(k&&l))else false else if a=5 then if(Cm c)=true then CH a b c d e f g h i j k l m n o p q else false else if a=6 then if((decide (b≥0))&&(decide (b<8)))=true then if((decide (c≥0))&&(decide (c<8)))=true then(CH a b c d e f g h i j k l m n o p q)&&((j==6)||(j==1))else false else false else if a=7 then if(((n==1)||(n==2))||(n==3))=true then((o==1)||(o==2))||(o==3)else false else if a=8 then true else if a=9 then(decide (c≥0))&&(decide (c<8))else false
theorem bV (b c d e f g h i j k:Int) (l m o:Bool) (p q r:Int) (s:Bool):Fn Tryz.prog 121 [.agg [.n9 b,.n9 c,.n9 d,.n9 e,.n9 f,.n9 g,.n9 h,.n9 i,.n9 j,.n9 k,.bool l,.bool m,.bool o,.n9 p,.n9 q,.n9 r,.bool s]] [] (Rt (.bool (Bs b c d e f g h i j k l m o p q r s)) []):=
 AR (n:=113) (by kernel_rfl) Tryz.func121 U U U fun G w a h0 A=>N9 20 A U U fun A=>AV 5 A U
  (fun h1 A=>N9 5 A U U fun A=>C9 [] (FH c) A U fun A=>N9 4 A U U fun A=>R9 A U h0 U (by simp only [Am,nb,B5,Bx,Bs,if_pos h1]) U)
  (fun h1 A=>N9 7 A U U fun A=>AV 10 A U
   (fun h2 A=>N9 5 A U U fun A=>C9 [] (FH c) A U fun A=>N9 1 A U U fun A=>fork 15 A U
    (fun h3 A=>N9 2 A U U fun A=>C9 [] (FH d) A U fun A=>N9 5 A U U fun A=>R9 A U h0 U (by simp only [Am,nb,B5,Bx,Bs,if_neg (h1),if_pos h2,if_pos h3]) U)
    (fun h3 A=>N9 8 A U U fun A=>R9 A U h0 U (by simp only [Am,nb,B5,Bx,Bs,if_neg (h1),if_pos h2,if_neg (α7 h3)]) U))
   (fun h2 A=>N9 7 A U U fun A=>AV 20 A U
    (fun h4 A=>N9 5 A U U fun A=>C9 [] (FH c) A U fun A=>N9 1 A U U fun A=>fork 25 A U
     (fun h5 A=>N9 2 A U U fun A=>C9 [] (FH d) A U fun A=>N9 2 A U U fun A=>fork 30 A U
      (fun h6 A=>N9 2 A U U fun A=>C9 [] (Fw e) A U fun A=>N9 15 A U U fun A=>R9 A U h0 U (by simp only [Am,nb,B5,Bx,Bs,if_neg (h1),if_neg (h2),if_pos h4,if_pos h5,if_pos h6]) U)
      (fun h6 A=>N9 18 A U U fun A=>R9 A U h0 U (by simp only [Am,nb,B5,Bx,Bs,if_neg (h1),if_neg (h2),if_pos h4,if_pos h5,if_neg (α7 h6)]) U))
     (fun h5 A=>N9 23 A U U fun A=>R9 A U h0 U (by simp only [Am,nb,B5,Bx,Bs,if_neg (h1),if_neg (h2),if_pos h4,if_neg (α7 h5)]) U))
    (fun h4 A=>N9 7 A U U fun A=>AV 45 A U
     (fun h7 A=>N9 5 A U U fun A=>C9 [] (FH c) A U fun A=>N9 1 A U U fun A=>fork 50 A U
      (fun h8 A=>N9 1 A U U fun A=>C9 [] (JW b c d e f g h i j k l m o p q r s) A U fun A=>N9 14 A U U fun A=>R9 A U h0 U (by simp only [Am,nb,B5,Bx,Bs,if_neg (h1),if_neg (h2),if_neg (h4),if_pos h7,if_pos h8]) U)
      (fun h8 A=>N9 16 A U U fun A=>R9 A U h0 U (by simp only [Am,nb,B5,Bx,Bs,if_neg (h1),if_neg (h2),if_neg (h4),if_pos h7,if_neg (α7 h8)]) U))
     (fun h7 A=>N9 7 A U U fun A=>AV 63 A U
      (fun h9 A=>N9 5 A U U fun A=>C9 [] (Fw d) A U fun A=>N9 1 A U U fun A=>fork 68 A U
       (fun GG A=>N9 1 A U U fun A=>C9 [] (JW b c d e f g h i j k l m o p q r s) A U fun A=>N9 5 A U U fun A=>R9 A U h0 U (by simp only [Am,nb,B5,Bx,Bs,if_neg (h1),if_neg (h2),if_neg (h4),if_neg (h7),if_pos h9,if_pos GG]) U)
       (fun GG A=>N9 7 A U U fun A=>R9 A U h0 U (by simp only [Am,nb,B5,Bx,Bs,if_neg (h1),if_neg (h2),if_neg (h4),if_neg (h7),if_pos h9,if_neg (α7 GG)]) U))
      (fun h9 A=>N9 7 A U U fun A=>AV 72 A U
       (fun Fq A=>N9 5 A U U fun A=>C9 [] (FH c) A U fun A=>N9 1 A U U fun A=>fork 77 A U
        (fun OC A=>N9 2 A U U fun A=>C9 [] (FH d) A U fun A=>N9 2 A U U fun A=>fork 82 A U
         (fun MM A=>N9 1 A U U fun A=>C9 [] (JW b c d e f g h i j k l m o p q r s) A U fun A=>N9 15 A U U fun A=>R9 A U h0 U (by simp only [Am,nb,B5,Bx,Bs,if_neg (h1),if_neg (h2),if_neg (h4),if_neg (h7),if_neg (h9),if_pos Fq,if_pos OC,if_pos MM]) U)
         (fun MM A=>N9 17 A U U fun A=>R9 A U h0 U (by simp only [Am,nb,B5,Bx,Bs,if_neg (h1),if_neg (h2),if_neg (h4),if_neg (h7),if_neg (h9),if_pos Fq,if_pos OC,if_neg (α7 MM)]) U))
        (fun OC A=>N9 22 A U U fun A=>R9 A U h0 U (by simp only [Am,nb,B5,Bx,Bs,if_neg (h1),if_neg (h2),if_neg (h4),if_neg (h7),if_neg (h9),if_pos Fq,if_neg (α7 OC)]) U))
       (fun Fq A=>N9 7 A U U fun A=>AV 96 A U
        (fun Qs A=>N9 5 A U U fun A=>C9 [] (Mb p) A U fun A=>N9 1 A U U fun A=>fork 101 A U
         (fun SR A=>N9 2 A U U fun A=>C9 [] (Mb q) A U fun A=>N9 5 A U U fun A=>R9 A U h0 U (by simp only [Am,nb,B5,Bx,Bs,if_neg (h1),if_neg (h2),if_neg (h4),if_neg (h7),if_neg (h9),if_neg (Fq),if_pos Qs,if_pos SR]) U)
         (fun SR A=>N9 8 A U U fun A=>R9 A U h0 U (by simp only [Am,nb,B5,Bx,Bs,if_neg (h1),if_neg (h2),if_neg (h4),if_neg (h7),if_neg (h9),if_neg (Fq),if_pos Qs,if_neg (α7 SR)]) U))
        (fun Qs A=>N9 7 A U U fun A=>AV 106 A U
         (fun T0 A=>N9 7 A U U fun A=>R9 A U h0 U (by simp only [Am,nb,B5,Bx,Bs,if_neg (h1),if_neg (h2),if_neg (h4),if_neg (h7),if_neg (h9),if_neg (Fq),if_neg (Qs),if_pos T0]) U)
         (fun T0 A=>N9 7 A U U fun A=>AV 108 A U
          (fun XQ A=>N9 5 A U U fun A=>C9 [] (FH d) A U fun A=>N9 4 A U U fun A=>R9 A U h0 U (by simp only [Am,nb,B5,Bx,Bs,if_neg (h1),if_neg (h2),if_neg (h4),if_neg (h7),if_neg (h9),if_neg (Fq),if_neg (Qs),if_neg (T0),if_pos XQ]) U)
          (fun XQ A=>N9 10 A U U fun A=>R9 A U h0 U (by simp only [Am,nb,B5,Bx,Bs,if_neg (h1),if_neg (h2),if_neg (h4),if_neg (h7),if_neg (h9),if_neg (Fq),if_neg (Qs),if_neg (T0),if_neg (XQ)]) U)))))))))
def Fy (a b c d e f g h i j:Int)(k l m:Bool)(n o p:Int)(q:Bool)(at_ nn_:Int):Int:=if((!(((a==a)&&((b==(CV a b c d e f g h i j k l m n o p q))&&((c==(CW a b c d e f g h i j k l m n o p q))&&((d==(CX a b c d e f g h i j k l m n o p q))&&((e==(CY a b c d e f g h i j k l m n o p q))&&((f==(CZ a b c d e f g h i j k l m n o p q))&&((g==(Ca a b c d e f g h i j k l m n o p q))&&((h==(Cb a b c d e f g h i j k l m n o p q))&&((i==(Cc a b c d e f g h i j k l m n o p q))&&((j==(plain8 a b c d e f g h i j k l m n o p q))&&((k==(Cd a b c d e f g h i j k l m n o p q))&&((l==(B6 a b c d e f g h i j k l m n o p q))&&((m==(B7 a b c d e f g h i j k l m n o p q))&&((n==(B8 a b c d e f g h i j k l m n o p q))&&((o==(B9 a b c d e f g h i j k l m n o p q))&&((p==(CA a b c d e f g h i j k l m n o p q))&&(q==(CB a b c d e f g h i j k l m n o p q))))))))))))))))))))||(!(Bs a b c d e f g h i j k l m n o p q)))=true then 34 else if((a==9)&&((decide (p≤at_))||(decide (p>nn_))))=true then 35 else 0
theorem Ul (b c d e f g h i j k:Int)(l m o:Bool)(p q r:Int)(s:Bool)(at_ nn_:Int):Fn Tryz.prog 82 [.agg [.n9 b,.n9 c,.n9 d,.n9 e,.n9 f,.n9 g,.n9 h,.n9 i,.n9 j,.n9 k,.bool l,.bool m,.bool o,.n9 p,.n9 q,.n9 r,.bool s],.n9 at_,.n9 nn_] [] (Rt (.int .i64 (Fy b c d e f g h i j k l m o p q r s at_ nn_)) []):=
 AR (n:=30) (by kernel_rfl) Tryz.func82 U U U fun G w a h0 A=>N9 8 A U U fun A=>A9 hX BW [(2,.agg [.n9 b,.n9 (CV b c d e f g h i j k l m o p q r s),.n9 (CW b c d e f g h i j k l m o p q r s),.n9 (CX b c d e f g h i j k l m o p q r s),.n9 (CY b c d e f g h i j k l m o p q r s),.n9 (CZ b c d e f g h i j k l m o p q r s),.n9 (Ca b c d e f g h i j k l m o p q r s),.n9 (Cb b c d e f g h i j k l m o p q r s),.n9 (Cc b c d e f g h i j k l m o p q r s),.n9 (plain8 b c d e f g h i j k l m o p q r s),.bool (Cd b c d e f g h i j k l m o p q r s),.bool (B6 b c d e f g h i j k l m o p q r s),.bool (B7 b c d e f g h i j k l m o p q r s),.n9 (B8 b c d e f g h i j k l m o p q r s),.n9 (B9 b c d e f g h i j k l m o p q r s),.n9 (CA b c d e f g h i j k l m o p q r s),.bool (CB b c d e f g h i j k l m o p q r s)]),(6,.opt (!(!(((b==b)&&((c==(CV b c d e f g h i j k l m o p q r s))&&((d==(CW b c d e f g h i j k l m o p q r s))&&((e==(CX b c d e f g h i j k l m o p q r s))&&((f==(CY b c d e f g h i j k l m o p q r s))&&((g==(CZ b c d e f g h i j k l m o p q r s))&&((h==(Ca b c d e f g h i j k l m o p q r s))&&((i==(Cb b c d e f g h i j k l m o p q r s))&&((j==(Cc b c d e f g h i j k l m o p q r s))&&((k==(plain8 b c d e f g h i j k l m o p q r s))&&((l==(Cd b c d e f g h i j k l m o p q r s))&&((m==(B6 b c d e f g h i j k l m o p q r s))&&((o==(B7 b c d e f g h i j k l m o p q r s))&&((p==(B8 b c d e f g h i j k l m o p q r s))&&((q==(B9 b c d e f g h i j k l m o p q r s))&&((r==(CA b c d e f g h i j k l m o p q r s))&&(s==(CB b c d e f g h i j k l m o p q r s))))))))))))))))))))) (.bool (Bs b c d e f g h i j k l m o p q r s)))] [] A U U U U (by kernel_rfl) (An _ _) ⟨.inl ⟨_,_,rfl,rfl,bU b c d e f g h i j k l m o p q r s⟩,⟨.inr ⟨_,_,_,_,_,_,rfl,rfl,rfl,rfl,rfl,fun hg=>bV b c d e f g h i j k l m o p q r s⟩,trivial⟩⟩ fun A=>N9 1 A U U fun A=>fork 15 A U
  (fun h1 A=>N9 7 A U U fun A=>R9 A U h0 U (by simp only [Am,nb,B5,Bx,Fy,if_pos h1]) U)
  (fun h1 A=>N9 7 A U U fun A=>C9 [] (Md b c d e f g h i j k l m o p q r s) A U fun A=>N9 14 A U U fun A=>fork 29 A U
   (fun h2 A=>N9 7 A U U fun A=>R9 A U h0 U (by simp only [Am,nb,B5,Bx,Fy,if_neg (α7 h1),if_pos h2]) U)
   (fun h2 A=>N9 9 A U U fun A=>R9 A U h0 U (by simp only [Am,nb,B5,Bx,Fy,if_neg (α7 h1),if_neg (α7 h2)]) U))
theorem Um (b c d e f g h i j k:Int)(l m o:Bool)(p q r:Int)(s:Bool):Fn Tryz.prog 188 [.agg [.n9 b,.n9 c,.n9 d,.n9 e,.n9 f,.n9 g,.n9 h,.n9 i,.n9 j,.n9 k,.bool l,.bool m,.bool o,.n9 p,.n9 q,.n9 r,.bool s]] [] (Rt (.bool ((Fy b c d e f g h i j k l m o p q r s 0 0)==34)) []):=
 AR (n:=6) (by kernel_rfl) Tryz.func188 U U U fun G w a h0 A=>N9 9 A U U fun A=>C9 [] (Ul b c d e f g h i j k l m o p q r s 0 0) A U fun A=>N9 5 A U U fun A=>R9 A U h0 U U U
structure In where (op dst ra rb imm loc off ix sz fn:Int) (acq weak rel:Bool) (pred succ to_:Int) (zero:Bool)
abbrev AZ (i:In):List SV:=[.int .i64 i.op,.int .i64 i.dst,.int .i64 i.ra,.int .i64 i.rb,.int .i64 i.imm,.int .i64 i.loc,.int .i64 i.off,.int .i64 i.ix,.int .i64 i.sz,.int .i64 i.fn,.bool i.acq,.bool i.weak,.bool i.rel,.int .i64 i.pred,.int .i64 i.succ,.int .i64 i.to_,.bool i.zero]
def Dv (i J:In)(p:Int):In:=
 if p=1 then({J with dst:=i.dst}:In)else
 if p=2 then({J with ra:=i.ra}:In)else
 if p=3 then({J with rb:=i.rb}:In)else
 if p=4 then({J with dst:=i.dst,ra:=i.dst}:In)else
 if p=5 then({J with imm:=i.imm}:In)else
 if p=6 then({J with loc:=i.loc,off:=i.off,ix:=i.ix,sz:=i.sz}:In)else
 if p=7 then({J with to_:=i.to_}:In)else
 if p=8 then({J with pred:=i.pred}:In)else
 if p=9 then({J with succ:=i.succ}:In)else
 J
def bare (i:In):In:={i with dst:= -1,ra:= -1,rb:= -1,ix:= -1}
def Fz (p:Int)(i:In):Int×Bool:=if p=1 then(i.dst,true)else if p=4 then(i.dst,true)else if p=2 then(i.ra,true)else if p=3 then(i.rb,true)else(-1,false)
def Gu (ps:List Int)(i:In):Bool:=ps.all fun p=> !((Fz p i).2&&((Fz p i).1== -1))
theorem Zg (p:Int)(i:In):Fn Tryz.prog 227 [.n9 p,.agg (AZ i)] [] (Rt (.tup [.n9 ((Fz p i).1),.bool ((Fz p i).2)]) []):=
 AR (n:=20) (by kernel_rfl) Tryz.func227 U U U fun G w a h0 A=>N9 21 A U U fun A=>AV 7 A U
  (fun h1 A=>N9 13 A U U fun A=>R9 A U h0 U (by unfold Fz;rw [if_pos h1];rfl) U)
  (fun h1 A=>N9 6 A U U fun A=>AV 7 A U
   (fun h2 A=>N9 10 A U U fun A=>R9 A U h0 U (by unfold Fz;rw [if_neg h1,if_pos h2];rfl) U)
   (fun h2 A=>N9 7 A U U fun A=>AV 12 A U
    (fun h3 A=>N9 10 A U U fun A=>R9 A U h0 U (by unfold Fz;rw [if_neg h1,if_neg h2,if_pos h3];rfl) U)
    (fun h3 A=>N9 7 A U U fun A=>AV 16 A U
     (fun h4 A=>N9 10 A U U fun A=>R9 A U h0 U (by unfold Fz;rw [if_neg h1,if_neg h2,if_neg h3,if_pos h4];rfl) U)
     (fun h4 A=>N9 11 A U U fun A=>R9 A U h0 U (by unfold Fz;rw [if_neg h1,if_neg h2,if_neg h3,if_neg h4];rfl) U))))
structure WI (i:In)(ps:List Int)(J0 J:In)(k:Nat):Prop where
 le:k≤ps.length
 eq:(ps.drop k).foldl (Dv i) J=ps.foldl (Dv i) J0
section
variable {i:In}{ps:List Int}{J0 J J2:In}{k:Nat}
theorem WI.i0:WI i ps J0 J0 0:=⟨β7 _,by simp⟩
theorem WI.nx (hI:WI i ps J0 J k)(h1:(k:Int)<((ps.length:Nat):Int))(h:Dv i J (ps.getD ((k:Int)).toNat 0)=J2):WI i ps J0 J2 (k+1):=by
 have hk:k<ps.length:=by omega
 refine⟨hk,?_⟩
 have e:ps.getD ((k:Int)).toNat 0=ps[k]:=by simp [List.getD,hk]
 rw [←hI.eq,η1 hk,υ2,←e,h]
theorem WI.fi (hI:WI i ps J0 J k)(h1:¬(k:Int)<((ps.length:Nat):Int)):J=ps.foldl (Dv i) J0:=by
 rw [←hI.eq,ι4 (by omega)];rfl
end
theorem kM (nm wd:ag) (r:In) (ps:List Int) (c:Nat) (i:In) (hn:ps.length≤1000000):Fn Tryz.prog 222 [.agg [.str nm,.str wd,.n9 r.op,.n9 r.dst,.n9 r.ra,.n9 r.rb,.n9 r.imm,.n9 r.loc,.n9 r.off,.n9 r.ix,.n9 r.sz,.n9 r.fn,.bool r.acq,.bool r.weak,.bool r.rel,.n9 r.pred,.n9 r.succ,.n9 r.to_,.bool r.zero,.sl 0 ps.length c],.agg (AZ i)] [some (.lst 1 ps.length (fun j=>[.n9 (ps.getD j 0)]))] (Rt (.agg (AZ (ps.foldl (Dv i) (bare r)))) [some (.lst 1 ps.length (fun j=>[.n9 (ps.getD j 0)]))]):=
 AR (n :=81) (by kernel_rfl) Tryz.func222 U U U fun G w a h0 A=>N9 37 A U U fun A=>Ok (fun(J:In) (k:Nat)=>[(3,.ptr 2 0),(4,.ptr 3 0),(5,.ptr 4 0),(15,.sl 0 ps.length c),(16,.n9 ((ps.length:Nat):Int)),(17,.n9 (k:Int))]) (fun(J:In) (k:Nat)=>[some (.lst 1 ps.length (fun j=>[.n9 (ps.getD j 0)])),O [.str nm,.str wd,.n9 r.op,.n9 r.dst,.n9 r.ra,.n9 r.rb,.n9 r.imm,.n9 r.loc,.n9 r.off,.n9 r.ix,.n9 r.sz,.n9 r.fn,.bool r.acq,.bool r.weak,.bool r.rel,.n9 r.pred,.n9 r.succ,.n9 r.to_,.bool r.zero,.sl 0 ps.length c],O (AZ i),O [.z9,.z9,.z9,.z9,.z9,.z9,.z9,.z9,.z9,.z9,.ff,.ff,.ff,.z9,.z9,.z9,.ff],O (AZ J)]) (fun(J:In) (k:Nat)=>WI i ps (bare r) J k) (fun(J:In) (k:Nat)=>ps.length - k) (bare r) 0 WI.i0 ((A.cut [3,4,5,15,16,17] U).trunc 5 U U U (CL h0 U)) fun J k hI {G a w} A=>N9 6 A U U fun A=>AU 18 A U
   (fun h1 A=>N9 13 A U (AE (by have:=hI.le;omega)<|AE (by have:=hI.le;omega)<|AB) fun A=>N9 11 A U U fun A=>AV 22 A U
    (fun h2 A=>N9 14 A U (AE (by have:=hI.le;omega)<|AB) fun A=>⟨({J with dst:=i.dst}:In),k+1,_,(by omega),(hI.nx h1 (by unfold Dv;rw [if_pos h2])),((A.cut [3,4,5,15,16,17] U).trunc 5 U U U (CL h0 U))⟩)
    (fun h2 A=>N9 7 A U U fun A=>AV 27 A U
     (fun h3 A=>N9 14 A U (AE (by have:=hI.le;omega)<|AB) fun A=>⟨({J with ra:=i.ra}:In),k+1,_,(by omega),(hI.nx h1 (by unfold Dv;rw [if_neg h2,if_pos h3])),((A.cut [3,4,5,15,16,17] U).trunc 5 U U U (CL h0 U))⟩)
     (fun h3 A=>N9 7 A U U fun A=>AV 32 A U
      (fun h4 A=>N9 14 A U (AE (by have:=hI.le;omega)<|AB) fun A=>⟨({J with rb:=i.rb}:In),k+1,_,(by omega),(hI.nx h1 (by unfold Dv;rw [if_neg h2,if_neg h3,if_pos h4])),((A.cut [3,4,5,15,16,17] U).trunc 5 U U U (CL h0 U))⟩)
      (fun h4 A=>N9 7 A U U fun A=>AV 37 A U
       (fun h5 A=>N9 1 A U U fun A=>A9 hX BW [] [] A U U U U (by kernel_rfl) (An _ _) trivial fun A=>N9 7 A U (AE (by have:=hI.le;omega)<|AB) fun A=>⟨({J with dst:=i.dst,ra:=i.dst}:In),k+1,_,(by omega),(hI.nx h1 (by unfold Dv;rw [if_neg h2,if_neg h3,if_neg h4,if_pos h5])),((A.cut [3,4,5,15,16,17] U).trunc 5 U U U (CL h0 U))⟩)
       (fun h5 A=>N9 7 A U U fun A=>AV 45 A U
        (fun h6 A=>N9 14 A U (AE (by have:=hI.le;omega)<|AB) fun A=>⟨({J with imm:=i.imm}:In),k+1,_,(by omega),(hI.nx h1 (by unfold Dv;rw [if_neg h2,if_neg h3,if_neg h4,if_neg h5,if_pos h6])),((A.cut [3,4,5,15,16,17] U).trunc 5 U U U (CL h0 U))⟩)
        (fun h6 A=>N9 7 A U U fun A=>AV 50 A U
         (fun h7 A=>N9 1 A U U fun A=>A9 hX BW [] [] A U U U U (by kernel_rfl) (An _ _) trivial fun A=>N9 7 A U (AE (by have:=hI.le;omega)<|AB) fun A=>⟨({J with loc:=i.loc,off:=i.off,ix:=i.ix,sz:=i.sz}:In),k+1,_,(by omega),(hI.nx h1 (by unfold Dv;rw [if_neg h2,if_neg h3,if_neg h4,if_neg h5,if_neg h6,if_pos h7])),((A.cut [3,4,5,15,16,17] U).trunc 5 U U U (CL h0 U))⟩)
         (fun h7 A=>N9 7 A U U fun A=>AV 64 A U
          (fun h8 A=>N9 14 A U (AE (by have:=hI.le;omega)<|AB) fun A=>⟨({J with to_:=i.to_}:In),k+1,_,(by omega),(hI.nx h1 (by unfold Dv;rw [if_neg h2,if_neg h3,if_neg h4,if_neg h5,if_neg h6,if_neg h7,if_pos h8])),((A.cut [3,4,5,15,16,17] U).trunc 5 U U U (CL h0 U))⟩)
          (fun h8 A=>N9 7 A U U fun A=>AV 69 A U
           (fun h9 A=>N9 14 A U (AE (by have:=hI.le;omega)<|AB) fun A=>⟨({J with pred:=i.pred}:In),k+1,_,(by omega),(hI.nx h1 (by unfold Dv;rw [if_neg h2,if_neg h3,if_neg h4,if_neg h5,if_neg h6,if_neg h7,if_neg h8,if_pos h9])),((A.cut [3,4,5,15,16,17] U).trunc 5 U U U (CL h0 U))⟩)
           (fun h9 A=>N9 7 A U U fun A=>AV 74 A U
            (fun GG A=>N9 14 A U (AE (by have:=hI.le;omega)<|AB) fun A=>⟨({J with succ:=i.succ}:In),k+1,_,(by omega),(hI.nx h1 (by unfold Dv;rw [if_neg h2,if_neg h3,if_neg h4,if_neg h5,if_neg h6,if_neg h7,if_neg h8,if_neg h9,if_pos GG])),((A.cut [3,4,5,15,16,17] U).trunc 5 U U U (CL h0 U))⟩)
            (fun GG A=>N9 9 A U (AE (by have:=hI.le;omega)<|AB) fun A=>⟨J,k+1,_,(by omega),(hI.nx h1 (by unfold Dv;rw [if_neg h2,if_neg h3,if_neg h4,if_neg h5,if_neg h6,if_neg h7,if_neg h8,if_neg h9,if_neg GG])),((A.cut [3,4,5,15,16,17] U).trunc 5 U U U (CL h0 U))⟩))))))))))
   (fun h1 A=>N9 10 A U U fun A=>R9 A U h0 U (by rw [←hI.fi h1];rfl) U)
structure SI (i:In)(ps:List Int)(k:Nat):Prop where
 le:k≤ps.length
 eq:Gu ps i=Gu (ps.drop k) i
section
variable {i:In}{ps:List Int}{k:Nat}
theorem SI.i0:SI i ps 0:=⟨β7 _,by simp⟩
theorem SI.at (hI:SI i ps k)(h1:(k:Int)<((ps.length:Nat):Int)):Gu ps i=(!((Fz (ps.getD ((k:Int)).toNat 0) i).2&&((Fz (ps.getD ((k:Int)).toNat 0) i).1== -1))&&Gu (ps.drop (k+1)) i):=by
 have hk:k<ps.length:=by omega
 have e:ps.getD ((k:Int)).toNat 0=ps[k]:=by simp [List.getD,hk]
 rw [hI.eq,η1 hk,e];rfl
theorem SI.no (hI:SI i ps k)(h1:(k:Int)<((ps.length:Nat):Int))(h:((Fz (ps.getD ((k:Int)).toNat 0) i).2&&((Fz (ps.getD ((k:Int)).toNat 0) i).1== -1))=true):Gu ps i=false:=by rw [hI.at h1,h];rfl
theorem SI.nx (hI:SI i ps k)(h1:(k:Int)<((ps.length:Nat):Int))(h:((Fz (ps.getD ((k:Int)).toNat 0) i).2&&((Fz (ps.getD ((k:Int)).toNat 0) i).1== -1))=false):SI i ps (k+1):=⟨by omega,by rw [hI.at h1,h];simp⟩
theorem SI.fi (hI:SI i ps k)(h1:¬(k:Int)<((ps.length:Nat):Int)):Gu ps i=true:=by rw [hI.eq,ι4 (by omega)];rfl
end
theorem bW (nm wd:ag)(r:In)(ps:List Int)(c:Nat)(i:In)(hn:ps.length≤1000000):Fn Tryz.prog 225 [.agg [.str nm,.str wd,.n9 r.op,.n9 r.dst,.n9 r.ra,.n9 r.rb,.n9 r.imm,.n9 r.loc,.n9 r.off,.n9 r.ix,.n9 r.sz,.n9 r.fn,.bool r.acq,.bool r.weak,.bool r.rel,.n9 r.pred,.n9 r.succ,.n9 r.to_,.bool r.zero,.sl 0 ps.length c],.agg (AZ i)] [some (.lst 1 ps.length (fun j=>[.n9 (ps.getD j 0)]))] (Rt (.bool (Gu ps i)) [some (.lst 1 ps.length (fun j=>[.n9 (ps.getD j 0)]))]):=
 AR (n:=28) (by kernel_rfl) Tryz.func225 U U U fun G w a h0 A=>N9 17 A U U fun A=>Bq (fun(k:Nat)=>[(3,.ptr 2 0),(4,.ff),(10,.sl 0 ps.length c),(11,.n9 ((ps.length:Nat):Int)),(12,.n9 (k:Int))]) (fun(k:Nat)=>[some (.lst 1 ps.length (fun j=>[.n9 (ps.getD j 0)])),O [.str nm,.str wd,.n9 r.op,.n9 r.dst,.n9 r.ra,.n9 r.rb,.n9 r.imm,.n9 r.loc,.n9 r.off,.n9 r.ix,.n9 r.sz,.n9 r.fn,.bool r.acq,.bool r.weak,.bool r.rel,.n9 r.pred,.n9 r.succ,.n9 r.to_,.bool r.zero,.sl 0 ps.length c],O (AZ i)]) (fun(k:Nat)=>SI i ps k) (fun(k:Nat)=>ps.length - k) 0 SI.i0 ((A.cut [3,4,10,11,12] U).trunc 3 U U U (CL h0 U)) fun k hI {G a w} A=>N9 6 A U U fun A=>AU 13 A U
   (fun h1 A=>N9 13 A U (AE (by have:=hI.le;omega)<|AE (by have:=hI.le;omega)<|AB) fun A=>N9 3 A U U fun A=>C9 [] (Zg (ps.getD (((k:Int)).toNat) 0) i) A U fun A=>N9 16 A U U fun A=>fork 26 A U
    (fun h2 A=>N9 7 A U U fun A=>R9 A U h0 U (by rw [hI.no h1 h2];rfl) U)
    (fun h2 A=>N9 8 A U (AE (by have:=hI.le;omega)<|AB) fun A=>⟨k+1,_,(by omega),(hI.nx h1 h2),((A.cut [3,4,10,11,12] U).trunc 3 U U U (CL h0 U))⟩))
   (fun h1 A=>N9 9 A U U fun A=>R9 A U h0 U (by rw [hI.fi h1];rfl) U)
end
section
open Go.RowKit
abbrev BO:=Option (Nat×Nat)
def Jo (bo:BO):Option Addr:=bo.map fun x=>⟨x.1,x.2,none⟩
def Ep (bo:BO):Option Loc:=bo.map fun x=>⟨x.1,List.replicate x.2 undef,[],0⟩
mutual
theorem KU {G:Gr}{i:Nat}{bo:BO}(hG:G[i]?=some (Ep bo)):∀(x:SV),(∀z∈IV x,z=Jo bo)→den G (Sk i x)=den G x
 | .sla a m c,h=>by
  have h1:a=Jo bo:=h a (by unfold IV;exact ι9.2 U)
  subst h1
  unfold Sk den
  rw [hG]
  cases bo with
  |none=>rfl
  |some x=>simp [Ep,Jo,rm]
 | .agg l,h=>by unfold Sk den;rw [Oq hG l (by unfold IV at h;exact h)]
 | .int _ _,_=>rfl
 | .bool _,_=>rfl
 | .tt,_=>rfl
 | .ff,_=>rfl
 | .str _,_=>rfl
 | .ptr _ _,_=>rfl
 | .el _ _ _ _,_=>rfl
 | .ix _ _ _ _ _,_=>rfl
 | .sl _ _ _,_=>rfl
 | .sp _ _ _,_=>rfl
 | .st _ _ _ _ _,_=>rfl
 | .tup _,_=>rfl
 | .fn _ _,_=>rfl
 | .opt _ _,_=>rfl
 | .v _,_=>rfl
theorem Oq {G:Gr}{i:Nat}{bo:BO}(hG:G[i]?=some (Ep bo)):∀(l:List SV),(∀z∈Px l,z=Jo bo)→AO G (bQ i l)=AO G l
 | [],_=>rfl
 |x::l,h=>by
  unfold Px at h
  unfold bQ AO
  rw [KU hG x (fun z hz=>h z (ρ0 _ hz)),Oq hG l (fun z hz=>h z (π1 _ hz))]
end
def AP (ao:ak)(s n:Nat)(f:Nat→List SV):Dl:=fun w ks=>
 (∀k,∃vs,AO [] (f k)=some vs)∧(n=0∨∃b o,ao=Jo (some (b,o))∧b<w.heap.size∧ks.contains b=false∧∀k,k<n→∃vs,AO [] (f k)=some vs∧w.rangeAt b (o+k*s) vs)
theorem AP.ok {ao:ak}{s n:Nat}{f:Nat→List SV}:Dl.OK (AP ao s n f):=fun w ks w' ks' h m hk=>by
 refine⟨h.1,?_⟩
 rcases h.2 with h|⟨b,o,h1,h2,h3,h4⟩
 ·exact .inl h
 ·refine .inr ⟨b,o,h1,ζ7 h2 m.size,?_,fun k Dz=>?_⟩
  ·cases hc:ks'.contains b with
   |false=>rfl
   |true=>
    rcases hk b hc with h5|h5
    ·rw [h5]at h3;cases h3
    ·omega
  ·obtain⟨vs,v1,v2⟩:=h4 k Dz
   exact⟨vs,v1,HF v2 m h2 h3⟩
section
variable {P:Program}{n:Nat}{ks:ae}{G0:Gr}{w0:World}{T:List (Nat×SV)}{H:Hp}{G:Gr}{a:Act}{w:World}{Q:ab}{K:List Fr}{pos:Pos}
theorem Sy.adoptB (A:Sy n T H ks G0 w0 G a w){bo:BO}{s m:Nat}{f:Nat→List SV}(h0:AP (Jo bo) s m f w0 ks)(hm0:m≠0)(t:Nat){x:SV}(hx:look T t=some x)(hs:∀z∈IV x,z=Jo bo):Sy n ((t,Sk H.length x)::T) (H++[some (.lst s m f)]) ks G0 w0 (G++[Ep bo]) a w:=by
 have hl:=AP.ok _ _ _ _ h0 A.mix (fun b hb=>.inl hb:∀b,ks.contains b=true→ks.contains b=true∨w0.heap.size≤b)
 have eb:∀{b o:Nat},Jo bo=some ⟨b,o,none⟩→bo=some (b,o):=fun h1=>by
  cases bo with
  |none=>cases h1
  |some z=>obtain⟨z1,z2⟩:=z;simp [Jo]at h1;rw [h1.1,h1.2]
 refine(A.addE (p:=Ep bo) (en:=.lst s m f) ⟨hl.1,?_⟩ (fun i e L M h1 h2 h3 h=>?_) fun h=>by cases h).slotEq t hx (KU (by rw [α1 (by rw [A.mem.len];exact β8 _),A.mem.len];simp) x hs)
 ·rcases hl.2 with h2|⟨b,o,h1,h2,_,h4⟩
  ·exact .inl h2
  ·right
   have e:=eb h1
   subst e
   refine⟨_,rfl,h2,fun k hk=>?_⟩
   obtain⟨vs,v1,v2⟩:=h4 k hk
   exact⟨vs,v1,by simpa using v2⟩
 ·rcases h0.2 with q|⟨b,o,q1,q2,q3,_⟩
  ·exact absurd q hm0
  ·have e:=eb q1
   subst e
   cases h3
   exact A.apart q2 q3 h1 h2 (h.elim (fun z=>by cases z.2) (·.1))
def bX (ao:ak):Option Loc:=ao.map fun a=>⟨a.block,List.replicate a.off undef,[],0⟩
theorem P1 {ao:ak}{s m:Nat}{f:Nat→List SV}(t:Nat)(h0:AP ao s m f w0 ks)(hm:m≠0)(A:Sy n T H ks G0 w0 G a w){x y:SV}{H':Hp}(hx:look T t=some x)(hs:IV x=[ao])(hy:Sk H.length x=y)(hH:H++[some (.lst s m f)]=H')(hk:den (G++[bX ao]) y=den (G++[bX ao]) x→Sy n ((t,y)::T) H' ks G0 w0 (G++[bX ao]) a w→Goal P Q K pos a w):Goal P Q K pos a w:=by
 subst hy;subst hH
 rcases h0.2 with q|⟨b,o,e,_⟩
 ·exact absurd q hm
 ·subst e
  have hz:∀z∈IV x,z=Jo (some (b,o)):=fun z hz=>by rw [hs]at hz;exact ι9.1 hz
  have hlen:=A.mem.len
  have hG:(G++[Ep (some (b,o))])[H.length]?=some (Ep (some (b,o))):=by rw [α1 (by omega),hlen];simp
  exact hk (KU hG x hz) (A.adoptB h0 hm t hx hz)
theorem Sy.undo {d t:Nat}{e x y:SV}(A:Sy n ((d,e)::(t,y)::T) H ks G0 w0 G a w)(hd:den G y=den G x)(hx:look T t=some x)(vR:Nat.beq d t=false):Sy n ((d,e)::T) H ks G0 w0 G a w:=
 ⟨A.size,A.defers,fun s z hz=>by
  unfold look at hz
  cases hc:Nat.beq d s with
  |true=>rw [hc]at hz;cases hz;have:=α5 hc;subst this;exact A.get d e (by unfold look;rw [hc];rfl)
  | false=>
   rw [hc]at hz
   cases hq:Nat.beq t s with
   |true=>
    have:=α5 hq
    subst this
    rw [hx]at hz
    cases hz
    rw [←hd]
    exact A.get t y (by unfold look;rw [vR];show look _ _=_;unfold look;rw [hq];rfl)
   |false=>exact A.get s z (by unfold look;rw [hc];show look _ _=_;unfold look;rw [hq];exact hz),A.mem,A.pre,A.own,A.mix⟩
theorem JX {Y:Tb}{pos':Pos}{K':List Fr}{E:Ob}{ao:ak}{s m:Nat}{f:Nat→List SV}(hX:Y.ok P=true)(d t:Nat)(h0:AP ao s m f w0 ks)(hm:m≠0)(A:Sy n T H ks G0 w0 G a w){x y e:SV}{H':Hp}(hx:look T t=some x)(hs:IV x=[ao])(hy:Sk H.length x=y)(hH:H++[some (.lst s m f)]=H')(vR:Nat.beq d t=false)(h:bH ⟨Y,true⟩ n 1 ((t,y)::T) H' K pos=⟨(d,e)::(t,y)::T,H',K',pos',E⟩)(hE:Dc E)(hk:∀{G a w},Sy n ((d,e)::T) H' ks G0 w0 G a w→Goal P Q K' pos' a w):Goal P Q K pos a w:=by
 subst hy;subst hH
 rcases h0.2 with q|⟨b,o,eo,_⟩
 ·exact absurd q hm
 ·subst eo
  have hz:∀z∈IV x,z=Jo (some (b,o)):=fun z hz=>by rw [hs]at hz;exact ι9.1 hz
  have hlen:=A.mem.len
  have B:=A.adoptB h0 hm t hx hz
  obtain⟨F0,vD⟩:=A.pre
  have C:Sy n ((t,Sk H.length x)::T) (H++[some (.lst s m f)]) ks (G++[Ep (some (b,o))]) w0 (G++[Ep (some (b,o))]) a w:=⟨B.size,B.defers,B.get,B.mem,⟨[],by rw [ε0]⟩,B.own,B.mix⟩
  refine N hX 1 C h hE fun{G' a' w'} D=>?_
  obtain⟨F,hF⟩:=D.pre
  have hG:G'[H.length]?=some (Ep (some (b,o))):=by rw [hF,α2 (by rw [α4,List.length_singleton];omega),α1 (by omega),hlen];simp
  have D':=D.undo (KU hG x hz) hx vR
  exact hk ⟨D'.size,D'.defers,D'.get,D'.mem,⟨F0++[Ep (some (b,o))]++F,by rw [hF,vD];simp only [γ2]⟩,D'.own,D'.mix⟩
end
end
section
open Go.RowKit
set_option simprocs false
def In.z:In:=⟨0,0,0,0,0,0,0,0,0,0,false,false,false,0,0,0,false⟩
abbrev Ce (i:In):List SV:=(AZ i)
structure AD where (ao:ak) (l:List In) (cp:Nat)
def AD.z:AD:=⟨none,[],0⟩
abbrev I7 (c:AD):List SV:=[.sla c.ao c.l.length c.cp]
abbrev AD.lies (c:AD):Dl:=AP c.ao 17 c.l.length (fun zz=>Ce (c.l.getD zz In.z))
def AH (cs:List AD):Dl:=fun w ks=>∀c∈cs,c.lies w ks
theorem AH.ok {cs:List AD}:Dl.OK (AH cs):=fun w ks w' ks' h m hk c hc=>AP.ok _ _ _ _ (h c hc) m hk
theorem AH.at {cs:List AD}{w:World}{ks:ae}(h:AH cs w ks){k:Nat}(hk:k<cs.length):(cs.getD k AD.z).lies w ks:=h _ (by rw [α8,β4 hk];exact ι3 hk)
def Zh (i:In)(a n:Int):Int:=Fy i.op i.dst i.ra i.rb i.imm i.loc i.off i.ix i.sz i.fn i.acq i.weak i.rel i.pred i.succ i.to_ i.zero a n
def Ia (cs:List AD):Option Nat:=(List.range cs.length).find? fun k=>decide (8<(cs.getD k AD.z).l.length)
def GR (c:AD):Option Nat:=(List.range c.l.length).find? fun k=> !(Zh (c.l.getD k In.z) (k:Int) ((c.l.length:Nat):Int)==0)
def JY (cs:List AD):Option Nat:=(List.range cs.length).find? fun k=>(GR (cs.getD k AD.z)).isSome
structure B1 (cs:List AD)(i:Nat):Prop where
 le:i≤cs.length
 ok:∀j,j<i→(cs.getD j AD.z).l.length≤8
structure B2 (cs:List AD)(i:Nat):Prop where
 le:i≤cs.length
 ok:∀j,j<i→GR (cs.getD j AD.z)=none
structure B3 (c:AD)(k:Nat):Prop where
 le:k≤c.l.length
 ok:∀j,j<k→Zh (c.l.getD j In.z) (j:Int) ((c.l.length:Nat):Int)=0
section
variable {cs:List AD}{c:AD}{i k:Nat}
theorem B1.i0:B1 cs 0:=⟨β7 _,fun j hj=>by omega⟩
theorem B1.nx (h:B1 cs i)(h1:(i:Int)<((cs.length:Nat):Int))(h2:¬((((cs.getD ((i:Int)).toNat AD.z).l.length:Nat):Int)>8)):B1 cs (i+1):=⟨by omega,fun j hj=>by
 by_cases e:j=i
 ·subst e;rw [α6]at h2;omega
 ·exact h.ok j (by omega)⟩
theorem B1.bad (h:B1 cs i)(h1:(i:Int)<((cs.length:Nat):Int))(h2:(((cs.getD ((i:Int)).toNat AD.z).l.length:Nat):Int)>8):Ia cs=some i:=by
 unfold Ia
 rw [ξ1]
 rw [α6]at h2
 refine⟨by simp only [δ4];omega,by simp only [ζ8];omega,fun j hj=>?_⟩
 have:=h.ok j hj
 simp only [κ0,ζ1];omega
theorem B1.good (h:B1 cs i)(h1:¬(i:Int)<((cs.length:Nat):Int)):Ia cs=none:=by
 unfold Ia
 rw [μ3]
 intro j hj
 simp only [ζ8]at hj
 have:=h.ok j (by omega)
 simp only [δ4];omega
theorem B3.i0:B3 c 0:=⟨β7 _,fun j hj=>by omega⟩
theorem B3.nx (h:B3 c k)(h1:(k:Int)<((c.l.length:Nat):Int))(h2:Zh (c.l.getD ((k:Int)).toNat In.z) (k:Int) ((c.l.length:Nat):Int)=0):B3 c (k+1):=⟨by omega,fun j hj=>by
 by_cases e:j=k
 ·subst e;rw [α6]at h2;exact h2
 ·exact h.ok j (by omega)⟩
theorem B3.bad (h:B3 c k)(h1:(k:Int)<((c.l.length:Nat):Int))(h2:Zh (c.l.getD ((k:Int)).toNat In.z) (k:Int) ((c.l.length:Nat):Int)≠0):GR c=some k:=by
 unfold GR
 rw [ξ1]
 rw [α6]at h2
 refine⟨by rw [δ7.2 h2];rfl,by simp only [ζ8];omega,fun j hj=>?_⟩
 rw [h.ok j hj];rfl
theorem B3.good (h:B3 c k)(h1:¬(k:Int)<((c.l.length:Nat):Int)):GR c=none:=by
 unfold GR
 rw [μ3]
 intro j hj
 simp only [ζ8]at hj
 rw [h.ok j (by omega)];decide
theorem B2.i0:B2 cs 0:=⟨β7 _,fun j hj=>by omega⟩
theorem B2.nx (h:B2 cs i)(h1:(i:Int)<((cs.length:Nat):Int))(h2:GR (cs.getD ((i:Int)).toNat AD.z)=none):B2 cs (i+1):=⟨by omega,fun j hj=>by
 by_cases e:j=i
 ·subst e;rw [α6]at h2;exact h2
 ·exact h.ok j (by omega)⟩
theorem B2.bad (h:B2 cs i)(h1:(i:Int)<((cs.length:Nat):Int)){k:Nat}(h2:GR (cs.getD ((i:Int)).toNat AD.z)=some k):JY cs=some i:=by
 unfold JY
 rw [ξ1]
 rw [α6]at h2
 refine⟨by rw [h2];rfl,by simp only [ζ8];omega,fun j hj=>?_⟩
 rw [h.ok j hj];rfl
theorem B2.good (h:B2 cs i)(h1:¬(i:Int)<((cs.length:Nat):Int)):JY cs=none:=by
 unfold JY
 rw [μ3]
 intro j hj
 simp only [ζ8]at hj
 rw [h.ok j (by omega)];decide
end
theorem Cf {cs:List AD}{B:Nat}(hs:∀c∈cs,c.l.length≤B)(k:Nat):(cs.getD k AD.z).l.length≤B:=by
 rw [α8]
 cases hh:cs[k]? with
 |none=>exact β7 _
 |some y=>exact hs y (θ1 hh)
theorem Ib {cs:List AD}(h:Ia cs=none):∀c∈cs,c.l.length≤8:=fun c hc=>by
 obtain⟨j,hj⟩:=List.getElem?_of_mem hc
 have hl:=(α0.1 hj).1
 unfold Ia at h
 rw [μ3]at h
 have h2:=h j (ζ8.2 hl)
 rw [α8,hj]at h2
 simp only [δ2,δ4]at h2
 omega
theorem Hg {p q:Prop}[Decidable p][Decidable q](h:(decide p||decide q)=false):¬p∧¬q:=by simpa using h
def Ey (i:In):Bool:=Bl i.op i.dst i.ra i.rb i.imm i.loc i.off i.ix i.sz i.fn i.acq i.weak i.rel i.pred i.succ i.to_ i.zero
def FZ (p:In→Bool)(l:List In):Nat:=(l.filter p).length
def Ic (p:In→Bool)(cs:List AD):Nat:=(cs.map fun c=>FZ p c.l).sum
def Ez (i:In):Bool:=i.op==9
def Ie (cs:List AD):Int:=if((Ic Ey cs:Nat):Int)>6 then 32 else if((Ic Ez cs:Nat):Int)>3 then 33 else 0
def kN (cs:List AD):Int:=if(decide (((cs.length:Nat):Int)<1)||decide (((cs.length:Nat):Int)>3))=true then 0 else match Ia cs with
 |some k=>(k:Int)
 |none=>match JY cs with
  |some k=>(k:Int)
  |none=>0
def kO (cs:List AD):Int:=if(decide (((cs.length:Nat):Int)<1)||decide (((cs.length:Nat):Int)>3))=true then 0 else match Ia cs with
 |some k=>0
 |none=>match JY cs with
  |some k=>(((GR (cs.getD k AD.z)).getD 0:Nat):Int)
  |none=>0
def Me (cs:List AD):Int:=if(decide (((cs.length:Nat):Int)<1)||decide (((cs.length:Nat):Int)>3))=true then 30 else match Ia cs with
 |some k=>31
 |none=>match JY cs with
  |some k=>Zh ((cs.getD k AD.z).l.getD ((GR (cs.getD k AD.z)).getD 0) In.z) (((GR (cs.getD k AD.z)).getD 0:Nat):Int) (((cs.getD k AD.z).l.length:Nat):Int)
  |none=>Ie cs
abbrev _root_.Go.Proofs.YtbbdanhpphlbpaaGreatDoor.Ao (cs:List AD):BZ:=.lst 1 cs.length (fun zz=>I7 (cs.getD zz AD.z))
abbrev _root_.Go.Proofs.YtbbdanhpphlbpaaGreatDoor.an(cs:List AD):Option BZ:=some (Ao cs)
theorem KV (cs:List AD) (cx:Nat) (hs:∀c∈cs,c.l.length≤9223372036854775807) (jE:Ia cs=none→cs.length≤3→BQ (AH cs) Tryz.prog 83 [.sl 0 cs.length cx] [an cs] (Rt (.int .i64 (Ie cs)) [an cs])):BQ (AH cs) Tryz.prog 48 [.sl 0 cs.length cx] [an cs] (Rt (.tup [.n9 (kN cs),.n9 (kO cs),.n9 (Me cs)]) [an cs]):=
 Aa (n:=60) (by kernel_rfl) Tryz.func48 U U U fun G w a h0 hI A=>N9 20 A U U fun A=>fork 19 A U
  (fun h1 A=>N9 9 A U U fun A=>R9 A U h0 U (by unfold kN kO Me;rw [if_pos h1,if_pos h1,if_pos h1];rfl) U)
  (fun h1 A=>N9 12 A U U fun A=>Bq (fun(i:Nat)=>[(0,.sl 0 cs.length cx),(2,.n9 0),(3,.n9 0),(4,.n9 0),(20,.sl 0 cs.length cx),(21,.n9 ((cs.length:Nat):Int)),(22,.n9 (i:Int))]) (fun(i:Nat)=>[an cs]) (fun(i:Nat)=>B1 cs i) (fun(i:Nat)=>cs.length - i) 0 B1.i0 ((A.cut [0,2,3,4,20,21,22] U).trunc 1 U U U (CL h0 U)) fun i hJ {G a w} A=>N9 6 A U U fun A=>AU 23 A U
    (fun h2 A=>N9 15 A U (AE (by(try have hz:=Hg h1);(try have hy:=Cf hs ((i:Int)).toNat);(try have:=hL.le);(try have:=hK.le);(try have:=hJ.le);omega)<|AE (by(try have hz:=Hg h1);(try have hy:=Cf hs ((i:Int)).toNat);(try have:=hL.le);(try have:=hK.le);(try have:=hJ.le);omega)<|AB) fun A=>N9 6 A U U fun A=>AU 29 A U
     (fun h3 A=>N9 10 A U U fun A=>R9 A U h0 U (by unfold kN kO Me;rw [if_neg (α7 h1),if_neg (α7 h1),if_neg (α7 h1)];rw [hJ.bad h2 h3];rfl) U)
     (fun h3 A=>N9 8 A U (AE (by(try have hz:=Hg h1);(try have hy:=Cf hs ((i:Int)).toNat);(try have:=hL.le);(try have:=hK.le);(try have:=hJ.le);omega)<|AB) fun A=>⟨i+1,_,(by omega),(hJ.nx h2 h3),((A.cut [0,2,3,4,20,21,22] U).trunc 1 U U U (CL h0 U))⟩))
    (fun h2 A=>N9 12 A U U fun A=>have hG:=hJ.good h2;Bq (fun(i:Nat)=>[(0,.sl 0 cs.length cx),(2,.n9 0),(3,.n9 0),(4,.n9 0),(32,.sl 0 cs.length cx),(33,.n9 ((cs.length:Nat):Int)),(34,.n9 (i:Int))]) (fun(i:Nat)=>[an cs]) (fun(i:Nat)=>B2 cs i) (fun(i:Nat)=>cs.length - i) 0 B2.i0 ((A.cut [0,2,3,4,32,33,34] U).trunc 1 U U U (CL h0 U)) fun i hK {G a w} A=>N9 6 A U U fun A=>AU 35 A U
      (fun h4 A=>N9 15 A U (AE (by(try have hz:=Hg h1);(try have hy:=Cf hs ((i:Int)).toNat);(try have:=hL.le);(try have:=hK.le);(try have:=hJ.le);omega)<|AE (by(try have hz:=Hg h1);(try have hy:=Cf hs ((i:Int)).toNat);(try have:=hL.le);(try have:=hK.le);(try have:=hJ.le);omega)<|AB) fun A=>N9 7 A U U fun A=>Bq (fun(k:Nat)=>[(0,.sl 0 cs.length cx),(2,.n9 0),(3,.n9 0),(4,.n9 0),(7,.n9 (i:Int)),(8,.sla ((cs.getD (((i:Int)).toNat) AD.z).ao) ((cs.getD (((i:Int)).toNat) AD.z).l.length) ((cs.getD (((i:Int)).toNat) AD.z).cp)),(32,.sl 0 cs.length cx),(33,.n9 ((cs.length:Nat):Int)),(34,.n9 (i:Int)),(39,.sla ((cs.getD (((i:Int)).toNat) AD.z).ao) ((cs.getD (((i:Int)).toNat) AD.z).l.length) ((cs.getD (((i:Int)).toNat) AD.z).cp)),(40,.n9 (((cs.getD (((i:Int)).toNat) AD.z).l.length:Nat):Int)),(41,.n9 (k:Int))]) (fun(k:Nat)=>[an cs]) (fun(k:Nat)=>B3 (cs.getD ((i:Int)).toNat AD.z) k) (fun(k:Nat)=>(cs.getD ((i:Int)).toNat AD.z).l.length - k) 0 B3.i0 ((A.cut [0,2,3,4,7,8,32,33,34,39,40,41] U).trunc 1 U U U (CL h0 U)) fun k hL {G a w} A=>N9 6 A U U fun A=>AU 42 A U
        (fun h5 A=>N9 8 A U U fun A=>JX (ao:=(cs.getD (((i:Int)).toNat) AD.z).ao) (s:=17) (m:=(cs.getD (((i:Int)).toNat) AD.z).l.length) (f:=fun zz=>Ce ((cs.getD (((i:Int)).toNat) AD.z).l.getD zz In.z)) hX 44 39 (hI.at (by omega)) (by omega) A U U U U U U (AE (by(try have hz:=Hg h1);(try have hy:=Cf hs ((i:Int)).toNat);(try have:=hL.le);(try have:=hK.le);(try have:=hJ.le);omega)<|AB) fun A=>N9 7 A U (AE (by(try have hz:=Hg h1);(try have hy:=Cf hs ((i:Int)).toNat);(try have:=hL.le);(try have:=hK.le);(try have:=hJ.le);omega)<|AB) fun A=>N9 5 A U U fun A=>C9 [] (Ul ((cs.getD (((i:Int)).toNat) AD.z).l.getD (((k:Int)).toNat) In.z).op ((cs.getD (((i:Int)).toNat) AD.z).l.getD (((k:Int)).toNat) In.z).dst ((cs.getD (((i:Int)).toNat) AD.z).l.getD (((k:Int)).toNat) In.z).ra ((cs.getD (((i:Int)).toNat) AD.z).l.getD (((k:Int)).toNat) In.z).rb ((cs.getD (((i:Int)).toNat) AD.z).l.getD (((k:Int)).toNat) In.z).imm ((cs.getD (((i:Int)).toNat) AD.z).l.getD (((k:Int)).toNat) In.z).loc ((cs.getD (((i:Int)).toNat) AD.z).l.getD (((k:Int)).toNat) In.z).off ((cs.getD (((i:Int)).toNat) AD.z).l.getD (((k:Int)).toNat) In.z).ix ((cs.getD (((i:Int)).toNat) AD.z).l.getD (((k:Int)).toNat) In.z).sz ((cs.getD (((i:Int)).toNat) AD.z).l.getD (((k:Int)).toNat) In.z).fn ((cs.getD (((i:Int)).toNat) AD.z).l.getD (((k:Int)).toNat) In.z).acq ((cs.getD (((i:Int)).toNat) AD.z).l.getD (((k:Int)).toNat) In.z).weak ((cs.getD (((i:Int)).toNat) AD.z).l.getD (((k:Int)).toNat) In.z).rel ((cs.getD (((i:Int)).toNat) AD.z).l.getD (((k:Int)).toNat) In.z).pred ((cs.getD (((i:Int)).toNat) AD.z).l.getD (((k:Int)).toNat) In.z).succ ((cs.getD (((i:Int)).toNat) AD.z).l.getD (((k:Int)).toNat) In.z).to_ ((cs.getD (((i:Int)).toNat) AD.z).l.getD (((k:Int)).toNat) In.z).zero (k:Int) (((cs.getD (((i:Int)).toNat) AD.z).l.length:Nat):Int)) A U fun A=>N9 9 A U U fun A=>FY 52 A U
         (fun h6 A=>N9 12 A U U fun A=>R9 A U h0 U (by unfold kN kO Me;rw [if_neg (α7 h1),if_neg (α7 h1),if_neg (α7 h1)];have hb:=hL.bad h5 h6;have UA:=hK.bad h4 hb;rw [α6]at hb;simp only [hG,UA,hb,δ2,α6];rfl) U)
         (fun h6 A=>N9 8 A U (AE (by(try have hz:=Hg h1);(try have hy:=Cf hs ((i:Int)).toNat);(try have:=hL.le);(try have:=hK.le);(try have:=hJ.le);omega)<|AB) fun A=>⟨k+1,_,(by omega),(hL.nx h5 h6),((A.cut [0,2,3,4,7,8,32,33,34,39,40,41] U).trunc 1 U U U (CL h0 U))⟩))
        (fun h5 A=>N9 8 A U (AE (by(try have hz:=Hg h1);(try have hy:=Cf hs ((i:Int)).toNat);(try have:=hL.le);(try have:=hK.le);(try have:=hJ.le);omega)<|AB) fun A=>⟨i+1,_,(by omega),(hK.nx h4 (hL.good h5)),((A.cut [0,2,3,4,32,33,34] U).trunc 1 U U U (CL h0 U))⟩))
      (fun h4 A=>N9 6 A U U fun A=>I9 [0] AH.ok hI (jE hG (by have hz:=Hg h1;omega)) A U fun A=>N9 6 A U U fun A=>R9 A U h0 U (by unfold kN kO Me;rw [if_neg (α7 h1),if_neg (α7 h1),if_neg (α7 h1)];simp only [hG,hK.good h4];rfl) U)))
structure P2 (p:In→Bool)(l:List In)(m k:Nat):Prop where
 le:k≤l.length
 ml:m≤k
 eq:m+FZ p (l.drop k)=FZ p l
theorem Dw (p:In→Bool)(l:List In):FZ p l≤l.length:=μ4 _ _
section
variable {p:In→Bool}{l:List In}{m k:Nat}
theorem P2.i0:P2 p l 0 0:=⟨β7 _,β8 _,by rw [ζ6,δ1]⟩
theorem P2.at (h1:(k:Int)<((l.length:Nat):Int)):FZ p (l.drop k)=(if p (l.getD ((k:Int)).toNat In.z)=true then 1 else 0)+FZ p (l.drop (k+1)):=by
 have hk:k<l.length:=by omega
 have e:l.getD ((k:Int)).toNat In.z=l[k]:=by rw [α6,α8,β4 hk];rfl
 rw [η1 hk,e]
 unfold FZ
 rw [List.filter_cons]
 split
 ·rw [β0];omega
 ·omega
theorem P2.y (hI:P2 p l m k)(h1:(k:Int)<((l.length:Nat):Int))(h:p (l.getD ((k:Int)).toNat In.z)=true):P2 p l (m+1) (k+1):=⟨by omega,by have:=hI.ml;omega,by rw [←hI.eq,P2.at h1,if_pos h];omega⟩
theorem P2.n (hI:P2 p l m k)(h1:(k:Int)<((l.length:Nat):Int))(h:p (l.getD ((k:Int)).toNat In.z)=false):P2 p l m (k+1):=⟨by omega,by have:=hI.ml;omega,by rw [←hI.eq,P2.at h1,if_neg (by rw [h];decide)];omega⟩
theorem P2.fi (hI:P2 p l m k)(h1:¬(k:Int)<((l.length:Nat):Int)):(m:Int)=((FZ p l:Nat):Int):=by
 have:=hI.eq
 rw [ι4 (by omega)]at this
 have e:FZ p []=0:=rfl
 omega
end
structure Un (cs:List AD)(x y i:Nat):Prop where
 le:i≤cs.length
 x1:x=Ic Ey (cs.take i)
 y1:y=Ic Ez (cs.take i)
theorem RW {cs:List AD}{p:In→Bool}{i:Nat}(h:(i:Int)<((cs.length:Nat):Int)):Ic p (cs.take (i+1))=Ic p (cs.take i)+FZ p (cs.getD ((i:Int)).toNat AD.z).l:=by
 have hi:i<cs.length:=by omega
 have e:cs.getD ((i:Int)).toNat AD.z=cs[i]:=by rw [α6,α8,β4 hi];rfl
 rw [e,List.take_succ_eq_append_getElem hi]
 unfold Ic
 rw [ζ5,List.sum_append]
 rfl
theorem NW {p:In→Bool}:∀(cs:List AD),(∀c∈cs,c.l.length≤1000000)→Ic p cs≤1000000*cs.length
 | [],_=>β8 _
 |c::cs,h=>by
  have h1:=NW (p:=p) cs fun x hx=>h x (κ6 _ hx)
  have h2:=Dw p c.l
  have h3:=h c (ζ4 ..)
  show FZ p c.l+Ic p cs≤_
  rw [β0];omega
theorem Un.i0 {cs:List AD}:Un cs 0 0 0:=⟨β7 _,rfl,rfl⟩
theorem Un.nx {cs:List AD}{x y i:Nat}(h:Un cs x y i)(h1:(i:Int)<((cs.length:Nat):Int)):Un cs (x+FZ Ey (cs.getD ((i:Int)).toNat AD.z).l) (y+FZ Ez (cs.getD ((i:Int)).toNat AD.z).l) (i+1):=⟨by omega,by rw [RW h1,h.x1],by rw [RW h1,h.y1]⟩
theorem Un.fi {cs:List AD}{x y i:Nat}(h:Un cs x y i)(h1:¬(i:Int)<((cs.length:Nat):Int)):x=Ic Ey cs∧y=Ic Ez cs:=by
 have hx:=h.x1;have hy:=h.y1
 rw [ε4 (by omega)]at hx hy
 exact⟨hx,hy⟩
theorem Un.bd {cs:List AD}{x y i:Nat}(h:Un cs x y i)(hs:∀c∈cs,c.l.length≤1000000)(hn:cs.length≤1000000):x≤1000000000000∧y≤1000000000000:=by
 have h1:=NW (p:=Ey) (cs.take i) fun c hc=>hs c (List.mem_of_mem_take hc)
 have h2:=NW (p:=Ez) (cs.take i) fun c hc=>hs c (List.mem_of_mem_take hc)
 have h3:(cs.take i).length≤1000000:=by rw [δ6];omega
 rw [h.x1,h.y1]
 constructor
 ·exact β3 h1 (by omega)
 ·exact β3 h2 (by omega)
theorem RX (l:List In)(ao:ak)(c f:Nat)(p:In→Bool)(hf:∀i:In,Fn Tryz.prog f [.agg (Ce i)] [] (Rt (.bool (p i)) []))(hn:l.length≤1000000):BQ (AP ao 17 l.length (fun zz=>Ce (l.getD zz In.z))) Tryz.prog 166 [.sla ao l.length c,.fn f []] [] (Rt (.int .i64 ((FZ p l:Nat):Int)) []):=
 Aa (n:=21) (by kernel_rfl) Tryz.func166 U U U fun G w a h0 hI A=>N9 19 A U U fun A=>Ok (fun(m:Nat) (k:Nat)=>[(1,.fn f []),(4,.n9 0),(5,.n9 (m:Int)),(8,.sla ao l.length c),(9,.n9 ((l.length:Nat):Int)),(10,.n9 (k:Int))]) (fun(m:Nat) (k:Nat)=>[]) (fun(m:Nat) (k:Nat)=>P2 p l m k) (fun(m:Nat) (k:Nat)=>l.length - k) 0 0 P2.i0 ((A.cut [1,4,5,8,9,10] U).trunc 0 U U U (CL h0 U)) fun m k hJ {G a w} A=>N9 6 A U U fun A=>AU 11 A U
   (fun h1 A=>N9 7 A U U fun A=>JX (ao:=ao) (s:=17) (m:=l.length) (f:=fun zz=>Ce (l.getD zz In.z)) hX 12 8 (hI) (by omega) A U U U U U U (AE (by have:=hJ.le;have:=hJ.ml;omega)<|AB) fun A=>N9 6 A U (AE (by have:=hJ.le;have:=hJ.ml;omega)<|AB) fun A=>N9 3 A U U fun A=>C9 [] (hf (l.getD (((k:Int)).toNat) In.z)) A U fun A=>N9 2 A U U fun A=>fork 16 A U
    (fun h2 A=>N9 8 A U (AE (by have:=hJ.le;have:=hJ.ml;omega)<|AB) fun A=>N9 4 A U (AE (by have:=hJ.le;have:=hJ.ml;omega)<|AB) fun A=>⟨m+1,k+1,_,(by omega),(hJ.y h1 h2),((A.cut [1,4,5,8,9,10] U).trunc 0 U U U (CL h0 U))⟩)
    (fun h2 A=>N9 8 A U (AE (by have:=hJ.le;have:=hJ.ml;omega)<|AB) fun A=>⟨m,k+1,_,(by omega),(hJ.n h1 h2),((A.cut [1,4,5,8,9,10] U).trunc 0 U U U (CL h0 U))⟩))
   (fun h1 A=>N9 10 A U U fun A=>R9 A U h0 U (congrArg (SV.int IntKind.i64) (hJ.fi h1)) U)
theorem kP (i:In):Fn Tryz.prog 161 [.agg (Ce i)] [] (Rt (.bool (Ey i)) []):=Hf i.op i.dst i.ra i.rb i.imm i.loc i.off i.ix i.sz i.fn i.acq i.weak i.rel i.pred i.succ i.to_ i.zero
theorem kQ (i:In):Fn Tryz.prog 122 [.agg (Ce i)] [] (Rt (.bool (Ez i)) []):=Md i.op i.dst i.ra i.rb i.imm i.loc i.off i.ix i.sz i.fn i.acq i.weak i.rel i.pred i.succ i.to_ i.zero
theorem kR (l:List In)(ao:ak)(c:Nat)(hn:l.length≤1000000):BQ (AP ao 17 l.length (fun zz=>Ce (l.getD zz In.z))) Tryz.prog 123 [.sla ao l.length c] [] (Rt (.int .i64 ((FZ Ey l:Nat):Int)) []):=
 Aa (n:=5) (by kernel_rfl) Tryz.func123 U U U fun G w a h0 hI A=>N9 8 A U U fun A=>I9 [] AP.ok hI (RX l ao c 161 Ey kP hn) A U fun A=>N9 4 A U U fun A=>R9 A U h0 U U U
theorem kS (l:List In)(ao:ak)(c:Nat)(hn:l.length≤1000000):BQ (AP ao 17 l.length (fun zz=>Ce (l.getD zz In.z))) Tryz.prog 124 [.sla ao l.length c] [] (Rt (.int .i64 ((FZ Ez l:Nat):Int)) []):=
 Aa (n:=5) (by kernel_rfl) Tryz.func124 U U U fun G w a h0 hI A=>N9 8 A U U fun A=>I9 [] AP.ok hI (RX l ao c 122 Ez kQ hn) A U fun A=>N9 4 A U U fun A=>R9 A U h0 U U U
theorem Xw (cs:List AD)(cx:Nat)(hs:∀c∈cs,c.l.length≤1000000)(hn:cs.length≤1000000):BQ (AH cs) Tryz.prog 83 [.sl 0 cs.length cx] [an cs] (Rt (.int .i64 (Ie cs)) [an cs]):=
 Aa (n:=26) (by kernel_rfl) Tryz.func83 U U U fun G w a h0 hI A=>N9 20 A U U fun A=>kG (fun(x:Nat) (y:Nat) (i:Nat)=>[(2,.n9 0),(3,.n9 (x:Int)),(4,.n9 (y:Int)),(7,.sl 0 cs.length cx),(8,.n9 ((cs.length:Nat):Int)),(9,.n9 (i:Int))]) (fun(x:Nat) (y:Nat) (i:Nat)=>[an cs]) (fun(x:Nat) (y:Nat) (i:Nat)=>Un cs x y i) (fun(x:Nat) (y:Nat) (i:Nat)=>cs.length - i) 0 0 0 Un.i0 ((A.cut [2,3,4,7,8,9] U).trunc 1 U U U (CL h0 U)) fun x y i hJ {G a w} A=>N9 6 A U U fun A=>AU 10 A U
   (fun h1 A=>N9 13 A U (AE (by have hb:=hJ.bd hs hn;have h7:=Cf hs ((i:Int)).toNat;have h8:=Dw Ey (cs.getD ((i:Int)).toNat AD.z).l;have h9:=Dw Ez (cs.getD ((i:Int)).toNat AD.z).l;have:=hJ.le;omega)<|AE (by have hb:=hJ.bd hs hn;have h7:=Cf hs ((i:Int)).toNat;have h8:=Dw Ey (cs.getD ((i:Int)).toNat AD.z).l;have h9:=Dw Ez (cs.getD ((i:Int)).toNat AD.z).l;have:=hJ.le;omega)<|AB) fun A=>N9 3 A U U fun A=>I9 [] AP.ok (hI.at (by omega)) (kR (cs.getD (((i:Int)).toNat) AD.z).l (cs.getD (((i:Int)).toNat) AD.z).ao (cs.getD (((i:Int)).toNat) AD.z).cp (Cf hs _)) A U fun A=>N9 4 A U (AE (by have hb:=hJ.bd hs hn;have h7:=Cf hs ((i:Int)).toNat;have h8:=Dw Ey (cs.getD ((i:Int)).toNat AD.z).l;have h9:=Dw Ez (cs.getD ((i:Int)).toNat AD.z).l;have:=hJ.le;omega)<|AB) fun A=>N9 3 A U U fun A=>I9 [] AP.ok (hI.at (by omega)) (kS (cs.getD (((i:Int)).toNat) AD.z).l (cs.getD (((i:Int)).toNat) AD.z).ao (cs.getD (((i:Int)).toNat) AD.z).cp (Cf hs _)) A U fun A=>N9 5 A U (AE (by have hb:=hJ.bd hs hn;have h7:=Cf hs ((i:Int)).toNat;have h8:=Dw Ey (cs.getD ((i:Int)).toNat AD.z).l;have h9:=Dw Ez (cs.getD ((i:Int)).toNat AD.z).l;have:=hJ.le;omega)<|AB) fun A=>N9 4 A U (AE (by have hb:=hJ.bd hs hn;have h7:=Cf hs ((i:Int)).toNat;have h8:=Dw Ey (cs.getD ((i:Int)).toNat AD.z).l;have h9:=Dw Ez (cs.getD ((i:Int)).toNat AD.z).l;have:=hJ.le;omega)<|AB) fun A=>⟨x+FZ Ey (cs.getD ((i:Int)).toNat AD.z).l,y+FZ Ez (cs.getD ((i:Int)).toNat AD.z).l,i+1,_,(by omega),(hJ.nx h1),((A.cut [2,3,4,7,8,9] U).trunc 1 U U U (CL h0 U)).sayT (by rfl)⟩)
   (fun h1 A=>N9 10 A U U fun A=>AU 23 A U
    (fun h2 A=>N9 7 A U U fun A=>R9 A U h0 U (by have hf:=hJ.fi h1;unfold Ie;rw [←hf.1,←hf.2];rw [if_pos h2];rfl) U)
    (fun h2 A=>N9 10 A U U fun A=>AU 25 A U
     (fun h3 A=>N9 7 A U U fun A=>R9 A U h0 U (by have hf:=hJ.fi h1;unfold Ie;rw [←hf.1,←hf.2];rw [if_neg h2];rw [if_pos h3];rfl) U)
     (fun h3 A=>N9 9 A U U fun A=>R9 A U h0 U (by have hf:=hJ.fi h1;unfold Ie;rw [←hf.1,←hf.2];rw [if_neg h2];rw [if_neg h3];rfl) U)))
end
section
open Go.RowKit
def Uo (P:Program)(t:TypeId):Bool:=match P.underlying t with|some (.interface _)=>false|some _=>true|none=>false
section
variable {P:Program}{ops:ah}{a:Act}{w:World}{K:Value→World→Prop}{d:Option Tmp}{ty:TypeId}{pos:String}{af:Array Edge}{gd:Option (Nat×Bool)}{v:Value}
theorem Xx {x:Operand} {t:Nat} {v:Value} (hw:Region.wanted {dst:=d,op:=.makeInterface t x,type:=ty,pos:=pos,after:=af,guard:=gd} (yielded ops a.tmps)=true) (hx:a.eval x=v) (ht:Uo P t=true)
  (h:K (.iface t v) w):BY P ops {dst:=d,op:=.makeInterface t x,type:=ty,pos:=pos,after:=af,guard:=gd} a w K:=
 Ad hw (by
  unfold execOp
  simp only [hx,γ4]
  unfold Uo at ht
  cases hd:P.underlying t with
  |none=>simp [hd]at ht
  |some u=>cases u<;>first|(simp [hd]at ht;done)|simp [Instr.makeInterface,ε2 hd]) h
end
section
variable {P:Program}{w:World}{t:TypeId}{x y:Operand}{k:IntKind}{a b:Int}
theorem Xy {c:Value}(ht:P.underlying t=some (.interface (P.methodsAt t))):(eqGuard .neq t x (.const c) .nilIface .nilIface).run P w=.ok () w∧(binOp .neq t .nilIface .nilIface).run P w=.ok (.bool false) w:=
 ⟨by rw [eqGuard_nil_constR];rfl,run_neq_nil_nil w t ht⟩
theorem Xz {tt:TypeId}{v:Value}(ht:P.underlying t=some (.interface (P.methodsAt t))):(eqGuard .neq t x y (.iface tt v) .nilIface).run P w=.ok () w∧(binOp .neq t (.iface tt v) .nilIface).run P w=.ok (.bool true) w:=
 ⟨rfl,run_neq_held_nil w t tt v ht⟩
end
theorem K6 {n:Int}(h1:0≤n)(h2:n≤255):IntKind.wrap .u8 n=n:=by simp only [IntKind.wrap,IntKind.signed,IntKind.bits];simp;omega
theorem wrap64 {n:Int}(h1:0≤n)(h2:n≤18446744073709551615):IntKind.wrap .u64 n=n:=by simp only [IntKind.wrap,IntKind.signed,IntKind.bits];simp;omega
end
section
open Go.RowKit
section
variable {P:Program}{n:Nat}{ks:ae}{G0:Gr}{w0:World}{T:List (Nat×SV)}{H:Hp}{G:Gr}{w:World}{ops:ah}{o:Oper}
theorem L6 {x:Operand}{t:Nat}{y:SV}{v:Value}(hg:Av ops T o.guard=some .run)(BM:o.op=.makeInterface t x)(hx:DA T x=some y)(hy:den [] y=some v)(ht:Uo P t=true):BG P n ops ks G0 w0 T H o (.v (.iface t v)) H:=fun G a w A=>by
 have hw:=A7 (gd:=none) A hg
 obtain⟨d,op,ty,ps,af,gd⟩:=o
 simp only at BM
 subst BM
 have h1:=A.ev hx
 have h2:den G y=some v:=by simpa using Ax G y hy
 rw [h2]at h1
 exact Xx hw (β6 h1).symm ht ⟨[],rfl,by rw [ε0];exact A.ms⟩
theorem RY {x y:Operand}{t t2 tt:Nat}{v:Value}(hg:Av ops T o.guard=some .run)(BM:o.op=.binOp .neq t x y t2)(hx:DA T x=some (.v (.iface tt v)))(hy:DA T y=some (.v .nilIface))(ht:P.underlying t=some (.interface (P.methodsAt t))):BG P n ops ks G0 w0 T H o .tt H:=fun G a w A=>by
 have hw:=A7 (gd:=none) A hg
 obtain⟨d,op,ty,ps,af,gd⟩:=o
 simp only at BM
 subst BM
 have h1:=A.ev hx
 have h2:=A.ev hy
 simp only [den,β1]at h1 h2
 exact MR hw h1.symm h2.symm (Xz ht) ⟨[],rfl,by rw [ε0];exact A.ms⟩
theorem NX {x:Operand}{c:Value}{t t2:Nat}(hg:Av ops T o.guard=some .run)(BM:o.op=.binOp .neq t x (.const c) t2)(hx:DA T x=some (.v .nilIface))(hy:DA T (.const c)=some (.v .nilIface))(ht:P.underlying t=some (.interface (P.methodsAt t))):BG P n ops ks G0 w0 T H o .ff H:=fun G a w A=>by
 have hw:=A7 (gd:=none) A hg
 obtain⟨d,op,ty,ps,af,gd⟩:=o
 simp only at BM
 subst BM
 have h1:=A.ev hx
 have h2:=A.ev hy
 simp only [den,β1]at h1 h2
 exact MR hw h1.symm h2.symm (Xy ht) ⟨[],rfl,by rw [ε0];exact A.ms⟩
theorem Ms.addLst (h:Ms H ks G0 w0 G w)(p:Option Loc)(e:BZ)(he:e.mut=false)(CJ:Ag (G++[p]) w p e)(Cy:∀(i:Nat) (e':BZ) (L' L:Loc),H[i]?=some (some e')→e'.mut=true→G[i]?=some (some L')→p=some L→L'.b≠L.b):Ms (H++[some e]) ks G0 w0 (G++[p]) w:=by
 have hlen:=h.mem.len
 have hold:∀(i:Nat) (e':BZ),(H++[some e])[i]?=some (some e')→(H[i]?=some (some e')∧i<H.length)∨(i=H.length∧e'=e):=by
  intro i e' hh
  by_cases hi:i<H.length
  ·rw [α2 hi]at hh;exact .inl ⟨hh,hi⟩
  ·rw [α1 (by omega)]at hh
   have:i - H.length=0:=by
    cases hq:i - H.length with
    |zero=>rfl
    |succ k=>rw [hq]at hh;simp at hh
   rw [this]at hh
   simp at hh
   exact .inr ⟨by omega,hh.symm⟩
 have hG:(G++[p])[H.length]?=some p:=by rw [α1 (by omega),hlen];simp
 have J7:∀i,i<H.length→(G++[p])[i]?=G[i]?:=fun i hi=>α2 (by omega)
 refine⟨⟨by simp [hlen],?_,?_⟩,?_,?_,h.mix⟩
 ·intro i e' hh
  rcases hold i e' hh with⟨h1,h2⟩|⟨rfl,rfl⟩
  ·rw [J7 i h2];exact(h.mem.ent i e' h1).more _
  ·rw [hG];exact CJ
 ·intro i j e1 f L M Ge h1 h2 h3 h4 h5 h6
  rcases hold i e1 h1 with⟨k1,k2⟩|⟨rfl,rfl⟩
  ·rw [J7 i k2]at h4
   rcases hold j f h2 with⟨k3,k4⟩|⟨rfl,rfl⟩
   ·rw [J7 j k4]at h5;exact h.mem.sep i j e1 f L M Ge k1 k3 h3 h4 h5 h6
   ·rw [hG]at h5;cases h5;exact Cy i e1 L M k1 h3 h4 U
  ·rw [he]at h3;cases h3
 ·obtain⟨F,hF⟩:=h.pre;exact⟨F++[p],by rw [hF,γ2]⟩
 ·intro i e1 L h1 h2 h3
  rcases hold i e1 h1 with⟨k1,k2⟩|⟨rfl,rfl⟩
  ·rw [J7 i k2]at h3;exact h.own i e1 L k1 h2 h3
  ·rw [he]at h2;cases h2
abbrev zF (l:ag):BZ:=.lst 1 l.length fun k=>[.int .u8 (((l.getD k 0).toNat:Nat):Int)]
theorem Up {x:Operand}{s t e i:Nat}{l:ag}(hg:Av ops T o.guard=some .run)(BM:o.op=.convert s t x)(hx:DA T x=some (.str l))(hs:P.underlying s=some .string)(ht:P.underlying t=some (.slice e))(he:P.underlying e=some (.int .u8))(hi:H.length=i):BG P n ops ks G0 w0 T H o (.sl i l.length 0) (H++[some (zF l)]):=fun G a w A=>by
 have hw:=A7 (gd:=none) A hg
 obtain⟨d,op,ty,ps,af,gd⟩:=o
 simp only at BM
 subst BM
 subst hi
 have h1:=A.ev hx
 simp only [den,β1]at h1
 have T9:By w (Lib.bytesWorld w e (S l)):=⟨rfl,rfl,rfl,by rw [Lib.bytesWorld_size];omega,fun k hk=>Lib.bytesWorld_at_old w e (S l) k hk⟩
 refine Ad (w':=Lib.bytesWorld w e (S l)) (v:=.slice (some ⟨w.heap.size,0,none⟩) (S l).size (grownCap w (S l).size 0 e)) hw ?_ ⟨[some ⟨w.heap.size,[],List.replicate (grownCap w (S l).size 0 e) undef,0⟩],?_,?_⟩
 ·unfold execOp
  simp only [h1.symm,γ4,Lib.run_convert_string_bytes w s t e (S l) hs ht he,γ6,α9]
 ·unfold den
  rw [α1 (by rw [A.mem.len];exact β8 _),A.mem.len]
  simp [rm,DT]
 ·refine(A.ms.grow T9).addLst _ _ U ⟨fun k=>⟨_,rfl⟩,.inr ⟨_,rfl,by rw [Lib.bytesWorld_size];exact Nat.lt_succ_self _,fun k hk=>⟨_,rfl,fun j z hz=>?_⟩⟩⟩ fun j e' L' L h2 h3 h4 h5=>?_
  ·have hj:j=0:=by
    cases j with
    |zero=>rfl
    |succ j=>simp at hz
   subst hj
   have h2:=Lib.bytesWorld_cell w e (S l) k (by rw [DT];exact hk)
   rw [FG]at h2
   simp at hz
   subst hz
   simpa [List.getD,hk]using h2
  ·cases h5
   have:=A.mem.ent j e' h2
   rw [h4]at this
   have:=Ag.lt this (BI h3)
   simp only;omega
theorem AG {a:Act}(A:Sy n T H ks G0 w0 G a w)(t:Nat)(y:SV){x:SV}(h:look T t=some x)(e:∀G,den G x=den G y):Sy n ((t,y)::T) H ks G0 w0 G a w:=
 ⟨A.size,A.defers,fun s z hz=>by
  simp only [look]at hz
  cases hc:Nat.beq t s with
  |true=>rw [hc]at hz;cases hz;have:=α5 hc;subst this;rw [←e];exact A.get t _ h
  |false=>rw [hc]at hz;exact A.get s z hz,A.mem,A.pre,A.own,A.mix⟩
theorem kT {α:Type}{R:Prop}(o:Option α)(h1:o=none→R)(h2:∀x,o=some x→R):R:=by
 cases h:o with
 |none=>exact h1 h
 |some x=>exact h2 x h
end
def i6 (I:Dl)(P:Program)(f:Nat)(args:List SV)(J:SV→Prop):Prop:=
 HT P f=some (false,false)∧∀w ks vs,AO [] args=some vs→I w ks→Calls P f vs.toArray w fun e w'=>∃x v,J x∧den [] x=some v∧e=.returned v∧By w w'
section
variable {P:Program}{n:Nat}{ks:ae}{G0:Gr}{w0:World}{T:List (Nat×SV)}{H:Hp}{G:Gr}{a:Act}{w:World}{Q:ab}{K:List Fr}{ops:ah}{o:Oper}{rest:ai}{I:Dl}
theorem kU {f:Nat} {az:List SV} {vs:aj} {J:SV→Prop} (CJ:I.OK) (h0:I w0 ks) (hf:i6 I P f az J) (A:Sy n T H ks G0 w0 G a w) (h1:Bi n ops T o=some (f,az)) (h2:AO [] az=some vs)
  (hk:∀x,J x→∀{a' w'},Sy n (BN T o.dst x) H ks G0 w0 G a' w'→Goal P Q K (.ops ops rest) a' w'):Goal P Q K (.ops ops (o::rest)) a w:=by
 obtain⟨hd,us,hu,Lp⟩:=DO (P:=P) (ops:=ops) A h1 hf.1
 have h3:AO G az=some vs:=by simpa using A6 G az h2
 rw [h3]at hu
 cases hu
 refine DN (Q:=He P Q K) (Lp (hf.2 w ks vs h2 (CJ _ _ _ _ h0 A.mix fun b hb=>.inl hb)) fun e w' he=>?_)
 obtain⟨x,v,hJ,e1,rfl,hg⟩:=he
 exact⟨v,rfl,hk x hJ (Sy.put ⟨A.size,A.defers,A.get,⟨A.mem.len,fun i e hi=>(A.mem.ent i e hi).mix hg.mix (fun _ _ _=>rfl),A.mem.sep⟩,A.pre,A.own,A.mix.grow hg⟩ hd (by simpa using Ax G x e1))⟩
theorem Uq (CJ:I.OK) {f:Nat} {fn:Func} {c:Code} {args:List SV} {J:SV→Prop} (CG:HT P f=some (false,false)) (hf:P.funcs[f]?=some fn) (hb:fn.body=some c) (hn:fn.ntmps=n) (hl:Nat.ble args.length n=true)
  (h:∀w a,I w []→Sy n (OZ args 0) [] [] [] w [] a w→Goal P (bodyPost P fn fun e w'=>∃x v,J x∧den [] x=some v∧e=.returned v∧By w w') [] (.code c) a w):i6 I P f args J:=by
 refine⟨CG,fun w ks vs hv hI=>?_⟩
 refine π8 hf hb (h w _ ?_ ⟨?_,rfl,fun t x hx=>?_,⟨rfl,fun i e he=>by simp at he,fun i j e f L M _ he=>by simp at he⟩,⟨[],by simp⟩,fun i e L h1=>by simp at h1,CQ.refl _ _⟩)
 ·exact CJ _ _ _ _ hI (CQ.refl ks w) fun b hb=>by simp at hb
 ·have:=BF hv
  have:=δ8 hl
  simp [hn];omega
 ·obtain⟨_,h2⟩:=EX hx
  simp only [ξ7]at h2
  obtain⟨v,h3,h4⟩:=C0 hv h2
  have BU:t<vs.length:=(α0.1 h3).1
  rw [h4]
  simp [β5,κ1,BU]at h3⊢
  exact h3.symm
theorem kV {Y:Tb}{fn:Func}{J:SV→Prop}(hX:Y.ok P=true){y:SV}{r:List SV}{rv:List ResultVar}{v':Value}(A:Sy n T H [] [] w0 G a w)(hr:fn.results.toList=rv)(hv:KB ⟨Y,false⟩ T H rv=some r)(hy:Am r=y)(hc:den [] y=some v')(hJ:J y):bodyPost P fn (fun e w'=>∃x v,J x∧den [] x=some v∧e=.returned v∧By w0 w') .ret a w:=by
 obtain⟨v,h1,h2⟩:=IT (X:=⟨Y,false⟩) (fn:=fn) hX A hr hv hy
 have h3:den G y=some v':=by simpa using Ax G y hc
 rw [h3]at h1
 cases h1
 have hm:=A.mix
 exact⟨A.defers,v',h2,y,v',hJ,hc,rfl,⟨hm.os,hm.tape,hm.output,hm.size,fun k Dz=>hm.block k Dz (by simp)⟩⟩
theorem RZ (mk:Nat→SV) {f:Nat} {az:List SV} {vs:aj} (CJ:I.OK) (h0:I w0 ks) (hf:i6 I P f az (fun x=>∃N,x=mk N)) (A:Sy n T H ks G0 w0 G a w) (h1:Bi n ops T o=some (f,az)) (h2:AO [] az=some vs)
  (hk:∀N,∀{a' w'},Sy n (BN T o.dst (mk N)) H ks G0 w0 G a' w'→Goal P Q K (.ops ops rest) a' w'):Goal P Q K (.ops ops (o::rest)) a w:=
 kU CJ h0 hf A h1 h2 fun x hx=>by obtain⟨N,rfl⟩:=hx;exact hk N
end
theorem Ur (n:Nat):CD (fun _=>[.str []]) n=some (List.replicate n (.string (S []))):=by
 induction n with
 |zero=>rfl
 |succ n ih=>
  unfold CD
  rw [ih]
  show some (List.replicate n (Value.string (S []))++[Value.string (S [])])=_
  rw [List.replicate_succ',]
section
variable {P:Program}{n:Nat}{ks:ae}{G0:Gr}{w0:World}{T:List (Nat×SV)}{H:Hp}{ops:ah}{o:Oper}
theorem zG {x y:Operand}{t e m i:Nat}{ti:TypeInfo}(hg:Av ops T o.guard=some .run)(BM:o.op=.makeSlice t x y)(hx:DA T x=some (.int .i64 ((m:Nat):Int)))(hy:DA T y=some (.int .i64 ((m:Nat):Int)))(ht:P.underlying t=some (.slice e))(Fm:P.info? e=some ti)(hz:ti.zero=some (.string (S [])))(hs:ti.size=1)(hb:ti.bytes≤1000)(hm:m≤1000000)(hi:H.length=i):BG P n ops ks G0 w0 T H o (.sl i m m) (H++[some (.row e 1 m m fun _=>[.str []])]):=fun G a w A=>by
 have hw:=A7 (gd:=none) A hg
 obtain⟨d,op,ty,ps,af,gd⟩:=o
 simp only at BM
 subst BM
 subst hi
 have h1:=A.ev hx
 have h2:=A.ev hy
 simp only [den,β1]at h1 h2
 have hmul:ti.bytes*m≤1000*1000000:=μ2 hb hm
 obtain⟨w',hr,ho,pV⟩:=run_makeSlice_full (P:=P) w 0 t e ti _ 1 ht Fm hz hs .i64 .i64 m (by omega) (by omega) (by unfold maxLen;omega) (β7 _)
 have T9:By w w':=⟨pV.os,pV.tape,pV.output,pV.size,fun k hk=>pV.block k hk (by simp)⟩
 refine Ad (v:=.slice (some ⟨w.heap.size,0,none⟩) m m) (w':=w') hw ?_ ⟨[some ⟨w.heap.size,[],[],e⟩],?_,?_⟩
 ·unfold execOp
  simp only [h1.symm,h2.symm,γ4,hr,γ6,α9]
 ·unfold den
  rw [α1 (by rw [A.mem.len];exact β8 _),A.mem.len]
  simp [rm]
 ·refine(A.newBlk (g:=w.heap.size) (t:=e) (en:=.row e 1 m m fun _=>[.str []]) U T9 ⟨fun k=>⟨_,rfl,rfl⟩,fun L hL=>by cases hL;rfl,_,Ur m,?_⟩ U).ms
  have hc:(madeCells (Value.cells (.string (S []))) (m*1)).toList=List.replicate m (.string (S [])):=by
   unfold madeCells
   apply τ6
   ·simp
   ·intro k h1 h2
    simp [Value.cells,Nat.mod_one]
  rw [hc]at ho
  simpa [rm]using ho
theorem kW {x y:Operand}{t e m i:Nat}(f:Nat→List SV)(hf:∀j,f j=[.str []])(hg:Av ops T o.guard=some .run)(BM:o.op=.makeSlice t x y)(hx:DA T x=some (.int .i64 ((m:Nat):Int)))(hy:DA T y=some (.int .i64 ((m:Nat):Int)))(ht:P.underlying t=some (.slice e))(GX:∃ti,P.info? e=some ti∧ti.zero=some (.string (S []))∧ti.size=1∧ti.bytes≤1000)(hm:m≤1000000)(hi:H.length=i):BG P n ops ks G0 w0 T H o (.sl i m m) (H++[some (.row e 1 m m f)]):=by
 have:f=fun _=>[.str []]:=funext hf
 subst this
 obtain⟨ti,Fm,hz,hs,hb⟩:=GX
 exact zG hg BM hx hy ht Fm hz hs hb hm hi
end
def Acc (lo:Nat)(l:List (Nat×List SV))(w:World)(ks:ae):Prop:=∀p∈l,lo≤p.1∧∃vs,AO [] p.2=some vs∧K2 p.1 0 vs w ks
theorem Acc.nil {lo:Nat}{w:World}{ks:ae}:Acc lo [] w ks:=fun p hp=>by cases hp
theorem Acc.go {lo:Nat}{l:List (Nat×List SV)}{w w':World}{ks ks':ae}(h:Acc lo l w ks)(m:CQ ks w w')(hk:∀b,ks'.contains b=true→ks.contains b=true∨w.heap.size≤b):Acc lo l w' ks':=fun p hp=>by
 obtain⟨h1,vs,h2,h3⟩:=h p hp
 exact⟨h1,vs,h2,h3.go m hk⟩
theorem Acc.bare {lo:Nat}{l:List (Nat×List SV)}{w:World}{ks:ae}(h:Acc lo l w ks):Acc lo l w []:=fun p hp=>by
 obtain⟨h1,vs,h2,h3,h4,h5⟩:=h p hp
 exact⟨h1,vs,h2,h3,rfl,h5⟩
section
variable {P:Program}{X:Tx}{n:Nat}{ks:ae}{G0:Gr}{w0:World}{T:List (Nat×SV)}{H:Hp}{G:Gr}{a:Act}{w w':World}{ops:ah}{o:Oper}{rest:ai}{Q:ab}{K:List Fr}
theorem Acc.now {lo:Nat}{l:List (Nat×List SV)}(h:Acc lo l w0 ks)(A:Sy n T H ks G0 w0 G a w):Acc lo l w (keys H G):=h.go A.mix A.keys_own
theorem zH {t m:Nat} (cs:List SV) {vs:aj} (hX:X.ok P=true) (A:Sy n T H ks G0 w0 G a w) (h:US X T H none o.op=some (.new t (.blk cs) (.sl H.length m m))) (hc:AO [] cs=some vs) (hg:Av ops T o.guard=some .run) (hd:DF n o.dst=true)
  (k:∀{a w} b,w0.heap.size≤b→Sy n (BN T o.dst (.sla (some ⟨b,0,none⟩) m m)) H ks G0 w0 G a w→K2 b 0 vs w (keys H G)→Goal P Q K (.ops ops rest) a w):Goal P Q K (.ops ops (o::rest)) a w:=by
 refine DN (Q:=He P Q K) ?_
 refine KQ hX A h (A7 (gd:=none) A hg) fun g w' v hg' T9 SO aI hv=>?_
 have PQ:(G++[some (⟨g,[],[],t⟩:Loc)])[H.length]?=some (some ⟨g,[],[],t⟩):=by rw [α1 (by rw [A.mem.len];exact β8 _),A.mem.len];simp
 have Qp:v=.slice (some ⟨g,0,none⟩) m m:=by
  unfold den at hv
  rw [PQ]at hv
  simp [rm]at hv
  exact hv.symm
 subst Qp
 obtain⟨L,us,e1,e2,e3⟩:=SO.range
 cases e1
 have h4:AO G cs=some vs:=by simpa using A6 G cs hc
 rw [h4]at e2
 cases e2
 have BU:g<w'.heap.size:=Ag.lt SO (BI aI)
 refine k g (by rw [hg'];exact A.mix.size) (Sy.put (A.grew T9) hd (by rfl)) ⟨BU,?_,e3⟩
 cases hc:(keys H G).contains g with
 |false=>rfl
 |true=>
  obtain⟨i,e',M,q1,q2,q3,q4⟩:=mem_keys.1 hc
  have:=A.mem.ent i e' q1
  rw [q3]at this
  have:=Ag.lt this (BI q2)
  omega
theorem L7 {I:Dl} {nB:Nat} {TB:List (Nat×SV)} {HB:Hp} {ks00:ae} {G00:Gr} {w00:World} {aB:Act} {l:List (Nat×List SV)} {t m:Nat} (cs:List SV) {vs:aj} (hX:X.ok P=true) (CJ:I.OK) (B:Sy nB TB HB ks00 G00 w00 G0 aB w0) (hA:Acc w00.heap.size l w0 (keys HB G0)) (hI:I w0 (keys HB G0)) (A:Sy n T H (keys HB G0) G0 w0 G a w)
  (h:US X T H none o.op=some (.new t (.blk cs) (.sl H.length m m))) (hc:AO [] cs=some vs) (hg:Av ops T o.guard=some .run) (hd:DF n o.dst=true)
  (k:∀{G a w} b,Sy n (BN T o.dst (.sla (some ⟨b,0,none⟩) m m)) H ks00 G00 w00 G a w→Acc w00.heap.size ((b,cs)::l) w (keys H G)→I w (keys H G)→Sy n (BN T o.dst (.sla (some ⟨b,0,none⟩) m m)) H (keys H G) G w G a w→Goal P Q K (.ops ops rest) a w):Goal P Q K (.ops ops (o::rest)) a w:=by
 refine zH cs hX A h hc hg hd fun b hb A' hL=>?_
 refine k b (B.trans A') (fun p hp=>?_) (CJ _ _ _ _ hI A'.mix A'.keys_own) A'.base
 rcases η5.1 hp with rfl|hp
 ·exact⟨β3 B.mix.size hb,vs,hc,hL⟩
 ·exact(hA.now A') p hp
theorem Dm {nB:Nat} {TB:List (Nat×SV)} {HB:Hp} {ks00:ae} {G00:Gr} {w00:World} {aB:Act} {l:List (Nat×List SV)} {t m:Nat} (cs:List SV) {vs:aj} (hX:X.ok P=true) (B:Sy nB TB HB ks00 G00 w00 G0 aB w0) (hA:Acc w00.heap.size l w0 (keys HB G0)) (A:Sy n T H (keys HB G0) G0 w0 G a w)
  (h:US X T H none o.op=some (.new t (.blk cs) (.sl H.length m m))) (hc:AO [] cs=some vs) (hg:Av ops T o.guard=some .run) (hd:DF n o.dst=true)
  (k:∀{G a w} b,Sy n (BN T o.dst (.sla (some ⟨b,0,none⟩) m m)) H ks00 G00 w00 G a w→Acc w00.heap.size ((b,cs)::l) w (keys H G)→Sy n (BN T o.dst (.sla (some ⟨b,0,none⟩) m m)) H (keys H G) G w G a w→Goal P Q K (.ops ops rest) a w):Goal P Q K (.ops ops (o::rest)) a w:=
 L7 (I:=fun _ _=>True) cs hX (fun _ _ _ _ _ _ _=>trivial) B hA trivial A h hc hg hd fun b A h _ B=>k b A h B
end
end
end Go.Proofs.YtbbdanhpphlbpaaGreatDoor
