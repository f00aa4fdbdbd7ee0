/- ScTwins, part 2: the engine, contracts, theory. -/
import Derived.Test.YtbbdanhpphlbpaaGreatDoorScTwinsP1
import Derived.Test.YtbbdanhpphlbpaaGreatDoorProg
import Derived.Lib.SliceRun
import Derived.Test.YtbbdanhpphlbpaaGreatDoorChecked
import Derived.Lib.ConvBytes
import Derived.WideLaws
import Derived.Laws.AppendOwn
import Derived.Laws.OwnMore
set_option linter.unusedVariables false
set_option linter.unusedSimpArgs false
set_option linter.unusedSectionVars false
set_option maxRecDepth 100000
set_option maxHeartbeats 2000000
namespace Go.Proofs.YtbbdanhpphlbpaaGreatDoor
open Go.RowKit
structure Ms (H:Hp)(ks:List Nat)(G0:Gr)(w0:World)(G:Gr)(w:World):Prop where
 mem:Mem H G w
 pre:∃F,G=G0++F
 own:∀(i:Nat) (e:Bo) (L:Loc),H[i]?=some (some e)→e.mut=true→G[i]?=some (some L)→ks.contains L.b=true∨w0.heap.size≤L.b
 mix:DO ks w0 w
section
variable {n:Nat}{T:List (Nat×SV)}{H:Hp}{ks:List Nat}{G0:Gr}{w0:World}{G:Gr}{a:Act}{w w':World}
theorem Sy.ms (A:Sy n T H ks G0 w0 G a w):Ms H ks G0 w0 G w:=⟨A.mem,A.pre,A.own,A.mix⟩
theorem Ms.sy (h:Ms H ks G0 w0 G w)(h1:a.tmps.size=n)(h2:a.defers=[])(h3:∀t x,look T t=some x→den G x=some (a.tmps.getD t undef)):Sy n T H ks G0 w0 G a w:=⟨h1,h2,h3,h.mem,h.pre,h.own,h.mix⟩
theorem Ms.grow (h:Ms H ks G0 w0 G w)(hg:CI w w'):Ms H ks G0 w0 G w':=
 ⟨⟨h.mem.len,fun i e hi=>(h.mem.ent i e hi).mix hg.mix (fun _ _ _=>rfl),h.mem.sep⟩,h.pre,h.own,h.mix.grow hg⟩
end
def k7 (o:Oper)(j:Nat):Nat→Bool
 |0=>true
 |i+1=>(Nat.beq i j||waits o i)&&k7 o j i
theorem Mu {o:Oper}{j:Nat}:∀{c:Nat},k7 o j c=true→∀i,i<c→i≠j→waits o i=true
 |0,_,_,h,_=>by omega
 | c+1,hb,i,h,Ch=>by
  simp only [k7,α3,β9]at hb
  by_cases hi:i=c
  ·subst hi
   rcases hb.1 with h1|h1
   ·exact absurd (α9 h1) Ch
   ·exact h1
  ·exact Mu hb.2 i (by omega) Ch
def Lu (t c:Nat):List Oper→Nat→Bool
 | [],_=>true
 |o::l,j=>(match o.dst with|some d=> !Nat.beq d t||k7 o j c|none=>true)&&Lu t c l (j+1)
theorem Hs {t c:Nat}:∀{l:List Oper} {j:Nat},Lu t c l j=true→∀(i:Nat) (o:Oper),l[i]?=some o→o.dst=some t→k7 o (j+i) c=true
 | [],_,_,_,_,h,_=>by cases h
 | p::l,j,hb,i,o,h,hd=>by
  simp only [Lu,α3]at hb
  cases i with
  |zero=>
   cases h
   have:=hb.1
   rw [hd]at this
   simpa using this
  |succ i=>rw [show j+(i+1)=j+1+i by omega];exact Hs hb.2 i o h hd
def Dt (l:List Oper):List (Nat×SV)→List (Nat×SV)
 | []=>[]
 |(t,x)::T=>bif Lu t l.length l 0 then(t,x)::Dt l T else Dt l T
theorem EG {l:List Oper}:∀{T:List (Nat×SV)} {t:Nat} {x:SV},look (Dt l T) t=some x→look T t=some x∧Lu t l.length l 0=true
 | [],_,_,h=>by cases h
 | (k,y)::T,t,x,h=>by
  unfold Dt at h
  cases hb:Lu k l.length l 0 with
  | false=>
   rw [hb]at h
   obtain⟨h1,h2⟩:=EG h
   refine⟨?_,h2⟩
   unfold look
   cases hk:Nat.beq k t with
   |false=>exact h1
   |true=>
    exfalso
    have:=α9 hk
    subst this
    rw [hb]at h2;cases h2
  | true=>
   rw [hb]at h
   simp only [θ3]at h
   unfold look at h⊢
   cases hk:Nat.beq k t with
   |true=>
    rw [hk]at h
    have:=α9 hk
    subst this
    exact⟨h,hb⟩
   |false=>rw [hk]at h;exact EG h
def Kd (o:Oper):List Oper→List SV→Nat→List (Nat×SV)→List (Nat×SV)
 |p::l,x::xs,k,T=>bif waits o k then Bh (Kd o l xs (k+1) T) p.dst x else Kd o l xs (k+1) T
 |_,_,_,T=>T
theorem Q5 {o:Oper}{T:List (Nat×SV)}{t:Nat}{x:SV}:∀{l:List Oper} {xs:List SV} {k:Nat},look (Kd o l xs k T) t=some x→(∃i p,l[i]?=some p∧xs[i]?=some x∧waits o (k+i)=true∧p.dst=some t)∨look T t=some x
 | [],_,_,h=>.inr h
 |_::_,[],_,h=>.inr h
 | p ::l,y::xs,k,h=>by
  have rest:look (Kd o l xs (k+1) T) t=some x→(∃i q,(p::l)[i]?=some q∧(y::xs)[i]?=some x∧waits o (k+i)=true∧q.dst=some t)∨look T t=some x:=fun h=>by
   rcases Q5 h with⟨i,q,h1,h2,h3,h4⟩|h
   ·exact .inl ⟨i+1,q,by simpa using h1,by simpa using h2,by rw [show k+(i+1)=k+1+i by omega];exact h3,h4⟩
   ·exact .inr h
  unfold Kd at h
  cases hb:waits o k with
  |false=>rw [hb]at h;exact rest h
  | true=>
   rw [hb]at h
   simp only [θ3]at h
   cases hd:p.dst with
   |none=>rw [hd]at h;exact rest h
   | some d=>
    rw [hd]at h
    simp only [Bh,look]at h
    cases hk:Nat.beq d t with
    |false=>rw [hk]at h;exact rest h
    |true=>
     rw [hk]at h
     cases h
     have:=α9 hk
     subst this
     exact .inl ⟨0,p,rfl,rfl,by simpa using hb,hd⟩
def Jb (X:Tx) (n:Nat) (ops:Array Oper) (pc:List (Nat×SV)) (cl:List (Nat×SV×Hp)):List Oper→Nat→List (Nat×SV)→Hp→Option (List SV×List (Nat×Hp))
  | [],_,_,_=>some ([],[])
  | o ::l,j,T,H=>match cl.lookup j with
    | some (x,H')=>match Jb X n ops pc cl l (j+1) (Bh T o.dst x) H' with
      |some (xs,hs)=>some (x::xs,(j,H')::hs)
      |none=>none
    | none=>match look pc j with
     |some x=>match Jb X n ops pc cl l (j+1) (Bh T o.dst x) H with
      |some (xs,hs)=>some (x::xs,hs)
      |none=>none
     |none=>match Dh X n ops T H o with
      | some (.val x _)=>match Jb X n ops pc cl l (j+1) (Bh T o.dst x) H with
        |some (xs,hs)=>some (x::xs,hs)
        |none=>none
      | some (.new t en x)=>SY (H++[some en]) fun H'=>match Jb X n ops pc cl l (j+1) (Bh T o.dst x) H' with
        |some (xs,hs)=>some (x::xs,(j,H')::hs)
        |none=>none
      | some (.upd i cs _)=>SY (Cd H i (some (.blk cs))) fun H'=>match Jb X n ops pc cl l (j+1) T H' with
        |some (xs,hs)=>some (.tup []::xs,(j,H')::hs)
        |none=>none
      |none=>none
def Xn (ops:Array Oper)(p:Nat):Nat→List Edge→Bool
 |0,_=>false
 |f+1,l=>l.any fun e=>Region.binds .any e&&(match ops[e.on]? with|some q=>waits q p||Xn ops p f q.after.toList|none=>false)
theorem F4 {ops:Array Oper}{listed:Array Bool}{p:Nat}(W9:∀(j:Nat) (o:Oper) (p:Nat),ops[j]?=some o→listed.getD j false=true→waits o p=true→listed.getD p false=true):∀(f:Nat) (l:List Edge),(∀e∈l,Region.binds .any e=true→listed.getD e.on false=true)→Xn ops p f l=true→listed.getD p false=true
 |0,_,_,h=>by cases h
 | f+1,l,hl,h=>by
  unfold Xn at h
  rw [μ0]at h
  obtain⟨e,he,hb⟩:=h
  rw [α3]at hb
  have h1:=hl e he hb.1
  split at hb
  ·next q hq=>
   have h2:=hb.2
   rw [β9]at h2
   rcases h2 with h2|h2
   ·exact W9 _ q p hq h1 h2
   ·refine F4 W9 f _ (fun e' iS a6=>?_) h2
    refine W9 _ q e'.on hq h1 ?_
    unfold waits
    rw [μ0]
    exact⟨e',iS,by simp [a6]⟩
  ·exact absurd hb.2 (by simp)
def wt (ops:Array Oper)(o:Oper)(p:Nat):Bool:=bif waits o p then true else Xn ops p 2 o.after.toList
def LY (ops:Array Oper)(o:Oper)(j k:Nat):List (Nat×Hp)→Nat→Bool
 | [],_=>true
 |(p,_)::es,m=>(!wt ops o p||Nat.blt m k)&&(match ops[p]? with|some q=> !waits q j||Nat.ble k m|none=>true)&&LY ops o j k es (m+1)
theorem OF {ops:Array Oper}{o:Oper}{j k:Nat}:∀{es:List (Nat×Hp)} {m:Nat},(∀i p H',es[i]?=some (p,H')→(wt ops o p=true→m+i<k)∧(∀q,ops[p]?=some q→waits q j=true→k≤m+i))→LY ops o j k es m=true
 | [],_,_=>rfl
 | (p,H')::es,m,h=>by
  obtain⟨h1,h2⟩:=h 0 p H' rfl
  unfold LY
  simp only [α3,β9,κ8]
  refine⟨⟨?_,?_⟩,OF fun i q H2 hi=>?_⟩
  ·cases hw:wt ops o p with
   |false=>exact .inl rfl
   |true=>exact .inr (by have:=h1 hw;simp [μ7];omega)
  ·split
   ·next q hq=>
    simp only [β9,κ8]
    cases hw:waits q j with
    |false=>exact .inl rfl
    |true=>exact .inr (by have:=h2 q hq hw;simpa using this)
   ·rfl
  ·have:=h (i+1) q H2 hi
   rw [show m+1+i=m+(i+1) by omega];exact this
def Mw (X:Tx)(n:Nat)(ops:Array Oper)(es:List (Nat×Hp))(Tw:List (Nat×SV))(o:Oper)(j:Nat):Nat→List Hp→Option (List SV×Ob)
 |_,[]=>some ([],[])
 | k,H::hs=>match Mw X n ops es Tw o j (k+1) hs with
  |some (D,E)=>bif LY ops o j k es 0 then(match Dh X n ops Tw H o with
   |some (.val x F)=>some (x::D,F++E)
   |_=>none)else some (D,E)
  |none=>none
theorem Gi {X:Tx}{n:Nat}{ops:Array Oper}{es:List (Nat×Hp)}{Tw:List (Nat×SV)}{o:Oper}{j:Nat}:∀{hs:List Hp} {k:Nat} {D:List SV} {E:Ob},Mw X n ops es Tw o j k hs=some (D,E)→Dr E→∀(i:Nat) (H:Hp),hs[i]?=some H→LY ops o j (k+i) es 0=true→
  ∃x F,Dh X n ops Tw H o=some (.val x F)∧Dr F∧x∈D
 | [],k,D,E,h,hE,i,H,hi,hm=>by cases hi
 | H0 ::hs,k,D,E,h,hE,i,H,hi,hm=>by
  unfold Mw at h
  split at h
  ·next D1 E1 iU=>
   cases hb:LY ops o j k es 0 with
   |false=>
    rw [hb]at h
    cases h
    cases i with
    |zero=>rw [θ8,hb]at hm;cases hm
    |succ i=>exact Gi iU hE i H hi (by rw [show k+1+i=k+(i+1) by omega];exact hm)
   | true=>
    rw [hb]at h
    simp only [θ3]at h
    split at h
    ·next x F hx=>
     cases h
     obtain⟨e1,e2⟩:=Az hE
     cases i with
     |zero=>cases hi;exact⟨x,F,hx,e1,by simp⟩
     |succ i=>
      obtain⟨y,F',q1,q2,q3⟩:=Gi iU e2 i H hi (by rw [show k+1+i=k+(i+1) by omega];exact hm)
      exact⟨y,F',q1,q2,ζ7 _ q3⟩
    ·cases h
  ·cases h
def Gj (j:Nat):List (Nat×Hp)→Bool
 | []=>false
 |(p,_)::es=>Nat.beq p j||Gj j es
theorem Ke {j:Nat}:∀{es:List (Nat×Hp)},Gj j es=true→∃(i:Nat) (H:Hp),es[i]?=some (j,H)
 | [],h=>by cases h
 |(p,H)::es,h=>by
  simp only [Gj,β9]at h
  rcases h with h|h
  ·exact⟨0,H,by rw [α9 h];rfl⟩
  ·obtain⟨i,H',hi⟩:=Ke h;exact⟨i+1,H',hi⟩
theorem Q6 {j:Nat}:∀{es:List (Nat×Hp)},Gj j es=false→∀(i p:Nat) (H:Hp),es[i]?=some (p,H)→p≠j
 | [],_,i,p,H,h=>by cases h
 |(q,H')::es,hb,i,p,H,h=>by
  simp only [Gj,δ6]at hb
  cases i with
  |zero=>cases h;exact fun e=>by subst e;simp at hb
  |succ i=>exact Q6 hb.2 i p H h
def OG (X:Tx) (n:Nat) (ops:Array Oper) (all:List Oper) (xs:List SV) (T:List (Nat×SV)) (es:List (Nat×Hp)) (hs:List Hp) (pc:List (Nat×SV)):List Oper→List SV→Nat→Option (List (SV×SV)×Ob)
 | [],_,_=>some ([],[])
 |_::_,[],_=>none
 | o::l,x::ys,j=>match OG X n ops all xs T es hs pc l ys (j+1)with
  | some (D,E)=>bif Gj j es then some (D,E)else(match look pc j with
   |some z=>some ((z,x)::D,E)
   |none=>match Mw X n ops es (Kd o all xs 0 T) o j 0 hs with
    |some (zs,F)=>some (zs.map (fun z=>(z,x))++D,F++E)
    |none=>none)
  |none=>none
theorem Kf {X:Tx} {n:Nat} {ops:Array Oper} {all:List Oper} {xs:List SV} {T:List (Nat×SV)} {es:List (Nat×Hp)} {hs:List Hp} {pc:List (Nat×SV)}:∀{l:List Oper} {ys:List SV} {j:Nat} {D:List (SV×SV)} {E:Ob},OG X n ops all xs T es hs pc l ys j=some (D,E)→Dr E→D.map (·.1)=D.map (·.2)→
  ∀(i:Nat) (o:Oper),l[i]?=some o→Gj (j+i) es=false→∃x,ys[i]?=some x∧(look pc (j+i)=some x∨∀(k:Nat) (H:Hp),hs[k]?=some H→LY ops o (j+i) k es 0=true→∃F,Dh X n ops (Kd o all xs 0 T) H o=some (.val x F)∧Dr F)
 | [],ys,j,D,E,h,hE,hD,i,o,hi,_=>by cases hi
 |_::_,[],j,D,E,h,hE,hD,i,o,hi,_=>by cases h
 | p :: l,y::ys,j,D,E,h,hE,hD,i,o,hi,he=>by
  have step:∀{D1:List (SV×SV)} {E1:Ob},OG X n ops all xs T es hs pc l ys (j+1)=some (D1,E1)→Dr E1→D1.map (·.1)=D1.map (·.2)→∀i,l[i]?=some o→Gj (j+(i+1)) es=false→∃x,ys[i]?=some x∧(look pc (j+(i+1))=some x∨∀(k:Nat) (H:Hp),hs[k]?=some H→LY ops o (j+(i+1)) k es 0=true→∃F,Dh X n ops (Kd o all xs 0 T) H o=some (.val x F)∧Dr F):=by
   intro D1 E1 h1 e1 d1 i hi he
   have:=Kf h1 e1 d1 i o hi (by rw [show j+1+i=j+(i+1) by omega];exact he)
   rw [show j+1+i=j+(i+1) by omega]at this
   exact this
  unfold OG at h
  split at h
  ·next D1 E1 h1=>
   cases hb:Gj j es with
   |true=>
    rw [hb]at h
    cases h
    cases i with
    |zero=>rw [θ8,hb]at he;cases he
    |succ i=>exact step h1 hE hD i hi he
   | false=>
    rw [hb]at h
    simp only [cond_false]at h
    split at h
    ·next z hz=>
     cases h
     simp only [ζ4,θ2]at hD
     cases i with
     |zero=>
      cases hi
      refine⟨y,rfl,.inl ?_⟩
      rw [θ8,hz,hD.1]
     |succ i=>exact step h1 hE hD.2 i hi he
    ·split at h
     ·next zs F hz=>
      cases h
      obtain⟨e1,e2⟩:=Az hE
      simp only [ζ5]at hD
      obtain⟨d1,d2⟩:=ξ2 hD (by simp)
      cases i with
      | zero=>
       cases hi
       refine⟨y,rfl,.inr fun k H hk hm=>?_⟩
       obtain⟨x,F',q1,q2,q3⟩:=Gi hz e1 k H hk (by rw [ε0];exact hm)
       have:x=y:=by
        simp only [υ3]at d1
        have:=List.map_inj_left.1 d1 x q3
        simpa using this
       subst this
       exact⟨F',q1,q2⟩
      |succ i=>exact step h1 e2 d2 i hi he
     ·cases h
  ·cases h
def Ex (ops:Array Oper):List (Nat×Hp)→Bool
 |(p,H)::(q,H')::es=>(match ops[q]? with|some o=>wt ops o p|none=>false)&&Nat.blt p q&&Ex ops ((q,H')::es)
 |_=>true
theorem Kg {ops:Array Oper}:∀{es:List (Nat×Hp)},Ex ops es=true→∀(i p:Nat) (H:Hp) (q:Nat) (H':Hp),es[i]?=some (p,H)→es[i+1]?=some (q,H')→∃o,ops[q]?=some o∧wt ops o p=true
 | [],_,i,p,H,q,H',h,_=>by cases h
 | [_],_,i,p,H,q,H',_,h=>by simp at h
 | (a,Ha)::(b,Hb)::es,hb,i,p,H,q,H',h1,h2=>by
  simp only [Ex,α3]at hb
  cases i with
  |zero=>
   cases h1;cases h2
   have:=hb.1.1
   split at this
   ·next o ho=>exact⟨o,ho,this⟩
   ·cases this
  |succ i=>exact Kg hb.2 i p H q H' h1 h2
theorem Sc {ops:Array Oper}:∀{es:List (Nat×Hp)},Ex ops es=true→∀(i k p:Nat) (H H':Hp),es[i]?=some (p,H)→es[k]?=some (p,H')→i=k:=by
 have lt:∀{es:List (Nat×Hp)} {p:Nat} {H:Hp},Ex ops ((p,H)::es)=true→∀(k q:Nat) (H':Hp),es[k]?=some (q,H')→p<q:=by
  intro es
  induction es with
  |nil=>intro p H _ k q H' h;cases h
  |cons x es ih=>
   obtain⟨b,Hb⟩:=x
   intro p H hb k q H' h
   simp only [Ex,α3]at hb
   have h1:p<b:=by have:=hb.1.2;simpa [μ7]using this
   cases k with
   |zero=>cases h;exact h1
   |succ k=>have:=ih hb.2 k q H' h;omega
 intro es
 induction es with
 |nil=>intro _ i k p H H' h;cases h
 | cons x es ih=>
  obtain⟨b,Hb⟩:=x
  intro hb i k p H H' h1 h2
  have T3:Ex ops es=true:=by
   cases es with
   |nil=>rfl
   |cons y es=>simp only [Ex,α3]at hb;exact hb.2
  cases i with
  |zero=>
   cases k with
   |zero=>rfl
   |succ k=>cases h1;exact absurd (lt hb k _ H' h2) (by omega)
  |succ i=>
   cases k with
   |zero=>cases h2;exact absurd (lt hb i _ H h1) (by omega)
   |succ k=>rw [ih T3 i k p H H' h1 h2]
def JF:List Oper→List SV→List (Nat×SV)→List (Nat×SV)
 |o::l,x::xs,T=>Bh (JF l xs T) o.dst x
 |_,_,T=>T
theorem Kh {T:List (Nat×SV)}{t:Nat}{x:SV}:∀{l:List Oper} {xs:List SV},xs.length=l.length→look (JF l xs T) t=some x→(∃(i:Nat) (p:Oper),l[i]?=some p∧xs[i]?=some x∧p.dst=some t)∨(look T t=some x∧∀(i:Nat) (p:Oper),l[i]?=some p→p.dst≠some t)
 | [],_,_,h=>.inr ⟨h,fun i p h=>by cases h⟩
 |_::_,[],hl,h=>by cases hl
 | p::l,y::xs,hl,h=>by
  have rest:look (JF l xs T) t=some x→p.dst≠some t→(∃(i:Nat) (q:Oper),(p::l)[i]?=some q∧(y::xs)[i]?=some x∧q.dst=some t)∨(look T t=some x∧∀(i:Nat) (q:Oper),(p::l)[i]?=some q→q.dst≠some t):=fun h hp=>by
   rcases Kh (by simpa using hl) h with⟨i,q,h1,h2,h4⟩|⟨h1,h2⟩
   ·exact .inl ⟨i+1,q,by simpa using h1,by simpa using h2,h4⟩
   ·refine .inr ⟨h1,fun i q hq=>?_⟩
    cases i with
    |zero=>cases hq;exact hp
    |succ i=>exact h2 i q (by simpa using hq)
  unfold JF at h
  cases hd:p.dst with
  |none=>rw [hd]at h;exact rest h (by rw [hd];simp)
  | some d=>
   rw [hd]at h
   simp only [Bh,look]at h
   cases hk:Nat.beq d t with
   |false=>
    rw [hk]at h
    refine rest h fun e=>?_
    rw [hd]at e;cases e
    rw [show Nat.beq t t=true from η7 t]at hk;cases hk
   |true=>
    rw [hk]at h
    cases h
    have:=α9 hk
    subst this
    exact .inl ⟨0,p,rfl,rfl,hd⟩
section
variable {P:Program}{X:Tx}{n:Nat}{ks:List Nat}{G0:Gr}{w0:World}{T:List (Nat×SV)}{l:List Oper}{xs:List SV}{es:List (Nat×Hp)}{hs:List Hp}{Q:Exit→Act→World→Prop}
structure k8 (n:Nat)(ks:List Nat)(G0:Gr)(w0:World)(T:List (Nat×SV))(l:List Oper)(xs:List SV)(es:List (Nat×Hp))(hs:List Hp)(listed:Array Bool)(k:Nat)(G:Gr)(a:Act)(w:World):Prop where
 size:a.tmps.size=n
 defers:a.defers=[]
 base:∀t x,look T t=some x→(∀(j:Nat) (o:Oper),l[j]?=some o→o.dst=some t→listed.getD j false=false)→den G x=some (a.tmps.getD t undef)
 done:∀(j:Nat) (o:Oper) (x:SV) (d:Nat),l[j]?=some o→listed.getD j false=true→xs[j]?=some x→o.dst=some d→den G x=some (a.tmps.getD d undef)
 ms:∃H,hs[k]?=some H∧Ms H ks G0 w0 G w
 eff:∀(i p:Nat) (H':Hp),es[i]?=some (p,H')→(listed.getD p false=true↔i<k)
 closed:∀(j:Nat) (o:Oper) (p:Nat),l[j]?=some o→listed.getD j false=true→waits o p=true→listed.getD p false=true
def Bd (P:Program)(n:Nat)(ops:Array Oper)(ks:List Nat)(G0:Gr)(w0:World)(Tw:List (Nat×SV))(H:Hp)(o:Oper)(x:SV)(H':Hp):Prop:=
 ∀G a w,Sy n Tw H ks G0 w0 G a w→Bq P ops o a w fun v w'=>∃F,den (G++F) x=some v∧Ms H' ks G0 w0 (G++F) w'
theorem UW {ops:Array Oper}{o:Oper}{H:Hp}{Tw:List (Nat×SV)}{G:Gr}{a:Act}{w:World}(hX:X.ok P=true)(A:Sy n Tw H ks G0 w0 G a w){x:SV}{E:Ob}(h:Dh X n ops Tw H o=some (.val x E))(hE:Dr E):∃z,den G x=some z∧∀K:Value→World→Prop,K z w→Bq P ops o a w K:=by
 unfold Dh at h
 have wB:Js none:=fun g hg=>by cases hg
 split at h
 ·next hd=>
  split at h
  ·next hg=>
   obtain⟨z,hz,k⟩:=J6 (P:=P) (ops:=ops) hX A h
   exact⟨z,hz,k hE wB (BQ (gd:=none) A hg)⟩
  ·next hg=>cases h;exact⟨undef,rfl,fun K hK=>FV (Qw A hg) hK⟩
  ·next b hg=>
   split at h
   ·next y F hx=>
    cases h
    have hw:=PW A hg
    obtain⟨z,hz,k⟩:=J6 (P:=P) (ops:=ops) hX A hx
    cases b with
    |true=>exact⟨z,by simp [den,hz],k hE (fun g hg=>by cases hg;rfl) hw⟩
    |false=>exact⟨undef,by simp [den,hz],fun K hK=>FV hw hK⟩
   ·cases h
  ·cases h
 ·cases h
theorem UX (hX:X.ok P=true) (GN:KR l.toArray n []=true) (XA:Ex l.toArray es=true) (hT:∀t x,look T t=some x→∀(j:Nat) (o:Oper),l[j]?=some o→o.dst=some t→∀i,i<l.length→i≠j→waits o i=true) (hl:xs.length=l.length) (hlen:hs.length=es.length+1)
  (qD:∀(i:Nat) (o:Oper),l[i]?=some o→Gj i es=false→∃x,xs[i]?=some x∧∀(k:Nat) (H:Hp),hs[k]?=some H→LY l.toArray o i k es 0=true→Bd P n l.toArray ks G0 w0 (Kd o l xs 0 T) H o x H)
  (qE:∀(m p:Nat) (H':Hp),es[m]?=some (p,H')→hs[m+1]?=some H'∧∃o x H,l[p]?=some o∧xs[p]?=some x∧hs[m]?=some H∧Bd P n l.toArray ks G0 w0 (Kd o l xs 0 T) H o x H')
  (XB:∀G a w H,hs[es.length]?=some H→Sy n (JF l xs T) H ks G0 w0 G a w→Q .normal a w):
  ∀(fuel:Nat) (listed:Array Bool) (a:Act) (w:World) (k:Nat) (G:Gr),listed.size=l.length→((List.range l.length).filter fun i=> !listed.getD i true).length≤fuel→k8 n ks G0 w0 T l xs es hs listed k G a w→wpAny P .any l.toArray Q fuel listed a w:=by
 have last:∀(listed:Array Bool) (a:Act) (w:World) (k:Nat) (G:Gr),listed.size=l.length→Region.ready .any l.toArray listed=[]→k8 n ks G0 w0 T l xs es hs listed k G a w→Q .normal a w:=by
  intro listed a w k G Jp hr I
  have all:∀i,i<l.length→listed.getD i false=true:=by
   intro i
   induction i using Nat.strongRecOn with
   | _ i ih=>
    intro hi
    cases hq:listed.getD i false with
    |true=>rfl
    | false=>
     exfalso
     have:i∈Region.ready .any l.toArray listed:=by
      rw [mem_ready]
      have wF:i<listed.size:=by omega
      have Nv:l.toArray[i]?=some l[i]:=by simp [hi]
      refine⟨by simpa [wF]using hq,l[i],Nv,fun e he hb=>?_⟩
      have Bn:=(IE GN Nv).2 e he hb
      exact ih e.on Bn (by omega)
     rw [hr]at this;cases this
  obtain⟨H,h1,h2⟩:=I.ms
  have hk:k=es.length:=by
   have sL:k<hs.length:=(α0.1 h1).1
   by_cases hk:k<es.length
   ·exfalso
    have he:es[k]?=some (es[k].1,es[k].2):=by simp [hk]
    obtain⟨_,o,x,_,ho,_⟩:=qE k _ _ he
    have hp:es[k].1<l.length:=(α0.1 ho).1
    have:=(I.eff k _ _ he).1 (all _ hp)
    omega
   ·omega
  subst hk
  refine XB G a w H h1 (h2.sy I.size I.defers fun t x hx=>?_)
  rcases Kh hl hx with⟨i,p,q1,q2,q3⟩|⟨hx,T4⟩
  ·exact I.done i p x t q1 (all i (α0.1 q1).1) q2 q3
  ·exact I.base t x hx fun j o h1 h2=>absurd h2 (T4 j o h1)
 intro fuel
 induction fuel with
 | zero=>
  intro listed a w k G Jp hf I
  have hr:Region.ready .any l.toArray listed=[]:=by
   unfold Region.ready
   rw [ν2]
   intro i hi
   have XD:((List.range l.length).filter fun i=> !listed.getD i true)=[]:=δ3 (by omega)
   rw [ν2]at XD
   have:=XD i (by simpa using hi)
   simp only [τ6,σ4]at this
   simp [this]
  exact⟨hr,last listed a w k G Jp hr I⟩
 | succ fuel ih=>
  intro listed a w k G Jp hf I
  refine⟨fun hr=>last listed a w k G Jp hr I,fun i hi=>?_⟩
  obtain⟨qF,o,Nv,AS⟩:=mem_ready.1 hi
  have XR:i<l.length:=by have:=(ε3.1 Nv).1;simpa using this
  have J3:l[i]?=some o:=by simpa using Nv
  obtain⟨qG,hfe⟩:=IE GN Nv
  have LO:listed.getD i false=false:=by
   have Bn:i<listed.size:=by omega
   simpa [Bn]using qF
  have hw:∀p,waits o p=true→listed.getD p false=true:=fun p hp=>by
   unfold waits at hp
   rw [μ0]at hp
   obtain⟨e,iS,hb⟩:=hp
   have he:e∈o.after:=by simpa using iS
   simp only [α3,ε4]at hb
   rw [←hb.2]
   exact AS e he hb.1
  obtain⟨H,wG,hMs⟩:=I.ms
  have A:Sy n (Kd o l xs 0 T) H ks G0 w0 G a w:=hMs.sy I.size I.defers fun t x hx=>by
   rcases Q5 hx with⟨j,p,q1,q2,q3,q4⟩|hx
   ·exact I.done j p x t q1 (hw j (by simpa using q3)) q2 q4
   ·refine I.base t x hx fun j p h1 h2=>?_
    by_cases Fu:j=i
    ·subst Fu;exact LO
    ·cases hlj:listed.getD j false with
     |false=>rfl
     |true=>
      have:=I.closed j p i h1 hlj (hT t x hx j p h1 h2 i XR (ζ1 Fu))
      rw [LO]at this;cases this
  have next:∀(x:SV) (v:Value) (w':World) (F:Gr) (k':Nat),xs[i]?=some x→den (G++F) x=some v→(∃H',hs[k']?=some H'∧Ms H' ks G0 w0 (G++F) w')→
    (∀(m p:Nat) (H':Hp),es[m]?=some (p,H')→((p=i∨m<k)↔m<k'))→wpAny P .any l.toArray Q fuel (listed.setIfInBounds i true) (a.put o.dst v) w':=by
   intro x v w' F k' hx hv kA EC
   have Bn:i<listed.size:=by omega
   have JX:∀j,(listed.setIfInBounds i true).getD j false=true↔(j=i∨listed.getD j false=true):=by
    intro j
    by_cases Fu:j=i
    ·subst Fu;simp [Bn]
    ·rw [KS false (ζ1 Fu)];simp [Fu]
   refine ih _ _ _ k' (G++F) (by simpa using Jp) ?_ ⟨?_,?_,fun t y hy T4=>?_,fun j p y d q1 q2 q3 q4=>?_,kA,fun m p H' hm=>?_,fun j p r q1 q2 q3=>?_⟩
   ·have:((List.range l.length).filter fun k=> !(listed.setIfInBounds i true).getD k true).length<((List.range l.length).filter fun k=> !listed.getD k true).length:=by
     have JY:((List.range l.length).filter fun k=> !(listed.setIfInBounds i true).getD k true)=((List.range l.length).filter fun k=> !listed.getD k true).filter (fun k=>k !=i):=by
      rw [List.filter_filter]
      apply σ9
      intro k _
      by_cases hk:k=i
      ·subst hk;simp [Bn]
      ·rw [KS true (ζ1 hk)];simp [hk]
     rw [JY]
     refine ν5.2 ⟨i,?_,by simp⟩
     simp only [ι7,ε8]
     exact⟨XR,by rw [qF];rfl⟩
    omega
   ·cases hd:o.dst<;>simp [Act.put,I.size]
   ·cases hd:o.dst<;>simp [Act.put,I.defers]
   ·have iV:∀(j:Nat) (q:Oper),l[j]?=some q→q.dst=some t→listed.getD j false=false:=fun j q h1 h2=>by
     have h3:=T4 j q h1 h2
     cases hlj:listed.getD j false with
     |false=>rfl
     |true=>rw [(JX j).2 (.inr hlj)]at h3;cases h3
    have h1:=BF F y (I.base t y hy iV)
    cases hd:o.dst with
    |none=>exact h1
    | some d=>
     have Ch:d≠t:=fun e=>by
      have h3:=T4 i o J3 (by rw [hd,e])
      rw [(JX i).2 (.inl rfl)]at h3;cases h3
     simp only [Act.put,β3]
     rw [η0 Ch,←β3]
     exact h1
   ·by_cases Fu:j=i
    ·subst Fu
     rw [J3]at q1;cases q1
     rw [hx]at q3;cases q3
     have wH:d<a.tmps.size:=by rw [I.size];exact(qG d q4).1
     rw [q4]
     simp [Act.put,wH,hv]
    ·have h2:listed.getD j false=true:=by
      rcases(JX j).1 q2 with h|h
      ·exact absurd h Fu
      ·exact h
     have h1:=BF F y (I.done j p y d q1 h2 q3 q4)
     cases hd:o.dst with
     |none=>exact h1
     | some d'=>
      have Ch:d'≠d:=fun e=>by
       subst e
       exact Fu ((qG d' hd).2.1 j (by simpa using (α0.1 q1).1) (by simp [KP,q1,q4]))
      simp only [Act.put,β3]
      rw [η0 Ch,←β3]
      exact h1
   ·rw [JX p,I.eff m p H' hm];exact EC m p H' hm
   ·rw [JX r]
    by_cases Fu:j=i
    ·subst Fu;rw [J3]at q1;cases q1;exact .inr (hw r q3)
    ·rcases(JX j).1 q2 with h|h
     ·exact absurd h Fu
     ·exact .inr (I.closed j p r q1 h q3)
  have fin:∀{x:SV} {k':Nat},xs[i]?=some x→(∀(m p:Nat) (H':Hp),es[m]?=some (p,H')→((p=i∨m<k)↔m<k'))→∀{H':Hp},hs[k']?=some H'→Bq P l.toArray o a w (fun v w'=>∃F,den (G++F) x=some v∧Ms H' ks G0 w0 (G++F) w')→wpOp P l.toArray Q i (wpAny P .any l.toArray Q fuel (listed.setIfInBounds i true)) a w:=by
   intro x k' hx EC H' ZG hd
   unfold wpOp
   rcases hd with⟨XE,h⟩|⟨XE,F,h1,h2⟩
   ·simp only [Nv,XE,υ9]
    refine .inl (κ6 (fun a2 w2 h=>?_) (h Q))
    obtain⟨v,rfl,F,h1,h2⟩:=h
    exact next x v w2 F k' hx h1 ⟨H',ZG,h2⟩ EC
   ·simp only [Nv,XE,θ1,ξ7]
    exact next x undef w F k' hx h1 ⟨H',ZG,h2⟩ EC
  cases he:Gj i es with
  | true=>
   obtain⟨m,H',hm⟩:=Ke he
   obtain⟨ZG,o',x,Hm,e1,e2,e3,e4⟩:=qE m i H' hm
   rw [J3]at e1;cases e1
   have sM:m=k:=by
    have h1:¬m<k:=fun h=>by have:=(I.eff m i H' hm).2 h;rw [this]at LO;cases LO
    have h2:m≤k:=by
     cases m with
     |zero=>omega
     | succ m=>
      have wI:m<es.length:=by have:=(α0.1 hm).1;omega
      have y7:es[m]?=some (es[m].1,es[m].2):=by simp [wI]
      obtain⟨o2,g1,g2⟩:=Kg XA m _ _ i H' y7 hm
      rw [Nv]at g1;cases g1
      have g3:listed.getD es[m].1 false=true:=by
       unfold wt at g2
       cases hd:waits o es[m].1 with
       |true=>exact hw _ hd
       |false=>
        rw [hd]at g2
        refine F4 (fun j q p' hq hj wJ=>I.closed j q p' (by simpa using hq) hj wJ) 2 _ (fun e he hb=>hw e.on ?_) g2
        unfold waits
        rw [μ0]
        exact⟨e,he,by simp [hb]⟩
      have:=(I.eff m _ _ y7).1 g3
      omega
    omega
   subst sM
   rw [wG]at e3;cases e3
   refine fin e2 (k':=m+1) (fun m' p H2 To=>?_) ZG (e4 G a w A)
   constructor
   ·rintro (rfl|h)
    ·have:=Sc XA m' m _ H2 H' To hm;omega
    ·omega
   ·intro h
    by_cases wK:m'=m
    ·subst wK;rw [hm]at To;cases To;exact .inl rfl
    ·exact .inr (by omega)
  | false=>
   obtain⟨x,e1,e2⟩:=qD i o J3 he
   have iW:LY l.toArray o i k es 0=true:=OF fun m p H' hm=>by
    rw [ε0]
    refine⟨fun AP=>(I.eff m p H' hm).1 ?_,fun q hq AP=>?_⟩
    ·unfold wt at AP
     cases hd:waits o p with
     |true=>exact hw p hd
     |false=>
      rw [hd]at AP
      refine F4 (fun j q p' hq hj wJ=>I.closed j q p' (by simpa using hq) hj wJ) 2 _ (fun e he hb=>hw e.on ?_) AP
      unfold waits
      rw [μ0]
      exact⟨e,he,by simp [hb]⟩
    by_cases sM:m<k
    ·exfalso
     have hp:=(I.eff m p H' hm).2 sM
     have:=I.closed p q i (by simpa using hq) hp AP
     rw [this]at LO;cases LO
    ·omega
   refine fin e1 (k':=k) (fun m p H' hm=>?_) wG (e2 k H wG iW G a w A)
   constructor
   ·rintro (rfl|h)
    ·exact absurd rfl (Q6 he m _ H' hm)
    ·exact h
   ·exact fun h=>.inr h
end
def bZ (H:Hp):Out→SV
 | .val x _=>x
 | .new _ _ x=>x
 | .upd _ _ _=>.tup []
def Q7 (X:Tx) (n:Nat) (ops:Array Oper) (l:List Oper) (xs:List SV) (T:List (Nat×SV)) (cl:List (Nat×SV×Hp)):List (Nat×Hp)→Hp→Option (List (SV×SV)×List (Hp×Hp)×Ob)
 | [],_=>some ([],[],[])
 | (p,H')::es,H=>match Q7 X n ops l xs T cl es H' with
  | some (D,DH,E)=>match lg l p,lg xs p with
   | some o,some x=>match cl.lookup p with
    |some (y,_)=>some ((y,x)::D,DH,E)
    |none=>match Dh X n ops (Kd o l xs 0 T) H o with
     |some out=>some ((bZ H out,x)::D,(LX H out,H')::DH,OA out++E)
     |none=>none
   |_,_=>none
  |none=>none
section
variable {P:Program}{X:Tx}{n:Nat}{ks:List Nat}{G0:Gr}{w0:World}{T:List (Nat×SV)}{l:List Oper}{xs:List SV}{Q:Exit→Act→World→Prop}{cl:List (Nat×SV×Hp)}
def JG (P:Program)(n:Nat)(ops:Array Oper)(ks:List Nat)(G0:Gr)(w0:World)(l:List Oper)(xs:List SV)(T:List (Nat×SV))(cl:List (Nat×SV×Hp)):List (Nat×Hp)→Hp→Prop
 | [],_=>True
 |(p,H')::es,H=>(match cl.lookup p,lg l p with|some (x,_),some o=>Bd P n ops ks G0 w0 (Kd o l xs 0 T) H o x H'|_,_=>True)∧JG P n ops ks G0 w0 l xs T cl es H'
theorem A8 {ops:Array Oper}:∀(es:List (Nat×Hp)) (H:Hp),JG P n ops ks G0 w0 l xs T [] es H
 | [],_=>trivial
 |(p,H')::es,H=>⟨by simp,A8 es H'⟩
theorem BN {ops:Array Oper}{o:Oper}{H:Hp}{Tw:List (Nat×SV)}{out:Out}(hX:X.ok P=true)(h:Dh X n ops Tw H o=some out)(hE:Dr (OA out)):Bd P n ops ks G0 w0 Tw H o (bZ H out) (LX H out):=by
 intro G a w A
 cases out with
 |val x E=>
  obtain⟨z,hz,k⟩:=UW (P:=P) hX A h hE
  exact k _ ⟨[],by simpa [bZ]using hz,by simpa [LX]using A.ms⟩
 | new t en x=>
  unfold Dh at h
  split at h
  ·next hd=>
   split at h
   ·next hg=>
    exact IM (P:=P) (ops:=ops) hX A h (BQ (gd:=none) A hg) fun g w' v a1 a2 a3 a4 a5=>⟨[some ⟨g,[],[],t⟩],a5,(A.newBlk a1 a2 a3 a4).ms⟩
   ·cases h
   ·split at h<;>cases h
   ·cases h
  ·cases h
 | upd i cs E=>
  unfold Dh at h
  split at h
  ·next hd=>
   split at h
   ·next hg=>
    refine Qx hX A h hE (BQ (gd:=none) A hg) fun cs0 L vs' w' a1 a2 a3 a4 a5=>⟨[],rfl,?_⟩
    simpa [LX]using (A.turn a1 a2 a3 a4 a5).ms
   ·cases h
   ·split at h<;>cases h
   ·cases h
  ·cases h
theorem Ht {ops:Array Oper}(hX:X.ok P=true):∀{es:List (Nat×Hp)} {H:Hp} {D:List (SV×SV)} {DH:List (Hp×Hp)} {E:Ob},Q7 X n ops l xs T cl es H=some (D,DH,E)→Dr E→D.map (·.1)=D.map (·.2)→DH.map (·.1)=DH.map (·.2)→JG P n ops ks G0 w0 l xs T cl es H→
  ∀(m p:Nat) (H':Hp),es[m]?=some (p,H')→(H::es.map (·.2))[m+1]?=some H'∧∃o x Hm,l[p]?=some o∧xs[p]?=some x∧(H::es.map (·.2))[m]?=some Hm∧Bd P n ops ks G0 w0 (Kd o l xs 0 T) Hm o x H'
 | [],_,_,_,_,_,_,_,_,_,m,p,H',hm=>by cases hm
 | (q, Hq)::es,H,D,DH,E,h,hE,hD,XS,hA,m,p,H',hm=>by
  unfold Q7 at h
  obtain⟨wL,y8⟩:=hA
  split at h
  ·next D1 DH1 E1 h1=>
   split at h
   ·next o x ho hx=>
    rw [ho]at wL
    rw [BI]at ho hx
    split at h
    ·next y Hy hc=>
     cases h
     simp only [ζ4,θ2]at hD
     rw [hc]at wL
     cases m with
     |zero=>
      cases hm
      refine⟨by simp,o,x,H,ho,hx,rfl,?_⟩
      have:=hD.1
      subst this
      exact wL
     |succ m=>
      have:=Ht hX h1 hE hD.2 XS y8 m p H' (by simpa using hm)
      simpa using this
    ·next hc=>
     split at h
     ·next out hs=>
      cases h
      obtain⟨e1,e2⟩:=Az hE
      simp only [ζ4,θ2]at hD XS
      cases m with
      |zero=>
       cases hm
       refine⟨by simp,o,x,H,ho,hx,rfl,?_⟩
       have:=BN (P:=P) (ks:=ks) (G0:=G0) (w0:=w0) hX hs e1
       rw [hD.1,XS.1]at this
       exact this
      |succ m=>
       have:=Ht hX h1 e2 hD.2 XS.2 y8 m p H' (by simpa using hm)
       simpa using this
     ·cases h
   ·cases h
  ·cases h
theorem Es {ops:Array Oper}{pc:List (Nat×SV)}:∀{l:List Oper} {j:Nat} {T:List (Nat×SV)} {H:Hp} {xs:List SV} {es:List (Nat×Hp)},Jb X n ops pc cl l j T H=some (xs,es)→xs.length=l.length
 | [],_,_,_,_,_,h=>by cases h;rfl
 | o ::l,j,T,H,xs,es,h=>by
  unfold Jb at h
  split at h
  ·split at h
   ·next xs' sN h1=>cases h;simp [Es h1]
   ·cases h
  ·split at h
   ·split at h
    ·next xs' sN h1=>cases h;simp [Es h1]
    ·cases h
   ·split at h
    ·split at h
     ·next xs' sN h1=>cases h;simp [Es h1]
     ·cases h
    ·rw [Hr]at h
     split at h
     ·next xs' sN h1=>cases h;simp [Es h1]
     ·cases h
    ·rw [Hr]at h
     split at h
     ·next xs' sN h1=>cases h;simp [Es h1]
     ·cases h
    ·cases h
def Lv:Hp→List (Nat×Hp)→Hp
 |H,[]=>H
 |_,(_,H)::es=>Lv H es
theorem OH:∀(es:List (Nat×Hp)) (H:Hp),(H::es.map (·.2))[es.length]?=some (Lv H es)
 | [],H=>rfl
 |(p,H')::es,H=>by simpa [Lv]using OH es H'
theorem C7 {ops:Array Oper}{Tw:List (Nat×SV)}{H:Hp}{o:Oper}{f:Nat}{az:List SV}{x:SV}(h:B6 n ops Tw o=some (f,az))(KO:Hf 0 az=true)(hf:Fn P f az [] (Rt x [])):Bd P n ops ks G0 w0 Tw H o x H:=by
 intro G a w A
 obtain⟨Ca,hf⟩:=hf
 obtain⟨hd,vs,hv,I2⟩:=Ci (P:=P) (ops:=ops) A h Ca
 have hM:Mem [] [] w:=⟨rfl,fun i e h=>(by cases h),fun i j e f L M _ h=>(by cases h)⟩
 have AZ:Al [] az=some vs:=by
  have:=Bv (G:=G) az KO
  simp only [ι6]at this
  rw [this];exact hv
 refine I2 (hf [] w vs hM AZ) ?_
 rintro e w' ⟨y,H',F,v,⟨rfl,rfl⟩,hx,rfl,Qc,DN,_⟩
 have hF:F=[]:=by have:=Qc.len;simp at this;exact δ3 this.symm
 subst hF
 have hg:CI w w':=⟨DN.os,DN.tape,DN.output,DN.size,fun k hk=>DN.block k hk rfl⟩
 refine⟨v,rfl,[],?_,by simpa using A.ms.grow hg⟩
 have:=BF (G:=[]) G y (by simpa using hx)
 simpa using this
def OI (n:Nat) (ops:Array Oper) (T:List (Nat×SV)) (o:Oper):Option (Bool×Nat×List SV×Ob):=match DD n o.dst with
 | true=>match BE ops T o.guard with
  | some (.sym b)=>match o.op with
   | .call c=>match c.callee with
    | .value x=>match G8 (some b) T x with
     |some (.fn f l,E0)=>match N5 (some b) T c.args.toList with
      |some (az,E)=>some (b,f,az++l,E0++E)
      |_=>none
     |_=>none
    |_=>none
   |_=>none
  |_=>none
 |false=>none
theorem OJ {ops:Array Oper}{o:Oper}{H:Hp}{T:List (Nat×SV)}{G:Gr}{a:Act}{w:World}(A:Sy n T H ks G0 w0 G a w){b:Bool}{f:Nat}{az:List SV}{E:Ob}(h:OI n ops T o=some (b,f,az,E))(hE:Dr E)(Ca:b=true→F3 P f=some (false,false)):(b=false→Region.wanted o (yielded ops a.tmps)=false)∧(b=true→∃vs,Al G az=some vs∧∀{R:Ending→World→Prop} {K:Value→World→Prop},Calls P f vs.toArray w R→(∀e w',R e w'→∃v,e=.returned v∧K v w')→Bq P ops o a w K):=by
 obtain⟨d,i,ty,pos,af,gd⟩:=o
 unfold OI at h
 split at h
 ·next hd=>
  split at h
  ·next b' hg=>
   have hw:=PW A hg
   split at h
   ·next c hc=>
    simp only at hc
    subst hc
    obtain⟨callee,args,ats⟩:=c
    simp only at h
    split at h
    ·next x=>
     split at h
     ·next f' l E0 hx=>
      split at h
      ·next az' E' hs=>
       cases h
       refine⟨fun hb=>by rw [hw,hb],fun hb=>?_⟩
       subst hb
       have h1:=A.evg (fun g hg=>by cases hg;rfl) hx (Az hE).1
       unfold den at h1
       obtain⟨ls,h2,h3⟩:=γ9.1 h1
       obtain⟨us,h4,h5⟩:=IK A hs
       have h6:=h5 (Az hE).2 (fun g hg=>by cases hg;rfl)
       refine⟨us++ls,C0 h4 h2,fun hc hk=>?_⟩
       refine Q3 (lb:=ls.toArray) (vs:=us.toArray) (us:=(us++ls).toArray) hw h3.symm (Ca rfl) ?_ (by simp) hc hk
       rw [←h6];apply μ1;simp
      ·cases h
     ·cases h
    ·cases h
   ·cases h
  ·cases h
 ·cases h
theorem Sd {ops:Array Oper}{Tw:List (Nat×SV)}{H:Hp}{o:Oper}{b:Bool}{f:Nat}{az:List SV}{E:Ob}{x:SV}{v0:Value}(h:OI n ops Tw o=some (b,f,az,E))(hE:Dr E)(KO:Hf 0 az=true)(wM:den [] x=some v0)(hf:b=true→Fn P f az [] (Rt x [])):Bd P n ops ks G0 w0 Tw H o (.opt b x) H:=by
 intro G a w A
 obtain⟨k1,k2⟩:=OJ (P:=P) (ops:=ops) A h hE (fun hb=>(hf hb).1)
 cases b with
 |false=>
  refine FV (k1 rfl) ⟨[],?_,by simpa using A.ms⟩
  have:=BF (G:=[]) G x (by simpa using wM)
  simp at this
  simp [den,this]
 | true=>
  obtain⟨Ca,hf⟩:=hf rfl
  obtain⟨vs,hv,I2⟩:=k2 rfl
  have hM:Mem [] [] w:=⟨rfl,fun i e h=>(by cases h),fun i j e f L M _ h=>(by cases h)⟩
  have AZ:Al [] az=some vs:=by
   have:=Bv (G:=G) az KO
   simp only [ι6]at this
   rw [this];exact hv
  refine I2 (hf [] w vs hM AZ) ?_
  rintro e w' ⟨y,H',F,v,⟨rfl,rfl⟩,hx,rfl,Qc,DN,_⟩
  have hF:F=[]:=by have:=Qc.len;simp at this;exact δ3 this.symm
  subst hF
  have hg:CI w w':=⟨DN.os,DN.tape,DN.output,DN.size,fun k hk=>DN.block k hk rfl⟩
  refine⟨v,rfl,[],?_,by simpa using A.ms.grow hg⟩
  have:=BF (G:=[]) G y (by simpa using hx)
  simp at this
  simp [den,this]
def k9 (P:Program)(n:Nat)(ops:Array Oper)(Tw:List (Nat×SV))(o:Oper)(x:SV):Prop:=
 (∃f az,B6 n ops Tw o=some (f,az)∧Hf 0 az=true∧Fn P f az [] (Rt x []))∨∃b y f az E v0,OI n ops Tw o=some (b,f,az,E)∧x=.opt b y∧Dr E∧Hf 0 az=true∧den [] y=some v0∧(b=true→Fn P f az [] (Rt y []))
def OL (P:Program)(n:Nat)(ops:Array Oper)(l:List Oper)(xs:List SV)(T:List (Nat×SV)):List (Nat×SV)→Prop
 | []=>True
 |(j,x)::pc=>(match lg l j with|some o=>k9 P n ops (Kd o l xs 0 T) o x|none=>True)∧OL P n ops l xs T pc
theorem ZW {ops:Array Oper}:∀{pc:List (Nat×SV)} {j:Nat} {x:SV} {o:Oper},OL P n ops l xs T pc→look pc j=some x→l[j]?=some o→k9 P n ops (Kd o l xs 0 T) o x
 | [],_,_,_,_,h,_=>by cases h
 | (k,y)::pc,j,x,o,hA,h,ho=>by
  unfold look at h
  cases hb:Nat.beq k j with
  |true=>
   rw [hb]at h
   cases h
   have:=α9 hb
   subst this
   have:=hA.1
   rw [BI,ho]at this
   exact this
  |false=>rw [hb]at h;exact ZW hA.2 h ho
structure rX where
 xs:List SV
 es:List (Nat×Hp)
 D:List (SV×SV)
 DH:List (Hp×Hp)
 E:Ob
def Q8 (X:Tx)(n:Nat)(pc:List (Nat×SV))(cl:List (Nat×SV×Hp))(l:List Oper)(T:List (Nat×SV))(H:Hp):Option rX:=match Jb X n l.toArray pc cl l 0 T H with
 | some (xs,es)=>match OG X n l.toArray l xs T es (H::es.map (·.2)) pc l xs 0 with
  |some (D,E)=>match Q7 X n l.toArray l xs T cl es H with
   |some (D',DH,E')=>bif Ex l.toArray es then some ⟨xs,es,D++D',DH,E++E'⟩else none
   |none=>none
  |none=>none
 |none=>none
theorem ZX {id:Nat} {H:Hp} {G:Gr} {a:Act} {w:World} {K:List Fr} {r:rX} (hX:X.ok P=true) (By:P.follows .mixedOrders=true) (pc:List (Nat×SV)) (cl:List (Nat×SV×Hp)) (A:Sy n T H ks G0 w0 G a w) (h:Q8 X n pc cl l (Dt l T) H=some r) (hE:Dr r.E) (hD:r.D.map (·.1)=r.D.map (·.2)) (XS:r.DH.map (·.1)=r.DH.map (·.2)) (GN:KR l.toArray n []=true)
  (hA:JG P n l.toArray ks G0 w0 l r.xs (Dt l T) cl r.es H) (hP:OL P n l.toArray l r.xs (Dt l T) pc) (hk:∀{G a w},Sy n (JF l r.xs (Dt l T)) (Lv H r.es) ks G0 w0 G a w→Goal P Q K .norm a w):Goal P Q K (.code (.region id l.toArray true)) a w:=by
 unfold Q8 at h
 split at h
 ·next xs es h1=>
  split at h
  ·next D E h2=>
   split at h
   ·next D' DH E' h3=>
    cases hc:Ex l.toArray es with
    |false=>rw [hc]at h;cases h
    | true=>
     rw [hc]at h
     cases h
     obtain⟨e1,e2⟩:=Az hE
     simp only [ζ5]at hD
     obtain⟨d1,d2⟩:=ξ2 hD (by
      have:=congrArg List.length hD
      simp at this⊢)
     refine ρ0 By ?_
     have hB:Ms H ks G0 w0 G w.drew:=A.ms.grow (CI.refl w).drew
     refine UX (P:=P) (X:=X) (xs:=xs) (es:=es) (hs:=H::es.map (·.2)) (T:=Dt l T) hX GN hc (fun t x hx j o h3 h4 i hi Ch=>Mu (by have:=Hs (EG hx).2 j o h3 h4;rwa [ε0]at this) i hi Ch) (Es h1) (by simp) (fun i o hi he=>?_) (Ht hX h3 e2 d2 XS hA) (fun G a w H' ZG A'=>?_) _ _ _ _ 0 G (by simp) (by
      refine β4 (κ3 _ _) (by simp)) ⟨A.size,A.defers,fun t x hx _=>A.get t x (EG hx).1,fun j o x d _ hj=>?_,⟨H,rfl,hB⟩,fun i p H' hi=>?_,fun j o p _ hj=>?_⟩
     ·obtain⟨x,g1,g2⟩:=Kf h2 e1 d1 i o hi (by rw [ε0];exact he)
      rw [ε0]at g2
      refine⟨x,g1,fun k H hk hm=>?_⟩
      rcases g2 with g2|g2
      ·rcases ZW hP g2 hi with⟨f,az,c1,c2,c3⟩|⟨b,y,f,az,E,v0,c1,rfl,c3,c4,c5,c6⟩
       ·exact C7 c1 c2 c3
       ·exact Sd c1 c3 c4 c5 c6
      ·obtain⟨F,s1,s2⟩:=g2 k H hk hm
       exact BN (out:=.val x F) hX s1 s2
     ·rw [OH]at ZG
      cases ZG
      exact hk A'
     ·exfalso;simp [β3,ζ0]at hj;split at hj<;>simp at hj
     ·constructor
      ·intro hj;exfalso;simp [β3,ζ0]at hj;split at hj<;>simp at hj
      ·intro hj;omega
     ·exfalso;simp [β3,ζ0]at hj;split at hj<;>simp at hj
   ·cases h
  ·cases h
 ·cases h
theorem b0 {Y:Tb} {id:Nat} {H:Hp} {G:Gr} {a:Act} {w:World} {K:List Fr} {r:rX} (hX:Y.ok P=true) (By:P.follows .mixedOrders=true) (pc:List (Nat×SV)) (cl:List (Nat×SV×Hp)) (A:Sy n T H ks G0 w0 G a w) (h:Q8 ⟨Y,false⟩ n pc cl l (Dt l T) H=some r) (hE:Dr r.E) (hD:r.D.map (·.1)=r.D.map (·.2)) (XS:r.DH.map (·.1)=r.DH.map (·.2)) (GN:KR l.toArray n []=true)
  (hA:JG P n l.toArray ks G0 w0 l r.xs (Dt l T) cl r.es H) (hP:OL P n l.toArray l r.xs (Dt l T) pc) (hk:∀{G a w},Sy n (JF l r.xs (Dt l T)) (Lv H r.es) ks G0 w0 G a w→Goal P Q K .norm a w):Goal P Q K (.code (.region id l.toArray true)) a w:=ZX (X:=⟨Y,false⟩) hX By pc cl A h hE hD XS GN hA hP hk
theorem Ba {Y:Tb} {id:Nat} {H:Hp} {G:Gr} {a:Act} {w:World} {K:List Fr} {r:rX} (hX:Y.ok P=true) (By:P.follows .mixedOrders=true) (pc:List (Nat×SV)) (cl:List (Nat×SV×Hp)) (A:Sy n T H ks G0 w0 G a w) (h:Q8 ⟨Y,true⟩ n pc cl l (Dt l T) H=some r) (hE:Dr r.E) (hD:r.D.map (·.1)=r.D.map (·.2)) (XS:r.DH.map (·.1)=r.DH.map (·.2)) (GN:KR l.toArray n []=true)
  (hA:JG P n l.toArray ks G0 w0 l r.xs (Dt l T) cl r.es H) (hP:OL P n l.toArray l r.xs (Dt l T) pc) (hk:∀{G a w},Sy n (JF l r.xs (Dt l T)) (Lv H r.es) ks G0 w0 G a w→Goal P Q K .norm a w):Goal P Q K (.code (.region id l.toArray true)) a w:=ZX (X:=⟨Y,true⟩) hX By pc cl A h hE hD XS GN hA hP hk
end
theorem _root_.Go.Proofs.YtbbdanhpphlbpaaGreatDoor.Cj {a b k:Nat}(h:a=b)(h2:Nat.ble a k=true):b≤k:=h▸ε1 h2
def lA (k:Nat):List (Nat×SV)→Bool
 | []=>true
 |(_,x)::T=>LQ k x&&lA k T
theorem PY {k:Nat}:∀{T:List (Nat×SV)} {t:Nat} {x:SV},lA k T=true→look T t=some x→LQ k x=true
 | [],_,_,_,h=>by cases h
 |(j,y)::T,t,x,hb,h=>by
  simp only [lA,α3]at hb
  unfold look at h
  cases hc:Nat.beq j t with
  |true=>rw [hc]at h;cases h;exact hb.1
  |false=>rw [hc]at h;exact PY hb.2 h
def ZY (k:Nat):Hp→Bool
 | []=>true
 |some (.blk cs)::H=>Hf k cs&&ZY k H
 |_::H=>ZY k H
theorem UY {k:Nat}:∀{H:Hp} {i:Nat} {cs:List SV},ZY k H=true→H[i]?=some (some (.blk cs))→Hf k cs=true
 | [],_,_,_,h=>by cases h
 |x::H,0,cs,hb,h=>by cases h;simp only [ZY,α3]at hb;exact hb.1
 |x::H,i+1,cs,hb,h=>by
  refine UY (H:=H) (i:=i) ?_ h
  unfold ZY at hb
  split at hb
  ·next h=>cases h
  ·next h=>cases h;rw [α3]at hb;exact hb.2
  ·next h=>cases h;exact hb
mutual
def nb:SV→SV
 | .tt=>.bool true
 | .ff=>.bool false
 | .agg l=>.agg (CK l)
 | .tup l=>.tup (CK l)
 |x=>x
def CK:List SV→List SV
 | []=>[]
 |x::l=>nb x::CK l
end
mutual
theorem PZ {G:Gr}:∀(x:SV),den G (nb x)=den G x
 | .tt=>rfl
 | .ff=>rfl
 | .agg l=>by simp only [nb,den,IQ l]
 | .tup l=>by simp only [nb,den,IQ l]
 | .ptr _ _=>rfl
 | .el _ _ _ _=>rfl
 | .ix _ _ _ _ _=>rfl
 | .sl _ _ _=>rfl
 | .fn _ _=>rfl
 | .opt _ _=>rfl
 | .int _ _=>rfl
 | .bool _=>rfl
 | .str _=>rfl
 | .sla _ _ _=>rfl
 | .sp _ _ _=>rfl
 | .st _ _ _ _ _=>rfl
 | .v _=>rfl
theorem IQ {G:Gr}:∀(l:List SV),Al G (CK l)=Al G l
 | []=>rfl
 |x::l=>by simp only [CK,Al,PZ x,IQ l]
end
def CC:Hp→Hp
 | []=>[]
 |some (.blk cs)::H=>some (.blk (CK cs))::CC H
 |e::H=>e::CC H
theorem Pa:∀(H:Hp) (i:Nat),(CC H)[i]?=(H[i]?).map fun e=>match e with|some (.blk cs)=>some (.blk (CK cs))|e=>e
 | [],i=>by simp [CC]
 |e::H,0=>by
  cases e with
  |none=>rfl
  |some q=>cases q<;>rfl
 |e::H,i+1=>by
  have:=Pa H i
  cases e with
  |none=>simpa [CC]using this
  |some q=>cases q<;>simpa [CC]using this
theorem Q9 (H:Hp):(CC H).length=H.length:=by
 induction H with
 |nil=>rfl
 |cons e H ih=>
  cases e with
  |none=>simp [CC,ih]
  |some q=>cases q<;>simp [CC,ih]
theorem J7 {H H2:Hp}(h:CC H=CC H2)(i:Nat)(e:Bo)(he:H2[i]?=some (some e)):∃e',H[i]?=some (some e')∧e'.mut=e.mut∧(e'.empty↔e.empty)∧∀G w p,BK G w p e'→BK G w p e:=by
 have h1:=Pa H i
 have h2:=Pa H2 i
 rw [h,h2,he]at h1
 cases hq:H[i]? with
 |none=>rw [hq]at h1;simp at h1
 | some o=>
  rw [hq]at h1
  cases o with
  |none=>cases e<;>simp at h1
  | some e'=>
   cases e with
   | blk cs=>
    cases e' with
    |blk cs'=>
     simp at h1
     refine⟨_,rfl,rfl,π9,fun G w p AW=>?_⟩
     obtain⟨L,vs,k1,k2,k3⟩:=AW
     exact⟨L,vs,k1,by rw [←IQ,h1,IQ];exact k2,k3⟩
    |lst=>simp at h1
    |row=>simp at h1
    |fac=>simp at h1
   |fac b o=>
    cases e' with
    |blk cs'=>simp at h1
    |lst=>simp at h1
    |row=>simp at h1
    |fac=>simp at h1;obtain⟨rfl,rfl⟩:=h1;exact⟨_,rfl,rfl,π9,fun G w p AW=>AW⟩
   |lst s n f=>
    cases e' with
    |blk cs'=>simp at h1
    |lst=>simp at h1;obtain⟨rfl,rfl,rfl⟩:=h1;exact⟨_,rfl,rfl,π9,fun G w p AW=>AW⟩
    |row=>simp at h1
    |fac=>simp at h1
   |row a b c d f=>
    cases e' with
    |blk cs'=>simp at h1
    |lst=>simp at h1
    |fac=>simp at h1
    |row=>simp at h1;obtain⟨rfl,rfl,rfl,rfl,rfl⟩:=h1;exact⟨_,rfl,rfl,π9,fun G w p AW=>AW⟩
section
variable {P:Program}{X:Tx}{n:Nat}{ks:List Nat}{G0:Gr}{w0:World}{T:List (Nat×SV)}{H:Hp}{G:Gr}{a:Act}{w:World}{Q:Exit→Act→World→Prop}
theorem Sy.sayT (A:Sy n T H ks G0 w0 G a w){T':List (Nat×SV)}(h:T=T'):Sy n T' H ks G0 w0 G a w:=h▸A
theorem Sy.sayH (A:Sy n T H ks G0 w0 G a w){H':Hp}(h:H=H'):Sy n T H' ks G0 w0 G a w:=h▸A
theorem Sy.say (A:Sy n T H ks G0 w0 G a w)(t:Nat)(y:SV){x:SV}(h:look T t=some x)(e:x=y):Sy n ((t,y)::T) H ks G0 w0 G a w:=
 ⟨A.size,A.defers,fun s z hz=>by
  simp only [look]at hz
  cases hc:Nat.beq t s with
  |true=>rw [hc]at hz;cases hz;have:=α9 hc;subst this;subst e;exact A.get t _ h
  |false=>rw [hc]at hz;exact A.get s z hz,A.mem,A.pre,A.own,A.mix⟩
def Xo (T:List (Nat×SV)):List Nat→Option (List (Nat×SV))
 | []=>some []
 |t::l=>match look T t,Xo T l with
  |some x,some r=>some ((t,x)::r)
  |_,_=>none
theorem OM {T:List (Nat×SV)}:∀{l:List Nat} {r:List (Nat×SV)},Xo T l=some r→∀t x,look r t=some x→look T t=some x
 | [],r,h,t,x,hx=>by cases h;cases hx
 | k::l,r,h,t,x,hx=>by
  unfold Xo at h
  split at h
  ·next y r' hy hr=>
   cases h
   simp only [look]at hx
   cases hb:Nat.beq k t with
   |true=>rw [hb]at hx;cases hx;rw [←α9 hb];exact hy
   |false=>rw [hb]at hx;exact OM hr t x hx
  ·cases h
theorem Sy.cut (A:Sy n T H ks G0 w0 G a w)(l:List Nat){T':List (Nat×SV)}(h:Xo T l=some T'):Sy n T' H ks G0 w0 G a w:=
 ⟨A.size,A.defers,fun t x hx=>A.get t x (OM h t x hx),A.mem,A.pre,A.own,A.mix⟩
theorem Sy.trunc (A:Sy n T H ks G0 w0 G a w)(k:Nat){H':Hp}(hT:lA k T=true)(hH:H.take k=H')(hi:ZY k H'=true)(hk:G0.length≤k):Sy n T H' ks G0 w0 (G.take k) a w:=by
 have at_:∀(i:Nat) (e:Bo),H'[i]?=some (some e)→H[i]?=some (some e)∧i<k:=by
  intro i e h
  rw [←hH]at h
  have ZD:i<k:=by
   have:=(α0.1 h).1
   simp at this;omega
  rw [γ1 ZD]at h
  exact⟨h,ZD⟩
 have hG:∀i,i<k→(G.take k)[i]?=G[i]?:=fun i h=>γ1 h
 refine⟨A.size,A.defers,fun t x hx=>by rw [DZ x (PY hT hx)];exact A.get t x hx,⟨by rw [←hH];simp [A.mem.len],fun i e h=>?_,fun i j e f L M IA h1 h2 h3 h4 h5=>?_⟩,?_,fun i e L h1 h2 h3=>?_,A.mix⟩
 ·obtain⟨h1,h2⟩:=at_ i e h
  rw [hG i h2]
  have:=A.mem.ent i e h1
  cases e with
  |blk cs=>
   obtain⟨L,vs,q1,q2,q3⟩:=this
   exact⟨L,vs,q1,by rw [Bv cs (UY hi h)];exact q2,q3⟩
  |lst=>exact this
  |fac=>exact this
  |row=>exact this
 ·obtain⟨a1,a2⟩:=at_ i e h1
  obtain⟨b1,b2⟩:=at_ j f h2
  rw [hG i a2]at h4
  rw [hG j b2]at h5
  exact A.mem.sep i j e f L M IA a1 b1 h3 h4 h5
 ·obtain⟨F,hF⟩:=A.pre
  exact⟨F.take (k - G0.length),by rw [hF,List.take_append,ε7 hk]⟩
 ·obtain⟨a1,a2⟩:=at_ i e h1
  rw [hG i a2]at h3
  exact A.own i e L a1 h2 h3
theorem tK {Y:Tb}{fn:Func}{x:SV}{H2 H0:Hp}(hX:Y.ok P=true){y:SV}{H':Hp}{r:List SV}{rv:List ResultVar}(A:Sy n T H (keys H0 G0) G0 w0 G a w)(hr:fn.results.toList=rv)(hv:JE ⟨Y,false⟩ T H rv=some r)(hy:BA r=y)(h0:H0.length=G0.length)(hi:LQ H0.length y=true)(hH:H.take H0.length=H')(hj:ZY H0.length H'=true)(ZE:Q0 H0 H2=UV H2)(hR:nb y=nb x)(hS:CC H'=CC H2):bodyPost P fn (Mr (Rt x H2) H0 G0 w0) .ret a w:=by
 obtain⟨v,h1,h2⟩:=G9 (X:=⟨Y,false⟩) (fn:=fn) hX A hr hv hy
 have A':=(A.cut [] rfl).trunc H0.length rfl hH hj (by omega)
 obtain⟨F,hF⟩:=A.pre
 have hG:G.take H0.length=G0:=by rw [hF,h0];simp
 rw [hG]at A'
 have Ma:H2.length=H'.length:=by rw [←Q9 H2,←hS,Q9]
 refine⟨A.defers,v,h2,x,H2,[],v,⟨rfl,rfl⟩,?_,rfl,?_,A.mix,?_,FC ZE,fun i e he hm L hL=>?_⟩
 ·rw [ε9,←PZ,←hR,PZ,←hG,DZ y hi];exact h1
 ·rw [ε9]
  refine⟨by rw [Ma];exact A'.mem.len,fun i e he=>?_,fun i j e f L M IA he hf hm hL hM Ch=>?_⟩
  ·obtain⟨e',k1,_,_,k2⟩:=J7 hS i e he
   exact k2 _ _ _ (A'.mem.ent i e' k1)
  ·obtain⟨e',k1,k2,_,_⟩:=J7 hS i e he
   obtain⟨f',l1,_,l2,_⟩:=J7 hS j f hf
   exact A'.mem.sep i j e' f' L M IA k1 l1 (by rw [k2];exact hm) hL hM (fun h=>Ch (l2.1 h))
 ·rw [Ma,A'.mem.len];exact β7 _
 ·rw [ε9]at hL
  obtain⟨e',k1,k2,_,_⟩:=J7 hS i e he
  exact A'.own i e' L k1 (by rw [k2];exact hm) hL
theorem cA {β:Type} {c:Code} {K:List Fr} (T':β→List (Nat×SV)) (H':β→Hp) (I:β→Prop) (μ:β→Nat) (z:β) (hI:I z) (A:Sy n (T' z) (H' z) ks G0 w0 G a w)
  (round:∀z,I z→∀{G a w},Sy n (T' z) (H' z) ks G0 w0 G a w→Goal P Q (.lp (fun a w=>∃z' G,μ z'<μ z∧I z'∧Sy n (T' z') (H' z') ks G0 w0 G a w)::K) (.code c) a w):Goal P Q K (.code (.loop c)) a w:=by
 refine Mf (fun m a w=>∃z G,μ z=m∧I z∧Sy n (T' z) (H' z) ks G0 w0 G a w) (μ z) ⟨z,G,rfl,hI,A⟩ ?_
 rintro m a w ⟨z,G,rfl,hz,A⟩
 refine ξ8 (fun e a' w' h=>?_) (round z hz A)
 cases e with
 |normal=>obtain⟨z',G',h1,h2,h3⟩:=h;exact⟨μ z',h1,z',G',rfl,h2,h3⟩
 |_=>exact h
theorem B7 {α:Type} {c:Code} {K:List Fr} (T':α→List (Nat×SV)) (H':α→Hp) (I:α→Prop) (μ:α→Nat) (x:α) (hI:I x) (A:Sy n (T' x) (H' x) ks G0 w0 G a w)
  (round:∀x,I x→∀{G a w},Sy n (T' x) (H' x) ks G0 w0 G a w→Goal P Q (.lp (fun a w=>∃x' G,μ x'<μ x∧I x'∧Sy n (T' x') (H' x') ks G0 w0 G a w)::K) (.code c) a w):Goal P Q K (.code (.loop c)) a w:=cA T' H' I μ x hI A round
theorem RB {c:Code}{K:List Fr}{J J':Act→World→Prop}(h:∀a w,J a w→J' a w)(hg:Goal P Q (.lp J::K) (.code c) a w):Goal P Q (.lp J'::K) (.code c) a w:=by
 refine ξ8 (fun e a' w' hq=>?_) hg
 cases e with
 |normal=>exact h _ _ hq
 |_=>exact hq
theorem ON {α β:Type} {c:Code} {K:List Fr} (T':α→β→List (Nat×SV)) (H':α→β→Hp) (I:α→β→Prop) (μ:α→β→Nat) (x:α) (y:β) (hI:I x y) (A:Sy n (T' x y) (H' x y) ks G0 w0 G a w)
  (round:∀x y,I x y→∀{G a w},Sy n (T' x y) (H' x y) ks G0 w0 G a w→Goal P Q (.lp (fun a w=>∃x' y' G,μ x' y'<μ x y∧I x' y'∧Sy n (T' x' y') (H' x' y') ks G0 w0 G a w)::K) (.code c) a w):Goal P Q K (.code (.loop c)) a w:=
 cA (fun z:α×β=>T' z.1 z.2) (fun z=>H' z.1 z.2) (fun z=>I z.1 z.2) (fun z=>μ z.1 z.2) (x,y) hI A fun z hz {G a w} A=>RB (fun a w ⟨x',y',G,h1,h2,h3⟩=>⟨(x',y'),G,h1,h2,h3⟩) (round z.1 z.2 hz A)
theorem lB {α β γ:Type} {c:Code} {K:List Fr} (T':α→β→γ→List (Nat×SV)) (H':α→β→γ→Hp) (I:α→β→γ→Prop) (μ:α→β→γ→Nat) (x:α) (y:β) (u:γ) (hI:I x y u) (A:Sy n (T' x y u) (H' x y u) ks G0 w0 G a w)
  (round:∀x y u,I x y u→∀{G a w},Sy n (T' x y u) (H' x y u) ks G0 w0 G a w→Goal P Q (.lp (fun a w=>∃x' y' u' G,μ x' y' u'<μ x y u∧I x' y' u'∧Sy n (T' x' y' u') (H' x' y' u') ks G0 w0 G a w)::K) (.code c) a w):Goal P Q K (.code (.loop c)) a w:=
 cA (fun z:α×β×γ=>T' z.1 z.2.1 z.2.2) (fun z=>H' z.1 z.2.1 z.2.2) (fun z=>I z.1 z.2.1 z.2.2) (fun z=>μ z.1 z.2.1 z.2.2) (x,y,u) hI A fun z hz {G a w} A=>RB (fun a w ⟨x',y',u',G,h1,h2,h3⟩=>⟨(x',y',u'),G,h1,h2,h3⟩) (round z.1 z.2.1 z.2.2 hz A)
end
theorem Aj {p:Prop}[Decidable p]{E:Ob}(h:p)(k:Dr E):Dr ((decide p,true)::E):=by unfold Dr at*;simp [h,k]
theorem Hu {b:Bool}{p:Prop}[Decidable p]{E:Ob}(h:b=true→p)(k:Dr E):Dr ((!b||decide p,true)::E):=by
 unfold Dr at*
 cases b with
 |false=>simp [k]
 |true=>simp [h rfl,k]
theorem Bw {b:Bool}{E:Ob}(k:Dr E):Dr ((b,b)::E):=by unfold Dr at*;simp [k]
theorem HA {w:World}{e s n:Nat}{v:Value}{xs:List Value}(h:w.ownsRow 0 e s v n xs):∃(p:Option Loc),v=.slice (p.map fun L=>⟨L.b,L.pre.length,none⟩) n (0+rm p)∧(∀L,p=some L→L.pre=[])∧v.ownBlock=p.map (·.b):=by
 rcases h.2 with⟨rfl,rfl⟩|⟨g,cap,cur,rfl,_⟩
 ·exact⟨none,rfl,fun L h=>(by cases h),rfl⟩
 ·exact⟨some ⟨g,[],List.replicate cap undef,e⟩,by simp [rm],fun L h=>(by cases h;rfl),rfl⟩
section
variable {P:Program}{X:Tx}{n:Nat}{ks:List Nat}{G0:Gr}{w0:World}{T:List (Nat×SV)}{H:Hp}{G:Gr}{a:Act}{w w':World}{Q:Exit→Act→World→Prop}{K:List Fr}{ops:Array Oper}{o:Oper}{rest:List Oper}
theorem Sy.rowMove (A:Sy n T H ks G0 w0 G a w) {i e s m c m' c':Nat} {f f':Nat→List SV} {xs':List Value} {p':Option Loc} (hi:H[i]?=some (some (.row e s m c f)))
  (hg:w.grownBy w' (((G[i]?).getD none).map (·.b))) (EA:w'.ownsRow 0 e s (.slice (p'.map fun L=>⟨L.b,L.pre.length,none⟩) m' (c'+rm p')) m' xs') (AM:∀L,p'=some L→L.pre=[]) (PC:p'.map (·.b)=((G[i]?).getD none).map (·.b)∨p'.map (·.b)=some w.heap.size)
  (hf:CX f' m'=some xs') (CD:∀k,∃vs,Al [] (f' k)=some vs∧vs.length=s):Sy n T (Cd H i none++[some (.row e s m' c' f')]) ks G0 w0 (G++[p']) a w':=by
 have hlen:=A.mem.len
 have G6:i<H.length:=(α0.1 hi).1
 have Qa:(Cd H i none).length=H.length:=by rw [BJ];simp
 obtain⟨q,hq⟩:∃q,G[i]?=some q:=⟨G[i],by simp [←hlen,G6]⟩
 rw [hq]at hg PC
 simp only [γ8]at hg PC
 have hold:∀(j:Nat) (x:Bo),(Cd H i none++[some (.row e s m' c' f')])[j]?=some (some x)→(j≠i∧H[j]?=some (some x)∧j<H.length)∨(j=H.length∧x=.row e s m' c' f'):=by
  intro j x h
  by_cases hj:j<H.length
  ·rw [α1 (by omega),BJ]at h
   by_cases Fu:j=i
   ·subst Fu;rw [γ7 G6]at h;cases h
   ·rw [γ0 (ζ1 Fu)]at h;exact .inl ⟨Fu,h,hj⟩
  ·rw [α2 (by omega),Qa]at h
   have:j - H.length=0:=by
    cases hq:j - H.length with
    |zero=>rfl
    |succ k=>rw [hq]at h;simp at h
   rw [this]at h
   simp at h
   exact .inr ⟨by omega,h.symm⟩
 have hG:∀j,j<H.length→(G++[p'])[j]?=G[j]?:=fun j hj=>α1 (by omega)
 have ZH:(G++[p'])[H.length]?=some p':=by rw [α2 (by omega),hlen];simp
 have Dk:∀(j:Nat) (x:Bo) (L:Loc),j≠i→H[j]?=some (some x)→G[j]?=some (some L)→¬x.empty→q.map (·.b)≠some L.b∧L.b<w.heap.size:=by
  intro j x L Fu hx hL Ch
  have Bn:L.b<w.heap.size:=by
   have:=A.mem.ent j x hx
   rw [hL]at this
   exact BK.lt this Ch
  refine⟨fun hb=>?_,Bn⟩
  cases q with
  |none=>cases hb
  |some M=>
   simp only [δ4,β2]at hb
   exact A.mem.sep i j _ x M L (ζ1 Fu) hi hx rfl hq hL Ch hb
 have T5:DO (match q with|some M=>[M.b]|none=>[]) w w':=⟨hg.os,hg.tape,hg.output,hg.size,fun k hk hc=>hg.block k hk (fun hb=>by
  cases q with
  |none=>cases hb
  |some M=>simp at hb hc;exact hc hb)⟩
 have iX:∀L,p'=some L→(ks.contains L.b=true∨w0.heap.size≤L.b):=by
  intro L hL
  subst hL
  rcases PC with h|h
  ·cases q with
   |none=>cases h
   |some M=>simp at h;rw [h];exact A.own i _ M hi rfl hq
  ·simp at h;right;rw [h];exact A.mix.size
 refine⟨A.size,A.defers,fun t x hx=>BF _ x (A.get t x hx),⟨by simp [Qa,hlen],?_,?_⟩,?_,?_,?_⟩
 ·intro j x h
  rcases hold j x h with⟨h1,h2,h3⟩|⟨rfl,rfl⟩
  ·rw [hG j h3]
   refine((A.mem.ent j x h2).mix T5 fun Ch L hL=>?_).more _
   have:=(Dk j x L h1 h2 (DS hL) Ch).1
   cases q with
   |none=>rfl
   |some M=>simp at this⊢;exact fun h=>this h.symm
  ·rw [ZH];exact⟨CD,AM,xs',hf,EA⟩
 ·intro j k x y L M HY h1 h2 h3 h4 h5 h6
  rcases hold j x h1 with⟨a1,a2,a3⟩|⟨rfl,rfl⟩
  ·rw [hG j a3]at h4
   rcases hold k y h2 with⟨b1,b2,b3⟩|⟨rfl,rfl⟩
   ·rw [hG k b3]at h5;exact A.mem.sep j k x y L M HY a2 b2 h3 h4 h5 h6
   ·rw [ZH]at h5
    cases h5
    obtain⟨g1,g2⟩:=Dk j x L a1 a2 h4 (Bf h3)
    intro iT
    rcases PC with h|h
    ·rw [←h]at g1;simp at g1;exact g1 iT.symm
    ·simp at h;omega
  ·rw [ZH]at h4
   cases h4
   rcases hold k y h2 with⟨b1,b2,b3⟩|⟨rfl,rfl⟩
   ·rw [hG k b3]at h5
    obtain⟨g1,g2⟩:=Dk k y M b1 b2 h5 h6
    intro iT
    rcases PC with h|h
    ·rw [←h]at g1;simp at g1;exact g1 iT
    ·simp at h;omega
   ·exact absurd rfl HY
 ·obtain⟨F,hF⟩:=A.pre;exact⟨F++[p'],by rw [hF,γ2]⟩
 ·intro j x L h1 h2 h3
  rcases hold j x h1 with⟨a1,a2,a3⟩|⟨rfl,rfl⟩
  ·rw [hG j a3]at h3;exact A.own j x L a2 h2 h3
  ·rw [ZH]at h3;cases h3;exact iX L rfl
 ·refine A.mix.mix T5 fun k hk hc=>?_
  cases q with
  |none=>rfl
  |some M=>
   simp only [ζ3,List.contains_nil,Bool.or_false,δ1,ne_eq]
   intro hkM
   subst hkM
   rcases A.own i _ M hi rfl hq with h|h
   ·rw [h]at hc;cases hc
   ·omega
theorem Sy.nilRow (A:Sy n T H ks G0 w0 G a w)(t e s:Nat)(f:Nat→List SV)(h:look T t=some (.sla none 0 0))(CD:∀k,∃vs,Al [] (f k)=some vs∧vs.length=s):Sy n ((t,.sl H.length 0 0)::T) (H++[some (.row e s 0 0 f)]) ks G0 w0 (G++[none]) a w:=
 (A.noRow e s f CD).slotEq t h (by
  unfold den
  rw [α2 (by rw [A.mem.len];exact β7 _),A.mem.len];simp [rm])
def UZ (X:Tx) (n:Nat) (ops:Array Oper) (T:List (Nat×SV)) (H:Hp) (o:Oper):Option ((Nat×Nat×Nat×Nat×Nat)×(Nat→List SV)×List SV×(Nat×Nat)×Ob):=match DD n o.dst with
 | true =>match BE ops T o.guard with
  | some .run=>match o.op with
   | .call c=>match c.callee,c.args.toList,c.argTypes.toList with
    | .builtin .append,[x,y],[t,t']=>match Db T x,Db T y,Nat.beq t t' with
     | some (.sl i nn cc),some (.sl j 1 1),true=>match lg H i,lg H j,X.get t with
      | some (some (.row e s m c f)),some (some (.blk cs)),some ti=>match ti.elm,He cs with
       |some (e',s',b),some E=>match Nat.beq e e'&&Nat.beq s s'&&Nat.beq cs.length s&&Nat.ble b 10000&&Hf 0 cs with
        |true=>some ((i,e,s,m,c),f,cs,(nn,cc),E)
        |false=>none
       |_,_=>none
      |_,_,_=>none
     |_,_,_=>none
    |_,_,_=>none
   |_=>none
  |_=>none
 |false=>none
theorem OO {Y:Tb} {i e s m c nn cc:Nat} {f:Nat→List SV} {cs:List SV} {E:Ob} (hX:Y.ok P=true) (m':Nat) (f':Nat→List SV) (h:UZ ⟨Y,false⟩ n ops T H o=some ((i,e,s,m,c),f,cs,(nn,cc),E)) (hE:Dr E) (h1:nn=m) (h2:cc=c) (hb:m≤1000000) (To:m'=m+1)
  (hf:∀k,k<m→f' k=f k) (hn:f' m=cs) (CD:∀k,∃vs,Al [] (f' k)=some vs∧vs.length=s):Bd P n ops ks G0 w0 T H o (.sl H.length m' 0) (Cd H i none++[some (.row e s m' 0 f')]):=by
 intro G a w A
 subst To
 obtain⟨d,op,ty,pos,af,gd⟩:=o
 unfold UZ at h
 split at h
 ·next hd =>
  split at h
  ·next hg=>
   have hw:=BQ (gd:=none) A hg
   split at h
   ·next ca qH=>
    simp only at qH
    subst qH
    obtain⟨callee,args,ats⟩:=ca
    simp only at h
    split at h
    ·next x y t t' ha ht=>
     split at h
     ·next i' nn' cc' j hx hy T2=>
      split at h
      ·next e' s' m' c1 f1 cs' ti hi hj HZ=>
       split at h
       ·next e2 s2 b E' QZ wO=>
        split at h
        ·next GX=>
         cases h
         subst h1;subst h2
         simp only [α3]at GX
         obtain⟨⟨⟨⟨c1,c2⟩,c3⟩,c4⟩,c5⟩:=GX
         have e1:=α9 c1
         have e2:=α9 c2
         have e3:=α9 c3
         have e4:=α9 T2
         have iY:=ε1 c4
         subst e1;subst e2;subst e4
         rw [BI]at hi hj
         have AV:args= #[x,y]:=by have:=congrArg List.toArray ha;simpa using this
         have iZ:ats= #[t,t]:=by have:=congrArg List.toArray ht;simpa using this
         subst AV;subst iZ
         obtain⟨r1,r2,xs,r3,r4⟩:=A.mem.ent i _ hi
         obtain⟨L,vs,b1,b2,b3⟩:=A.mem.ent j _ hj
         obtain⟨ie,z,f1',f2',f3',f4',f5',f6',f7'⟩:=Dn (D0 (i:=ti) (Tb.at (X:=Y) hX HZ) QZ)
         have CH:=A.ev hx
         have Dp:=A.ev hy
         obtain⟨q,hq⟩:∃q,G[i]?=some q:=by
          have:i<G.length:=by rw [←A.mem.len];exact(α0.1 hi).1
          exact⟨G[i],by simp [this]⟩
         rw [hq]at r2 r4
         simp only [γ8]at r2 r4
         unfold den at CH Dp
         rw [hq]at CH
         rw [DS b1]at Dp
         simp only [β2]at CH Dp
         have wP:Al [] cs=some vs:=by
          have:=Bv (G:=G) cs c5
          simp only [ι6]at this
          rw [this];exact b2
         have pX:vs.length=s:=by rw [Be b2,e3]
         have i6:=BK.range (A.mem.ent j _ hj)
         obtain⟨L2,vs2,g1,g2,g3⟩:=i6
         rw [b1]at g1;cases g1
         rw [b2]at g2;cases g2
         have CA:=DY wO hE b2
         have hmul:(nn+1)*b≤1000001*10000:=ν7 (by omega) iY
         obtain⟨v',w',hr,k1,k2,_,k4⟩:=τ0 (P:=P) w 0 t ty e ie z s b f1' f2' f3' f4' f5' f6' f7' _ nn xs r4 ⟨L.b,L.pre.length,none⟩ 1 (1+rm (some L)) vs (by omega)
          (fun j u hj=>by rw [η3];exact g3 j u hj) (fun u hu=>(δ7.1 CA) u hu) (by simp only [maxLen];omega) (by omega) (β8 _)
         obtain⟨p',o1,o2,o3⟩:=HA k1
         have Mb:CX f' (nn+1)=some (xs++vs):=by
          unfold CX
          rw [Eu hf,r3,hn,wP]
         have ZI:Value.ownBlock (.slice (q.map fun L=>⟨L.b,L.pre.length,none⟩) nn (cc+rm q))=q.map (·.b):=by cases q<;>rfl
         rw [ZI]at k2 k4
         rw [o3]at k4
         rw [o1]at k1
         refine A6 (v:=v') (w':=w') hw ?_ ?_
         ·unfold execOp
          simp only [resolve,invoke,builtin,γ3,γ6,β1,θ9,ζ4,κ5,←CH,←Dp]
          simp only [δ4]at hr⊢
          simp only [hr,β1]
         ·have A2:=A.rowMove (p':=p') hi (by rw [hq];exact k2) k1 o2 (by rw [hq];exact k4) Mb CD
          refine⟨[p'],?_,A2.ms⟩
          unfold den
          rw [α2 (by rw [A.mem.len];exact β7 _),A.mem.len]
          simp [o1]
        ·cases h
       ·cases h
      ·cases h
     ·cases h
    ·cases h
   ·cases h
  ·cases h
 ·cases h
theorem A9 {x:SV}{H':Hp}(A:Sy n T H ks G0 w0 G a w)(hd:DD n o.dst=true)(h:Bd P n ops ks G0 w0 T H o x H')(hk:∀{G a w},Sy n (Bh T o.dst x) H' ks G0 w0 G a w→Goal P Q K (.ops ops rest) a w):Goal P Q K (.ops ops (o::rest)) a w:=by
 refine Cm (Q:=Fz P Q K) ?_
 rcases h G a w A with⟨hw,h⟩|⟨hw,F,h1,h2⟩
 ·refine .inl ⟨hw,fun Q'=>?_⟩
  refine κ6 (fun a' w' hh=>?_) (h Q')
  obtain⟨v,rfl,F,h1,h2⟩:=hh
  exact⟨v,rfl,hk (Sy.put (h2.sy A.size A.defers fun t y hy=>BF F y (A.get t y hy)) hd h1)⟩
 ·exact .inr ⟨hw,hk (Sy.put (h2.sy A.size A.defers fun t y hy=>BF F y (A.get t y hy)) hd h1)⟩
theorem Ua {X:Tx}{r:(Nat×Nat×Nat×Nat×Nat)×(Nat→List SV)×List SV×(Nat×Nat)×Ob}(h:UZ X n ops T H o=some r):DD n o.dst=true:=by
 unfold UZ at h
 split at h
 ·next hd=>exact hd
 ·cases h
theorem OP {Y:Tb} {i e s m c nn cc:Nat} {f:Nat→List SV} {cs:List SV} {E:Ob} (hX:Y.ok P=true) (m':Nat) (f':Nat→List SV) (A:Sy n T H ks G0 w0 G a w) (h:UZ ⟨Y,false⟩ n ops T H o=some ((i,e,s,m,c),f,cs,(nn,cc),E)) (hE:Dr E) (h1:nn=m) (h2:cc=c) (hb:m≤1000000) (To:m'=m+1)
  (hf:∀k,k<m→f' k=f k) (hn:f' m=cs) (CD:∀k,∃vs,Al [] (f' k)=some vs∧vs.length=s)
  (hk:∀{G a w},Sy n (Bh T o.dst (.sl H.length m' 0)) (Cd H i none++[some (.row e s m' 0 f')]) ks G0 w0 G a w→Goal P Q K (.ops ops rest) a w):Goal P Q K (.ops ops (o::rest)) a w:=
 A9 A (Ua h) (OO hX m' f' h hE h1 h2 hb To hf hn CD) hk
end
theorem Gk {f:Nat→List SV}{s:Nat}(hs:∀k,∃vs,Al [] (f k)=some vs∧vs.length=s):∀{n:Nat} {xs:List Value},CX f n=some xs→∀(j:Nat) (u:Value),xs[j]?=some u→∃k q vs,k<n∧Al [] (f k)=some vs∧vs[q]?=some u∧j=k*s+q
 |0,xs,h,j,u,hj=>by cases h;cases hj
 | n+1,xs,h,j,u,hj=>by
  unfold CX at h
  obtain⟨vs,h1,h2⟩:=hs n
  split at h
  ·next l hl=>
   rw [h1]at h
   cases h
   have ZA:=EY hs hl
   by_cases SF:j<l.length
   ·rw [α1 SF]at hj
    obtain⟨k,q,us,a1,a2,a3,a4⟩:=Gk hs hl j u hj
    exact⟨k,q,us,by omega,a2,a3,a4⟩
   ·rw [α2 (by omega)]at hj
    exact⟨n,j - l.length,vs,by omega,h1,hj,by omega⟩
  ·cases h
theorem Lw {f:Nat→List SV}:∀(m n:Nat) {xs ys:List Value},CX f n=some xs→CX (fun k=>f (n+k)) m=some ys→CX f (n+m)=some (xs++ys)
 |0,n,xs,ys,h,k=>by cases k;simpa using h
 | m+1,n,xs,ys,h,k=>by
  unfold CX at k
  split at k
  ·next l hl=>
   split at k
   ·next vs hv=>
    cases k
    rw [show n+(m+1)=(n+m)+1 by omega]
    unfold CX
    rw [Lw m n h hl,hv]
    simp
   ·cases k
  ·cases k
theorem Ki {f f':Nat→List SV}{s k:Nat}{vs':List Value}(hs:∀k,∃vs,Al [] (f k)=some vs∧vs.length=s)(Ch:∀j,j≠k→f' j=f j)(hk:Al [] (f' k)=some vs')(hl:vs'.length=s):∀{n:Nat} {xs:List Value},CX f n=some xs→k<n→CX f' n=some (xs.take (k*s)++vs'++xs.drop ((k+1)*s))
 |0,xs,h,I1=>by omega
 | n+1,xs,h,I1=>by
  unfold CX at h
  obtain⟨vs,h1,h2⟩:=hs n
  split at h
  ·next l ZA=>
   rw [h1]at h
   cases h
   have hlen:=EY hs ZA
   unfold CX
   by_cases JW:k=n
   ·subst JW
    rw [Eu (g:=f) (fun j hj=>Ch j (by omega)),ZA,hk]
    simp only [β2]
    rw [ι3 (by omega),ε7 (by omega),List.drop_of_length_le (by simp [ι9];omega)]
    simp
   ·rw [Ki hs Ch hk hl ZA (by omega),Ch n (fun e=>JW e.symm),h1]
    simp only [β2]
    have hmul:(k+1)*s≤n*s:=θ6 s (by omega)
    have y9:(k+1)*s=k*s+s:=by simp [ι9]
    rw [ι3 (by omega),List.drop_append_of_le_length (by omega)]
    simp
  ·cases h
section
variable {P:Program}{X:Tx}{n:Nat}{ks:List Nat}{G0:Gr}{w0:World}{T:List (Nat×SV)}{H:Hp}{G:Gr}{a:Act}{w w':World}{Q:Exit→Act→World→Prop}{K:List Fr}{ops:Array Oper}{o:Oper}{rest:List Oper}
theorem Sy.asList (A:Sy n T H ks G0 w0 G a w)(i:Nat){s m:Nat}{f g:Nat→List SV}{e:Bo}(hi:H[i]?=some (some e))(he:(∃ty c,e=.row ty s m c f)∨∃cs,e=.blk cs∧∀k,k<m→tk s (dp (k*s) cs)=some (f k)∧Hf 0 (f k)=true)(hg:∀k,k<m→g k=f k)(CD:∀k,∃vs,Al [] (g k)=some vs):Sy n T (Cd H i (some (.lst s m g))) ks G0 w0 G a w:=by
 have G6:i<H.length:=(α0.1 hi).1
 have Jz:e.mut=true:=by rcases he with⟨_,_,rfl⟩|⟨_,rfl,_⟩<;>rfl
 have hold:∀(j:Nat) (x:Bo),(Cd H i (some (.lst s m g)))[j]?=some (some x)→(j≠i∧H[j]?=some (some x))∨(j=i∧x=.lst s m g):=by
  intro j x h
  rw [BJ]at h
  by_cases hj:j=i
  ·subst hj;rw [γ7 G6]at h;cases h;exact .inr ⟨rfl,rfl⟩
  ·rw [γ0 (ζ1 hj)]at h;exact .inl ⟨hj,h⟩
 refine⟨A.size,A.defers,A.get,⟨by rw [BJ];simpa using A.mem.len,?_,?_⟩,A.pre,?_,A.mix⟩
 ·intro j x h
  rcases hold j x h with⟨k1,k2⟩|⟨rfl,rfl⟩
  ·exact A.mem.ent j x k2
  ·refine⟨CD,?_⟩
   by_cases h0:m=0
   ·exact .inl h0
   ·right
    have Ca:=A.mem.ent j e hi
    rcases he with⟨ty,c,rfl⟩|⟨cs,rfl,Ab⟩
    ·obtain⟨L,_,q1,_⟩:=DP Ca (k:=0) (by omega)
     have Bn:L.b<w.heap.size:=by rw [q1]at Ca;exact BK.lt Ca (fun h=>h)
     refine⟨L,q1,Bn,fun k hk=>?_⟩
     obtain⟨L',vs,r1,r2,_,r4⟩:=DP Ca hk
     rw [q1]at r1;cases r1
     exact⟨vs,by rw [hg k hk];exact r2,r4⟩
    ·obtain⟨L,us,q1,q2,q3⟩:=Ca.range
     have Bn:L.b<w.heap.size:=by rw [q1]at Ca;exact BK.lt Ca (fun h=>h)
     refine⟨L,q1,Bn,fun k hk=>?_⟩
     obtain⟨r1,r2⟩:=Ab k hk
     obtain⟨r3,r4⟩:=IG r1
     rw [Hd]at r3 r4
     have hd:Al G (f k)=some ((us.drop (k*s)).take s):=by rw [r3];exact Cf s (Cg _ q2)
     refine⟨(us.drop (k*s)).take s,?_,fun q v hv=>?_⟩
     ·rw [hg k hk]
      have:=Bv (G:=G) (f k) r2
      simp only [ι6]at this
      rw [this];exact hd
     ·have hq:=(α0.1 hv).1
      simp only [δ8,γ5]at hq
      rw [γ1 (by omega),η1]at hv
      have:=q3 _ v hv
      rwa [←θ4]at this
 ·intro j k x y L M HY h1 h2 h3 h4 h5 h6
  rcases hold j x h1 with⟨_,a2⟩|⟨rfl,rfl⟩
  ·rcases hold k y h2 with⟨_,b2⟩|⟨rfl,rfl⟩
   ·exact A.mem.sep j k x y L M HY a2 b2 h3 h4 h5 h6
   ·exact A.mem.sep j k x e L M HY a2 hi h3 h4 h5 (Bf Jz)
  ·cases h3
 ·intro j x L h1 h2 h3
  rcases hold j x h1 with⟨_,a2⟩|⟨rfl,rfl⟩
  ·exact A.own j x L a2 h2 h3
  ·cases h2
theorem Sy.freeze (A:Sy n T H ks G0 w0 G a w)(i:Nat){e s m c:Nat}{f:Nat→List SV}(h:lg H i=some (some (.row e s m c f))):Sy n T (Cd H i (some (.lst s m f))) ks G0 w0 G a w:=by
 rw [BI]at h
 exact A.asList i h (.inl ⟨e,c,rfl⟩) (fun _ _=>rfl) (fun k=>by obtain⟨vs,h1,_⟩:=(A.mem.ent i _ h).1 k;exact⟨vs,h1⟩)
theorem Sy.rowSet (A:Sy n T H ks G0 w0 G a w) {i e s m c k q:Nat} {f f':Nat→List SV} {l:List SV} {us:List Value} (hi:H[i]?=some (some (.row e s m c f))) (hk:k<m) (Ch:∀j,j≠k→f' j=f j) (qI:sp q (f k) l=some (f' k)) (hl:Al [] l=some us):∃L,G[i]?=some (some L)∧L.pre=[]∧(∀j,j<l.length→(w.cell? ⟨L.b,k*s+q+j,none⟩).isSome=true∧w.frozen? ⟨L.b,k*s+q+j,none⟩=false)∧
  XU L.b w (w.setCells L.b (k*s+q) us)∧Sy n T (Cd H i (some (.row e s m c f'))) ks G0 w0 G a (w.setCells L.b (k*s+q) us):=by
 have G6:i<H.length:=(α0.1 hi).1
 obtain⟨h1,h2,xs,h3,h4,h5⟩:=A.mem.ent i _ hi
 obtain⟨vs,v1,v2⟩:=h1 k
 obtain⟨p1,p2⟩:=JZ qI
 have y3:=Be hl
 have zA:Al [] (f' k)=some (vs.take q++us++vs.drop (q+l.length)):=by rw [p1];exact C0 (C0 (Cf q v1) hl) (Cg _ v1)
 have hfl:(f k).length=s:=by rw [←Be v1];exact v2
 have CD:∀j,∃vs,Al [] (f' j)=some vs∧vs.length=s:=fun j=>by
  by_cases hj:j=k
  ·subst hj;exact⟨_,zA,by simp;omega⟩
  ·rw [Ch j hj];exact h1 j
 rcases h5 with⟨_,h5⟩|⟨g,cap,cur,q1,_,q3,q4,q5,q6,q7⟩
 ·omega
 cases hp:(G[i]?).getD none with
 |none=>rw [hp]at q1;cases q1
 | some L =>
  rw [hp]at q1
  simp only [δ4,ι2,β2,κ9]at q1
  obtain⟨⟨q8,q9,_⟩,_,q10⟩:=q1
  have AM:=h2 L hp
  subst q8
  have iO:=EY h1 h3
  have qJ:(k+1)*s≤m*s:=θ6 s (by omega)
  have a7:(k+1)*s=k*s+s:=by simp [ι9]
  have Ab:m*s≤cap*s:=θ6 s q4
  have W9:cur.toList.length=cap*s:=by simpa using q6
  have GM:cur.toList=cur.toList.take (k*s+q)++(cur.toList.drop (k*s+q)).take l.length++cur.toList.drop (k*s+q+l.length):=by
   have e2:cur.toList.drop (k*s+q+l.length)=(cur.toList.drop (k*s+q)).drop l.length:=by rw [μ2]
   rw [e2,γ2,ι5,ι5]
  have Jy:EV w L.b (cur.toList.take (k*s+q)++(cur.toList.drop (k*s+q)).take l.length++cur.toList.drop (k*s+q+l.length)).toArray e:=by rw [←GM];unfold EV;simpa using q3
  have hA:(cur.toList.take (k*s+q)).length=k*s+q:=by simp;omega
  obtain⟨g1,g2⟩:=I6 us _ _ _ w (by simp;omega) Jy
  rw [hA]at g1 g2
  refine⟨L,DS hp,AM,fun j hj=>⟨?_,?_⟩,g2,?_⟩
  ·have Bn:k*s+q+j<cur.size:=by omega
   rw [cell_of_row w L.b _ cur e _ q3,Array.getElem?_eq_getElem Bn];rfl
  ·have:EV w L.b cur e:=q3
   exact this.frozen _
  have hold:∀(j:Nat) (x:Bo),(Cd H i (some (.row e s m c f')))[j]?=some (some x)→(j≠i∧H[j]?=some (some x))∨(j=i∧x=.row e s m c f'):=by
   intro j x h
   rw [BJ]at h
   by_cases hj:j=i
   ·subst hj;rw [γ7 G6]at h;cases h;exact .inr ⟨rfl,rfl⟩
   ·rw [γ0 (ζ1 hj)]at h;exact .inl ⟨hj,h⟩
  refine⟨A.size,A.defers,A.get,⟨by rw [BJ];simpa using A.mem.len,?_,?_⟩,A.pre,?_,A.mix.upd g2 (A.own i _ L hi rfl (DS hp))⟩
  ·intro j x h
   rcases hold j x h with⟨k1,k2⟩|⟨rfl,rfl⟩
   ·refine(A.mem.ent j x k2).mix g2.mix fun wQ M hM=>?_
    have:=A.mem.sep i j _ x L M (ζ1 k1) hi k2 rfl (DS hp) (DS hM) wQ
    simp;exact fun e=>this e.symm
   ·rw [hp]
    refine⟨CD,fun L' hL'=>by cases hL';exact AM,_,Ki h1 Ch zA (by simp;omega) h3 hk,?_,.inr ⟨L.b,cap,_,?_,β8 _,g1,q4,q5,?_,?_⟩⟩
    ·simp;omega
    ·simp [AM,q10]
    ·simp;omega
    ·rw [←q7]
     simp only [List.toList_toArray]
     apply θ5
     intro z
     by_cases hz:z<m*s
     ·rw [γ1 hz]
      have zC:∀z',z'<s→vs[z']?=cur.toList[k*s+z']?:=fun z' hz'=>by
       obtain⟨us',u1,u2⟩:=J5 h1 h3 k hk
       rw [v1]at u1;cases u1
       have hh:vs[z']?=some (vs[z']'(by omega)):=β0 (by omega)
       have:=u2 z' _ hh
       rw [←q7,γ1 (by omega)]at this
       rw [hh,this]
      by_cases c1:z<k*s
      ·rw [γ2,γ2,α1 (by simp;omega),γ1 (by omega)]
       rw [γ2,α1 (by simp;omega),γ1 c1,γ1 (by omega)]
      ·by_cases c2:z<k*s+q
       ·rw [γ2,α1 (by simp;omega),γ1 (by omega)]
        rw [γ2,α2 (by simp;omega),γ2,γ2,α1 (by simp;omega),γ1 (by simp;omega)]
        have:=zC (z - k*s) (by omega)
        rw [show k*s+(z - k*s)=z by omega]at this
        rw [←this];congr 1;simp;omega
       ·by_cases c3:z<k*s+q+l.length
        ·rw [γ2,α2 (by simp;omega),α1 (by simp;omega)]
         rw [γ2,α2 (by simp;omega),γ2,γ2,α2 (by simp;omega),α1 (by simp;omega)]
         congr 1;simp;omega
        ·by_cases c4:z<k*s+s
         ·rw [α2 (by simp;omega),η1]
          rw [γ2,α2 (by simp;omega),α1 (by simp;omega),α2 (by simp;omega),η1]
          have:=zC (z - k*s) (by omega)
          rw [show k*s+(z - k*s)=z by omega]at this
          rw [show k*s+q+l.length+(z - (List.take (k*s+q) cur.toList++us).length)=z by simp;omega,←this]
          congr 1;simp;omega
         ·rw [α2 (by simp;omega),η1]
          rw [α2 (by simp;omega),η1,γ1 (by simp;omega)]
          congr 1;simp;omega
     ·rw [γ4 (by simp;omega),γ4 (by simp;omega)]
  ·intro j k' x y L' M HY b1 b2 b3 b4 b5 b6
   have a1:∃x',H[j]?=some (some x')∧x'.mut=x.mut:=by
    rcases hold j x b1 with⟨_,k2⟩|⟨rfl,rfl⟩
    ·exact⟨x,k2,rfl⟩
    ·exact⟨_,hi,rfl⟩
   have a2:∃y',H[k']?=some (some y')∧¬y'.empty:=by
    rcases hold k' y b2 with⟨_,k2⟩|⟨rfl,rfl⟩
    ·exact⟨y,k2,b6⟩
    ·exact⟨_,hi,fun h=>h⟩
   obtain⟨x',c1,c2⟩:=a1
   obtain⟨y',c3,c4⟩:=a2
   exact A.mem.sep j k' x' y' L' M HY c1 c3 (by rw [c2];exact b3) b4 b5 c4
  ·intro j x L' b1 b2 b3
   rcases hold j x b1 with⟨_,k2⟩|⟨rfl,rfl⟩
   ·exact A.own j x L' k2 b2 b3
   ·exact A.own j _ L' hi rfl b3
end
section
variable {P:Program}{Y:Tb}{n:Nat}{ks:List Nat}{G0:Gr}{w0:World}{T:List (Nat×SV)}{H:Hp}{G:Gr}{a:Act}{w w':World}{Q:Exit→Act→World→Prop}{K:List Fr}{ops:Array Oper}{o:Oper}{rest:List Oper}
def Ub (Y:Tb) (n:Nat) (ops:Array Oper) (T:List (Nat×SV)) (H:Hp) (o:Oper):Option ((Nat×Nat×Nat×Nat×Nat)×(Nat→List SV)×(Int×Nat)×List SV×Ob):=match DD n o.dst with
 | true=>match BE ops T o.guard with
  | some .run=>match o.op with
   | .store t x y=>match Db T x,Db T y with
    | some (.el i s j q),some v=>match lg H i,Y.get t,I8 v with
     | some (some (.row e s' m c f)),some ti,some l=>match He l with
      |some E=>match Nat.beq s s'&&Hf 0 l&&(match ti.row,v with|some r,.agg _=>Nat.beq l.length r|none,.agg _=>false|none,_=>ti.one|some _,_=>false)with
       |true=>some ((i,e,s,m,c),f,(j,q),l,E)
       |false=>none
      |none=>none
     |_,_,_=>none
    |_,_=>none
   |_=>none
  |_=>none
 |false=>none
theorem tL {i e s m c q : Nat} {j:Int} {f:Nat→List SV} {l:List SV} {E:Ob} (hY:Y.ok P=true) (k:Nat) (f':Nat→List SV) (h:Ub Y n ops T H o=some ((i,e,s,m,c),f,(j,q),l,E)) (hE:Dr E) (hj:j.toNat=k) (hk:k<m)
    (Ch:∀j,j≠k→f' j=f j) (qI:sp q (f k) l=some (f' k)):Bd P n ops ks G0 w0 T H o (.tup []) (Cd H i (some (.row e s m c f'))):=by
  intro G a w A
  obtain⟨d,op,ty,pos,af,gd⟩:=o
  unfold Ub at h
  split at h
  · next hd =>
    split at h
    · next i7=>
      have hw:=BQ (gd:=none) A i7
      split at h
      · next t x y CJ=>
        simp only at CJ
        subst CJ
        split at h
        · next i' s' j' q' v hx hy=>
          split at h
          · next e' s2 m' c' f1 ti l' hi HZ hl=>
            split at h
            · next E' wO=>
              split at h
              · next GX=>
                cases h
                rw [α3,α3]at GX
                have es:=α9 GX.1.1
                subst es
                rw [BI]at hi
                have Dp:=A.ev hy
                have EO:=Ew hl Dp
                have wR:Al [] l=some (a.eval y).cells.toList:=by
                  have:=Bv (G:=G) l GX.1.2
                  simp only [ι6]at this
                  rw [this];exact EO
                obtain⟨L,hL,AM,FM,hu,A2⟩:=A.rowSet hi hk Ch qI wR
                have CA:=DY wO hE EO
                have hlen:=Be EO
                have CH:=A.ev hx
                unfold den at CH
                rw [hL]at CH
                simp only [δ4,AM,α7,ε0,hj,β2]at CH
                have T2:=Tb.at hY HZ
                refine Lo (w':=w.setCells L.b (k*s+q) (a.eval y).cells.toList) hw ?_ ⟨[],rfl,by rw [ε9];exact A2.ms⟩
                have LS : (Instr.storeAt t (.pointer (some ⟨L.b,k*s+q,none⟩)) (a.eval y)).run P w=.ok () (w.setCells L.b (k*s+q) (a.eval y).cells.toList):=by
                  cases XQ:v with
                  | agg ll=>
                    rw [XQ]at GX Dp hl
                    cases hr:ti.row with
                    |none=>rw [hr]at GX;exact absurd GX.2 (by simp)
                    | some r=>
                      rw [hr]at GX
                      have MY:=α9 GX.2
                      unfold den at Dp
                      obtain⟨us,u1,u2⟩:=γ9.1 Dp
                      rw [←u2]
                      rw [←u2]at CA hlen
                      simp only [Value.cells,List.toList_toArray]at CA hlen⊢
                      have:=run_storeAt_mid (P:=P) w L.b (k*s+q) t us.toArray (fun z hz=>FM z (by simp at hz;omega)) (by simp;rw [hlen,MY];simpa using (Er (I5 T2 hr)).2) (by simpa using CA)
                      simpa using this
                  | _ =>
                    all_goals
                      rw [XQ]at GX Dp hl
                      cases hr:ti.row with
                      |some r=>rw [hr]at GX;exact absurd GX.2 (by simp)
                      | none =>
                        rw [hr]at GX
                        first
                        |(cases hl;done)
                        | (cases hl
                           have jA:(a.eval y).cells= #[a.eval y]:=by
                             have h1:=hlen
                             have h2:(a.eval y).oneCell'=true∨True:=.inr trivial
                             have IB:=EO
                             obtain⟨v0,ws,w1,w2,w3⟩:=Bg IB
                             cases w2
                             rw [Dp]at w1
                             cases w1
                             apply μ1
                             simpa using w3
                           rw [jA]at CA⊢
                           have hc:=FM 0 (by simp)
                           simp only [θ8]at hc
                           simp only [List.all_cons,List.all_nil,Bool.and_true]at CA
                           cases hq:w.cell? ⟨L.b,k*s+q,none⟩with
                           |none=>rw [hq]at hc;cases hc.1
                           | some u=>
                             have ho:=I4 T2 GX.2
                             unfold oneB at ho
                             rw [α3]at ho
                             have iU:(P.info? t).map (·.size)=some 1:=by simpa using ho.2
                             cases hqi:P.info? t with
                             |none=>simp [hqi]at iU
                             | some inf=>
                               have wS:inf.size=1:=by simpa [hqi]using iU
                               have hz:(sizeOf t).run P w=.ok 1 w:=by simp [sizeOf,typeInfo,hqi,wS]
                               have wT:(store ((⟨L.b,k*s+q,none⟩:Addr).add 0) (a.eval y)).run P w=.ok () (w.setCell ⟨L.b,k*s+q,none⟩ (a.eval y)):=by
                                 rw [η3,θ8,run_store P w _ _ _ CA,hq]
                                 simp [hc.2]
                               simp [Instr.storeAt,Instr.sureAddr,storeVar,hz,jA,storeCells,wT,World.setCells])
                unfold execOp
                simp only [←CH,γ3,LS,β1,γ6]
              ·cases h
            ·cases h
          ·cases h
        ·cases h
      ·cases h
    ·cases h
  ·cases h
theorem Uc {r:(Nat×Nat×Nat×Nat×Nat)×(Nat→List SV)×(Int×Nat)×List SV×Ob}(h:Ub Y n ops T H o=some r):DD n o.dst=true:=by
 unfold Ub at h
 split at h
 ·next hd=>exact hd
 ·cases h
theorem yH {i e s m c q:Nat} {j:Int} {f:Nat→List SV} {l:List SV} {E:Ob} (hY:Y.ok P=true) (k:Nat) (f':Nat→List SV) (A:Sy n T H ks G0 w0 G a w) (h:Ub Y n ops T H o=some ((i,e,s,m,c),f,(j,q),l,E)) (hE:Dr E) (hj:j.toNat=k) (hk:k<m)
  (Ch:∀j,j≠k→f' j=f j) (qI:sp q (f k) l=some (f' k)) (hg:∀{G a w},Sy n (Bh T o.dst (.tup [])) (Cd H i (some (.row e s m c f'))) ks G0 w0 G a w→Goal P Q K (.ops ops rest) a w):Goal P Q K (.ops ops (o::rest)) a w:=
 A9 A (Uc h) (tL hY k f' h hE hj hk Ch qI) hg
end
section
variable {P:Program}{Y:Tb}{n:Nat}{ks:List Nat}{G0:Gr}{w0:World}{T:List (Nat×SV)}{H:Hp}{G:Gr}{a:Act}{w w':World}{Q:Exit→Act→World→Prop}{K:List Fr}{ops:Array Oper}{o:Oper}{rest:List Oper}
def Xp (Y:Tb) (n:Nat) (ops:Array Oper) (T:List (Nat×SV)) (H:Hp) (o:Oper):Option ((Nat×Nat×Nat×Nat×Nat)×(Nat→List SV)×(Nat×Nat×Nat)×(Nat→List SV)×(Nat×Nat)):=match DD n o.dst with
 | true =>match BE ops T o.guard with
  | some .run=>match o.op with
   | .call c=>match c.callee,c.args.toList,c.argTypes.toList with
    | .builtin .append,[x,y],[t,t']=>match Db T x,Db T y,Nat.beq t t' with
     | some (.sl i nn cc),some (.sl j mm mc),true=>match lg H i,partsOf (lg H j),Y.get t with
      | some (some (.row e s m c f)),some (s2,mb,g),some ti=>match ti.elm with
       |some (e',s',b)=>match Nat.beq e e'&&Nat.beq s s'&&Nat.beq s s2&&Nat.ble b 10000 with
        |true=>some ((i,e,s,m,c),f,(mm,mb,mc),g,(nn,cc))
        |false=>none
       |_=>none
      |_,_,_=>none
     |_,_,_=>none
    |_,_,_=>none
   |_=>none
  |_=>none
 |false=>none
end
section
variable {n:Nat}{ks:List Nat}{G0:Gr}{w0:World}{T:List (Nat×SV)}{H:Hp}{G:Gr}{a:Act}{w:World}
theorem Sy.rowAs (A:Sy n T H ks G0 w0 G a w)(i m':Nat)(f':Nat→List SV){e s m c:Nat}{f:Nat→List SV}(h:lg H i=some (some (.row e s m c f)))(hm:m'=m)(hf:∀k,k<m→f' k=f k)(CD:∀k,∃vs,Al [] (f' k)=some vs∧vs.length=s):Sy n T (Cd H i (some (.row e s m' c f'))) ks G0 w0 G a w:=by
 subst hm
 rw [BI]at h
 have G6:i<H.length:=(α0.1 h).1
 have hold:∀(j:Nat) (x:Bo),(Cd H i (some (.row e s m' c f')))[j]?=some (some x)→(j≠i∧H[j]?=some (some x))∨(j=i∧x=.row e s m' c f'):=by
  intro j x h
  rw [BJ]at h
  by_cases hj:j=i
  ·subst hj;rw [γ7 G6]at h;cases h;exact .inr ⟨rfl,rfl⟩
  ·rw [γ0 (ζ1 hj)]at h;exact .inl ⟨hj,h⟩
 refine⟨A.size,A.defers,A.get,⟨by rw [BJ];simpa using A.mem.len,?_,?_⟩,A.pre,?_,A.mix⟩
 ·intro j x hx
  rcases hold j x hx with⟨k1,k2⟩|⟨rfl,rfl⟩
  ·exact A.mem.ent j x k2
  ·obtain⟨h1,h2,xs,h3,h4⟩:=A.mem.ent j _ h
   exact⟨CD,h2,xs,by rw [Eu hf];exact h3,h4⟩
 ·intro j k x y L M HY b1 b2 b3 b4 b5 b6
  have a1:∃x',H[j]?=some (some x')∧x'.mut=x.mut:=by
   rcases hold j x b1 with⟨_,k2⟩|⟨rfl,rfl⟩
   ·exact⟨x,k2,rfl⟩
   ·exact⟨_,h,rfl⟩
  have a2:∃y',H[k]?=some (some y')∧¬y'.empty:=by
   rcases hold k y b2 with⟨_,k2⟩|⟨rfl,rfl⟩
   ·exact⟨y,k2,b6⟩
   ·exact⟨_,h,fun h=>h⟩
  obtain⟨x',c1,c2⟩:=a1
  obtain⟨y',c3,c4⟩:=a2
  exact A.mem.sep j k x' y' L M HY c1 c3 (by rw [c2];exact b3) b4 b5 c4
 ·intro j x L b1 b2 b3
  rcases hold j x b1 with⟨_,k2⟩|⟨rfl,rfl⟩
  ·exact A.own j x L k2 b2 b3
  ·exact A.own j _ L h rfl b3
end
section
variable {α:Type}{l m:List α}{d x:α}{k:Nat}
theorem BX (h:k<l.length):(l++m).getD k d=l.getD k d:=by simp [List.getD,α1 h]
theorem CV:(l++m).getD (l.length+k) d=m.getD k d:=by simp [List.getD,α2]
theorem EH:(l++[x]).getD l.length d=x:=by simp [List.getD]
end
end Go.Proofs.YtbbdanhpphlbpaaGreatDoor
namespace Go.Proofs.YtbbdanhpphlbpaaGreatDoor
open Go.RowKit
abbrev zI:SV:=.int .i64 0
abbrev zS:SV:=.str []
def X:Tb:=(.n 140 ⟨true,none,(some [.sla none 0 0]),[],none,false,false,(some (125,10,96)),none,none⟩ (.n 70 ⟨false,(some 3),(some [zI,zI,zI]),[],none,false,false,none,(some [0,0,0]),(some (3,3,1))⟩ (.n 29 ⟨true,none,(some [.sla none 0 0]),[],none,false,false,(some (3,1,8)),none,none⟩ (.n 22 ⟨false,(some 3),(some [zI,zI,zI]),[],none,false,false,none,(some [0,0,0]),(some (3,3,1))⟩ (.n 5 ⟨true,none,(some [.int .u8 0]),[],(some .u8),false,false,none,none,none⟩ (.n 3 ⟨true,none,(some [zI]),[],(some .i64),false,false,none,none,none⟩ (.n 2 ⟨true,none,(some [zI]),[],(some .i64),false,false,none,none,none⟩ .e .e) (.n 4 ⟨true,none,(some [.ff]),[],none,false,true,none,none,none⟩ .e .e)) (.n 21 ⟨true,none,(some [.int .i32 0]),[],(some .i32),false,false,none,none,none⟩ (.n 9 ⟨true,none,(some [zS]),[],none,true,false,none,none,none⟩ .e .e) .e)) (.n 25 ⟨true,none,(some [.sla none 0 0]),[],none,false,false,(some (64,1,24)),none,none⟩ (.n 24 ⟨false,(some 24),(some [zI,zI,zI,zI,zI,zI,zI,zI,zI,zI,zI,zI,zI,zI,zI,zI,zI,zI,zI,zI,zI,zI,zI,zI]),[],none,false,false,none,(some [0,0,0,0,0,0,0,0,0,0,0,0,0,0,0,0,0,0,0,0,0,0,0,0]),(some (3,23,8))⟩ (.n 23 ⟨false,(some 8),(some [zI,zI,zI,zI,zI,zI,zI,zI]),[],none,false,false,none,(some [0,0,0,0,0,0,0,0]),(some (8,3,1))⟩ .e .e) .e) (.n 28 ⟨false,(some 32),(some [zI,zS,zI,zI,zI,zI,zI,zI,zI,zI,zI,zI,zI,zI,zI,zI,zI,zI,zI,zI,zI,zI,zI,zI,zI,zI,zI,zI,zI,.sla none 0 0,zI,.sla none 0 0]),[(3,0,1),(9,1,1),(22,2,3),(24,5,24),(25,29,1),(3,30,1),(26,31,1)],none,false,false,none,none,none⟩ (.n 26 ⟨true,none,(some [.sla none 0 0]),[],none,false,false,(some (66,5,40)),none,none⟩ .e .e) .e))) (.n 53 ⟨false,(some 27),(some [zI,zI,zI,zI,zI,zI,zI,zI,zI,zI,zI,zI,zI,zI,zI,zI,zI,zI,zI,zI,zI,zI,zI,zI,zI,zI,zI]),[(24,0,24),(22,24,3)],none,false,false,none,(some [0,0,0,0,0,0,0,0,0,0,0,0,0,0,0,0,0,0,0,0,0,0,0,0,0,0,0]),none⟩ (.n 39 ⟨true,none,(some [.sla none 0 0]),[],none,false,false,(some (44,4,32)),none,none⟩ (.n 33 ⟨true,none,(some [.v (.pointer none)]),[],none,false,false,none,none,none⟩ (.n 31 ⟨true,none,(some [zI]),[],(some .i64),false,false,none,none,none⟩ .e .e) (.n 36 ⟨true,none,(some [.v (.pointer none)]),[],none,false,false,none,none,none⟩ .e .e)) (.n 48 ⟨true,none,(some [.v .nilIface]),[],none,false,false,none,none,none⟩ (.n 44 ⟨false,(some 4),(some [zI,zI,zI,zI]),[(3,0,1),(3,1,1),(3,2,1),(3,3,1)],none,false,false,none,(some [0,0,0,0]),none⟩ .e .e) .e)) (.n 64 ⟨true,none,(some [.sla none 0 0]),[],none,false,false,(some (63,17,120)),none,none⟩ (.n 63 ⟨false,(some 17),(some [zI,zI,zI,zI,zI,zI,zI,zI,zI,zI,.ff,.ff,.ff,zI,zI,zI,.ff]),[(3,0,1),(3,1,1),(3,2,1),(3,3,1),(3,4,1),(3,5,1),(3,6,1),(3,7,1),(3,8,1),(3,9,1),(4,10,1),(4,11,1),(4,12,1),(3,13,1),(3,14,1),(3,15,1),(4,16,1)],none,false,false,none,(some [0,0,0,0,0,0,0,0,0,0,1,1,1,0,0,0,1]),none⟩ (.n 58 ⟨true,none,(some [.v (.pointer none)]),[],none,false,false,none,none,none⟩ .e .e) .e) (.n 69 ⟨true,none,(some [.v (.pointer none)]),[],none,false,false,none,none,none⟩ (.n 66 ⟨false,(some 5),(some [zI,zI,zI,zI,zI]),[(3,0,1),(3,1,1),(3,2,1),(3,3,1),(3,4,1)],none,false,false,none,(some [0,0,0,0,0]),none⟩ .e .e) .e)))) (.n 99 ⟨true,none,(some [.v (.pointer none)]),[],none,false,false,none,none,none⟩ (.n 82 ⟨true,none,(some [.v .nilFunc]),[],none,false,false,none,none,none⟩ (.n 79 ⟨false,(some 4),(some [.v (.pointer none),zI,zI,zI]),[(69,0,1),(70,1,3)],none,false,false,none,none,none⟩ (.n 73 ⟨false,(some 3),(some [.sla none 0 0,.sla none 0 0,.sla none 0 0]),[],none,false,false,none,none,(some (3,72,1))⟩ (.n 72 ⟨true,none,(some [.sla none 0 0]),[],none,false,false,(some (123,3,24)),none,none⟩ .e .e) (.n 75 ⟨false,(some 7),(some [.v (.pointer none),zI,zI,zI,.sla none 0 0,.sla none 0 0,.sla none 0 0]),[(69,0,1),(70,1,3),(73,4,3)],none,false,false,none,none,none⟩ .e .e)) (.n 81 ⟨true,none,(some [.v .nilFunc]),[],none,false,false,none,none,none⟩ (.n 80 ⟨true,none,(some [.v .nilFunc]),[],none,false,false,none,none,none⟩ .e .e) .e)) (.n 95 ⟨true,none,(some [.sla none 0 0]),[],none,false,false,(some (107,3,24)),none,none⟩ (.n 94 ⟨true,none,(some [.sla none 0 0]),[],none,false,false,(some (99,1,8)),none,none⟩ (.n 84 ⟨false,(some 4),(some [zS,.v .nilFunc,.v .nilFunc,.v .nilFunc]),[(9,0,1),(80,1,1),(81,2,1),(82,3,1)],none,false,false,none,none,none⟩ .e .e) .e) (.n 98 ⟨false,(some 40),(some [zI,zS,zI,zI,zI,zI,zI,zI,zI,zI,zI,zI,zI,zI,zI,zI,zI,zI,zI,zI,zI,zI,zI,zI,zI,zI,zI,zI,zI,.sla none 0 0,zI,.sla none 0 0,.sla none 0 0,zI,zI,zI,.sla none 0 0,.sla none 0 0,.sla none 0 0,.ff]),[(28,0,32),(94,32,1),(22,33,3),(96,36,3),(4,39,1)],none,false,false,none,none,none⟩ (.n 96 ⟨false,(some 3),(some [.sla none 0 0,.sla none 0 0,.sla none 0 0]),[],none,false,false,none,none,(some (3,95,1))⟩ .e .e) .e))) (.n 125 ⟨false,(some 10),(some [.sla none 0 0,zI,zI,zI,zI,zI,zI,zI,zI,zI]),[(64,0,1),(3,1,1),(23,2,8)],none,false,false,none,none,none⟩ (.n 108 ⟨true,none,(some [.v .nilFunc]),[],none,false,false,none,none,none⟩ (.n 105 ⟨false,(some 2),(some [zI,zI]),[(3,0,1),(3,1,1)],none,false,false,none,(some [0,0]),none⟩ (.n 101 ⟨false,(some 11),(some [.sla none 0 0,zI,zI,zI,zI,zI,zI,zI,zI,zI,.sla none 0 0]),[(64,0,1),(23,1,8),(3,9,1),(29,10,1)],none,false,false,none,none,none⟩ .e .e) (.n 107 ⟨false,(some 3),(some [zI,zI,zI]),[(105,0,2),(3,2,1)],none,false,false,none,(some [0,0,0]),none⟩ .e .e)) (.n 123 ⟨false,(some 3),(some [zI,zI,zI]),[(105,0,2),(3,2,1)],none,false,false,none,(some [0,0,0]),none⟩ (.n 112 ⟨false,(some 15),(some [zI,zI,zI,zI,zI,zI,.ff,.ff,zI,zI,.ff,.ff,.ff,zI,zI]),[(3,0,1),(3,1,1),(3,2,1),(3,3,1),(105,4,2),(4,6,1),(4,7,1),(3,8,1),(3,9,1),(4,10,1),(4,11,1),(4,12,1),(3,13,1),(3,14,1)],none,false,false,none,(some [0,0,0,0,0,0,1,1,0,0,1,1,1,0,0]),none⟩ .e .e) .e)) (.n 130 ⟨true,none,(some [.sla none 0 0]),[],none,false,false,(some (134,4,40)),none,none⟩ (.n 128 ⟨true,none,(some [.sla none 0 0]),[],none,false,false,(some (84,4,40)),none,none⟩ (.n 126 ⟨true,none,(some [.v (.pointer none)]),[],none,false,false,none,none,none⟩ .e .e) .e) (.n 139 ⟨true,none,(some [.sla none 0 0]),[],none,false,false,(some (23,8,64)),none,none⟩ (.n 134 ⟨false,(some 4),(some [zI,zS,zI,zI]),[(3,0,1),(9,1,1),(3,2,1),(3,3,1)],none,false,false,none,(some [0,2,0,0]),none⟩ .e .e) .e))))) (.n 233 ⟨false,(some 2),(some [.sla none 0 0,zI]),[(130,0,1),(3,1,1)],none,false,false,none,none,none⟩ (.n 191 ⟨true,none,(some [.v (.pointer none)]),[],none,false,false,none,none,none⟩ (.n 173 ⟨true,none,(some [.sla none 0 0]),[],none,false,false,(some (203,20,176)),none,none⟩ (.n 170 ⟨false,(some 8),(some [zS,zS,zS,zS,zS,zS,zS,zS]),[],none,false,false,none,(some [2,2,2,2,2,2,2,2]),(some (8,9,1))⟩ (.n 152 ⟨true,none,(some [.sla none 0 0]),[],none,false,false,(some (5,1,1)),none,none⟩ (.n 142 ⟨false,(some 1),(some [.sla none 0 0]),[(140,0,1)],none,false,false,none,none,none⟩ .e .e) (.n 154 ⟨true,none,(some [.v (.pointer none)]),[],none,false,false,none,none,none⟩ .e .e)) (.n 172 ⟨false,(some 3),(some [zS,zS,zS]),[],none,false,false,none,(some [2,2,2]),(some (3,9,1))⟩ (.n 171 ⟨false,(some 4),(some [zS,zS,zS,zS]),[],none,false,false,none,(some [2,2,2,2]),(some (4,9,1))⟩ .e .e) .e)) (.n 185 ⟨true,none,(some [.int .u64 0]),[],(some .u64),false,false,none,none,none⟩ (.n 178 ⟨true,none,(some [.v .nilFunc]),[],none,false,false,none,none,none⟩ (.n 175 ⟨false,(some 17),(some [zS,zS,zS,zS,zS,zS,zS,zS,zS,zS,zS,zS,zS,zS,zS,zS,.sla none 0 0]),[(170,0,8),(171,8,4),(9,12,1),(172,13,3),(173,16,1)],none,false,false,none,none,none⟩ .e .e) .e) (.n 190 ⟨true,none,(some [.v (.pointer none)]),[],none,false,false,none,none,none⟩ (.n 188 ⟨true,none,(some [.int .u64 0]),[],(some .u64),false,false,none,none,none⟩ .e .e) .e))) (.n 208 ⟨true,none,(some [zI]),[],(some .i64),false,false,none,none,none⟩ (.n 201 ⟨true,none,(some [.sla none 0 0]),[],none,false,false,(some (208,1,8)),none,none⟩ (.n 195 ⟨true,none,(some [.v (.pointer none)]),[],none,false,false,none,none,none⟩ (.n 194 ⟨false,(some 36),(some [.v (.pointer none),zS,zS,zS,zS,zS,zS,zS,zS,zS,zS,zS,zS,zS,zS,zS,zS,.sla none 0 0,zI,zI,zI,zI,zI,zI,zI,zI,zI,zI,.ff,.ff,.ff,zI,zI,zI,.ff,zS]),[(191,0,1),(175,1,17),(63,18,17),(9,35,1)],none,false,false,none,none,none⟩ .e .e) (.n 197 ⟨false,(some 3),(some [.v (.pointer none),zI,zI]),[(195,0,1),(31,1,1),(3,2,1)],none,false,false,none,none,none⟩ .e .e)) (.n 207 ⟨true,none,(some [.sla none 0 0]),[],none,false,false,(some (9,1,16)),none,none⟩ (.n 203 ⟨false,(some 20),(some [zS,zS,zI,zI,zI,zI,zI,zI,zI,zI,zI,zI,.ff,.ff,.ff,zI,zI,zI,.ff,.sla none 0 0]),[(9,0,1),(9,1,1),(63,2,17),(201,19,1)],none,false,false,none,none,none⟩ .e .e) .e)) (.n 226 ⟨true,none,(some [.int .u32 0]),[],(some .u32),false,false,none,none,none⟩ (.n 220 ⟨false,(some 24),(some [.int .u8 0,.int .u8 0,.int .u8 0,.int .u8 0,.int .u8 0,.int .u8 0,.int .u8 0,.int .u8 0,.int .u8 0,.int .u8 0,.int .u8 0,.int .u8 0,.int .u8 0,.int .u8 0,.int .u8 0,.int .u8 0,.int .u8 0,.int .u8 0,.int .u8 0,.int .u8 0,.int .u8 0,.int .u8 0,.int .u8 0,.int .u8 0]),[],none,false,false,none,(some [0,0,0,0,0,0,0,0,0,0,0,0,0,0,0,0,0,0,0,0,0,0,0,0]),(some (24,5,1))⟩ (.n 215 ⟨true,none,(some [.v .nilIface]),[],none,false,false,none,none,none⟩ .e .e) .e) (.n 228 ⟨true,none,(some [.sla none 0 0]),[],none,false,false,(some (227,2,24)),none,none⟩ (.n 227 ⟨false,(some 2),(some [zS,zI]),[(9,0,1),(3,1,1)],none,false,false,none,(some [2,0]),none⟩ .e .e) .e)))) (.n 257 ⟨true,none,(some [.sla none 0 0]),[],none,false,false,(some (256,3,32)),none,none⟩ (.n 251 ⟨true,none,(some [.sla none 0 0]),[],none,false,false,(some (250,3,24)),none,none⟩ (.n 248 ⟨false,(some 2),(some [zS,zI]),[(9,0,1),(3,1,1)],none,false,false,none,(some [2,0]),none⟩ (.n 244 ⟨false,(some 2),(some [.v (.pointer none),.sla none 0 0]),[(242,0,1),(152,1,1)],none,false,false,none,none,none⟩ (.n 242 ⟨true,none,(some [.v (.pointer none)]),[],none,false,false,none,none,none⟩ .e .e) (.n 247 ⟨true,none,(some [.sla none 0 0]),[],none,false,false,(some (173,1,24)),none,none⟩ .e .e)) (.n 250 ⟨false,(some 3),(some [zS,.ff,.ff]),[(9,0,1),(4,1,1),(4,2,1)],none,false,false,none,(some [2,1,1]),none⟩ (.n 249 ⟨true,none,(some [.sla none 0 0]),[],none,false,false,(some (248,2,24)),none,none⟩ .e .e) .e)) (.n 254 ⟨false,(some 3),(some [zS,.ff,.ff]),[(9,0,1),(4,1,1),(4,2,1)],none,false,false,none,(some [2,1,1]),none⟩ (.n 253 ⟨true,none,(some [.sla none 0 0]),[],none,false,false,(some (252,2,24)),none,none⟩ (.n 252 ⟨false,(some 2),(some [zS,zI]),[(9,0,1),(3,1,1)],none,false,false,none,(some [2,0]),none⟩ .e .e) .e) (.n 256 ⟨false,(some 3),(some [zS,zI,zI]),[(9,0,1),(3,1,1),(3,2,1)],none,false,false,none,(some [2,0,0]),none⟩ (.n 255 ⟨true,none,(some [.sla none 0 0]),[],none,false,false,(some (254,3,24)),none,none⟩ .e .e) .e))) (.n 277 ⟨true,none,(some [.v (.pointer none)]),[],none,false,false,none,none,none⟩ (.n 262 ⟨false,(some 32),(some [.int .u8 0,.int .u8 0,.int .u8 0,.int .u8 0,.int .u8 0,.int .u8 0,.int .u8 0,.int .u8 0,.int .u8 0,.int .u8 0,.int .u8 0,.int .u8 0,.int .u8 0,.int .u8 0,.int .u8 0,.int .u8 0,.int .u8 0,.int .u8 0,.int .u8 0,.int .u8 0,.int .u8 0,.int .u8 0,.int .u8 0,.int .u8 0,.int .u8 0,.int .u8 0,.int .u8 0,.int .u8 0,.int .u8 0,.int .u8 0,.int .u8 0,.int .u8 0]),[],none,false,false,none,(some [0,0,0,0,0,0,0,0,0,0,0,0,0,0,0,0,0,0,0,0,0,0,0,0,0,0,0,0,0,0,0,0]),(some (32,5,1))⟩ (.n 261 ⟨false,(some 65),(some [.int .u8 0,.int .u8 0,.int .u8 0,.int .u8 0,.int .u8 0,.int .u8 0,.int .u8 0,.int .u8 0,.int .u8 0,.int .u8 0,.int .u8 0,.int .u8 0,.int .u8 0,.int .u8 0,.int .u8 0,.int .u8 0,.int .u8 0,.int .u8 0,.int .u8 0,.int .u8 0,.int .u8 0,.int .u8 0,.int .u8 0,.int .u8 0,.int .u8 0,.int .u8 0,.int .u8 0,.int .u8 0,.int .u8 0,.int .u8 0,.int .u8 0,.int .u8 0,.int .u8 0,.int .u8 0,.int .u8 0,.int .u8 0,.int .u8 0,.int .u8 0,.int .u8 0,.int .u8 0,.int .u8 0,.int .u8 0,.int .u8 0,.int .u8 0,.int .u8 0,.int .u8 0,.int .u8 0,.int .u8 0,.int .u8 0,.int .u8 0,.int .u8 0,.int .u8 0,.int .u8 0,.int .u8 0,.int .u8 0,.int .u8 0,.int .u8 0,.int .u8 0,.int .u8 0,.int .u8 0,.int .u8 0,.int .u8 0,.int .u8 0,.int .u8 0,.int .u8 0]),[],none,false,false,none,(some [0,0,0,0,0,0,0,0,0,0,0,0,0,0,0,0,0,0,0,0,0,0,0,0,0,0,0,0,0,0,0,0,0,0,0,0,0,0,0,0,0,0,0,0,0,0,0,0,0,0,0,0,0,0,0,0,0,0,0,0,0,0,0,0,0]),(some (65,5,1))⟩ (.n 260 ⟨false,(some 20),(some [.int .u64 0,.int .u64 0,.int .u64 0,.int .u64 0,.int .u64 0,.int .u64 0,.int .u64 0,.int .u64 0,.int .u64 0,.int .u64 0,.int .u64 0,.int .u64 0,.int .u64 0,.int .u64 0,.int .u64 0,.int .u64 0,.int .u64 0,.int .u64 0,.int .u64 0,.int .u64 0]),[],none,false,false,none,(some [0,0,0,0,0,0,0,0,0,0,0,0,0,0,0,0,0,0,0,0]),(some (20,185,1))⟩ .e .e) .e) (.n 271 ⟨true,none,(some [.v .nilFunc]),[],none,false,false,none,none,none⟩ (.n 263 ⟨false,(some 64),(some [.int .u8 0,.int .u8 0,.int .u8 0,.int .u8 0,.int .u8 0,.int .u8 0,.int .u8 0,.int .u8 0,.int .u8 0,.int .u8 0,.int .u8 0,.int .u8 0,.int .u8 0,.int .u8 0,.int .u8 0,.int .u8 0,.int .u8 0,.int .u8 0,.int .u8 0,.int .u8 0,.int .u8 0,.int .u8 0,.int .u8 0,.int .u8 0,.int .u8 0,.int .u8 0,.int .u8 0,.int .u8 0,.int .u8 0,.int .u8 0,.int .u8 0,.int .u8 0,.int .u8 0,.int .u8 0,.int .u8 0,.int .u8 0,.int .u8 0,.int .u8 0,.int .u8 0,.int .u8 0,.int .u8 0,.int .u8 0,.int .u8 0,.int .u8 0,.int .u8 0,.int .u8 0,.int .u8 0,.int .u8 0,.int .u8 0,.int .u8 0,.int .u8 0,.int .u8 0,.int .u8 0,.int .u8 0,.int .u8 0,.int .u8 0,.int .u8 0,.int .u8 0,.int .u8 0,.int .u8 0,.int .u8 0,.int .u8 0,.int .u8 0,.int .u8 0]),[],none,false,false,none,(some [0,0,0,0,0,0,0,0,0,0,0,0,0,0,0,0,0,0,0,0,0,0,0,0,0,0,0,0,0,0,0,0,0,0,0,0,0,0,0,0,0,0,0,0,0,0,0,0,0,0,0,0,0,0,0,0,0,0,0,0,0,0,0,0]),(some (64,5,1))⟩ .e .e) .e)) (.n 304 ⟨false,(some 2),(some [.int .u8 0,.int .u8 0]),[(5,0,1),(5,1,1)],none,false,false,none,(some [0,0]),none⟩ (.n 298 ⟨false,(some 3),(some [zS,zS,.v .nilIface]),[(9,0,1),(9,1,1),(215,2,1)],none,false,false,none,none,none⟩ (.n 293 ⟨true,none,(some [.v (.pointer none)]),[],none,false,false,none,none,none⟩ .e .e) .e) (.n 308 ⟨false,(some 1),(some [zS]),[(9,0,1)],none,false,false,none,(some [2]),none⟩ (.n 305 ⟨false,(some 32),(some [.int .u8 0,.int .u8 0,.int .u8 0,.int .u8 0,.int .u8 0,.int .u8 0,.int .u8 0,.int .u8 0,.int .u8 0,.int .u8 0,.int .u8 0,.int .u8 0,.int .u8 0,.int .u8 0,.int .u8 0,.int .u8 0,.int .u8 0,.int .u8 0,.int .u8 0,.int .u8 0,.int .u8 0,.int .u8 0,.int .u8 0,.int .u8 0,.int .u8 0,.int .u8 0,.int .u8 0,.int .u8 0,.int .u8 0,.int .u8 0,.int .u8 0,.int .u8 0]),[],none,false,false,none,(some [0,0,0,0,0,0,0,0,0,0,0,0,0,0,0,0,0,0,0,0,0,0,0,0,0,0,0,0,0,0,0,0]),(some (16,304,2))⟩ .e .e) .e))))))
theorem hX:Tb.ok Tryz.prog X=true:=by kernel_rfl
section
variable {n:Nat}{ks:List Nat}{G0:Gr}{w0:World}{T T':List (Nat×SV)}{H H':Hp}{G:Gr}{a:Act}{w:World}{Q:Exit→Act→World→Prop}{K K':List Fr}{pos pos':Pos}{E:Ob}
abbrev SV.z9:SV:=.int .i64 0
theorem N9 (f:Nat)(A:Sy n T H ks G0 w0 G a w)(h:bX ⟨X,true⟩ n f T H K pos=⟨T',H',K',pos',E⟩)(hE:Dr E)(hk:∀{G a w},Sy n T' H' ks G0 w0 G a w→Goal Tryz.prog Q K' pos' a w):Goal Tryz.prog Q K pos a w:=N hX f A h hE hk
theorem R9 {fn:Func}{x:SV}{H2 H0:Hp}{y:SV}{r:List SV}{rv:List ResultVar}(A:Sy n T H (keys H0 G0) G0 w0 G a w)(h1:(fn.results.toList,JE ⟨X,false⟩ T H rv,BA r)=(rv,some r,y))(h0:H0.length=G0.length)(h2:(LQ H0.length y,H.take H0.length,ZY H0.length H',Q0 H0 H2)=(true,H',true,UV H2))(hR:nb y=nb x)(hS:CC H'=CC H2):bodyPost Tryz.prog fn (Mr (Rt x H2) H0 G0 w0) .ret a w:=by
 simp only [κ0]at h1 h2
 exact tK hX A h1.1 h1.2.1 h1.2.2 h0 h2.1 h2.2.1 h2.2.2.1 h2.2.2.2 hR hS
theorem C9 {ops:Array Oper}{o:Oper}{rest:List Oper}{f:Nat}{args az:List SV}{H2 l l2:Hp}{x y:SV}(m:List Nat)(hf:Fn Tryz.prog f args H' (Rt x H2))(A:Sy n T H ks G0 w0 G a w)(h:(B6 n ops T o,EB m args,DE m H',DA H m,Jt m,Dv (m++Bj H.length (H2.length - m.length)) x,DE (m++Bj H.length (H2.length - m.length)) H2)=(some (f,az),some az,some l,some l,true,some y,some l2))(hk:∀{G a w},Sy n (Bh T o.dst y) (CU H m l2) ks G0 w0 G a w→Goal Tryz.prog Q K (.ops ops rest) a w):Goal Tryz.prog Q K (.ops ops (o::rest)) a w:=by
 simp only [κ0]at h
 exact kZ m hf A h.1 h.2.1 h.2.2.1 h.2.2.2.1 h.2.2.2.2.1 h.2.2.2.2.2.1 h.2.2.2.2.2.2 hk
end
end Go.Proofs.YtbbdanhpphlbpaaGreatDoor
namespace Go.Proofs.YtbbdanhpphlbpaaGreatDoor
open Go.RowKit
def Xq (m:List Nat):List (Nat×SV)→Option (List (Nat×SV))
 | []=>some []
 | (t,x)::T=>match Dv m x with
  |some y=>match Xq m T with
   |some r=>some ((t,y)::r)
   |none=>none
  |none=>none
theorem Lx {m:List Nat}:∀{T' T:List (Nat×SV)},Xq m T'=some T→∀t x,look T' t=some x→∃y,look T t=some y∧Dv m x=some y
 | [],T,h,t,x,hx=>by cases hx
 | (k,z)::T',T,h,t,x,hx=>by
  unfold Xq at h
  split at h
  ·next y hy=>
   split at h
   ·next r hr=>
    cases h
    simp only [look]at hx⊢
    cases hb:Nat.beq k t with
    |true=>rw [hb]at hx;cases hx;exact⟨y,rfl,hy⟩
    |false=>rw [hb]at hx;exact Lx hr t x hx
   ·cases h
  ·cases h
section
variable {n:Nat}{ks:List Nat}{G0:Gr}{w0:World}{T:List (Nat×SV)}{H:Hp}{G:Gr}{a:Act}{w:World}
theorem Sy.mv (A:Sy n T H ks G0 w0 G a w)(k:Nat)(m:List Nat){T':List (Nat×SV)}{H' l:Hp}(hT:Xq (Bj 0 k++m) T'=some T)(h1:DA H (Bj 0 k++m)=some l)(h2:DE (Bj 0 k++m) H'=some l)(hn:Jt (Bj 0 k++m)=true)(hk:G0.length=k):Sy n T' H' ks G0 w0 (BW (Bj 0 k++m) G) a w:=by
 obtain⟨p1,p2,p3⟩:=D5 h1
 obtain⟨r1,r2⟩:=ER h2
 have hm:∀j∈Bj 0 k++m,j<G.length:=fun j hj=>by rw [←A.mem.len];exact p2 j hj
 refine⟨A.size,A.defers,fun t x hx=>?_,A.mem.sub h1 h2 hn,?_,fun i e L he Jz hL=>?_,A.mix⟩
 ·obtain⟨y,h3,h4⟩:=Lx hT t x hx
  rw [FB hm x h4]
  exact A.get t y h3
 ·obtain⟨F,hF⟩:=A.pre
  refine⟨BW m G,?_⟩
  have:BW (Bj 0 k++m) G=BW (Bj 0 k) G++BW m G:=by simp [BW]
  rw [this,←hk,hF,OE]
 ·obtain⟨f,h3,h4⟩:=r2 i _ he
  have hi:i<(Bj 0 k++m).length:=by rw [←p1];exact(α0.1 h3).1
  obtain⟨f',rfl⟩:=Ds h4
  have hj:(Bj 0 k++m)[i]?=some (Bj 0 k++m)[i]:=by simp [hi]
  rw [B5 hm hj]at hL
  exact A.own _ f' L (by rw [←p3 i _ hj];exact h3) (by rw [(C1 h4).1];exact Jz) hL
end
end Go.Proofs.YtbbdanhpphlbpaaGreatDoor
namespace Go.Proofs.YtbbdanhpphlbpaaGreatDoor
open Go.RowKit
section
variable {P:Program}{Y:Tb}{n:Nat}{ks:List Nat}{G0:Gr}{w0:World}{T:List (Nat×SV)}{H:Hp}{G:Gr}{a:Act}{w w':World}{Q:Exit→Act→World→Prop}{K:List Fr}{ops:Array Oper}{o:Oper}{rest:List Oper}
theorem ED {f:Nat} {args az:List SV} {H' H2 l l2:Hp} {x y:SV} (m:List Nat) (hf:Fn P f args H' (Rt x H2)) (h1:B6 n ops T o=some (f,az)) (h2:EB m args=some az) (h3:DE m H'=some l) (h4:DA H m=some l) (h5:Jt m=true)
  (h6:Dv (m++Bj H.length (H2.length - m.length)) x=some y) (h7:DE (m++Bj H.length (H2.length - m.length)) H2=some l2):Bd P n ops ks G0 w0 T H o y (CU H m l2):=by
 intro G a w A
 rcases Q4 (R2:=fun z H3=>z=y∧H3=CU H m l2) m hf A h1 h2 h3 h4 h5 (fun x' H' ⟨e1,e2⟩=>by subst e1;subst e2;exact⟨y,l2,h6,h7,rfl,rfl⟩)with⟨hw,h⟩|⟨hw,z,H3,F,⟨rfl,rfl⟩,g2,g3⟩
 ·refine .inl ⟨hw,fun Q'=>?_⟩
  refine κ6 (fun a' w' hh=>?_) (h Q')
  obtain⟨v,rfl,z,H3,F,⟨rfl,rfl⟩,g2,g3⟩:=hh
  exact⟨v,rfl,F,g2,g3.ms⟩
 ·exact .inr ⟨hw,F,g2,g3.ms⟩
def Xr (Y:Tb) (n:Nat) (ops:Array Oper) (T:List (Nat×SV)) (o:Oper):Option (Nat×Nat):=match DD n o.dst with
 | true=>match BE ops T o.guard with
  | some .run=>match o.op with
   | .binOp .eql t x y _=>match Db T x,Db T y,Y.get t with
    |some (.sl i m _),some (.sla none 0 0),some ti=>match ti.elm with
     |some _=>some (i,m)
     |none=>none
    |_,_,_=>none
   |_=>none
  |_=>none
 |false=>none
theorem Ud {i m:Nat}(hY:Y.ok P=true)(A:Sy n T H ks G0 w0 G a w)(h:Xr Y n ops T o=some (i,m)):DD n o.dst=true∧∃p,G[i]?=some p∧∀K:Value→World→Prop,K (.bool p.isNone) w→Bq P ops o a w K:=by
 obtain⟨d,op,ty,pos,af,gd⟩:=o
 unfold Xr at h
 split at h
 ·next hd=>
  split at h
  ·next i7=>
   have hw:=BQ (gd:=none) A i7
   split at h
   ·next t x y t2 CJ=>
    simp only at CJ
    subst CJ
    split at h
    ·next i' m' c' ti hx hy HZ=>
     split at h
     ·next el QZ=>
      cases h
      obtain⟨e,s,b⟩:=el
      have CH:=A.ev hx
      have Dp:=A.ev hy
      unfold den at CH
      split at CH
      ·next p hp=>
       simp only [den,β2]at CH Dp
       refine⟨hd,p,hp,fun K hK=>Lp (u:=.slice (p.map fun L=>⟨L.b,L.pre.length,none⟩) m (c'+rm p)) (v:=.slice none 0 0) hw CH.symm Dp.symm ⟨by simp [eqGuard],?_⟩ hK⟩
       obtain⟨ie,z,f1',_⟩:=Dn (D0 (Tb.at hY HZ) QZ)
       rw [Go.Lib.run_eql_slice_nil w t e _ _ _ 0 0 f1']
       cases p<;>rfl
      ·cases CH
     ·cases h
    ·cases h
   ·cases h
  ·cases h
 ·cases h
theorem tM {i m s m2:Nat} {f:Nat→List SV} (hY:Y.ok P=true) (A:Sy n T H ks G0 w0 G a w) (h:Xr Y n ops T o=some (i,m)) (hi:lg H i=some (some (.lst s m2 f)))
  (h1:m2=0→∀{G a w},Sy n (Bh T o.dst .tt) H ks G0 w0 G a w→Goal P Q K (.ops ops rest) a w)
  (h2:∀{G a w},Sy n (Bh T o.dst .ff) H ks G0 w0 G a w→Goal P Q K (.ops ops rest) a w):Goal P Q K (.ops ops (o::rest)) a w:=by
 obtain⟨hd,p,hp,I2⟩:=Ud hY A h
 rw [BI]at hi
 have Ca:=A.mem.ent i _ hi
 rw [hp]at Ca
 simp only [γ8]at Ca
 cases p with
 | none=>
  have:m2=0:=by
   rcases Ca.2 with h|⟨L,h,_⟩
   ·exact h
   ·cases h
  exact Cm (Q:=Fz P Q K) (I2 _ (h1 this (Sy.put A hd rfl)))
 |some L=>exact Cm (Q:=Fz P Q K) (I2 _ (h2 (Sy.put A hd rfl)))
theorem tN {i m e s m2 c:Nat} {f:Nat→List SV} (hY:Y.ok P=true) (A:Sy n T H ks G0 w0 G a w) (h:Xr Y n ops T o=some (i,m)) (hi:lg H i=some (some (.row e s m2 c f))) (h0:0<m2)
  (h2:∀{G a w},Sy n (Bh T o.dst .ff) H ks G0 w0 G a w→Goal P Q K (.ops ops rest) a w):Goal P Q K (.ops ops (o::rest)) a w:=by
 obtain⟨hd,p,hp,I2⟩:=Ud hY A h
 rw [BI]at hi
 obtain⟨_,_,xs,_,_,r5⟩:=A.mem.ent i _ hi
 rw [hp]at r5
 simp only [γ8]at r5
 cases p with
 |none=>
  rcases r5 with⟨_,r5⟩|⟨g,cap,cur,q1,_⟩
  ·omega
  ·cases q1
 |some L=>exact Cm (Q:=Fz P Q K) (I2 _ (h2 (Sy.put A hd rfl)))
theorem Ee {fn:Func}{R:Ending→World→Prop}(h:bodyPost P fn R .ret a w):bodyPost P fn R .normal a w:=h
end
abbrev Ef:=World→List Nat→Prop
def Ef.OK (I:Ef):Prop:=∀w ks w' ks',I w ks→DO ks w w'→(∀b,ks'.contains b=true→ks.contains b=true∨w.heap.size≤b)→I w' ks'
def CE (I:Ef)(P:Program)(f:Nat)(args:List SV)(H:Hp)(R:SV→Hp→Prop):Prop:=
 F3 P f=some (false,false)∧∀G w vs,Mem H G w→I w (keys H G)→Al G args=some vs→Calls P f vs.toArray w (Mr R H G w)
theorem Fn.toI {I:Ef}{P:Program}{f:Nat}{args:List SV}{H:Hp}{R:SV→Hp→Prop}(h:Fn P f args H R):CE I P f args H R:=⟨h.1,fun G w vs hM _ hv=>h.2 G w vs hM hv⟩
theorem CE.mono {I J:Ef}{P:Program}{f:Nat}{args:List SV}{H:Hp}{R:SV→Hp→Prop}(h:CE I P f args H R)(hj:∀w ks,J w ks→I w ks):CE J P f args H R:=⟨h.1,fun G w vs hM hJ hv=>h.2 G w vs hM (hj _ _ hJ) hv⟩
section
variable {P:Program}{X:Tx}{n:Nat}{ks:List Nat}{G0:Gr}{w0:World}{T:List (Nat×SV)}{H:Hp}{G:Gr}{a:Act}{w:World}{ops:Array Oper}{o:Oper}{rest:List Oper}{Q:Exit→Act→World→Prop}{K:List Fr}{I:Ef}
theorem CE.at {f:Nat}{args:List SV}{H':Hp}{R:SV→Hp→Prop}(h:CE I P f args H' R)(hI:I.OK)(h0:I w0 ks)(hm:DO ks w0 w){Gp:Gr}:Sb P f args H' R Gp w ks w0:=
 ⟨h.1,fun vs hM EA hv=>h.2 Gp w vs hM (hI _ _ _ _ h0 hm EA) hv⟩
theorem OQ {f:Nat} {args az:List SV} {H' l:Hp} {R R2:SV→Hp→Prop} (m:List Nat) (A:Sy n T H ks G0 w0 G a w) (hf:Sb P f args H' R (BW m G) w ks w0) (h1:B6 n ops T o=some (f,az)) (h2:EB m args=some az) (h3:DE m H'=some l) (h4:DA H m=some l) (h5:Jt m=true)
  (hk:∀x H2,R x H2→∃y l2,Dv (m++Bj H.length (H2.length - m.length)) x=some y∧DE (m++Bj H.length (H2.length - m.length)) H2=some l2∧R2 y (CU H m l2)):Bq P ops o a w fun v w'=>∃y H3 F,R2 y H3∧den (G++F) y=some v∧Sy n T H3 ks G0 w0 (G++F) a w':=
 Kc m A hf (Ci A h1 hf.1) h2 h3 h4 h5 hk
theorem lC {f:Nat} {args az:List SV} {H' H2 l l2:Hp} {x y:SV} (m:List Nat) (hI:I.OK) (h0:I w0 ks) (hf:CE I P f args H' (Rt x H2)) (A:Sy n T H ks G0 w0 G a w) (h1:B6 n ops T o=some (f,az)) (h2:EB m args=some az) (h3:DE m H'=some l) (h4:DA H m=some l) (h5:Jt m=true)
  (h6:Dv (m++Bj H.length (H2.length - m.length)) x=some y) (h7:DE (m++Bj H.length (H2.length - m.length)) H2=some l2) (hk:∀{G a w},Sy n (Bh T o.dst y) (CU H m l2) ks G0 w0 G a w→Goal P Q K (.ops ops rest) a w):Goal P Q K (.ops ops (o::rest)) a w:=by
 have hd:=(Ci (P:=P) (ops:=ops) A h1 hf.1).1
 refine Cm (Q:=Fz P Q K) ?_
 rcases OQ (R2:=fun y H3=>∀{G a w},Sy n (Bh T o.dst y) H3 ks G0 w0 G a w→Goal P Q K (.ops ops rest) a w) m A (hf.at hI h0 A.mix) h1 h2 h3 h4 h5 (fun x' H' ⟨e1,e2⟩=>by subst e1;subst e2;exact⟨y,l2,h6,h7,hk⟩)with⟨hw,h⟩|⟨hw,y,H3,F,g1,g2,g3⟩
 ·refine .inl ⟨hw,fun Q'=>?_⟩
  refine κ6 (fun a' w' hh=>?_) (h Q')
  obtain⟨v,rfl,y,H3,F,g1,g2,g3⟩:=hh
  exact⟨v,rfl,g1 (Sy.put g3 hd g2)⟩
 ·exact .inr ⟨hw,g1 (Sy.put g3 hd g2)⟩
theorem De {f:Nat} {args az:List SV} {H' H2 l l2:Hp} {x y:SV} (m:List Nat) (hI:I.OK) (h0:I w0 ks) (hf:CE I P f args H' (Rt x H2)) (h1:B6 n ops T o=some (f,az)) (h2:EB m args=some az) (h3:DE m H'=some l) (h4:DA H m=some l) (h5:Jt m=true)
  (h6:Dv (m++Bj H.length (H2.length - m.length)) x=some y) (h7:DE (m++Bj H.length (H2.length - m.length)) H2=some l2):Bd P n ops ks G0 w0 T H o y (CU H m l2):=by
 intro G a w A
 rcases OQ (R2:=fun z H3=>z=y∧H3=CU H m l2) m A (hf.at hI h0 A.mix) h1 h2 h3 h4 h5 (fun x' H' ⟨e1,e2⟩=>by subst e1;subst e2;exact⟨y,l2,h6,h7,rfl,rfl⟩)with⟨hw,h⟩|⟨hw,z,H3,F,⟨rfl,rfl⟩,g2,g3⟩
 ·refine .inl ⟨hw,fun Q'=>?_⟩
  refine κ6 (fun a' w' hh=>?_) (h Q')
  obtain⟨v,rfl,z,H3,F,⟨rfl,rfl⟩,g2,g3⟩:=hh
  exact⟨v,rfl,F,g2,g3.ms⟩
 ·exact .inr ⟨hw,F,g2,g3.ms⟩
theorem BB {f:Nat} {fn:Func} {c:Code} {args:List SV} {R:SV→Hp→Prop} (Ca:F3 P f=some (false,false)) (hf:P.funcs[f]?=some fn) (hb:fn.body=some c) (hn:fn.ntmps=n) (hl:Nat.ble args.length n=true)
  (h:∀G w a,H.length=G.length→I w (keys H G)→Sy n (Mt args 0) H (keys H G) G w G a w→Goal P (bodyPost P fn (Mr R H G w)) [] (.code c) a w):CE I P f args H R:=by
 refine⟨Ca,fun G w vs hM hI hv=>?_⟩
 refine ξ6 hf hb (h G w _ hM.len hI ⟨?_,rfl,fun t x hx=>?_,hM,⟨[],by simp⟩,fun i e L h1 h2 h3=>.inl (mem_keys.2 ⟨i,e,L,h1,h2,h3,rfl⟩),DO.refl _ _⟩)
 ·have:=Be hv
  have:=ε1 hl
  simp [hn];omega
 ·obtain⟨_,h2⟩:=EF hx
  simp only [ν9]at h2
  obtain⟨v,h3,h4⟩:=C5 hv h2
  have Bn:t<vs.length:=(α0.1 h3).1
  rw [h4]
  simp [β3,ι4,Bn]at h3⊢
  exact h3.symm
end
section
variable {n:Nat}{ks:List Nat}{G0:Gr}{w0:World}{T T':List (Nat×SV)}{H H':Hp}{G:Gr}{a:Act}{w:World}{Q:Exit→Act→World→Prop}{K K':List Fr}{pos pos':Pos}{E:Ob}
theorem I9 {I:Ef}{ops:Array Oper}{o:Oper}{rest:List Oper}{f:Nat}{args az:List SV}{H2 l l2:Hp}{x y:SV}(m:List Nat)(hI:I.OK)(h0:I w0 ks)(hf:CE I Tryz.prog f args H' (Rt x H2))(A:Sy n T H ks G0 w0 G a w)(h:(B6 n ops T o,EB m args,DE m H',DA H m,Jt m,Dv (m++Bj H.length (H2.length - m.length)) x,DE (m++Bj H.length (H2.length - m.length)) H2)=(some (f,az),some az,some l,some l,true,some y,some l2))(hk:∀{G a w},Sy n (Bh T o.dst y) (CU H m l2) ks G0 w0 G a w→Goal Tryz.prog Q K (.ops ops rest) a w):Goal Tryz.prog Q K (.ops ops (o::rest)) a w:=by
 simp only [κ0]at h
 exact lC m hI h0 hf A h.1 h.2.1 h.2.2.1 h.2.2.2.1 h.2.2.2.2.1 h.2.2.2.2.2.1 h.2.2.2.2.2.2 hk
end
mutual
def IR:SV→List (Option Addr)
 | .sla ao _ _=>[ao]
 | .agg l=>Pb l
 |_=>[]
def Pb:List SV→List (Option Addr)
 | []=>[]
 |x::l=>IR x++Pb l
end
mutual
def Se (i:Nat):SV→SV
 | .sla _ m c=>.sl i m c
 | .agg l=>.agg (cB i l)
 |x=>x
def cB (i:Nat):List SV→List SV
 | []=>[]
 |x::l=>Se i x::cB i l
end
def Kj:Option Addr→Option Loc
 |some a=>some ⟨a.block,[],[],0⟩
 |none=>none
mutual
theorem Ue {G:Gr}{i:Nat}{ao:Option Addr}(ha:∀a,ao=some a→a=⟨a.block,0,none⟩)(hG:G[i]?=some (Kj ao)):∀(x:SV),(∀z∈IR x,z=ao)→den G (Se i x)=den G x
 | .sla a m c,h=>by
  have h1:a=ao:=h a (by unfold IR;exact η5.2 rfl)
  subst h1
  unfold Se den
  rw [hG]
  cases a with
  |none=>rfl
  |some a=>have:=ha a rfl;simp only [Kj,δ4,rm,α7,θ8];rw [this]
 | .agg l,h=>by unfold Se den;rw [Mx ha hG l (by unfold IR at h;exact h)]
 | .int _ _,_=>rfl
 | .bool _,_=>rfl
 | .tt,_=>rfl
 | .ff,_=>rfl
 | .str _,_=>rfl
 | .ptr _ _,_=>rfl
 | .el _ _ _ _,_=>rfl
 | .ix _ _ _ _ _,_=>rfl
 | .sl _ _ _,_=>rfl
 | .sp _ _ _,_=>rfl
 | .st _ _ _ _ _,_=>rfl
 | .tup _,_=>rfl
 | .fn _ _,_=>rfl
 | .opt _ _,_=>rfl
 | .v _,_=>rfl
theorem Mx {G:Gr}{i:Nat}{ao:Option Addr}(ha:∀a,ao=some a→a=⟨a.block,0,none⟩)(hG:G[i]?=some (Kj ao)):∀(l:List SV),(∀z∈Pb l,z=ao)→Al G (cB i l)=Al G l
 | [],_=>rfl
 |x::l,h=>by
  unfold Pb at h
  unfold cB Al
  rw [Ue ha hG x (fun z hz=>h z (ρ2 _ hz)),Mx ha hG l (fun z hz=>h z (π3 _ hz))]
end
def DQ (ao:Option Addr)(ps:List Int)(w:World)(ks:List Nat):Prop:=
 (ao=none∧ps=[])∨∃b,ao=some ⟨b,0,none⟩∧b<w.heap.size∧ks.contains b=false∧w.rangeAt b 0 (ps.map (Value.int .i64))
theorem DQ.go {ao:Option Addr}{ps:List Int}{w w':World}{ks ks':List Nat}(h:DQ ao ps w ks)(m:DO ks w w')(hk:∀b,ks'.contains b=true→ks.contains b=true∨w.heap.size≤b):DQ ao ps w' ks':=by
 rcases h with h|⟨b,h1,h2,h3,h4⟩
 ·exact .inl h
 ·refine .inr ⟨b,h1,ζ2 h2 m.size,?_,FY h4 m h2 h3⟩
  cases hc:ks'.contains b with
  |false=>rfl
  |true=>
   rcases hk b hc with h5|h5
   ·rw [h5]at h3;cases h3
   ·omega
abbrev jR (ps:List Int):Bo:=.lst 1 ps.length fun j=>[.int .i64 (ps.getD j 0)]
section
variable {P:Program}{n:Nat}{ks:List Nat}{G0:Gr}{w0:World}{T:List (Nat×SV)}{H:Hp}{G:Gr}{a:Act}{w:World}{Q:Exit→Act→World→Prop}{K:List Fr}{pos:Pos}
theorem Sy.adopt (A:Sy n T H ks G0 w0 G a w){ao:Option Addr}{ps:List Int}(h0:DQ ao ps w0 ks)(t:Nat){x:SV}(hx:look T t=some x)(hs:∀z∈IR x,z=ao):Sy n ((t,Se H.length x)::T) (H++[some (jR ps)]) ks G0 w0 (G++[Kj ao]) a w:=by
 have hl:=h0.go A.mix (ks':=ks) fun b hb=>.inl hb
 have ha:∀q,ao=some q→q=⟨q.block,0,none⟩:=by
  intro q hq
  rcases h0 with⟨h1,_⟩|⟨b,h1,_⟩
  ·rw [h1]at hq;cases hq
  ·rw [h1]at hq;cases hq;rfl
 refine(A.addE (p:=Kj ao) (en:=jR ps) ⟨fun k=>⟨_,rfl⟩,?_⟩ (fun i e L M h1 h2 h3 h=>?_) fun h=>by cases h).slotEq t hx (Ue ha (by rw [α2 (by rw [A.mem.len];exact β7 _),A.mem.len];simp) x hs)
 ·rcases hl with⟨_,h2⟩|⟨b,h1,h2,_,h4⟩
  ·left;rw [h2];rfl
  ·right
   subst h1
   refine⟨_,rfl,h2,fun k hk=>⟨_,rfl,fun j y hy=>?_⟩⟩
   cases j with
   |succ j=>simp at hy
   |zero=>
    simp at hy
    subst hy
    simpa using h4 k (.int .i64 (ps.getD k 0)) (by simp [List.getD,hk])
 ·rcases h0 with⟨q,_⟩|⟨b,q,q4,q5,_⟩<;>subst q<;>cases h3
  exact A.apart q4 q5 h1 h2 (h.elim (fun z=>by cases z.2) (·.1))
theorem ZZ {ao:Option Addr}{ps:List Int}(t:Nat)(h0:DQ ao ps w0 ks)(A:Sy n T H ks G0 w0 G a w){x y:SV}{H':Hp}(hx:look T t=some x)(hs:IR x=[ao])(hy:Se H.length x=y)(hH:H++[some (jR ps)]=H')(hk:∀{G},Sy n ((t,y)::T) H' ks G0 w0 G a w→Goal P Q K pos a w):Goal P Q K pos a w:=by
 subst hy;subst hH
 exact hk (A.adopt h0 t hx fun z hz=>by rw [hs]at hz;exact η5.1 hz)
end
def Kk (b o:Nat)(vs:List Value)(w:World)(ks:List Nat):Prop:=b<w.heap.size∧ks.contains b=false∧w.rangeAt b o vs
theorem Kk.go {b o:Nat}{vs:List Value}{w w':World}{ks ks':List Nat}(h:Kk b o vs w ks)(m:DO ks w w')(hk:∀b,ks'.contains b=true→ks.contains b=true∨w.heap.size≤b):Kk b o vs w' ks':=by
 obtain⟨h1,h2,h3⟩:=h
 refine⟨ζ2 h1 m.size,?_,FY h3 m h1 h2⟩
 cases hc:ks'.contains b with
 |false=>rfl
 |true=>
  rcases hk b hc with h5|h5
  ·rw [h5]at h2;cases h2
  ·omega
abbrev GP (b o:Nat):SV:=.v (.pointer (some ⟨b,o,none⟩))
section
variable {P:Program}{n:Nat}{ks:List Nat}{G0:Gr}{w0:World}{T:List (Nat×SV)}{H:Hp}{G:Gr}{a:Act}{w:World}{Q:Exit→Act→World→Prop}{K:List Fr}{pos:Pos}{ops:Array Oper}{o:Oper}{rest:List Oper}
theorem Sy.base (A:Sy n T H ks G0 w0 G a w):Sy n T H (keys H G) G w G a w:=
 ⟨A.size,A.defers,A.get,A.mem,⟨[],by simp⟩,fun i e L h1 h2 h3=>.inl (mem_keys.2 ⟨i,e,L,h1,h2,h3,rfl⟩),DO.refl _ _⟩
theorem Sy.keys_own (A:Sy n T H ks G0 w0 G a w):∀b,(keys H G).contains b=true→ks.contains b=true∨w0.heap.size≤b:=fun b hb=>by
 obtain⟨i,e,L,h1,h2,h3,h4⟩:=mem_keys.1 hb
 rw [←h4];exact A.own i e L h1 h2 h3
theorem Sy.trans {n':Nat}{T1:List (Nat×SV)}{H1:Hp}{G1:Gr}{a1:Act}{w1:World}(B:Sy n' T1 H1 ks G0 w0 G1 a1 w1)(A:Sy n T H (keys H1 G1) G1 w1 G a w):Sy n T H ks G0 w0 G a w:=by
 obtain⟨F1,h1⟩:=B.pre
 obtain⟨F2,h2⟩:=A.pre
 refine⟨A.size,A.defers,A.get,A.mem,⟨F1++F2,by rw [h2,h1,γ2]⟩,fun i e L k1 k2 k3=>?_,B.mix.mix A.mix fun k hk hc=>?_⟩
 ·rcases A.own i e L k1 k2 k3 with h|h
  ·exact B.keys_own _ h
  ·exact .inr (β4 B.mix.size h)
 ·cases hq:(keys H1 G1).contains k with
  |false=>rfl
  |true=>
   rcases B.keys_own k hq with h|h
   ·rw [h]at hc;cases hc
   ·omega
theorem Ef.OK.now {I:Ef}(hI:I.OK)(A:Sy n T H ks G0 w0 G a w)(h0:I w0 ks):I w (keys H G):=hI _ _ _ _ h0 A.mix A.keys_own
theorem Uf {β:Type} {c:Code} (T':β→List (Nat×SV)) (H':β→Hp) (J:β→World→Gr→Prop) (μ:β→Nat) (z:β) (A:Sy n (T' z) (H' z) ks G0 w0 G a w) (hJ:J z w G)
  (round:∀z G a w,J z w G→G0.length≤G.length→Sy n (T' z) (H' z) (keys (H' z) G) G w G a w→Sy n (T' z) (H' z) ks G0 w0 G a w→Goal P Q (.lp (fun a' w'=>∃z' G',μ z'<μ z∧J z' w' G'∧Sy n (T' z') (H' z') ks G0 w0 G' a' w')::K) (.code c) a w):Goal P Q K (.code (.loop c)) a w:=by
 refine Mf (fun m a w=>∃z G,μ z=m∧J z w G∧Sy n (T' z) (H' z) ks G0 w0 G a w) (μ z) ⟨z,G,rfl,hJ,A⟩ ?_
 rintro m a w ⟨z,G,rfl,hz,A⟩
 obtain⟨F,hF⟩:=A.pre
 refine ξ8 (fun e a' w' h=>?_) (round z G a w hz (by rw [hF];simp) A.base A)
 cases e with
 |normal=>obtain⟨z',G',h1,h2,h3⟩:=h;exact⟨μ z',h1,z',G',rfl,h2,h3⟩
 |_=>exact h
theorem Gm {β:Type} {c:Code} (T':β→List (Nat×SV)) (H':β→Hp) (J:β→World→List Nat→Prop) (μ:β→Nat) (z:β) (A:Sy n (T' z) (H' z) ks G0 w0 G a w) (hJ:J z w (keys (H' z) G))
  (round:∀z G a w,J z w (keys (H' z) G)→G0.length≤G.length→Sy n (T' z) (H' z) (keys (H' z) G) G w G a w→Sy n (T' z) (H' z) ks G0 w0 G a w→Goal P Q (.lp (fun a' w'=>∃z' G',μ z'<μ z∧J z' w' (keys (H' z') G')∧Sy n (T' z') (H' z') ks G0 w0 G' a' w')::K) (.code c) a w):Goal P Q K (.code (.loop c)) a w:=
 Uf T' H' (fun z w G=>J z w (keys (H' z) G)) μ z A hJ round
end
theorem CB {H H' l:Hp}{G:Gr}{m:List Nat}(hlen:H.length=G.length)(h1:DA H m=some l)(h2:DE m H'=some l):∀b,(keys H' (BW m G)).contains b=true→(keys H G).contains b=true:=fun b hb=>by
 obtain⟨p1,p2,p3⟩:=D5 h1
 obtain⟨r1,r2⟩:=ER h2
 have hm:∀j∈m,j<G.length:=fun j hj=>by rw [←hlen];exact p2 j hj
 obtain⟨i,e,L,k1,km,k2,k3⟩:=mem_keys.1 hb
 obtain⟨f,q1,q2⟩:=r2 i _ k1
 obtain⟨f',rfl⟩:=Ds q2
 have hi:i<m.length:=by rw [←p1];exact(α0.1 q1).1
 have hj:m[i]?=some m[i]:=by simp [hi]
 rw [B5 hm hj]at k2
 rw [p3 i _ hj]at q1
 exact mem_keys.2 ⟨m[i],f',L,q1,by rw [(C1 q2).1];exact km,k2,k3⟩
def Ly (P:Program)(f:Nat)(args:List SV)(H:Hp)(J:SV→World→World→Prop):Prop:=
 F3 P f=some (false,false)∧∀G w vs,Mem H G w→Al G args=some vs→Calls P f vs.toArray w fun e w'=>∃x v,den [] x=some v∧e=.returned v∧CI w w'∧J x w w'
section
variable {P:Program}{n:Nat}{ks:List Nat}{G0:Gr}{w0:World}{T:List (Nat×SV)}{H:Hp}{G:Gr}{a:Act}{w:World}{Q:Exit→Act→World→Prop}{K:List Fr}{pos:Pos}{ops:Array Oper}{o:Oper}{rest:List Oper}
theorem EI {f:Nat} {fn:Func} {c:Code} {args:List SV} {J:SV→World→World→Prop} (Ca:F3 P f=some (false,false)) (hf:P.funcs[f]?=some fn) (hb:fn.body=some c) (hn:fn.ntmps=n) (hl:Nat.ble args.length n=true)
  (h:∀G w a,H.length=G.length→Sy n (Mt args 0) H (keys H G) G w G a w→Goal P (bodyPost P fn fun e w'=>∃x v,den [] x=some v∧e=.returned v∧CI w w'∧J x w w') [] (.code c) a w):Ly P f args H J:=by
 refine⟨Ca,fun G w vs hM hv=>?_⟩
 refine ξ6 hf hb (h G w _ hM.len ⟨?_,rfl,fun t x hx=>?_,hM,⟨[],by simp⟩,fun i e L h1 h2 h3=>.inl (mem_keys.2 ⟨i,e,L,h1,h2,h3,rfl⟩),DO.refl _ _⟩)
 ·have:=Be hv
  have:=ε1 hl
  simp [hn];omega
 ·obtain⟨_,h2⟩:=EF hx
  simp only [ν9]at h2
  obtain⟨v,h3,h4⟩:=C5 hv h2
  have Bn:t<vs.length:=(α0.1 h3).1
  rw [h4]
  simp [β3,ι4,Bn]at h3⊢
  exact h3.symm
theorem JH {Y:Tb}{fn:Func}{J:SV→World→World→Prop}{H0:Hp}(hX:Y.ok P=true){y:SV}{r:List SV}{rv:List ResultVar}{v':Value}(A:Sy n T H (keys H0 G0) G0 w0 G a w)(SG:∀(i:Nat) (e:Bo),H0[i]?=some (some e)→e.mut=false)(hr:fn.results.toList=rv)(hv:JE ⟨Y,false⟩ T H rv=some r)(hy:BA r=y)(hc:den [] y=some v')(hJ:J y w0 w):bodyPost P fn (fun e w'=>∃x v,den [] x=some v∧e=.returned v∧CI w0 w'∧J x w0 w') .ret a w:=by
 obtain⟨v,h1,h2⟩:=G9 (X:=⟨Y,false⟩) (fn:=fn) hX A hr hv hy
 have h3:den G y=some v':=by simpa using BF G y hc
 rw [h3]at h1
 cases h1
 have hk:∀k,(keys H0 G0).contains k=false:=fun k=>by
  cases hz:(keys H0 G0).contains k with
  |false=>rfl
  |true=>
   obtain⟨i,e',L,q1,q2,_⟩:=mem_keys.1 hz
   rw [SG i e' q1]at q2;cases q2
 have hm:=A.mix
 exact⟨A.defers,v',h2,y,v',hc,rfl,⟨hm.os,hm.tape,hm.output,hm.size,fun k EC=>hm.block k EC (hk k)⟩,hJ⟩
theorem OR {f:Nat} {args az:List SV} {H' l:Hp} {J:SV→World→World→Prop} (m:List Nat) (hf:Ly P f args H' J) (A:Sy n T H ks G0 w0 G a w) (h1:B6 n ops T o=some (f,az)) (h2:EB m args=some az) (h3:DE m H'=some l) (h4:DA H m=some l) (h5:Jt m=true)
  (hk:∀x a' w',J x w w'→(∀k,(keys H G).contains k=true→k<w.heap.size)→Sy n (Bh T o.dst x) H ks G0 w0 G a' w'→Goal P Q K (.ops ops rest) a' w'):Goal P Q K (.ops ops (o::rest)) a w:=by
 obtain⟨hd,us,hu,I2⟩:=Ci (P:=P) (ops:=ops) A h1 hf.1
 obtain⟨p1,p2,p3⟩:=D5 h4
 have hm:∀j∈m,j<G.length:=fun j hj=>by rw [←A.mem.len];exact p2 j hj
 have hM:=A.mem.sub h4 h3 h5
 have Qb:Al (BW m G) args=some us:=by rw [D4 hm args h2];exact hu
 refine Cm (Q:=Fz P Q K) (I2 (hf.2 _ w us hM Qb) fun e w' he=>?_)
 obtain⟨x,v,e1,rfl,hg,hJ⟩:=he
 refine⟨v,rfl,hk x _ _ hJ (fun k hz=>?_) (Sy.put ⟨A.size,A.defers,A.get,⟨A.mem.len,fun i e hi=>(A.mem.ent i e hi).mix hg.mix (fun _ _ _=>rfl),A.mem.sep⟩,A.pre,A.own,A.mix.grow hg⟩ hd (by simpa using BF G x e1))⟩
 obtain⟨i,e,L,q1,q2,q3,q4⟩:=mem_keys.1 hz
 have:=A.mem.ent i e q1
 rw [q3]at this
 rw [←q4];exact BK.lt this (Bf q2)
theorem IS {H0:Hp}(B:Sy n T H (keys H0 G0) G0 w0 G a w)(SG:∀(i:Nat) (e:Bo),H0[i]?=some (some e)→e.mut=false){b:Nat}(h:(keys H G).contains b=true∨w.heap.size≤b):w0.heap.size≤b:=by
 rcases h with h|h
 ·rcases B.keys_own b h with h|h
  ·obtain⟨i,e',L,q1,q2,_⟩:=mem_keys.1 h
   rw [SG i e' q1]at q2;cases q2
  ·exact h
 ·exact β4 B.mix.size h
end
def Gl (os:List (Nat×Obj)):Ef:=fun w ks=>∀p∈os,w.heap[p.1]?=some p.2∧ks.contains p.1=false
theorem Gl.ok {os:List (Nat×Obj)}:Ef.OK (Gl os):=fun w ks w' ks' h m hk p hp=>by
 obtain⟨h1,h2⟩:=h p hp
 have hl:p.1<w.heap.size:=(ε3.1 h1).1
 refine⟨by rw [m.block p.1 hl h2];exact h1,?_⟩
 cases hc:ks'.contains p.1 with
 |false=>rfl
 |true=>
  rcases hk _ hc with h3|h3
  ·rw [h3]at h2;cases h2
  ·omega
theorem IT {I:Ef}{P:Program}{f:Nat}{args:List SV}{vs:List Value}{x:SV}{v:Value}(Ca:F3 P f=some (false,false))(ha:Al [] args=some vs)(hx:den [] x=some v)(h:∀w ks,I w ks→Calls P f vs.toArray w fun e w'=>e=.returned v∧CI w w'):CE I P f args [] (Rt x []):=by
 refine⟨Ca,fun G w us hM hI hv=>?_⟩
 have h1:Al G args=some vs:=by simpa using BT G args ha
 rw [h1]at hv
 cases hv
 have hG:G=[]:=δ3 hM.len.symm
 subst hG
 refine(h w _ hI).mono ?_
 rintro e w' ⟨rfl,hg⟩
 exact⟨x,[],[],v,⟨rfl,rfl⟩,by simpa using hx,rfl,⟨rfl,fun i e he=>by simp at he,fun i j e f L M _ he=>by simp at he⟩,(DO.refl _ w).grow hg,β7 _,fun i e he _=>by simp at he,fun i e he=>by simp at he⟩
theorem Xs {P:Program}{f:Nat}{args:List SV}{vs:List Value}{x:SV}{v:Value}(Ca:F3 P f=some (false,false))(ha:Al [] args=some vs)(hx:den [] x=some v)(h:∀w,Calls P f vs.toArray w fun e w'=>e=.returned v∧CI w w'):Fn P f args [] (Rt x []):=by
 have:=IT (I:=fun _ _=>True) Ca ha hx fun w _ _=>h w
 exact⟨this.1,fun G w us hM hv=>this.2 G w us hM trivial hv⟩
theorem RE {I:Ef}{P:Program}{f:Nat}{az:List SV}{H H2:Hp}{x y:SV}(h:CE I P f az H (Rt x H2))(e:∀G,den G x=den G y):CE I P f az H (Rt y H2):=
 ⟨h.1,fun G w vs hM hI hv=>ν6 (h.2 G w vs hM hI hv) fun e' w' ⟨x',H',F,v,⟨q1,q2⟩,r⟩=>by subst q1;subst q2;exact⟨y,_,F,v,⟨rfl,rfl⟩,by rw [←e];exact r.1,r.2⟩⟩
section
variable {P:Program}{n:Nat}{ks:List Nat}{G0:Gr}{w0:World}{I:Ef}
theorem Pc {ops:Array Oper}{Tw:List (Nat×SV)}{H:Hp}{o:Oper}{b:Bool}{f:Nat}{az:List SV}{E:Ob}{x:SV}{v0:Value}(AW:I.OK)(h0:I w0 ks)(h:OI n ops Tw o=some (b,f,az,E))(hE:Dr E)(KO:Hf 0 az=true)(wM:den [] x=some v0)(hf:b=true→CE I P f az [] (Rt x [])):Bd P n ops ks G0 w0 Tw H o (.opt b x) H:=by
 intro G a w A
 obtain⟨k1,k2⟩:=OJ (P:=P) (ops:=ops) A h hE (fun hb=>(hf hb).1)
 cases b with
 |false=>
  refine FV (k1 rfl) ⟨[],?_,by simpa using A.ms⟩
  have:=BF (G:=[]) G x (by simpa using wM)
  simp at this
  simp [den,this]
 | true=>
  obtain⟨Ca,hf⟩:=hf rfl
  obtain⟨vs,hv,I2⟩:=k2 rfl
  have hM:Mem [] [] w:=⟨rfl,fun i e h=>(by cases h),fun i j e f L M _ h=>(by cases h)⟩
  have AZ:Al [] az=some vs:=by
   have:=Bv (G:=G) az KO
   simp only [ι6]at this
   rw [this];exact hv
  refine I2 (hf [] w vs hM (AW _ _ _ _ h0 A.mix fun b hb=>by simp [keys]at hb) AZ) ?_
  rintro e w' ⟨y,H',F,v,⟨rfl,rfl⟩,hx,rfl,Qc,DN,_⟩
  have hF:F=[]:=by have:=Qc.len;simp at this;exact δ3 this.symm
  subst hF
  have hg:CI w w':=⟨DN.os,DN.tape,DN.output,DN.size,fun k hk=>DN.block k hk rfl⟩
  refine⟨v,rfl,[],?_,by simpa using A.ms.grow hg⟩
  have:=BF (G:=[]) G y (by simpa using hx)
  simp at this
  simp [den,this]
end
theorem DQ.ok {ao:Option Addr}{ps:List Int}:Ef.OK (DQ ao ps):=fun w ks w' ks' h m hk=>h.go m hk
end Go.Proofs.YtbbdanhpphlbpaaGreatDoor
namespace Go.Proofs.YtbbdanhpphlbpaaGreatDoor
def Hv (b:UInt8):Bool:=decide (48≤b.toNat∧b.toNat≤57)
def Pd (b:UInt8):Bool:=decide (97≤b.toNat∧b.toNat≤122∨65≤b.toNat∧b.toNat≤90)
def HS (b:UInt8):Bool:=decide (b.toNat=32∨b.toNat=9∨b.toNat=10)
def Ek (b:UInt8):Bool:=Pd b||Hv b
def Ju (b:UInt8):Bool:=Pd b||b.toNat==95
def GQ (b:UInt8):Bool:=Ju b||(Hv b||b.toNat==46)
def rn (p:UInt8→Bool)(l:List UInt8):Nat:=(l.takeWhile p).length
theorem FD (p:UInt8→Bool)(l:List UInt8):rn p l≤l.length:=by
 unfold rn;exact(List.takeWhile_sublist p).length_le
theorem cC (p:UInt8→Bool):rn p []=0:=rfl
theorem RF (p:UInt8→Bool)(b:UInt8)(l:List UInt8):rn p (b::l)=if p b then rn p l+1 else 0:=by
 unfold rn;rw [List.takeWhile_cons];split<;>rfl
theorem HC {l:List UInt8}{n:Nat}{y:UInt8}(h:l[n]?=some y):l.drop n=y::l.drop (n+1):=by
 obtain⟨h1,h2⟩:=α0.1 h
 rw [η2 h1,h2]
theorem Za {p:UInt8→Bool}{l:List UInt8}{n:Nat}{y:UInt8}(h:l[n]?=some y)(hp:p y=true):rn p (l.drop n)=rn p (l.drop (n+1))+1:=by
 rw [HC h,RF,if_pos hp]
theorem Xt {p:UInt8→Bool}{l:List UInt8}{n:Nat}{y:UInt8}(h:l[n]?=some y)(hp:p y=false):rn p (l.drop n)=0:=by
 rw [HC h,RF,if_neg (by simp [hp])]
theorem cD {p:UInt8→Bool}{l:List UInt8}{n:Nat}(h:l.length≤n):rn p (l.drop n)=0:=by
 rw [ι0 h,cC]
end Go.Proofs.YtbbdanhpphlbpaaGreatDoor
namespace Go.Proofs.YtbbdanhpphlbpaaGreatDoor
open Go.RowKit
set_option simprocs false
theorem By:Tryz.prog.follows .mixedOrders=true:=by kernel_rfl
theorem JI {P:Program}{f:Nat}{az:List SV}{H H2:Hp}{x y:SV}(h:Fn P f az H (Rt x H2))(e:∀G,den G x=den G y):Fn P f az H (Rt y H2):=
 ⟨h.1,fun G w vs hM hv=>ν6 (h.2 G w vs hM hv) fun e' w' ⟨x',H',F,v,⟨q1,q2⟩,r⟩=>by subst q1;subst q2;exact⟨y,_,F,v,⟨rfl,rfl⟩,by rw [←e];exact r.1,r.2⟩⟩
theorem IU {p q:Bool}(h:p=q):∀G,den G (.bool p)=den G (.bool q):=fun _=>by rw [h]
theorem Bx {k:IntKind}{p q:Int}(h:p=q):∀G,den G (.int k p)=den G (.int k q):=fun _=>by rw [h]
theorem Kl (c:Int):Fn Tryz.prog 153 [.int .u8 c] [] (Rt (.bool ((decide (48≤c))&&(decide (c≤57)))) []):=
 Am (n:=9) (by kernel_rfl) Tryz.func153 rfl rfl rfl fun G w a h0 A=>N9 17 A rfl rfl fun A=>R9 A rfl h0 rfl rfl rfl
theorem Sf (b:UInt8):Fn Tryz.prog 153 [.int .u8 ((b.toNat:Nat):Int)] [] (Rt (.bool (Hv b)) []):=JI (Kl ((b.toNat:Nat):Int)) (IU (by rw [ν3];simp [Hv,HS,Pd,Ju,GQ,Ek];try omega))
theorem Ug (c:Int):Fn Tryz.prog 150 [.int .u8 c] [] (Rt (.bool (((c==32)||(c==9))||(c==10))) []):=
 Am (n:=13) (by kernel_rfl) Tryz.func150 rfl rfl rfl fun G w a h0 A=>N9 21 A rfl rfl fun A=>R9 A rfl h0 rfl rfl rfl
theorem Sg (b:UInt8):Fn Tryz.prog 150 [.int .u8 ((b.toNat:Nat):Int)] [] (Rt (.bool (HS b)) []):=JI (Ug ((b.toNat:Nat):Int)) (IU (by rw [ν3];simp [Hv,HS,Pd,Ju,GQ,Ek];try omega))
theorem Lz (c:Int):Fn Tryz.prog 206 [.int .u8 c] [] (Rt (.bool (((decide (97≤c))&&(decide (c≤122)))||((decide (65≤c))&&(decide (c≤90))))) []):=
 Am (n:=17) (by kernel_rfl) Tryz.func206 rfl rfl rfl fun G w a h0 A=>N9 25 A rfl rfl fun A=>R9 A rfl h0 rfl rfl rfl
theorem IV (c:Int):Fn Tryz.prog 157 [.int .u8 c] [] (Rt (.bool ((((decide (97≤c))&&(decide (c≤122)))||((decide (65≤c))&&(decide (c≤90))))||(c==95))) []):=
 Am (n:=9) (by kernel_rfl) Tryz.func157 rfl rfl rfl fun G w a h0 A=>N9 8 A rfl rfl fun A=>C9 [] (Lz c) A rfl fun A=>N9 8 A rfl rfl fun A=>R9 A rfl h0 rfl rfl rfl
theorem LZ (b:UInt8):Fn Tryz.prog 157 [.int .u8 ((b.toNat:Nat):Int)] [] (Rt (.bool (Ju b)) []):=JI (IV ((b.toNat:Nat):Int)) (IU (by rw [ν3];simp [Hv,HS,Pd,Ju,GQ,Ek];try omega))
def FE (c:Int):Bool:=if((((decide (97≤c))&&(decide (c≤122)))||((decide (65≤c))&&(decide (c≤90))))||(c==95))=true then true else((decide (48≤c))&&(decide (c≤57)))||(c==46)
theorem OT (c:Int):Fn Tryz.prog 158 [.int .u8 c] [] (Rt (.bool (FE c)) []):=
 Am (n:=13) (by kernel_rfl) Tryz.func158 rfl rfl rfl fun G w a h0 A=>N9 8 A rfl rfl fun A=>C9 [] (IV c) A rfl fun A=>N9 1 A rfl rfl fun A=>fork 5 A rfl
  (fun h1 A=>N9 11 A rfl rfl fun A=>R9 A rfl h0 rfl (by simp only [BA,nb,CK,CC,FE,if_pos h1]) rfl)
  (fun h1 A=>N9 1 A rfl rfl fun A=>C9 [] (Kl c) A rfl fun A=>N9 9 A rfl rfl fun A=>R9 A rfl h0 rfl (by simp only [BA,nb,CK,CC,FE,if_neg (α8 h1)]) rfl)
theorem My (b:UInt8):Fn Tryz.prog 158 [.int .u8 ((b.toNat:Nat):Int)] [] (Rt (.bool (GQ b)) []):=JI (OT ((b.toNat:Nat):Int)) (IU (by rw [ν3];simp [FE,Hv,HS,Pd,Ju,GQ,Ek];try omega))
def ET (c:Int):Bool:=if(((decide (97≤c))&&(decide (c≤122)))||((decide (65≤c))&&(decide (c≤90))))=true then true else(decide (48≤c))&&(decide (c≤57))
theorem La (c:Int):Fn Tryz.prog 156 [.int .u8 c] [] (Rt (.bool (ET c)) []):=
 Am (n:=9) (by kernel_rfl) Tryz.func156 rfl rfl rfl fun G w a h0 A=>N9 8 A rfl rfl fun A=>C9 [] (Lz c) A rfl fun A=>N9 1 A rfl rfl fun A=>fork 5 A rfl
  (fun h1 A=>N9 7 A rfl rfl fun A=>R9 A rfl h0 rfl (by simp only [BA,nb,CK,CC,ET,if_pos h1]) rfl)
  (fun h1 A=>N9 1 A rfl rfl fun A=>C9 [] (Kl c) A rfl fun A=>N9 5 A rfl rfl fun A=>R9 A rfl h0 rfl (by simp only [BA,nb,CK,CC,ET,if_neg (α8 h1)]) rfl)
theorem Km (b:UInt8):Fn Tryz.prog 156 [.int .u8 ((b.toNat:Nat):Int)] [] (Rt (.bool (Ek b)) []):=JI (La ((b.toNat:Nat):Int)) (IU (by rw [ν3];simp [ET,Hv,HS,Pd,Ju,GQ,Ek];try omega))
theorem DB {l:List UInt8}{k:Nat}(h:(k:Int)<(l.length:Int)):l[k]?=some (l.getD ((k:Int)).toNat 0):=by
 have hk:k<l.length:=by omega
 simp [List.getD,hk]
theorem Uh {p:UInt8→Bool}{l:List UInt8}{k:Nat}(h:k≤l.length∧k+rn p (l.drop k)=rn p l)(h1:(k:Int)<(l.length:Int))(h2:p (l.getD ((k:Int)).toNat 0)=true):k+1≤l.length∧k+1+rn p (l.drop (k+1))=rn p l:=by
 have:=Za (DB h1) h2
 exact⟨by omega,by omega⟩
theorem OU {p:UInt8→Bool}{l:List UInt8}{k:Nat}(h:k≤l.length∧k+rn p (l.drop k)=rn p l)(h2:¬(k:Int)<(l.length:Int)∨((k:Int)<(l.length:Int)∧p (l.getD ((k:Int)).toNat 0)=false)):(k:Int)=((rn p l:Nat):Int):=by
 rcases h2 with h2|⟨h1,h2⟩
 ·have:=cD (p:=p) (l:=l) (n:=k) (by omega);omega
 ·have:=Xt (DB h1) h2;omega
theorem lD (f:Nat)(p:UInt8→Bool)(l:List UInt8)(hf:∀b:UInt8,Fn Tryz.prog f [.int .u8 ((b.toNat:Nat):Int)] [] (Rt (.bool (p b)) []))(hl:l.length≤1000000):Fn Tryz.prog 155 [.str l,.fn f []] [] (Rt (.int .i64 ((rn p l:Nat):Int)) []):=
 Am (n:=20) (by kernel_rfl) Tryz.func155 rfl rfl rfl fun G w a h0 A=>N9 12 A rfl rfl fun A=>B7 (fun(k:Nat)=>[(0,.str l),(1,.fn f []),(4,.int .i64 0),(5,.int .i64 (k:Int))]) (fun(k:Nat)=>[]) (fun(k:Nat)=>k≤l.length∧k+rn p (l.drop k)=rn p l) (fun(k:Nat)=>l.length - k) 0 ⟨β8 _,by simp⟩ ((A.cut [0,1,4,5] rfl).trunc 0 rfl rfl rfl (Cj h0 rfl)) fun k hI {G a w} A=>N9 8 A rfl rfl fun A=>Aq 10 A rfl
   (fun h1 A=>N9 4 A rfl (Aj (by omega)<|Ah) fun A=>C9 [] (hf (l.getD ((k:Int)).toNat 0)) A rfl fun A=>N9 3 A rfl rfl fun A=>fork 16 A rfl
    (fun h2 A=>N9 10 A rfl (Aj (by omega)<|Ah) fun A=>⟨k+1,_,(by omega),(Uh hI h1 h2),((A.cut [0,1,4,5] rfl).trunc 0 rfl rfl rfl (Cj h0 rfl))⟩)
    (fun h2 A=>N9 10 A rfl rfl fun A=>R9 A rfl h0 rfl (congrArg (SV.int IntKind.i64) (OU hI (.inr ⟨h1,h2⟩))) rfl))
   (fun h1 A=>N9 18 A rfl rfl fun A=>R9 A rfl h0 rfl (congrArg (SV.int IntKind.i64) (OU hI (.inl h1))) rfl)
theorem FO (r:Int):Fn Tryz.prog 162 [.int .i64 r] [] (Rt (.bool ((decide (r≥0))&&(decide (r<8)))) []):=
 Am (n:=9) (by kernel_rfl) Tryz.func162 rfl rfl rfl fun G w a h0 A=>N9 17 A rfl rfl fun A=>R9 A rfl h0 rfl rfl rfl
def C2 (r:Int):Bool:=if r=(-1)then true else(decide (r≥0))&&(decide (r<8))
theorem F5 (r:Int):Fn Tryz.prog 163 [.int .i64 r] [] (Rt (.bool (C2 r)) []):=
 Am (n:=9) (by kernel_rfl) Tryz.func163 rfl rfl rfl fun G w a h0 A=>N9 10 A rfl rfl fun A=>Au 5 A rfl
  (fun h1 A=>N9 7 A rfl rfl fun A=>R9 A rfl h0 rfl (by simp only [BA,nb,CK,CC,C2,if_pos h1]) rfl)
  (fun h1 A=>N9 1 A rfl rfl fun A=>C9 [] (FO r) A rfl fun A=>N9 5 A rfl rfl fun A=>R9 A rfl h0 rfl (by simp only [BA,nb,CK,CC,C2,if_neg (h1)]) rfl)
theorem L0 (r:Int):Fn Tryz.prog 165 [.int .i64 r] [] (Rt (.bool (((r==1)||(r==2))||(r==3))) []):=
 Am (n:=13) (by kernel_rfl) Tryz.func165 rfl rfl rfl fun G w a h0 A=>N9 21 A rfl rfl fun A=>R9 A rfl h0 rfl rfl rfl
theorem L6 (op dst ra rb imm loc off ix sz fn:Int)(acq weak rel:Bool)(pred succ to_:Int)(zero:Bool):Fn Tryz.prog 122 [.agg [.int .i64 op,.int .i64 dst,.int .i64 ra,.int .i64 rb,.int .i64 imm,.int .i64 loc,.int .i64 off,.int .i64 ix,.int .i64 sz,.int .i64 fn,.bool acq,.bool weak,.bool rel,.int .i64 pred,.int .i64 succ,.int .i64 to_,.bool zero]] [] (Rt (.bool (op==9)) []):=
 Am (n:=6) (by kernel_rfl) Tryz.func122 rfl rfl rfl fun G w a h0 A=>N9 15 A rfl rfl fun A=>R9 A rfl h0 rfl rfl rfl
theorem Mz (op dst ra rb imm loc off ix sz fn:Int)(acq weak rel:Bool)(pred succ to_:Int)(zero:Bool):Fn Tryz.prog 129 [.agg [.int .i64 op,.int .i64 dst,.int .i64 ra,.int .i64 rb,.int .i64 imm,.int .i64 loc,.int .i64 off,.int .i64 ix,.int .i64 sz,.int .i64 fn,.bool acq,.bool weak,.bool rel,.int .i64 pred,.int .i64 succ,.int .i64 to_,.bool zero]] [] (Rt (.bool ((op==4)||(op==6))) []):=
 Am (n:=11) (by kernel_rfl) Tryz.func129 rfl rfl rfl fun G w a h0 A=>N9 20 A rfl rfl fun A=>R9 A rfl h0 rfl rfl rfl
theorem J8 (op dst ra rb imm loc off ix sz fn:Int)(acq weak rel:Bool)(pred succ to_:Int)(zero:Bool):Fn Tryz.prog 132 [.agg [.int .i64 op,.int .i64 dst,.int .i64 ra,.int .i64 rb,.int .i64 imm,.int .i64 loc,.int .i64 off,.int .i64 ix,.int .i64 sz,.int .i64 fn,.bool acq,.bool weak,.bool rel,.int .i64 pred,.int .i64 succ,.int .i64 to_,.bool zero]] [] (Rt (.bool ((op==5)||(op==6))) []):=
 Am (n:=11) (by kernel_rfl) Tryz.func132 rfl rfl rfl fun G w a h0 A=>N9 20 A rfl rfl fun A=>R9 A rfl h0 rfl rfl rfl
def B4 (op dst ra rb imm loc off ix sz fn:Int)(acq weak rel:Bool)(pred succ to_:Int)(zero:Bool):Bool:=if((op==4)||(op==6))=true then true else(op==5)||(op==6)
theorem Hg (op dst ra rb imm loc off ix sz fn:Int)(acq weak rel:Bool)(pred succ to_:Int)(zero:Bool):Fn Tryz.prog 161 [.agg [.int .i64 op,.int .i64 dst,.int .i64 ra,.int .i64 rb,.int .i64 imm,.int .i64 loc,.int .i64 off,.int .i64 ix,.int .i64 sz,.int .i64 fn,.bool acq,.bool weak,.bool rel,.int .i64 pred,.int .i64 succ,.int .i64 to_,.bool zero]] [] (Rt (.bool (B4 op dst ra rb imm loc off ix sz fn acq weak rel pred succ to_ zero)) []):=
 Am (n:=9) (by kernel_rfl) Tryz.func161 rfl rfl rfl fun G w a h0 A=>N9 9 A rfl rfl fun A=>C9 [] (Mz op dst ra rb imm loc off ix sz fn acq weak rel pred succ to_ zero) A rfl fun A=>N9 1 A rfl rfl fun A=>fork 5 A rfl
  (fun h1 A=>N9 7 A rfl rfl fun A=>R9 A rfl h0 rfl (by simp only [BA,nb,CK,CC,B4,if_pos h1]) rfl)
  (fun h1 A=>N9 1 A rfl rfl fun A=>C9 [] (J8 op dst ra rb imm loc off ix sz fn acq weak rel pred succ to_ zero) A rfl fun A=>N9 5 A rfl rfl fun A=>R9 A rfl h0 rfl (by simp only [BA,nb,CK,CC,B4,if_neg (α8 h1)]) rfl)
def F6 (op dst ra rb imm loc off ix sz fn:Int)(acq weak rel:Bool)(pred succ to_:Int)(zero:Bool)(rr:Int):Int:=if rr≠(-1)then 0 else imm
theorem RG (op dst ra rb imm loc off ix sz fn:Int)(acq weak rel:Bool)(pred succ to_:Int)(zero:Bool)(rr:Int):Fn Tryz.prog 160 [.agg [.int .i64 op,.int .i64 dst,.int .i64 ra,.int .i64 rb,.int .i64 imm,.int .i64 loc,.int .i64 off,.int .i64 ix,.int .i64 sz,.int .i64 fn,.bool acq,.bool weak,.bool rel,.int .i64 pred,.int .i64 succ,.int .i64 to_,.bool zero],.int .i64 rr] [] (Rt (.int .i64 (F6 op dst ra rb imm loc off ix sz fn acq weak rel pred succ to_ zero rr)) []):=
 Am (n:=9) (by kernel_rfl) Tryz.func160 rfl rfl rfl fun G w a h0 A=>N9 13 A rfl rfl fun A=>EZ 6 A rfl
  (fun h1 A=>N9 7 A rfl rfl fun A=>R9 A rfl h0 rfl (by simp only [BA,nb,CK,CC,F6,if_pos h1]) rfl)
  (fun h1 A=>N9 11 A rfl rfl fun A=>R9 A rfl h0 rfl (by simp only [BA,nb,CK,CC,F6,if_neg (η6 h1)]) rfl)
theorem M1 (sz:Int):Fn Tryz.prog 209 [.int .i64 sz] [] (Rt (.bool ((((sz==1)||(sz==2))||(sz==4))||(sz==8))) []):=
 Am (n:=17) (by kernel_rfl) Tryz.func209 rfl rfl rfl fun G w a h0 A=>N9 25 A rfl rfl fun A=>R9 A rfl h0 rfl rfl rfl
theorem JJ (a1 sz:Int):Fn Tryz.prog 171 [.int .i64 a1,.int .i64 sz] [] (Rt (.bool (((((((sz==1)||(sz==2))||(sz==4))||(sz==8))&&(decide (a1≥0)))&&(decide (a1≤(IntKind.wrap .i64 (8 - sz)))))&&((Int.tmod a1 sz)==0))) []):=
 Am (n:=23) (by kernel_rfl) Tryz.func171 rfl rfl rfl fun G w a h0 A=>M hX 8 A rfl rfl fun A=>C9 [] (M1 sz) A rfl fun A=>M hX 20 A rfl (Bw<|Bw<|Bw<|Bw<|Bw<|Bw<|Bw<|Bw<|Hu (fun hg=>(by(try simp at hg);first|omega|(simp;omega)))<|Bw<|Bw<|Ah) fun A=>R9 A rfl h0 rfl rfl rfl
def Kn (a1 sz:Int):Int:=if(!(((((((sz==1)||(sz==2))||(sz==4))||(sz==8))&&(decide (a1≥0)))&&(decide (a1≤(IntKind.wrap .i64 (8 - sz)))))&&((Int.tmod a1 sz)==0)))=true then 0 else IntKind.wrap .i64 ((IntKind.wrap .i64 ((IntKind.wrap .i64 (1*2^min (sz).toNat (IntKind.bits .i64))) - 1))*2^min (a1).toNat (IntKind.bits .i64))
theorem cE (a1 sz:Int):Fn Tryz.prog 174 [.int .i64 a1,.int .i64 sz] [] (Rt (.int .i64 (Kn a1 sz)) []):=
 Am (n:=14) (by kernel_rfl) Tryz.func174 rfl rfl rfl fun G w a h0 A=>M hX 10 A rfl rfl fun A=>C9 [] (JJ a1 sz) A rfl fun A=>M hX 3 A rfl rfl fun A=>fork 8 A rfl
  (fun h1 A=>M hX 7 A rfl rfl fun A=>R9 A rfl h0 rfl (by simp only [BA,nb,CK,CC,Kn,if_pos h1]) rfl)
  (fun h1 A=>M hX 14 A rfl (Aj (by(try simp at h1);first|omega|(simp;omega))<|Aj (by(try simp at h1);first|omega|(simp;omega))<|Ah) fun A=>R9 A rfl h0 rfl (by simp only [BA,nb,CK,CC,Kn,if_neg (α8 h1)]) rfl)
def CZ (op dst ra rb imm loc off ix sz fn:Int)(acq weak rel:Bool)(pred succ to_:Int)(zero:Bool):Bool:=if loc≥0 then if loc<3 then if(C2 ix)=true then !((Kn off sz)==0)else false else false else false
theorem JK (op dst ra rb imm loc off ix sz fn:Int)(acq weak rel:Bool)(pred succ to_:Int)(zero:Bool):Fn Tryz.prog 164 [.agg [.int .i64 op,.int .i64 dst,.int .i64 ra,.int .i64 rb,.int .i64 imm,.int .i64 loc,.int .i64 off,.int .i64 ix,.int .i64 sz,.int .i64 fn,.bool acq,.bool weak,.bool rel,.int .i64 pred,.int .i64 succ,.int .i64 to_,.bool zero]] [] (Rt (.bool (CZ op dst ra rb imm loc off ix sz fn acq weak rel pred succ to_ zero)) []):=
 Am (n:=24) (by kernel_rfl) Tryz.func164 rfl rfl rfl fun G w a h0 A=>N9 12 A rfl rfl fun A=>Aq 6 A rfl
  (fun h1 A=>N9 5 A rfl rfl fun A=>Aq 11 A rfl
   (fun h2 A=>N9 2 A rfl rfl fun A=>C9 [] (F5 ix) A rfl fun A=>N9 2 A rfl rfl fun A=>fork 16 A rfl
    (fun h3 A=>N9 4 A rfl rfl fun A=>C9 [] (cE off sz) A rfl fun A=>N9 6 A rfl rfl fun A=>R9 A rfl h0 rfl (by simp only [BA,nb,CK,CC,CZ,if_pos h1,if_pos h2,if_pos h3]) rfl)
    (fun h3 A=>N9 11 A rfl rfl fun A=>R9 A rfl h0 rfl (by simp only [BA,nb,CK,CC,CZ,if_pos h1,if_pos h2,if_neg (α8 h3)]) rfl))
   (fun h2 A=>N9 16 A rfl rfl fun A=>R9 A rfl h0 rfl (by simp only [BA,nb,CK,CC,CZ,if_pos h1,if_neg h2]) rfl))
  (fun h1 A=>N9 21 A rfl rfl fun A=>R9 A rfl h0 rfl (by simp only [BA,nb,CK,CC,CZ,if_neg h1]) rfl)
def Co (op dst ra rb imm loc off ix sz fn:Int)(acq weak rel:Bool)(pred succ to_:Int)(zero:Bool):Int:=if op=1 then dst else if op=2 then dst else if op=3 then dst else if op=4 then dst else if op=5 then(-1)else if op=6 then dst else(-1)
def Cp (op dst ra rb imm loc off ix sz fn:Int)(acq weak rel:Bool)(pred succ to_:Int)(zero:Bool):Int:=if op=1 then(-1)else if op=2 then ra else if op=3 then ra else if op=4 then(-1)else if op=5 then ra else if op=6 then ra else if op=7 then(-1)else if op=9 then ra else(-1)
def Cq (op dst ra rb imm loc off ix sz fn:Int)(acq weak rel:Bool)(pred succ to_:Int)(zero:Bool):Int:=if op=1 then(-1)else if op=2 then(-1)else if op=3 then rb else(-1)
def Cr (op dst ra rb imm loc off ix sz fn:Int)(acq weak rel:Bool)(pred succ to_:Int)(zero:Bool):Int:=if op=1 then imm else if op=2 then 0 else if op=3 then F6 op dst ra rb imm loc off ix sz fn acq weak rel pred succ to_ zero rb else if op=4 then 0 else if op=5 then F6 op dst ra rb imm loc off ix sz fn acq weak rel pred succ to_ zero ra else 0
def Cs (op dst ra rb imm loc off ix sz fn:Int)(acq weak rel:Bool)(pred succ to_:Int)(zero:Bool):Int:=if op=1 then if(B4 op dst ra rb imm loc off ix sz fn acq weak rel pred succ to_ zero)=true then loc else 0 else if op=2 then if(B4 op dst ra rb imm loc off ix sz fn acq weak rel pred succ to_ zero)=true then loc else 0 else if op=3 then if(B4 op dst ra rb imm loc off ix sz fn acq weak rel pred succ to_ zero)=true then loc else 0 else if op=4 then if(B4 op dst ra rb imm loc off ix sz fn acq weak rel pred succ to_ zero)=true then loc else 0 else if op=5 then if(B4 op dst ra rb imm loc off ix sz fn acq weak rel pred succ to_ zero)=true then loc else 0 else if op=6 then if(B4 op dst ra rb imm loc off ix sz fn acq weak rel pred succ to_ zero)=true then loc else 0 else if op=7 then if(B4 op dst ra rb imm loc off ix sz fn acq weak rel pred succ to_ zero)=true then loc else 0 else if op=9 then if(B4 op dst ra rb imm loc off ix sz fn acq weak rel pred succ to_ zero)=true then loc else 0 else if(B4 op dst ra rb imm loc off ix sz fn acq weak rel pred succ to_ zero)=true then loc else 0
def Ct (op dst ra rb imm loc off ix sz fn:Int)(acq weak rel:Bool)(pred succ to_:Int)(zero:Bool):Int:=if op=1 then if(B4 op dst ra rb imm loc off ix sz fn acq weak rel pred succ to_ zero)=true then off else 0 else if op=2 then if(B4 op dst ra rb imm loc off ix sz fn acq weak rel pred succ to_ zero)=true then off else 0 else if op=3 then if(B4 op dst ra rb imm loc off ix sz fn acq weak rel pred succ to_ zero)=true then off else 0 else if op=4 then if(B4 op dst ra rb imm loc off ix sz fn acq weak rel pred succ to_ zero)=true then off else 0 else if op=5 then if(B4 op dst ra rb imm loc off ix sz fn acq weak rel pred succ to_ zero)=true then off else 0 else if op=6 then if(B4 op dst ra rb imm loc off ix sz fn acq weak rel pred succ to_ zero)=true then off else 0 else if op=7 then if(B4 op dst ra rb imm loc off ix sz fn acq weak rel pred succ to_ zero)=true then off else 0 else if op=9 then if(B4 op dst ra rb imm loc off ix sz fn acq weak rel pred succ to_ zero)=true then off else 0 else if(B4 op dst ra rb imm loc off ix sz fn acq weak rel pred succ to_ zero)=true then off else 0
def Cu (op dst ra rb imm loc off ix sz fn:Int)(acq weak rel:Bool)(pred succ to_:Int)(zero:Bool):Int:=if op=1 then if(B4 op dst ra rb imm loc off ix sz fn acq weak rel pred succ to_ zero)=true then ix else(-1)else if op=2 then if(B4 op dst ra rb imm loc off ix sz fn acq weak rel pred succ to_ zero)=true then ix else(-1)else if op=3 then if(B4 op dst ra rb imm loc off ix sz fn acq weak rel pred succ to_ zero)=true then ix else(-1)else if op=4 then if(B4 op dst ra rb imm loc off ix sz fn acq weak rel pred succ to_ zero)=true then ix else(-1)else if op=5 then if(B4 op dst ra rb imm loc off ix sz fn acq weak rel pred succ to_ zero)=true then ix else(-1)else if op=6 then if(B4 op dst ra rb imm loc off ix sz fn acq weak rel pred succ to_ zero)=true then ix else(-1)else if op=7 then if(B4 op dst ra rb imm loc off ix sz fn acq weak rel pred succ to_ zero)=true then ix else(-1)else if op=9 then if(B4 op dst ra rb imm loc off ix sz fn acq weak rel pred succ to_ zero)=true then ix else(-1)else if(B4 op dst ra rb imm loc off ix sz fn acq weak rel pred succ to_ zero)=true then ix else(-1)
def Cv (op dst ra rb imm loc off ix sz fn:Int)(acq weak rel:Bool)(pred succ to_:Int)(zero:Bool):Int:=if op=1 then if(B4 op dst ra rb imm loc off ix sz fn acq weak rel pred succ to_ zero)=true then sz else 0 else if op=2 then if(B4 op dst ra rb imm loc off ix sz fn acq weak rel pred succ to_ zero)=true then sz else 0 else if op=3 then if(B4 op dst ra rb imm loc off ix sz fn acq weak rel pred succ to_ zero)=true then sz else 0 else if op=4 then if(B4 op dst ra rb imm loc off ix sz fn acq weak rel pred succ to_ zero)=true then sz else 0 else if op=5 then if(B4 op dst ra rb imm loc off ix sz fn acq weak rel pred succ to_ zero)=true then sz else 0 else if op=6 then if(B4 op dst ra rb imm loc off ix sz fn acq weak rel pred succ to_ zero)=true then sz else 0 else if op=7 then if(B4 op dst ra rb imm loc off ix sz fn acq weak rel pred succ to_ zero)=true then sz else 0 else if op=9 then if(B4 op dst ra rb imm loc off ix sz fn acq weak rel pred succ to_ zero)=true then sz else 0 else if(B4 op dst ra rb imm loc off ix sz fn acq weak rel pred succ to_ zero)=true then sz else 0
def plain8 (op dst ra rb imm loc off ix sz fn:Int)(acq weak rel:Bool)(pred succ to_:Int)(zero:Bool):Int:=if op=1 then 0 else if op=2 then 0 else if op=3 then fn else if op=4 then 0 else if op=5 then 0 else if op=6 then fn else 0
def Cw (op dst ra rb imm loc off ix sz fn:Int)(acq weak rel:Bool)(pred succ to_:Int)(zero:Bool):Bool:=if op=1 then false else if op=2 then false else if op=3 then false else if op=4 then acq else if op=5 then false else if op=6 then acq else false
def CL (op dst ra rb imm loc off ix sz fn:Int)(acq weak rel:Bool)(pred succ to_:Int)(zero:Bool):Bool:=if op=1 then false else if op=2 then false else if op=3 then false else if op=4 then weak else false
def CM (op dst ra rb imm loc off ix sz fn:Int)(acq weak rel:Bool)(pred succ to_:Int)(zero:Bool):Bool:=if op=1 then false else if op=2 then false else if op=3 then false else if op=4 then false else if op=5 then rel else if op=6 then rel else false
def CN (op dst ra rb imm loc off ix sz fn:Int)(acq weak rel:Bool)(pred succ to_:Int)(zero:Bool):Int:=if op=1 then 0 else if op=2 then 0 else if op=3 then 0 else if op=4 then 0 else if op=5 then 0 else if op=6 then 0 else if op=7 then pred else 0
def CO (op dst ra rb imm loc off ix sz fn:Int)(acq weak rel:Bool)(pred succ to_:Int)(zero:Bool):Int:=if op=1 then 0 else if op=2 then 0 else if op=3 then 0 else if op=4 then 0 else if op=5 then 0 else if op=6 then 0 else if op=7 then succ else 0
def CP (op dst ra rb imm loc off ix sz fn:Int)(acq weak rel:Bool)(pred succ to_:Int)(zero:Bool):Int:=if op=1 then 0 else if op=2 then 0 else if op=3 then 0 else if op=4 then 0 else if op=5 then 0 else if op=6 then 0 else if op=7 then 0 else if op=9 then to_ else 0
def CQ (op dst ra rb imm loc off ix sz fn:Int)(acq weak rel:Bool)(pred succ to_:Int)(zero:Bool):Bool:=if op=1 then false else if op=2 then false else if op=3 then false else if op=4 then false else if op=5 then false else if op=6 then false else if op=7 then false else if op=9 then zero else false
theorem cF (op dst ra rb imm loc off ix sz fn:Int) (acq weak rel:Bool) (pred succ to_:Int) (zero:Bool):Fn Tryz.prog 120 [.agg [.int .i64 op,.int .i64 dst,.int .i64 ra,.int .i64 rb,.int .i64 imm,.int .i64 loc,.int .i64 off,.int .i64 ix,.int .i64 sz,.int .i64 fn,.bool acq,.bool weak,.bool rel,.int .i64 pred,.int .i64 succ,.int .i64 to_,.bool zero]] [] (Rt (.agg [.int .i64 op,.int .i64 (Co op dst ra rb imm loc off ix sz fn acq weak rel pred succ to_ zero),.int .i64 (Cp op dst ra rb imm loc off ix sz fn acq weak rel pred succ to_ zero),.int .i64 (Cq op dst ra rb imm loc off ix sz fn acq weak rel pred succ to_ zero),.int .i64 (Cr op dst ra rb imm loc off ix sz fn acq weak rel pred succ to_ zero),.int .i64 (Cs op dst ra rb imm loc off ix sz fn acq weak rel pred succ to_ zero),.int .i64 (Ct op dst ra rb imm loc off ix sz fn acq weak rel pred succ to_ zero),.int .i64 (Cu op dst ra rb imm loc off ix sz fn acq weak rel pred succ to_ zero),.int .i64 (Cv op dst ra rb imm loc off ix sz fn acq weak rel pred succ to_ zero),.int .i64 (plain8 op dst ra rb imm loc off ix sz fn acq weak rel pred succ to_ zero),.bool (Cw op dst ra rb imm loc off ix sz fn acq weak rel pred succ to_ zero),.bool (CL op dst ra rb imm loc off ix sz fn acq weak rel pred succ to_ zero),.bool (CM op dst ra rb imm loc off ix sz fn acq weak rel pred succ to_ zero),.int .i64 (CN op dst ra rb imm loc off ix sz fn acq weak rel pred succ to_ zero),.int .i64 (CO op dst ra rb imm loc off ix sz fn acq weak rel pred succ to_ zero),.int .i64 (CP op dst ra rb imm loc off ix sz fn acq weak rel pred succ to_ zero),.bool (CQ op dst ra rb imm loc off ix sz fn acq weak rel pred succ to_ zero)]) []):=
 Am (n:=119) (by kernel_rfl) Tryz.func120 rfl rfl rfl fun G w a h0 A=>N9 29 A rfl rfl fun A=>Au 9 A rfl
  (fun h1 A=>N9 1 A rfl rfl fun A=>Ba hX By [] [] A rfl rfl rfl rfl (by kernel_rfl) (A8 _ _) trivial fun A=>N9 6 A rfl rfl fun A=>C9 [] (Hg op dst ra rb imm loc off ix sz fn acq weak rel pred succ to_ zero) A rfl fun A=>N9 2 A rfl rfl fun A=>fork 105 A rfl
   (fun h2 A=>N9 1 A rfl rfl fun A=>Ba hX By [] [] A rfl rfl rfl rfl (by kernel_rfl) (A8 _ _) trivial fun A=>N9 8 A rfl rfl fun A=>R9 A rfl h0 rfl (by simp only [BA,nb,CK,CC,Co,Cp,Cq,Cr,Cs,Ct,Cu,Cv,plain8,Cw,CL,CM,CN,CO,CP,CQ,if_pos h1,if_pos h2]) rfl)
   (fun h2 A=>N9 10 A rfl rfl fun A=>R9 A rfl h0 rfl (by simp only [BA,nb,CK,CC,Co,Cp,Cq,Cr,Cs,Ct,Cu,Cv,plain8,Cw,CL,CM,CN,CO,CP,CQ,if_pos h1,if_neg (α8 h2)]) rfl))
  (fun h1 A=>N9 7 A rfl rfl fun A=>Au 17 A rfl
   (fun h3 A=>N9 1 A rfl rfl fun A=>Ba hX By [] [] A rfl rfl rfl rfl (by kernel_rfl) (A8 _ _) trivial fun A=>N9 6 A rfl rfl fun A=>C9 [] (Hg op dst ra rb imm loc off ix sz fn acq weak rel pred succ to_ zero) A rfl fun A=>N9 2 A rfl rfl fun A=>fork 105 A rfl
    (fun h4 A=>N9 1 A rfl rfl fun A=>Ba hX By [] [] A rfl rfl rfl rfl (by kernel_rfl) (A8 _ _) trivial fun A=>N9 8 A rfl rfl fun A=>R9 A rfl h0 rfl (by simp only [BA,nb,CK,CC,Co,Cp,Cq,Cr,Cs,Ct,Cu,Cv,plain8,Cw,CL,CM,CN,CO,CP,CQ,if_neg (h1),if_pos h3,if_pos h4]) rfl)
    (fun h4 A=>N9 10 A rfl rfl fun A=>R9 A rfl h0 rfl (by simp only [BA,nb,CK,CC,Co,Cp,Cq,Cr,Cs,Ct,Cu,Cv,plain8,Cw,CL,CM,CN,CO,CP,CQ,if_neg (h1),if_pos h3,if_neg (α8 h4)]) rfl))
   (fun h3 A=>N9 7 A rfl rfl fun A=>Au 25 A rfl
    (fun h5 A=>N9 1 A rfl rfl fun A=>Ba hX By [(11,.int .i64 (F6 op dst ra rb imm loc off ix sz fn acq weak rel pred succ to_ zero rb))] [] A rfl rfl rfl rfl (by kernel_rfl) (A8 _ _) ⟨.inl ⟨_,_,rfl,rfl,RG op dst ra rb imm loc off ix sz fn acq weak rel pred succ to_ zero rb⟩,trivial⟩ fun A=>N9 6 A rfl rfl fun A=>C9 [] (Hg op dst ra rb imm loc off ix sz fn acq weak rel pred succ to_ zero) A rfl fun A=>N9 2 A rfl rfl fun A=>fork 105 A rfl
     (fun h6 A=>N9 1 A rfl rfl fun A=>Ba hX By [] [] A rfl rfl rfl rfl (by kernel_rfl) (A8 _ _) trivial fun A=>N9 8 A rfl rfl fun A=>R9 A rfl h0 rfl (by simp only [BA,nb,CK,CC,Co,Cp,Cq,Cr,Cs,Ct,Cu,Cv,plain8,Cw,CL,CM,CN,CO,CP,CQ,if_neg (h1),if_neg (h3),if_pos h5,if_pos h6]) rfl)
     (fun h6 A=>N9 10 A rfl rfl fun A=>R9 A rfl h0 rfl (by simp only [BA,nb,CK,CC,Co,Cp,Cq,Cr,Cs,Ct,Cu,Cv,plain8,Cw,CL,CM,CN,CO,CP,CQ,if_neg (h1),if_neg (h3),if_pos h5,if_neg (α8 h6)]) rfl))
    (fun h5 A=>N9 7 A rfl rfl fun A=>Au 44 A rfl
     (fun h7 A=>N9 1 A rfl rfl fun A=>Ba hX By [] [] A rfl rfl rfl rfl (by kernel_rfl) (A8 _ _) trivial fun A=>N9 6 A rfl rfl fun A=>C9 [] (Hg op dst ra rb imm loc off ix sz fn acq weak rel pred succ to_ zero) A rfl fun A=>N9 2 A rfl rfl fun A=>fork 105 A rfl
      (fun h8 A=>N9 1 A rfl rfl fun A=>Ba hX By [] [] A rfl rfl rfl rfl (by kernel_rfl) (A8 _ _) trivial fun A=>N9 8 A rfl rfl fun A=>R9 A rfl h0 rfl (by simp only [BA,nb,CK,CC,Co,Cp,Cq,Cr,Cs,Ct,Cu,Cv,plain8,Cw,CL,CM,CN,CO,CP,CQ,if_neg (h1),if_neg (h3),if_neg (h5),if_pos h7,if_pos h8]) rfl)
      (fun h8 A=>N9 10 A rfl rfl fun A=>R9 A rfl h0 rfl (by simp only [BA,nb,CK,CC,Co,Cp,Cq,Cr,Cs,Ct,Cu,Cv,plain8,Cw,CL,CM,CN,CO,CP,CQ,if_neg (h1),if_neg (h3),if_neg (h5),if_pos h7,if_neg (α8 h8)]) rfl))
     (fun h7 A=>N9 7 A rfl rfl fun A=>Au 55 A rfl
      (fun h9 A=>N9 1 A rfl rfl fun A=>Ba hX By [(5,.int .i64 (F6 op dst ra rb imm loc off ix sz fn acq weak rel pred succ to_ zero ra))] [] A rfl rfl rfl rfl (by kernel_rfl) (A8 _ _) ⟨.inl ⟨_,_,rfl,rfl,RG op dst ra rb imm loc off ix sz fn acq weak rel pred succ to_ zero ra⟩,trivial⟩ fun A=>N9 6 A rfl rfl fun A=>C9 [] (Hg op dst ra rb imm loc off ix sz fn acq weak rel pred succ to_ zero) A rfl fun A=>N9 2 A rfl rfl fun A=>fork 105 A rfl
       (fun GL A=>N9 1 A rfl rfl fun A=>Ba hX By [] [] A rfl rfl rfl rfl (by kernel_rfl) (A8 _ _) trivial fun A=>N9 8 A rfl rfl fun A=>R9 A rfl h0 rfl (by simp only [BA,nb,CK,CC,Co,Cp,Cq,Cr,Cs,Ct,Cu,Cv,plain8,Cw,CL,CM,CN,CO,CP,CQ,if_neg (h1),if_neg (h3),if_neg (h5),if_neg (h7),if_pos h9,if_pos GL]) rfl)
       (fun GL A=>N9 10 A rfl rfl fun A=>R9 A rfl h0 rfl (by simp only [BA,nb,CK,CC,Co,Cp,Cq,Cr,Cs,Ct,Cu,Cv,plain8,Cw,CL,CM,CN,CO,CP,CQ,if_neg (h1),if_neg (h3),if_neg (h5),if_neg (h7),if_pos h9,if_neg (α8 GL)]) rfl))
      (fun h9 A=>N9 7 A rfl rfl fun A=>Au 68 A rfl
       (fun Fv A=>N9 1 A rfl rfl fun A=>Ba hX By [] [] A rfl rfl rfl rfl (by kernel_rfl) (A8 _ _) trivial fun A=>N9 6 A rfl rfl fun A=>C9 [] (Hg op dst ra rb imm loc off ix sz fn acq weak rel pred succ to_ zero) A rfl fun A=>N9 2 A rfl rfl fun A=>fork 105 A rfl
        (fun No A=>N9 1 A rfl rfl fun A=>Ba hX By [] [] A rfl rfl rfl rfl (by kernel_rfl) (A8 _ _) trivial fun A=>N9 8 A rfl rfl fun A=>R9 A rfl h0 rfl (by simp only [BA,nb,CK,CC,Co,Cp,Cq,Cr,Cs,Ct,Cu,Cv,plain8,Cw,CL,CM,CN,CO,CP,CQ,if_neg (h1),if_neg (h3),if_neg (h5),if_neg (h7),if_neg (h9),if_pos Fv,if_pos No]) rfl)
        (fun No A=>N9 10 A rfl rfl fun A=>R9 A rfl h0 rfl (by simp only [BA,nb,CK,CC,Co,Cp,Cq,Cr,Cs,Ct,Cu,Cv,plain8,Cw,CL,CM,CN,CO,CP,CQ,if_neg (h1),if_neg (h3),if_neg (h5),if_neg (h7),if_neg (h9),if_pos Fv,if_neg (α8 No)]) rfl))
       (fun Fv A=>N9 7 A rfl rfl fun A=>Au 85 A rfl
        (fun Ll A=>N9 1 A rfl rfl fun A=>Ba hX By [] [] A rfl rfl rfl rfl (by kernel_rfl) (A8 _ _) trivial fun A=>N9 6 A rfl rfl fun A=>C9 [] (Hg op dst ra rb imm loc off ix sz fn acq weak rel pred succ to_ zero) A rfl fun A=>N9 2 A rfl rfl fun A=>fork 105 A rfl
         (fun Qe A=>N9 1 A rfl rfl fun A=>Ba hX By [] [] A rfl rfl rfl rfl (by kernel_rfl) (A8 _ _) trivial fun A=>N9 8 A rfl rfl fun A=>R9 A rfl h0 rfl (by simp only [BA,nb,CK,CC,Co,Cp,Cq,Cr,Cs,Ct,Cu,Cv,plain8,Cw,CL,CM,CN,CO,CP,CQ,if_neg (h1),if_neg (h3),if_neg (h5),if_neg (h7),if_neg (h9),if_neg (Fv),if_pos Ll,if_pos Qe]) rfl)
         (fun Qe A=>N9 10 A rfl rfl fun A=>R9 A rfl h0 rfl (by simp only [BA,nb,CK,CC,Co,Cp,Cq,Cr,Cs,Ct,Cu,Cv,plain8,Cw,CL,CM,CN,CO,CP,CQ,if_neg (h1),if_neg (h3),if_neg (h5),if_neg (h7),if_neg (h9),if_neg (Fv),if_pos Ll,if_neg (α8 Qe)]) rfl))
        (fun Ll A=>N9 7 A rfl rfl fun A=>Au 93 A rfl
         (fun SH A=>N9 1 A rfl rfl fun A=>Ba hX By [] [] A rfl rfl rfl rfl (by kernel_rfl) (A8 _ _) trivial fun A=>N9 6 A rfl rfl fun A=>C9 [] (Hg op dst ra rb imm loc off ix sz fn acq weak rel pred succ to_ zero) A rfl fun A=>N9 2 A rfl rfl fun A=>fork 105 A rfl
          (fun Tp A=>N9 1 A rfl rfl fun A=>Ba hX By [] [] A rfl rfl rfl rfl (by kernel_rfl) (A8 _ _) trivial fun A=>N9 8 A rfl rfl fun A=>R9 A rfl h0 rfl (by simp only [BA,nb,CK,CC,Co,Cp,Cq,Cr,Cs,Ct,Cu,Cv,plain8,Cw,CL,CM,CN,CO,CP,CQ,if_neg (h1),if_neg (h3),if_neg (h5),if_neg (h7),if_neg (h9),if_neg (Fv),if_neg (Ll),if_pos SH,if_pos Tp]) rfl)
          (fun Tp A=>N9 10 A rfl rfl fun A=>R9 A rfl h0 rfl (by simp only [BA,nb,CK,CC,Co,Cp,Cq,Cr,Cs,Ct,Cu,Cv,plain8,Cw,CL,CM,CN,CO,CP,CQ,if_neg (h1),if_neg (h3),if_neg (h5),if_neg (h7),if_neg (h9),if_neg (Fv),if_neg (Ll),if_pos SH,if_neg (α8 Tp)]) rfl))
         (fun SH A=>N9 8 A rfl rfl fun A=>C9 [] (Hg op dst ra rb imm loc off ix sz fn acq weak rel pred succ to_ zero) A rfl fun A=>N9 2 A rfl rfl fun A=>fork 105 A rfl
          (fun XT A=>N9 1 A rfl rfl fun A=>Ba hX By [] [] A rfl rfl rfl rfl (by kernel_rfl) (A8 _ _) trivial fun A=>N9 8 A rfl rfl fun A=>R9 A rfl h0 rfl (by simp only [BA,nb,CK,CC,Co,Cp,Cq,Cr,Cs,Ct,Cu,Cv,plain8,Cw,CL,CM,CN,CO,CP,CQ,if_neg (h1),if_neg (h3),if_neg (h5),if_neg (h7),if_neg (h9),if_neg (Fv),if_neg (Ll),if_neg (SH),if_pos XT]) rfl)
          (fun XT A=>N9 10 A rfl rfl fun A=>R9 A rfl h0 rfl (by simp only [BA,nb,CK,CC,Co,Cp,Cq,Cr,Cs,Ct,Cu,Cv,plain8,Cw,CL,CM,CN,CO,CP,CQ,if_neg (h1),if_neg (h3),if_neg (h5),if_neg (h7),if_neg (h9),if_neg (Fv),if_neg (Ll),if_neg (SH),if_neg (α8 XT)]) rfl)))))))))
def B8 (op dst ra rb imm loc off ix sz fn:Int)(acq weak rel:Bool)(pred succ to_:Int)(zero:Bool):Bool:=if op=1 then(decide (dst≥0))&&(decide (dst<8))else if op=2 then if((decide (dst≥0))&&(decide (dst<8)))=true then(decide (ra≥0))&&(decide (ra<8))else false else if op=3 then if((decide (dst≥0))&&(decide (dst<8)))=true then if((decide (ra≥0))&&(decide (ra<8)))=true then((C2 rb)&&(decide (fn≥1)))&&(decide (fn≤5))else false else false else if op=4 then if((decide (dst≥0))&&(decide (dst<8)))=true then(CZ op dst ra rb imm loc off ix sz fn acq weak rel pred succ to_ zero)&&(!(acq&&weak))else false else if op=5 then if(C2 ra)=true then CZ op dst ra rb imm loc off ix sz fn acq weak rel pred succ to_ zero else false else if op=6 then if((decide (dst≥0))&&(decide (dst<8)))=true then if((decide (ra≥0))&&(decide (ra<8)))=true then(CZ op dst ra rb imm loc off ix sz fn acq weak rel pred succ to_ zero)&&((fn==6)||(fn==1))else false else false else if op=7 then if(((pred==1)||(pred==2))||(pred==3))=true then((succ==1)||(succ==2))||(succ==3)else false else if op=8 then true else if op=9 then(decide (ra≥0))&&(decide (ra<8))else false
theorem cG (op dst ra rb imm loc off ix sz fn:Int) (acq weak rel:Bool) (pred succ to_:Int) (zero:Bool):Fn Tryz.prog 121 [.agg [.int .i64 op,.int .i64 dst,.int .i64 ra,.int .i64 rb,.int .i64 imm,.int .i64 loc,.int .i64 off,.int .i64 ix,.int .i64 sz,.int .i64 fn,.bool acq,.bool weak,.bool rel,.int .i64 pred,.int .i64 succ,.int .i64 to_,.bool zero]] [] (Rt (.bool (B8 op dst ra rb imm loc off ix sz fn acq weak rel pred succ to_ zero)) []):=
 Am (n:=113) (by kernel_rfl) Tryz.func121 rfl rfl rfl fun G w a h0 A=>N9 20 A rfl rfl fun A=>Au 5 A rfl
  (fun h1 A=>N9 5 A rfl rfl fun A=>C9 [] (FO dst) A rfl fun A=>N9 4 A rfl rfl fun A=>R9 A rfl h0 rfl (by simp only [BA,nb,CK,CC,B8,if_pos h1]) rfl)
  (fun h1 A=>N9 7 A rfl rfl fun A=>Au 10 A rfl
   (fun h2 A=>N9 5 A rfl rfl fun A=>C9 [] (FO dst) A rfl fun A=>N9 1 A rfl rfl fun A=>fork 15 A rfl
    (fun h3 A=>N9 2 A rfl rfl fun A=>C9 [] (FO ra) A rfl fun A=>N9 5 A rfl rfl fun A=>R9 A rfl h0 rfl (by simp only [BA,nb,CK,CC,B8,if_neg (h1),if_pos h2,if_pos h3]) rfl)
    (fun h3 A=>N9 8 A rfl rfl fun A=>R9 A rfl h0 rfl (by simp only [BA,nb,CK,CC,B8,if_neg (h1),if_pos h2,if_neg (α8 h3)]) rfl))
   (fun h2 A=>N9 7 A rfl rfl fun A=>Au 20 A rfl
    (fun h4 A=>N9 5 A rfl rfl fun A=>C9 [] (FO dst) A rfl fun A=>N9 1 A rfl rfl fun A=>fork 25 A rfl
     (fun h5 A=>N9 2 A rfl rfl fun A=>C9 [] (FO ra) A rfl fun A=>N9 2 A rfl rfl fun A=>fork 30 A rfl
      (fun h6 A=>N9 2 A rfl rfl fun A=>C9 [] (F5 rb) A rfl fun A=>N9 15 A rfl rfl fun A=>R9 A rfl h0 rfl (by simp only [BA,nb,CK,CC,B8,if_neg (h1),if_neg (h2),if_pos h4,if_pos h5,if_pos h6]) rfl)
      (fun h6 A=>N9 18 A rfl rfl fun A=>R9 A rfl h0 rfl (by simp only [BA,nb,CK,CC,B8,if_neg (h1),if_neg (h2),if_pos h4,if_pos h5,if_neg (α8 h6)]) rfl))
     (fun h5 A=>N9 23 A rfl rfl fun A=>R9 A rfl h0 rfl (by simp only [BA,nb,CK,CC,B8,if_neg (h1),if_neg (h2),if_pos h4,if_neg (α8 h5)]) rfl))
    (fun h4 A=>N9 7 A rfl rfl fun A=>Au 45 A rfl
     (fun h7 A=>N9 5 A rfl rfl fun A=>C9 [] (FO dst) A rfl fun A=>N9 1 A rfl rfl fun A=>fork 50 A rfl
      (fun h8 A=>N9 1 A rfl rfl fun A=>C9 [] (JK op dst ra rb imm loc off ix sz fn acq weak rel pred succ to_ zero) A rfl fun A=>N9 14 A rfl rfl fun A=>R9 A rfl h0 rfl (by simp only [BA,nb,CK,CC,B8,if_neg (h1),if_neg (h2),if_neg (h4),if_pos h7,if_pos h8]) rfl)
      (fun h8 A=>N9 16 A rfl rfl fun A=>R9 A rfl h0 rfl (by simp only [BA,nb,CK,CC,B8,if_neg (h1),if_neg (h2),if_neg (h4),if_pos h7,if_neg (α8 h8)]) rfl))
     (fun h7 A=>N9 7 A rfl rfl fun A=>Au 63 A rfl
      (fun h9 A=>N9 5 A rfl rfl fun A=>C9 [] (F5 ra) A rfl fun A=>N9 1 A rfl rfl fun A=>fork 68 A rfl
       (fun GL A=>N9 1 A rfl rfl fun A=>C9 [] (JK op dst ra rb imm loc off ix sz fn acq weak rel pred succ to_ zero) A rfl fun A=>N9 5 A rfl rfl fun A=>R9 A rfl h0 rfl (by simp only [BA,nb,CK,CC,B8,if_neg (h1),if_neg (h2),if_neg (h4),if_neg (h7),if_pos h9,if_pos GL]) rfl)
       (fun GL A=>N9 7 A rfl rfl fun A=>R9 A rfl h0 rfl (by simp only [BA,nb,CK,CC,B8,if_neg (h1),if_neg (h2),if_neg (h4),if_neg (h7),if_pos h9,if_neg (α8 GL)]) rfl))
      (fun h9 A=>N9 7 A rfl rfl fun A=>Au 72 A rfl
       (fun Fv A=>N9 5 A rfl rfl fun A=>C9 [] (FO dst) A rfl fun A=>N9 1 A rfl rfl fun A=>fork 77 A rfl
        (fun No A=>N9 2 A rfl rfl fun A=>C9 [] (FO ra) A rfl fun A=>N9 2 A rfl rfl fun A=>fork 82 A rfl
         (fun Ll A=>N9 1 A rfl rfl fun A=>C9 [] (JK op dst ra rb imm loc off ix sz fn acq weak rel pred succ to_ zero) A rfl fun A=>N9 15 A rfl rfl fun A=>R9 A rfl h0 rfl (by simp only [BA,nb,CK,CC,B8,if_neg (h1),if_neg (h2),if_neg (h4),if_neg (h7),if_neg (h9),if_pos Fv,if_pos No,if_pos Ll]) rfl)
         (fun Ll A=>N9 17 A rfl rfl fun A=>R9 A rfl h0 rfl (by simp only [BA,nb,CK,CC,B8,if_neg (h1),if_neg (h2),if_neg (h4),if_neg (h7),if_neg (h9),if_pos Fv,if_pos No,if_neg (α8 Ll)]) rfl))
        (fun No A=>N9 22 A rfl rfl fun A=>R9 A rfl h0 rfl (by simp only [BA,nb,CK,CC,B8,if_neg (h1),if_neg (h2),if_neg (h4),if_neg (h7),if_neg (h9),if_pos Fv,if_neg (α8 No)]) rfl))
       (fun Fv A=>N9 7 A rfl rfl fun A=>Au 96 A rfl
        (fun Qe A=>N9 5 A rfl rfl fun A=>C9 [] (L0 pred) A rfl fun A=>N9 1 A rfl rfl fun A=>fork 101 A rfl
         (fun SH A=>N9 2 A rfl rfl fun A=>C9 [] (L0 succ) A rfl fun A=>N9 5 A rfl rfl fun A=>R9 A rfl h0 rfl (by simp only [BA,nb,CK,CC,B8,if_neg (h1),if_neg (h2),if_neg (h4),if_neg (h7),if_neg (h9),if_neg (Fv),if_pos Qe,if_pos SH]) rfl)
         (fun SH A=>N9 8 A rfl rfl fun A=>R9 A rfl h0 rfl (by simp only [BA,nb,CK,CC,B8,if_neg (h1),if_neg (h2),if_neg (h4),if_neg (h7),if_neg (h9),if_neg (Fv),if_pos Qe,if_neg (α8 SH)]) rfl))
        (fun Qe A=>N9 7 A rfl rfl fun A=>Au 106 A rfl
         (fun Tp A=>N9 7 A rfl rfl fun A=>R9 A rfl h0 rfl (by simp only [BA,nb,CK,CC,B8,if_neg (h1),if_neg (h2),if_neg (h4),if_neg (h7),if_neg (h9),if_neg (Fv),if_neg (Qe),if_pos Tp]) rfl)
         (fun Tp A=>N9 7 A rfl rfl fun A=>Au 108 A rfl
          (fun XT A=>N9 5 A rfl rfl fun A=>C9 [] (FO ra) A rfl fun A=>N9 4 A rfl rfl fun A=>R9 A rfl h0 rfl (by simp only [BA,nb,CK,CC,B8,if_neg (h1),if_neg (h2),if_neg (h4),if_neg (h7),if_neg (h9),if_neg (Fv),if_neg (Qe),if_neg (Tp),if_pos XT]) rfl)
          (fun XT A=>N9 10 A rfl rfl fun A=>R9 A rfl h0 rfl (by simp only [BA,nb,CK,CC,B8,if_neg (h1),if_neg (h2),if_neg (h4),if_neg (h7),if_neg (h9),if_neg (Fv),if_neg (Qe),if_neg (Tp),if_neg (XT)]) rfl)))))))))
def F7 (op dst ra rb imm loc off ix sz fn:Int)(acq weak rel:Bool)(pred succ to_:Int)(zero:Bool)(at_ nn_:Int):Int:=if((!(((op==op)&&((dst==(Co op dst ra rb imm loc off ix sz fn acq weak rel pred succ to_ zero))&&((ra==(Cp op dst ra rb imm loc off ix sz fn acq weak rel pred succ to_ zero))&&((rb==(Cq op dst ra rb imm loc off ix sz fn acq weak rel pred succ to_ zero))&&((imm==(Cr op dst ra rb imm loc off ix sz fn acq weak rel pred succ to_ zero))&&((loc==(Cs op dst ra rb imm loc off ix sz fn acq weak rel pred succ to_ zero))&&((off==(Ct op dst ra rb imm loc off ix sz fn acq weak rel pred succ to_ zero))&&((ix==(Cu op dst ra rb imm loc off ix sz fn acq weak rel pred succ to_ zero))&&((sz==(Cv op dst ra rb imm loc off ix sz fn acq weak rel pred succ to_ zero))&&((fn==(plain8 op dst ra rb imm loc off ix sz fn acq weak rel pred succ to_ zero))&&((acq==(Cw op dst ra rb imm loc off ix sz fn acq weak rel pred succ to_ zero))&&((weak==(CL op dst ra rb imm loc off ix sz fn acq weak rel pred succ to_ zero))&&((rel==(CM op dst ra rb imm loc off ix sz fn acq weak rel pred succ to_ zero))&&((pred==(CN op dst ra rb imm loc off ix sz fn acq weak rel pred succ to_ zero))&&((succ==(CO op dst ra rb imm loc off ix sz fn acq weak rel pred succ to_ zero))&&((to_==(CP op dst ra rb imm loc off ix sz fn acq weak rel pred succ to_ zero))&&(zero==(CQ op dst ra rb imm loc off ix sz fn acq weak rel pred succ to_ zero))))))))))))))))))))||(!(B8 op dst ra rb imm loc off ix sz fn acq weak rel pred succ to_ zero)))=true then 34 else if((op==9)&&((decide (to_≤at_))||(decide (to_>nn_))))=true then 35 else 0
theorem Ui (op dst ra rb imm loc off ix sz fn:Int)(acq weak rel:Bool)(pred succ to_:Int)(zero:Bool)(at_ nn_:Int):Fn Tryz.prog 82 [.agg [.int .i64 op,.int .i64 dst,.int .i64 ra,.int .i64 rb,.int .i64 imm,.int .i64 loc,.int .i64 off,.int .i64 ix,.int .i64 sz,.int .i64 fn,.bool acq,.bool weak,.bool rel,.int .i64 pred,.int .i64 succ,.int .i64 to_,.bool zero],.int .i64 at_,.int .i64 nn_] [] (Rt (.int .i64 (F7 op dst ra rb imm loc off ix sz fn acq weak rel pred succ to_ zero at_ nn_)) []):=
 Am (n:=30) (by kernel_rfl) Tryz.func82 rfl rfl rfl fun G w a h0 A=>N9 8 A rfl rfl fun A=>Ba hX By [(2,.agg [.int .i64 op,.int .i64 (Co op dst ra rb imm loc off ix sz fn acq weak rel pred succ to_ zero),.int .i64 (Cp op dst ra rb imm loc off ix sz fn acq weak rel pred succ to_ zero),.int .i64 (Cq op dst ra rb imm loc off ix sz fn acq weak rel pred succ to_ zero),.int .i64 (Cr op dst ra rb imm loc off ix sz fn acq weak rel pred succ to_ zero),.int .i64 (Cs op dst ra rb imm loc off ix sz fn acq weak rel pred succ to_ zero),.int .i64 (Ct op dst ra rb imm loc off ix sz fn acq weak rel pred succ to_ zero),.int .i64 (Cu op dst ra rb imm loc off ix sz fn acq weak rel pred succ to_ zero),.int .i64 (Cv op dst ra rb imm loc off ix sz fn acq weak rel pred succ to_ zero),.int .i64 (plain8 op dst ra rb imm loc off ix sz fn acq weak rel pred succ to_ zero),.bool (Cw op dst ra rb imm loc off ix sz fn acq weak rel pred succ to_ zero),.bool (CL op dst ra rb imm loc off ix sz fn acq weak rel pred succ to_ zero),.bool (CM op dst ra rb imm loc off ix sz fn acq weak rel pred succ to_ zero),.int .i64 (CN op dst ra rb imm loc off ix sz fn acq weak rel pred succ to_ zero),.int .i64 (CO op dst ra rb imm loc off ix sz fn acq weak rel pred succ to_ zero),.int .i64 (CP op dst ra rb imm loc off ix sz fn acq weak rel pred succ to_ zero),.bool (CQ op dst ra rb imm loc off ix sz fn acq weak rel pred succ to_ zero)]),(6,.opt (!(!(((op==op)&&((dst==(Co op dst ra rb imm loc off ix sz fn acq weak rel pred succ to_ zero))&&((ra==(Cp op dst ra rb imm loc off ix sz fn acq weak rel pred succ to_ zero))&&((rb==(Cq op dst ra rb imm loc off ix sz fn acq weak rel pred succ to_ zero))&&((imm==(Cr op dst ra rb imm loc off ix sz fn acq weak rel pred succ to_ zero))&&((loc==(Cs op dst ra rb imm loc off ix sz fn acq weak rel pred succ to_ zero))&&((off==(Ct op dst ra rb imm loc off ix sz fn acq weak rel pred succ to_ zero))&&((ix==(Cu op dst ra rb imm loc off ix sz fn acq weak rel pred succ to_ zero))&&((sz==(Cv op dst ra rb imm loc off ix sz fn acq weak rel pred succ to_ zero))&&((fn==(plain8 op dst ra rb imm loc off ix sz fn acq weak rel pred succ to_ zero))&&((acq==(Cw op dst ra rb imm loc off ix sz fn acq weak rel pred succ to_ zero))&&((weak==(CL op dst ra rb imm loc off ix sz fn acq weak rel pred succ to_ zero))&&((rel==(CM op dst ra rb imm loc off ix sz fn acq weak rel pred succ to_ zero))&&((pred==(CN op dst ra rb imm loc off ix sz fn acq weak rel pred succ to_ zero))&&((succ==(CO op dst ra rb imm loc off ix sz fn acq weak rel pred succ to_ zero))&&((to_==(CP op dst ra rb imm loc off ix sz fn acq weak rel pred succ to_ zero))&&(zero==(CQ op dst ra rb imm loc off ix sz fn acq weak rel pred succ to_ zero))))))))))))))))))))) (.bool (B8 op dst ra rb imm loc off ix sz fn acq weak rel pred succ to_ zero)))] [] A rfl rfl rfl rfl (by kernel_rfl) (A8 _ _) ⟨.inl ⟨_,_,rfl,rfl,cF op dst ra rb imm loc off ix sz fn acq weak rel pred succ to_ zero⟩,⟨.inr ⟨_,_,_,_,_,_,rfl,rfl,rfl,rfl,rfl,fun hg=>cG op dst ra rb imm loc off ix sz fn acq weak rel pred succ to_ zero⟩,trivial⟩⟩ fun A=>N9 1 A rfl rfl fun A=>fork 15 A rfl
  (fun h1 A=>N9 7 A rfl rfl fun A=>R9 A rfl h0 rfl (by simp only [BA,nb,CK,CC,F7,if_pos h1]) rfl)
  (fun h1 A=>N9 7 A rfl rfl fun A=>C9 [] (L6 op dst ra rb imm loc off ix sz fn acq weak rel pred succ to_ zero) A rfl fun A=>N9 14 A rfl rfl fun A=>fork 29 A rfl
   (fun h2 A=>N9 7 A rfl rfl fun A=>R9 A rfl h0 rfl (by simp only [BA,nb,CK,CC,F7,if_neg (α8 h1),if_pos h2]) rfl)
   (fun h2 A=>N9 9 A rfl rfl fun A=>R9 A rfl h0 rfl (by simp only [BA,nb,CK,CC,F7,if_neg (α8 h1),if_neg (α8 h2)]) rfl))
theorem Uj (op dst ra rb imm loc off ix sz fn:Int)(acq weak rel:Bool)(pred succ to_:Int)(zero:Bool):Fn Tryz.prog 188 [.agg [.int .i64 op,.int .i64 dst,.int .i64 ra,.int .i64 rb,.int .i64 imm,.int .i64 loc,.int .i64 off,.int .i64 ix,.int .i64 sz,.int .i64 fn,.bool acq,.bool weak,.bool rel,.int .i64 pred,.int .i64 succ,.int .i64 to_,.bool zero]] [] (Rt (.bool ((F7 op dst ra rb imm loc off ix sz fn acq weak rel pred succ to_ zero 0 0)==34)) []):=
 Am (n:=6) (by kernel_rfl) Tryz.func188 rfl rfl rfl fun G w a h0 A=>N9 9 A rfl rfl fun A=>C9 [] (Ui op dst ra rb imm loc off ix sz fn acq weak rel pred succ to_ zero 0 0) A rfl fun A=>N9 5 A rfl rfl fun A=>R9 A rfl h0 rfl rfl rfl
structure In where (op dst ra rb imm loc off ix sz fn:Int) (acq weak rel:Bool) (pred succ to_:Int) (zero:Bool)
abbrev A5 (i:In):List SV:=[.int .i64 i.op,.int .i64 i.dst,.int .i64 i.ra,.int .i64 i.rb,.int .i64 i.imm,.int .i64 i.loc,.int .i64 i.off,.int .i64 i.ix,.int .i64 i.sz,.int .i64 i.fn,.bool i.acq,.bool i.weak,.bool i.rel,.int .i64 i.pred,.int .i64 i.succ,.int .i64 i.to_,.bool i.zero]
def D6 (i J:In)(p:Int):In:=
 if p=1 then({J with dst:=i.dst}:In)else
 if p=2 then({J with ra:=i.ra}:In)else
 if p=3 then({J with rb:=i.rb}:In)else
 if p=4 then({J with dst:=i.dst,ra:=i.dst}:In)else
 if p=5 then({J with imm:=i.imm}:In)else
 if p=6 then({J with loc:=i.loc,off:=i.off,ix:=i.ix,sz:=i.sz}:In)else
 if p=7 then({J with to_:=i.to_}:In)else
 if p=8 then({J with pred:=i.pred}:In)else
 if p=9 then({J with succ:=i.succ}:In)else
 J
def bare (i:In):In:={i with dst:= -1,ra:= -1,rb:= -1,ix:= -1}
def F8 (p:Int)(i:In):Int×Bool:=if p=1 then(i.dst,true)else if p=4 then(i.dst,true)else if p=2 then(i.ra,true)else if p=3 then(i.rb,true)else(-1,false)
def Gn (ps:List Int)(i:In):Bool:=ps.all fun p=> !((F8 p i).2&&((F8 p i).1== -1))
theorem Zb (p:Int)(i:In):Fn Tryz.prog 227 [.int .i64 p,.agg (A5 i)] [] (Rt (.tup [.int .i64 ((F8 p i).1),.bool ((F8 p i).2)]) []):=
 Am (n:=20) (by kernel_rfl) Tryz.func227 rfl rfl rfl fun G w a h0 A=>N9 21 A rfl rfl fun A=>Au 7 A rfl
  (fun h1 A=>N9 13 A rfl rfl fun A=>R9 A rfl h0 rfl (by unfold F8;rw [if_pos h1];rfl) rfl)
  (fun h1 A=>N9 6 A rfl rfl fun A=>Au 7 A rfl
   (fun h2 A=>N9 10 A rfl rfl fun A=>R9 A rfl h0 rfl (by unfold F8;rw [if_neg h1,if_pos h2];rfl) rfl)
   (fun h2 A=>N9 7 A rfl rfl fun A=>Au 12 A rfl
    (fun h3 A=>N9 10 A rfl rfl fun A=>R9 A rfl h0 rfl (by unfold F8;rw [if_neg h1,if_neg h2,if_pos h3];rfl) rfl)
    (fun h3 A=>N9 7 A rfl rfl fun A=>Au 16 A rfl
     (fun h4 A=>N9 10 A rfl rfl fun A=>R9 A rfl h0 rfl (by unfold F8;rw [if_neg h1,if_neg h2,if_neg h3,if_pos h4];rfl) rfl)
     (fun h4 A=>N9 11 A rfl rfl fun A=>R9 A rfl h0 rfl (by unfold F8;rw [if_neg h1,if_neg h2,if_neg h3,if_neg h4];rfl) rfl))))
structure WI (i:In)(ps:List Int)(J0 J:In)(k:Nat):Prop where
 le:k≤ps.length
 eq:(ps.drop k).foldl (D6 i) J=ps.foldl (D6 i) J0
section
variable {i:In}{ps:List Int}{J0 J J2:In}{k:Nat}
theorem WI.i0:WI i ps J0 J0 0:=⟨β8 _,by simp⟩
theorem WI.nx (hI:WI i ps J0 J k)(h1:(k:Int)<((ps.length:Nat):Int))(h:D6 i J (ps.getD ((k:Int)).toNat 0)=J2):WI i ps J0 J2 (k+1):=by
 have hk:k<ps.length:=by omega
 refine⟨hk,?_⟩
 have e:ps.getD ((k:Int)).toNat 0=ps[k]:=by simp [List.getD,hk]
 rw [←hI.eq,η2 hk,μ5,←e,h]
theorem WI.fi (hI:WI i ps J0 J k)(h1:¬(k:Int)<((ps.length:Nat):Int)):J=ps.foldl (D6 i) J0:=by
 rw [←hI.eq,ι0 (by omega)];rfl
end
theorem lE (nm wd:List UInt8) (r:In) (ps:List Int) (c:Nat) (i:In) (hn:ps.length≤1000000):Fn Tryz.prog 222 [.agg [.str nm,.str wd,.int .i64 r.op,.int .i64 r.dst,.int .i64 r.ra,.int .i64 r.rb,.int .i64 r.imm,.int .i64 r.loc,.int .i64 r.off,.int .i64 r.ix,.int .i64 r.sz,.int .i64 r.fn,.bool r.acq,.bool r.weak,.bool r.rel,.int .i64 r.pred,.int .i64 r.succ,.int .i64 r.to_,.bool r.zero,.sl 0 ps.length c],.agg (A5 i)] [some (.lst 1 ps.length (fun j=>[.int .i64 (ps.getD j 0)]))] (Rt (.agg (A5 (ps.foldl (D6 i) (bare r)))) [some (.lst 1 ps.length (fun j=>[.int .i64 (ps.getD j 0)]))]):=
 Am (n :=81) (by kernel_rfl) Tryz.func222 rfl rfl rfl fun G w a h0 A=>N9 37 A rfl rfl fun A=>ON (fun(J:In) (k:Nat)=>[(3,.ptr 2 0),(4,.ptr 3 0),(5,.ptr 4 0),(15,.sl 0 ps.length c),(16,.int .i64 ((ps.length:Nat):Int)),(17,.int .i64 (k:Int))]) (fun(J:In) (k:Nat)=>[some (.lst 1 ps.length (fun j=>[.int .i64 (ps.getD j 0)])),some (.blk [.str nm,.str wd,.int .i64 r.op,.int .i64 r.dst,.int .i64 r.ra,.int .i64 r.rb,.int .i64 r.imm,.int .i64 r.loc,.int .i64 r.off,.int .i64 r.ix,.int .i64 r.sz,.int .i64 r.fn,.bool r.acq,.bool r.weak,.bool r.rel,.int .i64 r.pred,.int .i64 r.succ,.int .i64 r.to_,.bool r.zero,.sl 0 ps.length c]),some (.blk (A5 i)),some (.blk [.z9,.z9,.z9,.z9,.z9,.z9,.z9,.z9,.z9,.z9,.ff,.ff,.ff,.z9,.z9,.z9,.ff]),some (.blk (A5 J))]) (fun(J:In) (k:Nat)=>WI i ps (bare r) J k) (fun(J:In) (k:Nat)=>ps.length - k) (bare r) 0 WI.i0 ((A.cut [3,4,5,15,16,17] rfl).trunc 5 rfl rfl rfl (Cj h0 rfl)) fun J k hI {G a w} A=>N9 6 A rfl rfl fun A=>Aq 18 A rfl
   (fun h1 A=>N9 13 A rfl (Aj (by have:=hI.le;omega)<|Aj (by have:=hI.le;omega)<|Ah) fun A=>N9 11 A rfl rfl fun A=>Au 22 A rfl
    (fun h2 A=>N9 14 A rfl (Aj (by have:=hI.le;omega)<|Ah) fun A=>⟨({J with dst:=i.dst}:In),k+1,_,(by omega),(hI.nx h1 (by unfold D6;rw [if_pos h2])),((A.cut [3,4,5,15,16,17] rfl).trunc 5 rfl rfl rfl (Cj h0 rfl))⟩)
    (fun h2 A=>N9 7 A rfl rfl fun A=>Au 27 A rfl
     (fun h3 A=>N9 14 A rfl (Aj (by have:=hI.le;omega)<|Ah) fun A=>⟨({J with ra:=i.ra}:In),k+1,_,(by omega),(hI.nx h1 (by unfold D6;rw [if_neg h2,if_pos h3])),((A.cut [3,4,5,15,16,17] rfl).trunc 5 rfl rfl rfl (Cj h0 rfl))⟩)
     (fun h3 A=>N9 7 A rfl rfl fun A=>Au 32 A rfl
      (fun h4 A=>N9 14 A rfl (Aj (by have:=hI.le;omega)<|Ah) fun A=>⟨({J with rb:=i.rb}:In),k+1,_,(by omega),(hI.nx h1 (by unfold D6;rw [if_neg h2,if_neg h3,if_pos h4])),((A.cut [3,4,5,15,16,17] rfl).trunc 5 rfl rfl rfl (Cj h0 rfl))⟩)
      (fun h4 A=>N9 7 A rfl rfl fun A=>Au 37 A rfl
       (fun h5 A=>N9 1 A rfl rfl fun A=>Ba hX By [] [] A rfl rfl rfl rfl (by kernel_rfl) (A8 _ _) trivial fun A=>N9 7 A rfl (Aj (by have:=hI.le;omega)<|Ah) fun A=>⟨({J with dst:=i.dst,ra:=i.dst}:In),k+1,_,(by omega),(hI.nx h1 (by unfold D6;rw [if_neg h2,if_neg h3,if_neg h4,if_pos h5])),((A.cut [3,4,5,15,16,17] rfl).trunc 5 rfl rfl rfl (Cj h0 rfl))⟩)
       (fun h5 A=>N9 7 A rfl rfl fun A=>Au 45 A rfl
        (fun h6 A=>N9 14 A rfl (Aj (by have:=hI.le;omega)<|Ah) fun A=>⟨({J with imm:=i.imm}:In),k+1,_,(by omega),(hI.nx h1 (by unfold D6;rw [if_neg h2,if_neg h3,if_neg h4,if_neg h5,if_pos h6])),((A.cut [3,4,5,15,16,17] rfl).trunc 5 rfl rfl rfl (Cj h0 rfl))⟩)
        (fun h6 A=>N9 7 A rfl rfl fun A=>Au 50 A rfl
         (fun h7 A=>N9 1 A rfl rfl fun A=>Ba hX By [] [] A rfl rfl rfl rfl (by kernel_rfl) (A8 _ _) trivial fun A=>N9 7 A rfl (Aj (by have:=hI.le;omega)<|Ah) fun A=>⟨({J with loc:=i.loc,off:=i.off,ix:=i.ix,sz:=i.sz}:In),k+1,_,(by omega),(hI.nx h1 (by unfold D6;rw [if_neg h2,if_neg h3,if_neg h4,if_neg h5,if_neg h6,if_pos h7])),((A.cut [3,4,5,15,16,17] rfl).trunc 5 rfl rfl rfl (Cj h0 rfl))⟩)
         (fun h7 A=>N9 7 A rfl rfl fun A=>Au 64 A rfl
          (fun h8 A=>N9 14 A rfl (Aj (by have:=hI.le;omega)<|Ah) fun A=>⟨({J with to_:=i.to_}:In),k+1,_,(by omega),(hI.nx h1 (by unfold D6;rw [if_neg h2,if_neg h3,if_neg h4,if_neg h5,if_neg h6,if_neg h7,if_pos h8])),((A.cut [3,4,5,15,16,17] rfl).trunc 5 rfl rfl rfl (Cj h0 rfl))⟩)
          (fun h8 A=>N9 7 A rfl rfl fun A=>Au 69 A rfl
           (fun h9 A=>N9 14 A rfl (Aj (by have:=hI.le;omega)<|Ah) fun A=>⟨({J with pred:=i.pred}:In),k+1,_,(by omega),(hI.nx h1 (by unfold D6;rw [if_neg h2,if_neg h3,if_neg h4,if_neg h5,if_neg h6,if_neg h7,if_neg h8,if_pos h9])),((A.cut [3,4,5,15,16,17] rfl).trunc 5 rfl rfl rfl (Cj h0 rfl))⟩)
           (fun h9 A=>N9 7 A rfl rfl fun A=>Au 74 A rfl
            (fun GL A=>N9 14 A rfl (Aj (by have:=hI.le;omega)<|Ah) fun A=>⟨({J with succ:=i.succ}:In),k+1,_,(by omega),(hI.nx h1 (by unfold D6;rw [if_neg h2,if_neg h3,if_neg h4,if_neg h5,if_neg h6,if_neg h7,if_neg h8,if_neg h9,if_pos GL])),((A.cut [3,4,5,15,16,17] rfl).trunc 5 rfl rfl rfl (Cj h0 rfl))⟩)
            (fun GL A=>N9 9 A rfl (Aj (by have:=hI.le;omega)<|Ah) fun A=>⟨J,k+1,_,(by omega),(hI.nx h1 (by unfold D6;rw [if_neg h2,if_neg h3,if_neg h4,if_neg h5,if_neg h6,if_neg h7,if_neg h8,if_neg h9,if_neg GL])),((A.cut [3,4,5,15,16,17] rfl).trunc 5 rfl rfl rfl (Cj h0 rfl))⟩))))))))))
   (fun h1 A=>N9 10 A rfl rfl fun A=>R9 A rfl h0 rfl (by rw [←hI.fi h1];rfl) rfl)
structure SI (i:In)(ps:List Int)(k:Nat):Prop where
 le:k≤ps.length
 eq:Gn ps i=Gn (ps.drop k) i
section
variable {i:In}{ps:List Int}{k:Nat}
theorem SI.i0:SI i ps 0:=⟨β8 _,by simp⟩
theorem SI.at (hI:SI i ps k)(h1:(k:Int)<((ps.length:Nat):Int)):Gn ps i=(!((F8 (ps.getD ((k:Int)).toNat 0) i).2&&((F8 (ps.getD ((k:Int)).toNat 0) i).1== -1))&&Gn (ps.drop (k+1)) i):=by
 have hk:k<ps.length:=by omega
 have e:ps.getD ((k:Int)).toNat 0=ps[k]:=by simp [List.getD,hk]
 rw [hI.eq,η2 hk,e];rfl
theorem SI.no (hI:SI i ps k)(h1:(k:Int)<((ps.length:Nat):Int))(h:((F8 (ps.getD ((k:Int)).toNat 0) i).2&&((F8 (ps.getD ((k:Int)).toNat 0) i).1== -1))=true):Gn ps i=false:=by rw [hI.at h1,h];rfl
theorem SI.nx (hI:SI i ps k)(h1:(k:Int)<((ps.length:Nat):Int))(h:((F8 (ps.getD ((k:Int)).toNat 0) i).2&&((F8 (ps.getD ((k:Int)).toNat 0) i).1== -1))=false):SI i ps (k+1):=⟨by omega,by rw [hI.at h1,h];simp⟩
theorem SI.fi (hI:SI i ps k)(h1:¬(k:Int)<((ps.length:Nat):Int)):Gn ps i=true:=by rw [hI.eq,ι0 (by omega)];rfl
end
theorem cH (nm wd:List UInt8)(r:In)(ps:List Int)(c:Nat)(i:In)(hn:ps.length≤1000000):Fn Tryz.prog 225 [.agg [.str nm,.str wd,.int .i64 r.op,.int .i64 r.dst,.int .i64 r.ra,.int .i64 r.rb,.int .i64 r.imm,.int .i64 r.loc,.int .i64 r.off,.int .i64 r.ix,.int .i64 r.sz,.int .i64 r.fn,.bool r.acq,.bool r.weak,.bool r.rel,.int .i64 r.pred,.int .i64 r.succ,.int .i64 r.to_,.bool r.zero,.sl 0 ps.length c],.agg (A5 i)] [some (.lst 1 ps.length (fun j=>[.int .i64 (ps.getD j 0)]))] (Rt (.bool (Gn ps i)) [some (.lst 1 ps.length (fun j=>[.int .i64 (ps.getD j 0)]))]):=
 Am (n:=28) (by kernel_rfl) Tryz.func225 rfl rfl rfl fun G w a h0 A=>N9 17 A rfl rfl fun A=>B7 (fun(k:Nat)=>[(3,.ptr 2 0),(4,.ff),(10,.sl 0 ps.length c),(11,.int .i64 ((ps.length:Nat):Int)),(12,.int .i64 (k:Int))]) (fun(k:Nat)=>[some (.lst 1 ps.length (fun j=>[.int .i64 (ps.getD j 0)])),some (.blk [.str nm,.str wd,.int .i64 r.op,.int .i64 r.dst,.int .i64 r.ra,.int .i64 r.rb,.int .i64 r.imm,.int .i64 r.loc,.int .i64 r.off,.int .i64 r.ix,.int .i64 r.sz,.int .i64 r.fn,.bool r.acq,.bool r.weak,.bool r.rel,.int .i64 r.pred,.int .i64 r.succ,.int .i64 r.to_,.bool r.zero,.sl 0 ps.length c]),some (.blk (A5 i))]) (fun(k:Nat)=>SI i ps k) (fun(k:Nat)=>ps.length - k) 0 SI.i0 ((A.cut [3,4,10,11,12] rfl).trunc 3 rfl rfl rfl (Cj h0 rfl)) fun k hI {G a w} A=>N9 6 A rfl rfl fun A=>Aq 13 A rfl
   (fun h1 A=>N9 13 A rfl (Aj (by have:=hI.le;omega)<|Aj (by have:=hI.le;omega)<|Ah) fun A=>N9 3 A rfl rfl fun A=>C9 [] (Zb (ps.getD (((k:Int)).toNat) 0) i) A rfl fun A=>N9 16 A rfl rfl fun A=>fork 26 A rfl
    (fun h2 A=>N9 7 A rfl rfl fun A=>R9 A rfl h0 rfl (by rw [hI.no h1 h2];rfl) rfl)
    (fun h2 A=>N9 8 A rfl (Aj (by have:=hI.le;omega)<|Ah) fun A=>⟨k+1,_,(by omega),(hI.nx h1 h2),((A.cut [3,4,10,11,12] rfl).trunc 3 rfl rfl rfl (Cj h0 rfl))⟩))
   (fun h1 A=>N9 9 A rfl rfl fun A=>R9 A rfl h0 rfl (by rw [hI.fi h1];rfl) rfl)
end Go.Proofs.YtbbdanhpphlbpaaGreatDoor
namespace Go.Proofs.YtbbdanhpphlbpaaGreatDoor
open Go.RowKit
abbrev BO:=Option (Nat×Nat)
def IW (bo:BO):Option Addr:=bo.map fun x=>⟨x.1,x.2,none⟩
def Eg (bo:BO):Option Loc:=bo.map fun x=>⟨x.1,List.replicate x.2 undef,[],0⟩
mutual
theorem J9 {G:Gr}{i:Nat}{bo:BO}(hG:G[i]?=some (Eg bo)):∀(x:SV),(∀z∈IR x,z=IW bo)→den G (Se i x)=den G x
 | .sla a m c,h=>by
  have h1:a=IW bo:=h a (by unfold IR;exact η5.2 rfl)
  subst h1
  unfold Se den
  rw [hG]
  cases bo with
  |none=>rfl
  |some x=>simp [Eg,IW,rm]
 | .agg l,h=>by unfold Se den;rw [OV hG l (by unfold IR at h;exact h)]
 | .int _ _,_=>rfl
 | .bool _,_=>rfl
 | .tt,_=>rfl
 | .ff,_=>rfl
 | .str _,_=>rfl
 | .ptr _ _,_=>rfl
 | .el _ _ _ _,_=>rfl
 | .ix _ _ _ _ _,_=>rfl
 | .sl _ _ _,_=>rfl
 | .sp _ _ _,_=>rfl
 | .st _ _ _ _ _,_=>rfl
 | .tup _,_=>rfl
 | .fn _ _,_=>rfl
 | .opt _ _,_=>rfl
 | .v _,_=>rfl
theorem OV {G:Gr}{i:Nat}{bo:BO}(hG:G[i]?=some (Eg bo)):∀(l:List SV),(∀z∈Pb l,z=IW bo)→Al G (cB i l)=Al G l
 | [],_=>rfl
 |x::l,h=>by
  unfold Pb at h
  unfold cB Al
  rw [J9 hG x (fun z hz=>h z (ρ2 _ hz)),OV hG l (fun z hz=>h z (π3 _ hz))]
end
def At (ao:Option Addr)(s n:Nat)(f:Nat→List SV):Ef:=fun w ks=>
 (∀k,∃vs,Al [] (f k)=some vs)∧(n=0∨∃b o,ao=IW (some (b,o))∧b<w.heap.size∧ks.contains b=false∧∀k,k<n→∃vs,Al [] (f k)=some vs∧w.rangeAt b (o+k*s) vs)
theorem At.ok {ao:Option Addr}{s n:Nat}{f:Nat→List SV}:Ef.OK (At ao s n f):=fun w ks w' ks' h m hk=>by
 refine⟨h.1,?_⟩
 rcases h.2 with h|⟨b,o,h1,h2,h3,h4⟩
 ·exact .inl h
 ·refine .inr ⟨b,o,h1,ζ2 h2 m.size,?_,fun k EC=>?_⟩
  ·cases hc:ks'.contains b with
   |false=>rfl
   |true=>
    rcases hk b hc with h5|h5
    ·rw [h5]at h3;cases h3
    ·omega
  ·obtain⟨vs,v1,v2⟩:=h4 k EC
   exact⟨vs,v1,FY v2 m h2 h3⟩
section
variable {P:Program}{n:Nat}{ks:List Nat}{G0:Gr}{w0:World}{T:List (Nat×SV)}{H:Hp}{G:Gr}{a:Act}{w:World}{Q:Exit→Act→World→Prop}{K:List Fr}{pos:Pos}
theorem Sy.adoptB (A:Sy n T H ks G0 w0 G a w){bo:BO}{s m:Nat}{f:Nat→List SV}(h0:At (IW bo) s m f w0 ks)(hm0:m≠0)(t:Nat){x:SV}(hx:look T t=some x)(hs:∀z∈IR x,z=IW bo):Sy n ((t,Se H.length x)::T) (H++[some (.lst s m f)]) ks G0 w0 (G++[Eg bo]) a w:=by
 have hl:=At.ok _ _ _ _ h0 A.mix (fun b hb=>.inl hb:∀b,ks.contains b=true→ks.contains b=true∨w0.heap.size≤b)
 have eb:∀{b o:Nat},IW bo=some ⟨b,o,none⟩→bo=some (b,o):=fun h1=>by
  cases bo with
  |none=>cases h1
  |some z=>obtain⟨z1,z2⟩:=z;simp [IW]at h1;rw [h1.1,h1.2]
 refine(A.addE (p:=Eg bo) (en:=.lst s m f) ⟨hl.1,?_⟩ (fun i e L M h1 h2 h3 h=>?_) fun h=>by cases h).slotEq t hx (J9 (by rw [α2 (by rw [A.mem.len];exact β7 _),A.mem.len];simp) x hs)
 ·rcases hl.2 with h2|⟨b,o,h1,h2,_,h4⟩
  ·exact .inl h2
  ·right
   have e:=eb h1
   subst e
   refine⟨_,rfl,h2,fun k hk=>?_⟩
   obtain⟨vs,v1,v2⟩:=h4 k hk
   exact⟨vs,v1,by simpa using v2⟩
 ·rcases h0.2 with q|⟨b,o,q1,q2,q3,_⟩
  ·exact absurd q hm0
  ·have e:=eb q1
   subst e
   cases h3
   exact A.apart q2 q3 h1 h2 (h.elim (fun z=>by cases z.2) (·.1))
def cI (ao:Option Addr):Option Loc:=ao.map fun a=>⟨a.block,List.replicate a.off undef,[],0⟩
theorem Pe {ao:Option Addr}{s m:Nat}{f:Nat→List SV}(t:Nat)(h0:At ao s m f w0 ks)(hm:m≠0)(A:Sy n T H ks G0 w0 G a w){x y:SV}{H':Hp}(hx:look T t=some x)(hs:IR x=[ao])(hy:Se H.length x=y)(hH:H++[some (.lst s m f)]=H')(hk:den (G++[cI ao]) y=den (G++[cI ao]) x→Sy n ((t,y)::T) H' ks G0 w0 (G++[cI ao]) a w→Goal P Q K pos a w):Goal P Q K pos a w:=by
 subst hy;subst hH
 rcases h0.2 with q|⟨b,o,e,_⟩
 ·exact absurd q hm
 ·subst e
  have hz:∀z∈IR x,z=IW (some (b,o)):=fun z hz=>by rw [hs]at hz;exact η5.1 hz
  have hlen:=A.mem.len
  have hG:(G++[Eg (some (b,o))])[H.length]?=some (Eg (some (b,o))):=by rw [α2 (by omega),hlen];simp
  exact hk (J9 hG x hz) (A.adoptB h0 hm t hx hz)
theorem Sy.undo {d t:Nat}{e x y:SV}(A:Sy n ((d,e)::(t,y)::T) H ks G0 w0 G a w)(hd:den G y=den G x)(hx:look T t=some x)(wU:Nat.beq d t=false):Sy n ((d,e)::T) H ks G0 w0 G a w:=
 ⟨A.size,A.defers,fun s z hz=>by
  unfold look at hz
  cases hc:Nat.beq d s with
  |true=>rw [hc]at hz;cases hz;have:=α9 hc;subst this;exact A.get d e (by unfold look;rw [hc];rfl)
  | false=>
   rw [hc]at hz
   cases hq:Nat.beq t s with
   |true=>
    have:=α9 hq
    subst this
    rw [hx]at hz
    cases hz
    rw [←hd]
    exact A.get t y (by unfold look;rw [wU];show look _ _=_;unfold look;rw [hq];rfl)
   |false=>exact A.get s z (by unfold look;rw [hc];show look _ _=_;unfold look;rw [hq];exact hz),A.mem,A.pre,A.own,A.mix⟩
theorem Pf {Y:Tb}{pos':Pos}{K':List Fr}{E:Ob}{ao:Option Addr}{s m:Nat}{f:Nat→List SV}(hX:Y.ok P=true)(d t:Nat)(h0:At ao s m f w0 ks)(hm:m≠0)(A:Sy n T H ks G0 w0 G a w){x y e:SV}{H':Hp}(hx:look T t=some x)(hs:IR x=[ao])(hy:Se H.length x=y)(hH:H++[some (.lst s m f)]=H')(wU:Nat.beq d t=false)(h:bX ⟨Y,true⟩ n 1 ((t,y)::T) H' K pos=⟨(d,e)::(t,y)::T,H',K',pos',E⟩)(hE:Dr E)(hk:∀{G a w},Sy n ((d,e)::T) H' ks G0 w0 G a w→Goal P Q K' pos' a w):Goal P Q K pos a w:=by
 subst hy;subst hH
 rcases h0.2 with q|⟨b,o,eo,_⟩
 ·exact absurd q hm
 ·subst eo
  have hz:∀z∈IR x,z=IW (some (b,o)):=fun z hz=>by rw [hs]at hz;exact η5.1 hz
  have hlen:=A.mem.len
  have B:=A.adoptB h0 hm t hx hz
  obtain⟨F0,wE⟩:=A.pre
  have C:Sy n ((t,Se H.length x)::T) (H++[some (.lst s m f)]) ks (G++[Eg (some (b,o))]) w0 (G++[Eg (some (b,o))]) a w:=⟨B.size,B.defers,B.get,B.mem,⟨[],by rw [ε9]⟩,B.own,B.mix⟩
  refine N hX 1 C h hE fun{G' a' w'} D=>?_
  obtain⟨F,hF⟩:=D.pre
  have hG:G'[H.length]?=some (Eg (some (b,o))):=by rw [hF,α1 (by rw [α4,List.length_singleton];omega),α2 (by omega),hlen];simp
  have D':=D.undo (J9 hG x hz) hx wU
  exact hk ⟨D'.size,D'.defers,D'.get,D'.mem,⟨F0++[Eg (some (b,o))]++F,by rw [hF,wE];simp only [γ2]⟩,D'.own,D'.mix⟩
end
end Go.Proofs.YtbbdanhpphlbpaaGreatDoor
namespace Go.Proofs.YtbbdanhpphlbpaaGreatDoor
open Go.RowKit
set_option simprocs false
def In.z:In:=⟨0,0,0,0,0,0,0,0,0,0,false,false,false,0,0,0,false⟩
abbrev C3 (i:In):List SV:=(A5 i)
structure Ak where (ao:Option Addr) (l:List In) (cp:Nat)
def Ak.z:Ak:=⟨none,[],0⟩
abbrev JL (c:Ak):List SV:=[.sla c.ao c.l.length c.cp]
abbrev Ak.lies (c:Ak):Ef:=At c.ao 17 c.l.length (fun zz=>C3 (c.l.getD zz In.z))
def An (cs:List Ak):Ef:=fun w ks=>∀c∈cs,c.lies w ks
theorem An.ok {cs:List Ak}:Ef.OK (An cs):=fun w ks w' ks' h m hk c hc=>At.ok _ _ _ _ (h c hc) m hk
theorem An.at {cs:List Ak}{w:World}{ks:List Nat}(h:An cs w ks){k:Nat}(hk:k<cs.length):(cs.getD k Ak.z).lies w ks:=h _ (by rw [α6,β0 hk];exact η9 hk)
def Zc (i:In)(a n:Int):Int:=F7 i.op i.dst i.ra i.rb i.imm i.loc i.off i.ix i.sz i.fn i.acq i.weak i.rel i.pred i.succ i.to_ i.zero a n
def IX (cs:List Ak):Option Nat:=(List.range cs.length).find? fun k=>decide (8<(cs.getD k Ak.z).l.length)
def GR (c:Ak):Option Nat:=(List.range c.l.length).find? fun k=> !(Zc (c.l.getD k In.z) (k:Int) ((c.l.length:Nat):Int)==0)
def JM (cs:List Ak):Option Nat:=(List.range cs.length).find? fun k=>(GR (cs.getD k Ak.z)).isSome
structure B1 (cs:List Ak)(i:Nat):Prop where
 le:i≤cs.length
 ok:∀j,j<i→(cs.getD j Ak.z).l.length≤8
structure B2 (cs:List Ak)(i:Nat):Prop where
 le:i≤cs.length
 ok:∀j,j<i→GR (cs.getD j Ak.z)=none
structure B3 (c:Ak)(k:Nat):Prop where
 le:k≤c.l.length
 ok:∀j,j<k→Zc (c.l.getD j In.z) (j:Int) ((c.l.length:Nat):Int)=0
section
variable {cs:List Ak}{c:Ak}{i k:Nat}
theorem B1.i0:B1 cs 0:=⟨β8 _,fun j hj=>by omega⟩
theorem B1.nx (h:B1 cs i)(h1:(i:Int)<((cs.length:Nat):Int))(h2:¬((((cs.getD ((i:Int)).toNat Ak.z).l.length:Nat):Int)>8)):B1 cs (i+1):=⟨by omega,fun j hj=>by
 by_cases e:j=i
 ·subst e;rw [β5]at h2;omega
 ·exact h.ok j (by omega)⟩
theorem B1.bad (h:B1 cs i)(h1:(i:Int)<((cs.length:Nat):Int))(h2:(((cs.getD ((i:Int)).toNat Ak.z).l.length:Nat):Int)>8):IX cs=some i:=by
 unfold IX
 rw [κ7]
 rw [β5]at h2
 refine⟨by simp only [δ5];omega,by simp only [ε8];omega,fun j hj=>?_⟩
 have:=h.ok j hj
 simp only [κ8,δ9];omega
theorem B1.good (h:B1 cs i)(h1:¬(i:Int)<((cs.length:Nat):Int)):IX cs=none:=by
 unfold IX
 rw [ι8]
 intro j hj
 simp only [ε8]at hj
 have:=h.ok j (by omega)
 simp only [δ5];omega
theorem B3.i0:B3 c 0:=⟨β8 _,fun j hj=>by omega⟩
theorem B3.nx (h:B3 c k)(h1:(k:Int)<((c.l.length:Nat):Int))(h2:Zc (c.l.getD ((k:Int)).toNat In.z) (k:Int) ((c.l.length:Nat):Int)=0):B3 c (k+1):=⟨by omega,fun j hj=>by
 by_cases e:j=k
 ·subst e;rw [β5]at h2;exact h2
 ·exact h.ok j (by omega)⟩
theorem B3.bad (h:B3 c k)(h1:(k:Int)<((c.l.length:Nat):Int))(h2:Zc (c.l.getD ((k:Int)).toNat In.z) (k:Int) ((c.l.length:Nat):Int)≠0):GR c=some k:=by
 unfold GR
 rw [κ7]
 rw [β5]at h2
 refine⟨by rw [δ1.2 h2];rfl,by simp only [ε8];omega,fun j hj=>?_⟩
 rw [h.ok j hj];rfl
theorem B3.good (h:B3 c k)(h1:¬(k:Int)<((c.l.length:Nat):Int)):GR c=none:=by
 unfold GR
 rw [ι8]
 intro j hj
 simp only [ε8]at hj
 rw [h.ok j (by omega)];decide
theorem B2.i0:B2 cs 0:=⟨β8 _,fun j hj=>by omega⟩
theorem B2.nx (h:B2 cs i)(h1:(i:Int)<((cs.length:Nat):Int))(h2:GR (cs.getD ((i:Int)).toNat Ak.z)=none):B2 cs (i+1):=⟨by omega,fun j hj=>by
 by_cases e:j=i
 ·subst e;rw [β5]at h2;exact h2
 ·exact h.ok j (by omega)⟩
theorem B2.bad (h:B2 cs i)(h1:(i:Int)<((cs.length:Nat):Int)){k:Nat}(h2:GR (cs.getD ((i:Int)).toNat Ak.z)=some k):JM cs=some i:=by
 unfold JM
 rw [κ7]
 rw [β5]at h2
 refine⟨by rw [h2];rfl,by simp only [ε8];omega,fun j hj=>?_⟩
 rw [h.ok j hj];rfl
theorem B2.good (h:B2 cs i)(h1:¬(i:Int)<((cs.length:Nat):Int)):JM cs=none:=by
 unfold JM
 rw [ι8]
 intro j hj
 simp only [ε8]at hj
 rw [h.ok j (by omega)];decide
end
theorem Cx {cs:List Ak}{B:Nat}(hs:∀c∈cs,c.l.length≤B)(k:Nat):(cs.getD k Ak.z).l.length≤B:=by
 rw [α6]
 cases hh:cs[k]? with
 |none=>exact β8 _
 |some y=>exact hs y (θ0 hh)
theorem IY {cs:List Ak}(h:IX cs=none):∀c∈cs,c.l.length≤8:=fun c hc=>by
 obtain⟨j,hj⟩:=List.getElem?_of_mem hc
 have hl:=(α0.1 hj).1
 unfold IX at h
 rw [ι8]at h
 have h2:=h j (ε8.2 hl)
 rw [α6,hj]at h2
 simp only [γ8,δ5]at h2
 omega
theorem Hh {p q:Prop}[Decidable p][Decidable q](h:(decide p||decide q)=false):¬p∧¬q:=by simpa using h
def FF (i:In):Bool:=B4 i.op i.dst i.ra i.rb i.imm i.loc i.off i.ix i.sz i.fn i.acq i.weak i.rel i.pred i.succ i.to_ i.zero
def Fc (p:In→Bool)(l:List In):Nat:=(l.filter p).length
def IZ (p:In→Bool)(cs:List Ak):Nat:=(cs.map fun c=>Fc p c.l).sum
def FG (i:In):Bool:=i.op==9
def Ia (cs:List Ak):Int:=if((IZ FF cs:Nat):Int)>6 then 32 else if((IZ FG cs:Nat):Int)>3 then 33 else 0
def lF (cs:List Ak):Int:=if(decide (((cs.length:Nat):Int)<1)||decide (((cs.length:Nat):Int)>3))=true then 0 else match IX cs with
 |some k=>(k:Int)
 |none=>match JM cs with
  |some k=>(k:Int)
  |none=>0
def lG (cs:List Ak):Int:=if(decide (((cs.length:Nat):Int)<1)||decide (((cs.length:Nat):Int)>3))=true then 0 else match IX cs with
 |some k=>0
 |none=>match JM cs with
  |some k=>(((GR (cs.getD k Ak.z)).getD 0:Nat):Int)
  |none=>0
def M2 (cs:List Ak):Int:=if(decide (((cs.length:Nat):Int)<1)||decide (((cs.length:Nat):Int)>3))=true then 30 else match IX cs with
 |some k=>31
 |none=>match JM cs with
  |some k=>Zc ((cs.getD k Ak.z).l.getD ((GR (cs.getD k Ak.z)).getD 0) In.z) (((GR (cs.getD k Ak.z)).getD 0:Nat):Int) (((cs.getD k Ak.z).l.length:Nat):Int)
  |none=>Ia cs
abbrev _root_.Go.Proofs.YtbbdanhpphlbpaaGreatDoor.Bc (cs:List Ak):Bo:=.lst 1 cs.length (fun zz=>JL (cs.getD zz Ak.z))
theorem KA (cs:List Ak) (cx:Nat) (hs:∀c∈cs,c.l.length≤9223372036854775807) (j9:IX cs=none→cs.length≤3→CE (An cs) Tryz.prog 83 [.sl 0 cs.length cx] [some (Bc cs)] (Rt (.int .i64 (Ia cs)) [some (Bc cs)])):CE (An cs) Tryz.prog 48 [.sl 0 cs.length cx] [some (Bc cs)] (Rt (.tup [.int .i64 (lF cs),.int .i64 (lG cs),.int .i64 (M2 cs)]) [some (Bc cs)]):=
 BB (n:=60) (by kernel_rfl) Tryz.func48 rfl rfl rfl fun G w a h0 hI A=>N9 20 A rfl rfl fun A=>fork 19 A rfl
  (fun h1 A=>N9 9 A rfl rfl fun A=>R9 A rfl h0 rfl (by unfold lF lG M2;rw [if_pos h1,if_pos h1,if_pos h1];rfl) rfl)
  (fun h1 A=>N9 12 A rfl rfl fun A=>B7 (fun(i:Nat)=>[(0,.sl 0 cs.length cx),(2,.int .i64 0),(3,.int .i64 0),(4,.int .i64 0),(20,.sl 0 cs.length cx),(21,.int .i64 ((cs.length:Nat):Int)),(22,.int .i64 (i:Int))]) (fun(i:Nat)=>[some (Bc cs)]) (fun(i:Nat)=>B1 cs i) (fun(i:Nat)=>cs.length - i) 0 B1.i0 ((A.cut [0,2,3,4,20,21,22] rfl).trunc 1 rfl rfl rfl (Cj h0 rfl)) fun i hJ {G a w} A=>N9 6 A rfl rfl fun A=>Aq 23 A rfl
    (fun h2 A=>N9 15 A rfl (Aj (by(try have hz:=Hh h1);(try have hy:=Cx hs ((i:Int)).toNat);(try have:=hL.le);(try have:=hK.le);(try have:=hJ.le);omega)<|Aj (by(try have hz:=Hh h1);(try have hy:=Cx hs ((i:Int)).toNat);(try have:=hL.le);(try have:=hK.le);(try have:=hJ.le);omega)<|Ah) fun A=>N9 6 A rfl rfl fun A=>Aq 29 A rfl
     (fun h3 A=>N9 10 A rfl rfl fun A=>R9 A rfl h0 rfl (by unfold lF lG M2;rw [if_neg (α8 h1),if_neg (α8 h1),if_neg (α8 h1)];rw [hJ.bad h2 h3];rfl) rfl)
     (fun h3 A=>N9 8 A rfl (Aj (by(try have hz:=Hh h1);(try have hy:=Cx hs ((i:Int)).toNat);(try have:=hL.le);(try have:=hK.le);(try have:=hJ.le);omega)<|Ah) fun A=>⟨i+1,_,(by omega),(hJ.nx h2 h3),((A.cut [0,2,3,4,20,21,22] rfl).trunc 1 rfl rfl rfl (Cj h0 rfl))⟩))
    (fun h2 A=>N9 12 A rfl rfl fun A=>have hG:=hJ.good h2;B7 (fun(i:Nat)=>[(0,.sl 0 cs.length cx),(2,.int .i64 0),(3,.int .i64 0),(4,.int .i64 0),(32,.sl 0 cs.length cx),(33,.int .i64 ((cs.length:Nat):Int)),(34,.int .i64 (i:Int))]) (fun(i:Nat)=>[some (Bc cs)]) (fun(i:Nat)=>B2 cs i) (fun(i:Nat)=>cs.length - i) 0 B2.i0 ((A.cut [0,2,3,4,32,33,34] rfl).trunc 1 rfl rfl rfl (Cj h0 rfl)) fun i hK {G a w} A=>N9 6 A rfl rfl fun A=>Aq 35 A rfl
      (fun h4 A=>N9 15 A rfl (Aj (by(try have hz:=Hh h1);(try have hy:=Cx hs ((i:Int)).toNat);(try have:=hL.le);(try have:=hK.le);(try have:=hJ.le);omega)<|Aj (by(try have hz:=Hh h1);(try have hy:=Cx hs ((i:Int)).toNat);(try have:=hL.le);(try have:=hK.le);(try have:=hJ.le);omega)<|Ah) fun A=>N9 7 A rfl rfl fun A=>B7 (fun(k:Nat)=>[(0,.sl 0 cs.length cx),(2,.int .i64 0),(3,.int .i64 0),(4,.int .i64 0),(7,.int .i64 (i:Int)),(8,.sla ((cs.getD (((i:Int)).toNat) Ak.z).ao) ((cs.getD (((i:Int)).toNat) Ak.z).l.length) ((cs.getD (((i:Int)).toNat) Ak.z).cp)),(32,.sl 0 cs.length cx),(33,.int .i64 ((cs.length:Nat):Int)),(34,.int .i64 (i:Int)),(39,.sla ((cs.getD (((i:Int)).toNat) Ak.z).ao) ((cs.getD (((i:Int)).toNat) Ak.z).l.length) ((cs.getD (((i:Int)).toNat) Ak.z).cp)),(40,.int .i64 (((cs.getD (((i:Int)).toNat) Ak.z).l.length:Nat):Int)),(41,.int .i64 (k:Int))]) (fun(k:Nat)=>[some (Bc cs)]) (fun(k:Nat)=>B3 (cs.getD ((i:Int)).toNat Ak.z) k) (fun(k:Nat)=>(cs.getD ((i:Int)).toNat Ak.z).l.length - k) 0 B3.i0 ((A.cut [0,2,3,4,7,8,32,33,34,39,40,41] rfl).trunc 1 rfl rfl rfl (Cj h0 rfl)) fun k hL {G a w} A=>N9 6 A rfl rfl fun A=>Aq 42 A rfl
        (fun h5 A=>N9 8 A rfl rfl fun A=>Pf (ao:=(cs.getD (((i:Int)).toNat) Ak.z).ao) (s:=17) (m:=(cs.getD (((i:Int)).toNat) Ak.z).l.length) (f:=fun zz=>C3 ((cs.getD (((i:Int)).toNat) Ak.z).l.getD zz In.z)) hX 44 39 (hI.at (by omega)) (by omega) A rfl rfl rfl rfl rfl rfl (Aj (by(try have hz:=Hh h1);(try have hy:=Cx hs ((i:Int)).toNat);(try have:=hL.le);(try have:=hK.le);(try have:=hJ.le);omega)<|Ah) fun A=>N9 7 A rfl (Aj (by(try have hz:=Hh h1);(try have hy:=Cx hs ((i:Int)).toNat);(try have:=hL.le);(try have:=hK.le);(try have:=hJ.le);omega)<|Ah) fun A=>N9 5 A rfl rfl fun A=>C9 [] (Ui ((cs.getD (((i:Int)).toNat) Ak.z).l.getD (((k:Int)).toNat) In.z).op ((cs.getD (((i:Int)).toNat) Ak.z).l.getD (((k:Int)).toNat) In.z).dst ((cs.getD (((i:Int)).toNat) Ak.z).l.getD (((k:Int)).toNat) In.z).ra ((cs.getD (((i:Int)).toNat) Ak.z).l.getD (((k:Int)).toNat) In.z).rb ((cs.getD (((i:Int)).toNat) Ak.z).l.getD (((k:Int)).toNat) In.z).imm ((cs.getD (((i:Int)).toNat) Ak.z).l.getD (((k:Int)).toNat) In.z).loc ((cs.getD (((i:Int)).toNat) Ak.z).l.getD (((k:Int)).toNat) In.z).off ((cs.getD (((i:Int)).toNat) Ak.z).l.getD (((k:Int)).toNat) In.z).ix ((cs.getD (((i:Int)).toNat) Ak.z).l.getD (((k:Int)).toNat) In.z).sz ((cs.getD (((i:Int)).toNat) Ak.z).l.getD (((k:Int)).toNat) In.z).fn ((cs.getD (((i:Int)).toNat) Ak.z).l.getD (((k:Int)).toNat) In.z).acq ((cs.getD (((i:Int)).toNat) Ak.z).l.getD (((k:Int)).toNat) In.z).weak ((cs.getD (((i:Int)).toNat) Ak.z).l.getD (((k:Int)).toNat) In.z).rel ((cs.getD (((i:Int)).toNat) Ak.z).l.getD (((k:Int)).toNat) In.z).pred ((cs.getD (((i:Int)).toNat) Ak.z).l.getD (((k:Int)).toNat) In.z).succ ((cs.getD (((i:Int)).toNat) Ak.z).l.getD (((k:Int)).toNat) In.z).to_ ((cs.getD (((i:Int)).toNat) Ak.z).l.getD (((k:Int)).toNat) In.z).zero (k:Int) (((cs.getD (((i:Int)).toNat) Ak.z).l.length:Nat):Int)) A rfl fun A=>N9 9 A rfl rfl fun A=>EZ 52 A rfl
         (fun h6 A=>N9 12 A rfl rfl fun A=>R9 A rfl h0 rfl (by unfold lF lG M2;rw [if_neg (α8 h1),if_neg (α8 h1),if_neg (α8 h1)];have hb:=hL.bad h5 h6;have T3:=hK.bad h4 hb;rw [β5]at hb;simp only [hG,T3,hb,γ8,β5];rfl) rfl)
         (fun h6 A=>N9 8 A rfl (Aj (by(try have hz:=Hh h1);(try have hy:=Cx hs ((i:Int)).toNat);(try have:=hL.le);(try have:=hK.le);(try have:=hJ.le);omega)<|Ah) fun A=>⟨k+1,_,(by omega),(hL.nx h5 h6),((A.cut [0,2,3,4,7,8,32,33,34,39,40,41] rfl).trunc 1 rfl rfl rfl (Cj h0 rfl))⟩))
        (fun h5 A=>N9 8 A rfl (Aj (by(try have hz:=Hh h1);(try have hy:=Cx hs ((i:Int)).toNat);(try have:=hL.le);(try have:=hK.le);(try have:=hJ.le);omega)<|Ah) fun A=>⟨i+1,_,(by omega),(hK.nx h4 (hL.good h5)),((A.cut [0,2,3,4,32,33,34] rfl).trunc 1 rfl rfl rfl (Cj h0 rfl))⟩))
      (fun h4 A=>N9 6 A rfl rfl fun A=>I9 [0] An.ok hI (j9 hG (by have hz:=Hh h1;omega)) A rfl fun A=>N9 6 A rfl rfl fun A=>R9 A rfl h0 rfl (by unfold lF lG M2;rw [if_neg (α8 h1),if_neg (α8 h1),if_neg (α8 h1)];simp only [hG,hK.good h4];rfl) rfl)))
structure Pg (p:In→Bool)(l:List In)(m k:Nat):Prop where
 le:k≤l.length
 ml:m≤k
 eq:m+Fc p (l.drop k)=Fc p l
theorem D7 (p:In→Bool)(l:List In):Fc p l≤l.length:=κ3 _ _
section
variable {p:In→Bool}{l:List In}{m k:Nat}
theorem Pg.i0:Pg p l 0 0:=⟨β8 _,β7 _,by rw [ζ8,ε0]⟩
theorem Pg.at (h1:(k:Int)<((l.length:Nat):Int)):Fc p (l.drop k)=(if p (l.getD ((k:Int)).toNat In.z)=true then 1 else 0)+Fc p (l.drop (k+1)):=by
 have hk:k<l.length:=by omega
 have e:l.getD ((k:Int)).toNat In.z=l[k]:=by rw [β5,α6,β0 hk];rfl
 rw [η2 hk,e]
 unfold Fc
 rw [List.filter_cons]
 split
 ·rw [α5];omega
 ·omega
theorem Pg.y (hI:Pg p l m k)(h1:(k:Int)<((l.length:Nat):Int))(h:p (l.getD ((k:Int)).toNat In.z)=true):Pg p l (m+1) (k+1):=⟨by omega,by have:=hI.ml;omega,by rw [←hI.eq,Pg.at h1,if_pos h];omega⟩
theorem Pg.n (hI:Pg p l m k)(h1:(k:Int)<((l.length:Nat):Int))(h:p (l.getD ((k:Int)).toNat In.z)=false):Pg p l m (k+1):=⟨by omega,by have:=hI.ml;omega,by rw [←hI.eq,Pg.at h1,if_neg (by rw [h];decide)];omega⟩
theorem Pg.fi (hI:Pg p l m k)(h1:¬(k:Int)<((l.length:Nat):Int)):(m:Int)=((Fc p l:Nat):Int):=by
 have:=hI.eq
 rw [ι0 (by omega)]at this
 have e:Fc p []=0:=rfl
 omega
end
structure Uk (cs:List Ak)(x y i:Nat):Prop where
 le:i≤cs.length
 x1:x=IZ FF (cs.take i)
 y1:y=IZ FG (cs.take i)
theorem RH {cs:List Ak}{p:In→Bool}{i:Nat}(h:(i:Int)<((cs.length:Nat):Int)):IZ p (cs.take (i+1))=IZ p (cs.take i)+Fc p (cs.getD ((i:Int)).toNat Ak.z).l:=by
 have hi:i<cs.length:=by omega
 have e:cs.getD ((i:Int)).toNat Ak.z=cs[i]:=by rw [β5,α6,β0 hi];rfl
 rw [e,List.take_succ_eq_append_getElem hi]
 unfold IZ
 rw [ζ5,List.sum_append]
 rfl
theorem M3 {p:In→Bool}:∀(cs:List Ak),(∀c∈cs,c.l.length≤1000000)→IZ p cs≤1000000*cs.length
 | [],_=>β7 _
 |c::cs,h=>by
  have h1:=M3 (p:=p) cs fun x hx=>h x (ζ7 _ hx)
  have h2:=D7 p c.l
  have h3:=h c (ε2 ..)
  show Fc p c.l+IZ p cs≤_
  rw [α5];omega
theorem Uk.i0 {cs:List Ak}:Uk cs 0 0 0:=⟨β8 _,rfl,rfl⟩
theorem Uk.nx {cs:List Ak}{x y i:Nat}(h:Uk cs x y i)(h1:(i:Int)<((cs.length:Nat):Int)):Uk cs (x+Fc FF (cs.getD ((i:Int)).toNat Ak.z).l) (y+Fc FG (cs.getD ((i:Int)).toNat Ak.z).l) (i+1):=⟨by omega,by rw [RH h1,h.x1],by rw [RH h1,h.y1]⟩
theorem Uk.fi {cs:List Ak}{x y i:Nat}(h:Uk cs x y i)(h1:¬(i:Int)<((cs.length:Nat):Int)):x=IZ FF cs∧y=IZ FG cs:=by
 have hx:=h.x1;have hy:=h.y1
 rw [ε7 (by omega)]at hx hy
 exact⟨hx,hy⟩
theorem Uk.bd {cs:List Ak}{x y i:Nat}(h:Uk cs x y i)(hs:∀c∈cs,c.l.length≤1000000)(hn:cs.length≤1000000):x≤1000000000000∧y≤1000000000000:=by
 have h1:=M3 (p:=FF) (cs.take i) fun c hc=>hs c (ρ3 hc)
 have h2:=M3 (p:=FG) (cs.take i) fun c hc=>hs c (ρ3 hc)
 have h3:(cs.take i).length≤1000000:=by rw [δ8];omega
 rw [h.x1,h.y1]
 constructor
 ·exact β4 h1 (by omega)
 ·exact β4 h2 (by omega)
theorem RI (l:List In)(ao:Option Addr)(c f:Nat)(p:In→Bool)(hf:∀i:In,Fn Tryz.prog f [.agg (C3 i)] [] (Rt (.bool (p i)) []))(hn:l.length≤1000000):CE (At ao 17 l.length (fun zz=>C3 (l.getD zz In.z))) Tryz.prog 166 [.sla ao l.length c,.fn f []] [] (Rt (.int .i64 ((Fc p l:Nat):Int)) []):=
 BB (n:=21) (by kernel_rfl) Tryz.func166 rfl rfl rfl fun G w a h0 hI A=>N9 19 A rfl rfl fun A=>ON (fun(m:Nat) (k:Nat)=>[(1,.fn f []),(4,.int .i64 0),(5,.int .i64 (m:Int)),(8,.sla ao l.length c),(9,.int .i64 ((l.length:Nat):Int)),(10,.int .i64 (k:Int))]) (fun(m:Nat) (k:Nat)=>[]) (fun(m:Nat) (k:Nat)=>Pg p l m k) (fun(m:Nat) (k:Nat)=>l.length - k) 0 0 Pg.i0 ((A.cut [1,4,5,8,9,10] rfl).trunc 0 rfl rfl rfl (Cj h0 rfl)) fun m k hJ {G a w} A=>N9 6 A rfl rfl fun A=>Aq 11 A rfl
   (fun h1 A=>N9 7 A rfl rfl fun A=>Pf (ao:=ao) (s:=17) (m:=l.length) (f:=fun zz=>C3 (l.getD zz In.z)) hX 12 8 (hI) (by omega) A rfl rfl rfl rfl rfl rfl (Aj (by have:=hJ.le;have:=hJ.ml;omega)<|Ah) fun A=>N9 6 A rfl (Aj (by have:=hJ.le;have:=hJ.ml;omega)<|Ah) fun A=>N9 3 A rfl rfl fun A=>C9 [] (hf (l.getD (((k:Int)).toNat) In.z)) A rfl fun A=>N9 2 A rfl rfl fun A=>fork 16 A rfl
    (fun h2 A=>N9 8 A rfl (Aj (by have:=hJ.le;have:=hJ.ml;omega)<|Ah) fun A=>N9 4 A rfl (Aj (by have:=hJ.le;have:=hJ.ml;omega)<|Ah) fun A=>⟨m+1,k+1,_,(by omega),(hJ.y h1 h2),((A.cut [1,4,5,8,9,10] rfl).trunc 0 rfl rfl rfl (Cj h0 rfl))⟩)
    (fun h2 A=>N9 8 A rfl (Aj (by have:=hJ.le;have:=hJ.ml;omega)<|Ah) fun A=>⟨m,k+1,_,(by omega),(hJ.n h1 h2),((A.cut [1,4,5,8,9,10] rfl).trunc 0 rfl rfl rfl (Cj h0 rfl))⟩))
   (fun h1 A=>N9 10 A rfl rfl fun A=>R9 A rfl h0 rfl (congrArg (SV.int IntKind.i64) (hJ.fi h1)) rfl)
theorem lH (i:In):Fn Tryz.prog 161 [.agg (C3 i)] [] (Rt (.bool (FF i)) []):=Hg i.op i.dst i.ra i.rb i.imm i.loc i.off i.ix i.sz i.fn i.acq i.weak i.rel i.pred i.succ i.to_ i.zero
theorem lI (i:In):Fn Tryz.prog 122 [.agg (C3 i)] [] (Rt (.bool (FG i)) []):=L6 i.op i.dst i.ra i.rb i.imm i.loc i.off i.ix i.sz i.fn i.acq i.weak i.rel i.pred i.succ i.to_ i.zero
theorem lJ (l:List In)(ao:Option Addr)(c:Nat)(hn:l.length≤1000000):CE (At ao 17 l.length (fun zz=>C3 (l.getD zz In.z))) Tryz.prog 123 [.sla ao l.length c] [] (Rt (.int .i64 ((Fc FF l:Nat):Int)) []):=
 BB (n:=5) (by kernel_rfl) Tryz.func123 rfl rfl rfl fun G w a h0 hI A=>N9 8 A rfl rfl fun A=>I9 [] At.ok hI (RI l ao c 161 FF lH hn) A rfl fun A=>N9 4 A rfl rfl fun A=>R9 A rfl h0 rfl rfl rfl
theorem lK (l:List In)(ao:Option Addr)(c:Nat)(hn:l.length≤1000000):CE (At ao 17 l.length (fun zz=>C3 (l.getD zz In.z))) Tryz.prog 124 [.sla ao l.length c] [] (Rt (.int .i64 ((Fc FG l:Nat):Int)) []):=
 BB (n:=5) (by kernel_rfl) Tryz.func124 rfl rfl rfl fun G w a h0 hI A=>N9 8 A rfl rfl fun A=>I9 [] At.ok hI (RI l ao c 122 FG lI hn) A rfl fun A=>N9 4 A rfl rfl fun A=>R9 A rfl h0 rfl rfl rfl
theorem Xu (cs:List Ak)(cx:Nat)(hs:∀c∈cs,c.l.length≤1000000)(hn:cs.length≤1000000):CE (An cs) Tryz.prog 83 [.sl 0 cs.length cx] [some (Bc cs)] (Rt (.int .i64 (Ia cs)) [some (Bc cs)]):=
 BB (n:=26) (by kernel_rfl) Tryz.func83 rfl rfl rfl fun G w a h0 hI A=>N9 20 A rfl rfl fun A=>lB (fun(x:Nat) (y:Nat) (i:Nat)=>[(2,.int .i64 0),(3,.int .i64 (x:Int)),(4,.int .i64 (y:Int)),(7,.sl 0 cs.length cx),(8,.int .i64 ((cs.length:Nat):Int)),(9,.int .i64 (i:Int))]) (fun(x:Nat) (y:Nat) (i:Nat)=>[some (Bc cs)]) (fun(x:Nat) (y:Nat) (i:Nat)=>Uk cs x y i) (fun(x:Nat) (y:Nat) (i:Nat)=>cs.length - i) 0 0 0 Uk.i0 ((A.cut [2,3,4,7,8,9] rfl).trunc 1 rfl rfl rfl (Cj h0 rfl)) fun x y i hJ {G a w} A=>N9 6 A rfl rfl fun A=>Aq 10 A rfl
   (fun h1 A=>N9 13 A rfl (Aj (by have hb:=hJ.bd hs hn;have h7:=Cx hs ((i:Int)).toNat;have h8:=D7 FF (cs.getD ((i:Int)).toNat Ak.z).l;have h9:=D7 FG (cs.getD ((i:Int)).toNat Ak.z).l;have:=hJ.le;omega)<|Aj (by have hb:=hJ.bd hs hn;have h7:=Cx hs ((i:Int)).toNat;have h8:=D7 FF (cs.getD ((i:Int)).toNat Ak.z).l;have h9:=D7 FG (cs.getD ((i:Int)).toNat Ak.z).l;have:=hJ.le;omega)<|Ah) fun A=>N9 3 A rfl rfl fun A=>I9 [] At.ok (hI.at (by omega)) (lJ (cs.getD (((i:Int)).toNat) Ak.z).l (cs.getD (((i:Int)).toNat) Ak.z).ao (cs.getD (((i:Int)).toNat) Ak.z).cp (Cx hs _)) A rfl fun A=>N9 4 A rfl (Aj (by have hb:=hJ.bd hs hn;have h7:=Cx hs ((i:Int)).toNat;have h8:=D7 FF (cs.getD ((i:Int)).toNat Ak.z).l;have h9:=D7 FG (cs.getD ((i:Int)).toNat Ak.z).l;have:=hJ.le;omega)<|Ah) fun A=>N9 3 A rfl rfl fun A=>I9 [] At.ok (hI.at (by omega)) (lK (cs.getD (((i:Int)).toNat) Ak.z).l (cs.getD (((i:Int)).toNat) Ak.z).ao (cs.getD (((i:Int)).toNat) Ak.z).cp (Cx hs _)) A rfl fun A=>N9 5 A rfl (Aj (by have hb:=hJ.bd hs hn;have h7:=Cx hs ((i:Int)).toNat;have h8:=D7 FF (cs.getD ((i:Int)).toNat Ak.z).l;have h9:=D7 FG (cs.getD ((i:Int)).toNat Ak.z).l;have:=hJ.le;omega)<|Ah) fun A=>N9 4 A rfl (Aj (by have hb:=hJ.bd hs hn;have h7:=Cx hs ((i:Int)).toNat;have h8:=D7 FF (cs.getD ((i:Int)).toNat Ak.z).l;have h9:=D7 FG (cs.getD ((i:Int)).toNat Ak.z).l;have:=hJ.le;omega)<|Ah) fun A=>⟨x+Fc FF (cs.getD ((i:Int)).toNat Ak.z).l,y+Fc FG (cs.getD ((i:Int)).toNat Ak.z).l,i+1,_,(by omega),(hJ.nx h1),((A.cut [2,3,4,7,8,9] rfl).trunc 1 rfl rfl rfl (Cj h0 rfl)).sayT (by rfl)⟩)
   (fun h1 A=>N9 10 A rfl rfl fun A=>Aq 23 A rfl
    (fun h2 A=>N9 7 A rfl rfl fun A=>R9 A rfl h0 rfl (by have hf:=hJ.fi h1;unfold Ia;rw [←hf.1,←hf.2];rw [if_pos h2];rfl) rfl)
    (fun h2 A=>N9 10 A rfl rfl fun A=>Aq 25 A rfl
     (fun h3 A=>N9 7 A rfl rfl fun A=>R9 A rfl h0 rfl (by have hf:=hJ.fi h1;unfold Ia;rw [←hf.1,←hf.2];rw [if_neg h2];rw [if_pos h3];rfl) rfl)
     (fun h3 A=>N9 9 A rfl rfl fun A=>R9 A rfl h0 rfl (by have hf:=hJ.fi h1;unfold Ia;rw [←hf.1,←hf.2];rw [if_neg h2];rw [if_neg h3];rfl) rfl)))
end Go.Proofs.YtbbdanhpphlbpaaGreatDoor
namespace Go.Proofs.YtbbdanhpphlbpaaGreatDoor
open Go.RowKit
def RJ (P:Program)(t:TypeId):Bool:=match P.underlying t with|some (.interface _)=>false|some _=>true|none=>false
section
variable {P:Program}{ops:Array Oper}{a:Act}{w:World}{K:Value→World→Prop}{d:Option Tmp}{ty:TypeId}{pos:String}{af:Array Edge}{gd:Option (Nat×Bool)}{v:Value}
theorem RK {x:Operand} {t:Nat} {v:Value} (hw:Region.wanted {dst:=d,op:=.makeInterface t x,type:=ty,pos:=pos,after:=af,guard:=gd} (yielded ops a.tmps)=true) (hx:a.eval x=v) (ht:RJ P t=true)
  (h:K (.iface t v) w):Bq P ops {dst:=d,op:=.makeInterface t x,type:=ty,pos:=pos,after:=af,guard:=gd} a w K:=
 A6 hw (by
  unfold execOp
  simp only [hx,γ3]
  unfold RJ at ht
  cases hd:P.underlying t with
  |none=>simp [hd]at ht
  |some u=>cases u<;>first|(simp [hd]at ht;done)|simp [Instr.makeInterface,ε6 hd]) h
end
section
variable {P:Program}{w:World}{t:TypeId}{x y:Operand}{k:IntKind}{a b:Int}
theorem Xv {c:Value}(ht:P.underlying t=some (.interface (P.methodsAt t))):(eqGuard .neq t x (.const c) .nilIface .nilIface).run P w=.ok () w∧(binOp .neq t .nilIface .nilIface).run P w=.ok (.bool false) w:=
 ⟨by rw [eqGuard_nil_constR];rfl,run_neq_nil_nil w t ht⟩
theorem Xw {tt:TypeId}{v:Value}(ht:P.underlying t=some (.interface (P.methodsAt t))):(eqGuard .neq t x y (.iface tt v) .nilIface).run P w=.ok () w∧(binOp .neq t (.iface tt v) .nilIface).run P w=.ok (.bool true) w:=
 ⟨rfl,run_neq_held_nil w t tt v ht⟩
end
theorem Ko {n:Int}(h1:0≤n)(h2:n≤255):IntKind.wrap .u8 n=n:=by simp only [IntKind.wrap,IntKind.signed,IntKind.bits];simp;omega
theorem wrap64 {n:Int}(h1:0≤n)(h2:n≤18446744073709551615):IntKind.wrap .u64 n=n:=by simp only [IntKind.wrap,IntKind.signed,IntKind.bits];simp;omega
end Go.Proofs.YtbbdanhpphlbpaaGreatDoor
namespace Go.Proofs.YtbbdanhpphlbpaaGreatDoor
open Go.RowKit
section
variable {P:Program}{n:Nat}{ks:List Nat}{G0:Gr}{w0:World}{T:List (Nat×SV)}{H:Hp}{G:Gr}{w:World}{ops:Array Oper}{o:Oper}
theorem Lb {x:Operand}{t:Nat}{y:SV}{v:Value}(hg:BE ops T o.guard=some .run)(CJ:o.op=.makeInterface t x)(hx:Db T x=some y)(hy:den [] y=some v)(ht:RJ P t=true):Bd P n ops ks G0 w0 T H o (.v (.iface t v)) H:=fun G a w A=>by
 have hw:=BQ (gd:=none) A hg
 obtain⟨d,op,ty,ps,af,gd⟩:=o
 simp only at CJ
 subst CJ
 have h1:=A.ev hx
 have h2:den G y=some v:=by simpa using BF G y hy
 rw [h2]at h1
 exact RK hw (β6 h1).symm ht ⟨[],rfl,by rw [ε9];exact A.ms⟩
theorem RL {x y:Operand}{t t2 tt:Nat}{v:Value}(hg:BE ops T o.guard=some .run)(CJ:o.op=.binOp .neq t x y t2)(hx:Db T x=some (.v (.iface tt v)))(hy:Db T y=some (.v .nilIface))(ht:P.underlying t=some (.interface (P.methodsAt t))):Bd P n ops ks G0 w0 T H o .tt H:=fun G a w A=>by
 have hw:=BQ (gd:=none) A hg
 obtain⟨d,op,ty,ps,af,gd⟩:=o
 simp only at CJ
 subst CJ
 have h1:=A.ev hx
 have h2:=A.ev hy
 simp only [den,β2]at h1 h2
 exact Lp hw h1.symm h2.symm (Xw ht) ⟨[],rfl,by rw [ε9];exact A.ms⟩
theorem M4 {x:Operand}{c:Value}{t t2:Nat}(hg:BE ops T o.guard=some .run)(CJ:o.op=.binOp .neq t x (.const c) t2)(hx:Db T x=some (.v .nilIface))(hy:Db T (.const c)=some (.v .nilIface))(ht:P.underlying t=some (.interface (P.methodsAt t))):Bd P n ops ks G0 w0 T H o .ff H:=fun G a w A=>by
 have hw:=BQ (gd:=none) A hg
 obtain⟨d,op,ty,ps,af,gd⟩:=o
 simp only at CJ
 subst CJ
 have h1:=A.ev hx
 have h2:=A.ev hy
 simp only [den,β2]at h1 h2
 exact Lp hw h1.symm h2.symm (Xv ht) ⟨[],rfl,by rw [ε9];exact A.ms⟩
theorem Ms.addLst (h:Ms H ks G0 w0 G w)(p:Option Loc)(e:Bo)(he:e.mut=false)(AW:BK (G++[p]) w p e)(Dk:∀(i:Nat) (e':Bo) (L' L:Loc),H[i]?=some (some e')→e'.mut=true→G[i]?=some (some L')→p=some L→L'.b≠L.b):Ms (H++[some e]) ks G0 w0 (G++[p]) w:=by
 have hlen:=h.mem.len
 have hold:∀(i:Nat) (e':Bo),(H++[some e])[i]?=some (some e')→(H[i]?=some (some e')∧i<H.length)∨(i=H.length∧e'=e):=by
  intro i e' hh
  by_cases hi:i<H.length
  ·rw [α1 hi]at hh;exact .inl ⟨hh,hi⟩
  ·rw [α2 (by omega)]at hh
   have:i - H.length=0:=by
    cases hq:i - H.length with
    |zero=>rfl
    |succ k=>rw [hq]at hh;simp at hh
   rw [this]at hh
   simp at hh
   exact .inr ⟨by omega,hh.symm⟩
 have hG:(G++[p])[H.length]?=some p:=by rw [α2 (by omega),hlen];simp
 have T6:∀i,i<H.length→(G++[p])[i]?=G[i]?:=fun i hi=>α1 (by omega)
 refine⟨⟨by simp [hlen],?_,?_⟩,?_,?_,h.mix⟩
 ·intro i e' hh
  rcases hold i e' hh with⟨h1,h2⟩|⟨rfl,rfl⟩
  ·rw [T6 i h2];exact(h.mem.ent i e' h1).more _
  ·rw [hG];exact AW
 ·intro i j e1 f L M IA h1 h2 h3 h4 h5 h6
  rcases hold i e1 h1 with⟨k1,k2⟩|⟨rfl,rfl⟩
  ·rw [T6 i k2]at h4
   rcases hold j f h2 with⟨k3,k4⟩|⟨rfl,rfl⟩
   ·rw [T6 j k4]at h5;exact h.mem.sep i j e1 f L M IA k1 k3 h3 h4 h5 h6
   ·rw [hG]at h5;cases h5;exact Dk i e1 L M k1 h3 h4 rfl
  ·rw [he]at h3;cases h3
 ·obtain⟨F,hF⟩:=h.pre;exact⟨F++[p],by rw [hF,γ2]⟩
 ·intro i e1 L h1 h2 h3
  rcases hold i e1 h1 with⟨k1,k2⟩|⟨rfl,rfl⟩
  ·rw [T6 i k2]at h3;exact h.own i e1 L k1 h2 h3
  ·rw [he]at h2;cases h2
abbrev zW (l:List UInt8):Bo:=.lst 1 l.length fun k=>[.int .u8 (((l.getD k 0).toNat:Nat):Int)]
theorem Ul {x:Operand}{s t e i:Nat}{l:List UInt8}(hg:BE ops T o.guard=some .run)(CJ:o.op=.convert s t x)(hx:Db T x=some (.str l))(hs:P.underlying s=some .string)(ht:P.underlying t=some (.slice e))(he:P.underlying e=some (.int .u8))(hi:H.length=i):Bd P n ops ks G0 w0 T H o (.sl i l.length 0) (H++[some (zW l)]):=fun G a w A=>by
 have hw:=BQ (gd:=none) A hg
 obtain⟨d,op,ty,ps,af,gd⟩:=o
 simp only at CJ
 subst CJ
 subst hi
 have h1:=A.ev hx
 simp only [den,β2]at h1
 have SD:CI w (Lib.bytesWorld w e (S l)):=⟨rfl,rfl,rfl,by rw [Lib.bytesWorld_size];omega,fun k hk=>Lib.bytesWorld_at_old w e (S l) k hk⟩
 refine A6 (w':=Lib.bytesWorld w e (S l)) (v:=.slice (some ⟨w.heap.size,0,none⟩) (S l).size (grownCap w (S l).size 0 e)) hw ?_ ⟨[some ⟨w.heap.size,[],List.replicate (grownCap w (S l).size 0 e) undef,0⟩],?_,?_⟩
 ·unfold execOp
  simp only [h1.symm,γ3,Lib.run_convert_string_bytes w s t e (S l) hs ht he,γ6,β1]
 ·unfold den
  rw [α2 (by rw [A.mem.len];exact β7 _),A.mem.len]
  simp [rm,DV]
 ·refine(A.ms.grow SD).addLst _ _ rfl ⟨fun k=>⟨_,rfl⟩,.inr ⟨_,rfl,by rw [Lib.bytesWorld_size];exact Nat.lt_succ_self _,fun k hk=>⟨_,rfl,fun j z hz=>?_⟩⟩⟩ fun j e' L' L h2 h3 h4 h5=>?_
  ·have hj:j=0:=by
    cases j with
    |zero=>rfl
    |succ j=>simp at hz
   subst hj
   have h2:=Lib.bytesWorld_cell w e (S l) k (by rw [DV];exact hk)
   rw [FN]at h2
   simp at hz
   subst hz
   simpa [List.getD,hk]using h2
  ·cases h5
   have:=A.mem.ent j e' h2
   rw [h4]at this
   have:=BK.lt this (Bf h3)
   simp only;omega
theorem Ai {a:Act}(A:Sy n T H ks G0 w0 G a w)(t:Nat)(y:SV){x:SV}(h:look T t=some x)(e:∀G,den G x=den G y):Sy n ((t,y)::T) H ks G0 w0 G a w:=
 ⟨A.size,A.defers,fun s z hz=>by
  simp only [look]at hz
  cases hc:Nat.beq t s with
  |true=>rw [hc]at hz;cases hz;have:=α9 hc;subst this;rw [←e];exact A.get t _ h
  |false=>rw [hc]at hz;exact A.get s z hz,A.mem,A.pre,A.own,A.mix⟩
theorem lL {α:Type}{R:Prop}(o:Option α)(h1:o=none→R)(h2:∀x,o=some x→R):R:=by
 cases h:o with
 |none=>exact h1 h
 |some x=>exact h2 x h
end
def jS (I:Ef)(P:Program)(f:Nat)(args:List SV)(J:SV→Prop):Prop:=
 F3 P f=some (false,false)∧∀w ks vs,Al [] args=some vs→I w ks→Calls P f vs.toArray w fun e w'=>∃x v,J x∧den [] x=some v∧e=.returned v∧CI w w'
section
variable {P:Program}{n:Nat}{ks:List Nat}{G0:Gr}{w0:World}{T:List (Nat×SV)}{H:Hp}{G:Gr}{a:Act}{w:World}{Q:Exit→Act→World→Prop}{K:List Fr}{ops:Array Oper}{o:Oper}{rest:List Oper}{I:Ef}
theorem lM {f:Nat} {az:List SV} {vs:List Value} {J:SV→Prop} (AW:I.OK) (h0:I w0 ks) (hf:jS I P f az J) (A:Sy n T H ks G0 w0 G a w) (h1:B6 n ops T o=some (f,az)) (h2:Al [] az=some vs)
  (hk:∀x,J x→∀{a' w'},Sy n (Bh T o.dst x) H ks G0 w0 G a' w'→Goal P Q K (.ops ops rest) a' w'):Goal P Q K (.ops ops (o::rest)) a w:=by
 obtain⟨hd,us,hu,I2⟩:=Ci (P:=P) (ops:=ops) A h1 hf.1
 have h3:Al G az=some vs:=by simpa using BT G az h2
 rw [h3]at hu
 cases hu
 refine Cm (Q:=Fz P Q K) (I2 (hf.2 w ks vs h2 (AW _ _ _ _ h0 A.mix fun b hb=>.inl hb)) fun e w' he=>?_)
 obtain⟨x,v,hJ,e1,rfl,hg⟩:=he
 exact⟨v,rfl,hk x hJ (Sy.put ⟨A.size,A.defers,A.get,⟨A.mem.len,fun i e hi=>(A.mem.ent i e hi).mix hg.mix (fun _ _ _=>rfl),A.mem.sep⟩,A.pre,A.own,A.mix.grow hg⟩ hd (by simpa using BF G x e1))⟩
theorem Um (AW:I.OK) {f:Nat} {fn:Func} {c:Code} {args:List SV} {J:SV→Prop} (Ca:F3 P f=some (false,false)) (hf:P.funcs[f]?=some fn) (hb:fn.body=some c) (hn:fn.ntmps=n) (hl:Nat.ble args.length n=true)
  (h:∀w a,I w []→Sy n (Mt args 0) [] [] [] w [] a w→Goal P (bodyPost P fn fun e w'=>∃x v,J x∧den [] x=some v∧e=.returned v∧CI w w') [] (.code c) a w):jS I P f args J:=by
 refine⟨Ca,fun w ks vs hv hI=>?_⟩
 refine ξ6 hf hb (h w _ ?_ ⟨?_,rfl,fun t x hx=>?_,⟨rfl,fun i e he=>by simp at he,fun i j e f L M _ he=>by simp at he⟩,⟨[],by simp⟩,fun i e L h1=>by simp at h1,DO.refl _ _⟩)
 ·exact AW _ _ _ _ hI (DO.refl ks w) fun b hb=>by simp at hb
 ·have:=Be hv
  have:=ε1 hl
  simp [hn];omega
 ·obtain⟨_,h2⟩:=EF hx
  simp only [ν9]at h2
  obtain⟨v,h3,h4⟩:=C5 hv h2
  have Bn:t<vs.length:=(α0.1 h3).1
  rw [h4]
  simp [β3,ι4,Bn]at h3⊢
  exact h3.symm
theorem lN {Y:Tb}{fn:Func}{J:SV→Prop}(hX:Y.ok P=true){y:SV}{r:List SV}{rv:List ResultVar}{v':Value}(A:Sy n T H [] [] w0 G a w)(hr:fn.results.toList=rv)(hv:JE ⟨Y,false⟩ T H rv=some r)(hy:BA r=y)(hc:den [] y=some v')(hJ:J y):bodyPost P fn (fun e w'=>∃x v,J x∧den [] x=some v∧e=.returned v∧CI w0 w') .ret a w:=by
 obtain⟨v,h1,h2⟩:=G9 (X:=⟨Y,false⟩) (fn:=fn) hX A hr hv hy
 have h3:den G y=some v':=by simpa using BF G y hc
 rw [h3]at h1
 cases h1
 have hm:=A.mix
 exact⟨A.defers,v',h2,y,v',hJ,hc,rfl,⟨hm.os,hm.tape,hm.output,hm.size,fun k EC=>hm.block k EC (by simp)⟩⟩
theorem RM (mk:Nat→SV) {f:Nat} {az:List SV} {vs:List Value} (AW:I.OK) (h0:I w0 ks) (hf:jS I P f az (fun x=>∃N,x=mk N)) (A:Sy n T H ks G0 w0 G a w) (h1:B6 n ops T o=some (f,az)) (h2:Al [] az=some vs)
  (hk:∀N,∀{a' w'},Sy n (Bh T o.dst (mk N)) H ks G0 w0 G a' w'→Goal P Q K (.ops ops rest) a' w'):Goal P Q K (.ops ops (o::rest)) a w:=
 lM AW h0 hf A h1 h2 fun x hx=>by obtain⟨N,rfl⟩:=hx;exact hk N
end
theorem Un (n:Nat):CX (fun _=>[.str []]) n=some (List.replicate n (.string (S []))):=by
 induction n with
 |zero=>rfl
 |succ n ih=>
  unfold CX
  rw [ih]
  show some (List.replicate n (Value.string (S []))++[Value.string (S [])])=_
  rw [List.replicate_succ',]
section
variable {P:Program}{n:Nat}{ks:List Nat}{G0:Gr}{w0:World}{T:List (Nat×SV)}{H:Hp}{ops:Array Oper}{o:Oper}
theorem zX {x y:Operand}{t e m i:Nat}{ti:TypeInfo}(hg:BE ops T o.guard=some .run)(CJ:o.op=.makeSlice t x y)(hx:Db T x=some (.int .i64 ((m:Nat):Int)))(hy:Db T y=some (.int .i64 ((m:Nat):Int)))(ht:P.underlying t=some (.slice e))(HZ:P.info? e=some ti)(hz:ti.zero=some (.string (S [])))(hs:ti.size=1)(hb:ti.bytes≤1000)(hm:m≤1000000)(hi:H.length=i):Bd P n ops ks G0 w0 T H o (.sl i m m) (H++[some (.row e 1 m m fun _=>[.str []])]):=fun G a w A=>by
 have hw:=BQ (gd:=none) A hg
 obtain⟨d,op,ty,ps,af,gd⟩:=o
 simp only at CJ
 subst CJ
 subst hi
 have h1:=A.ev hx
 have h2:=A.ev hy
 simp only [den,β2]at h1 h2
 have hmul:ti.bytes*m≤1000*1000000:=ν7 hb hm
 obtain⟨w',hr,ho,qK⟩:=run_makeSlice_full (P:=P) w 0 t e ti _ 1 ht HZ hz hs .i64 .i64 m (by omega) (by omega) (by unfold maxLen;omega) (β8 _)
 have SD:CI w w':=⟨qK.os,qK.tape,qK.output,qK.size,fun k hk=>qK.block k hk (by simp)⟩
 refine A6 (v:=.slice (some ⟨w.heap.size,0,none⟩) m m) (w':=w') hw ?_ ⟨[some ⟨w.heap.size,[],[],e⟩],?_,?_⟩
 ·unfold execOp
  simp only [h1.symm,h2.symm,γ3,hr,γ6,β1]
 ·unfold den
  rw [α2 (by rw [A.mem.len];exact β7 _),A.mem.len]
  simp [rm]
 ·refine(A.newBlk (g:=w.heap.size) (t:=e) (en:=.row e 1 m m fun _=>[.str []]) rfl SD ⟨fun k=>⟨_,rfl,rfl⟩,fun L hL=>by cases hL;rfl,_,Un m,?_⟩ rfl).ms
  have hc:(madeCells (Value.cells (.string (S []))) (m*1)).toList=List.replicate m (.string (S [])):=by
   unfold madeCells
   apply τ7
   ·simp
   ·intro k h1 h2
    simp [Value.cells,Nat.mod_one]
  rw [hc]at ho
  simpa [rm]using ho
theorem lO {x y:Operand}{t e m i:Nat}(f:Nat→List SV)(hf:∀j,f j=[.str []])(hg:BE ops T o.guard=some .run)(CJ:o.op=.makeSlice t x y)(hx:Db T x=some (.int .i64 ((m:Nat):Int)))(hy:Db T y=some (.int .i64 ((m:Nat):Int)))(ht:P.underlying t=some (.slice e))(LS:∃ti,P.info? e=some ti∧ti.zero=some (.string (S []))∧ti.size=1∧ti.bytes≤1000)(hm:m≤1000000)(hi:H.length=i):Bd P n ops ks G0 w0 T H o (.sl i m m) (H++[some (.row e 1 m m f)]):=by
 have:f=fun _=>[.str []]:=funext hf
 subst this
 obtain⟨ti,HZ,hz,hs,hb⟩:=LS
 exact zX hg CJ hx hy ht HZ hz hs hb hm hi
end
def Acc (lo:Nat)(l:List (Nat×List SV))(w:World)(ks:List Nat):Prop:=∀p∈l,lo≤p.1∧∃vs,Al [] p.2=some vs∧Kk p.1 0 vs w ks
theorem Acc.nil {lo:Nat}{w:World}{ks:List Nat}:Acc lo [] w ks:=fun p hp=>by cases hp
theorem Acc.go {lo:Nat}{l:List (Nat×List SV)}{w w':World}{ks ks':List Nat}(h:Acc lo l w ks)(m:DO ks w w')(hk:∀b,ks'.contains b=true→ks.contains b=true∨w.heap.size≤b):Acc lo l w' ks':=fun p hp=>by
 obtain⟨h1,vs,h2,h3⟩:=h p hp
 exact⟨h1,vs,h2,h3.go m hk⟩
theorem Acc.bare {lo:Nat}{l:List (Nat×List SV)}{w:World}{ks:List Nat}(h:Acc lo l w ks):Acc lo l w []:=fun p hp=>by
 obtain⟨h1,vs,h2,h3,h4,h5⟩:=h p hp
 exact⟨h1,vs,h2,h3,rfl,h5⟩
section
variable {P:Program}{X:Tx}{n:Nat}{ks:List Nat}{G0:Gr}{w0:World}{T:List (Nat×SV)}{H:Hp}{G:Gr}{a:Act}{w w':World}{ops:Array Oper}{o:Oper}{rest:List Oper}{Q:Exit→Act→World→Prop}{K:List Fr}
theorem Acc.now {lo:Nat}{l:List (Nat×List SV)}(h:Acc lo l w0 ks)(A:Sy n T H ks G0 w0 G a w):Acc lo l w (keys H G):=h.go A.mix A.keys_own
theorem zY {t m:Nat} (cs:List SV) {vs:List Value} (hX:X.ok P=true) (A:Sy n T H ks G0 w0 G a w) (h:Tv X T H none o.op=some (.new t (.blk cs) (.sl H.length m m))) (hc:Al [] cs=some vs) (hg:BE ops T o.guard=some .run) (hd:DD n o.dst=true)
  (k:∀{a w} b,w0.heap.size≤b→Sy n (Bh T o.dst (.sla (some ⟨b,0,none⟩) m m)) H ks G0 w0 G a w→Kk b 0 vs w (keys H G)→Goal P Q K (.ops ops rest) a w):Goal P Q K (.ops ops (o::rest)) a w:=by
 refine Cm (Q:=Fz P Q K) ?_
 refine IM hX A h (BQ (gd:=none) A hg) fun g w' v wV SD SE QY hv=>?_
 have LN:(G++[some (⟨g,[],[],t⟩:Loc)])[H.length]?=some (some ⟨g,[],[],t⟩):=by rw [α2 (by rw [A.mem.len];exact β7 _),A.mem.len];simp
 have Qb:v=.slice (some ⟨g,0,none⟩) m m:=by
  unfold den at hv
  rw [LN]at hv
  simp [rm]at hv
  exact hv.symm
 subst Qb
 obtain⟨L,us,e1,e2,e3⟩:=SE.range
 cases e1
 have h4:Al G cs=some vs:=by simpa using BT G cs hc
 rw [h4]at e2
 cases e2
 have Bn:g<w'.heap.size:=BK.lt SE (Bf QY)
 refine k g (by rw [wV];exact A.mix.size) (Sy.put (A.grew SD) hd (by rfl)) ⟨Bn,?_,e3⟩
 cases hc:(keys H G).contains g with
 |false=>rfl
 |true=>
  obtain⟨i,e',M,q1,q2,q3,q4⟩:=mem_keys.1 hc
  have:=A.mem.ent i e' q1
  rw [q3]at this
  have:=BK.lt this (Bf q2)
  omega
theorem Lc {I:Ef} {nB:Nat} {TB:List (Nat×SV)} {HB:Hp} {ks00:List Nat} {G00:Gr} {w00:World} {aB:Act} {l:List (Nat×List SV)} {t m:Nat} (cs:List SV) {vs:List Value} (hX:X.ok P=true) (AW:I.OK) (B:Sy nB TB HB ks00 G00 w00 G0 aB w0) (hA:Acc w00.heap.size l w0 (keys HB G0)) (hI:I w0 (keys HB G0)) (A:Sy n T H (keys HB G0) G0 w0 G a w)
  (h:Tv X T H none o.op=some (.new t (.blk cs) (.sl H.length m m))) (hc:Al [] cs=some vs) (hg:BE ops T o.guard=some .run) (hd:DD n o.dst=true)
  (k:∀{G a w} b,Sy n (Bh T o.dst (.sla (some ⟨b,0,none⟩) m m)) H ks00 G00 w00 G a w→Acc w00.heap.size ((b,cs)::l) w (keys H G)→I w (keys H G)→Sy n (Bh T o.dst (.sla (some ⟨b,0,none⟩) m m)) H (keys H G) G w G a w→Goal P Q K (.ops ops rest) a w):Goal P Q K (.ops ops (o::rest)) a w:=by
 refine zY cs hX A h hc hg hd fun b hb A' hL=>?_
 refine k b (B.trans A') (fun p hp=>?_) (AW _ _ _ _ hI A'.mix A'.keys_own) A'.base
 rcases ζ9.1 hp with rfl|hp
 ·exact⟨β4 B.mix.size hb,vs,hc,hL⟩
 ·exact(hA.now A') p hp
theorem Dw {nB:Nat} {TB:List (Nat×SV)} {HB:Hp} {ks00:List Nat} {G00:Gr} {w00:World} {aB:Act} {l:List (Nat×List SV)} {t m:Nat} (cs:List SV) {vs:List Value} (hX:X.ok P=true) (B:Sy nB TB HB ks00 G00 w00 G0 aB w0) (hA:Acc w00.heap.size l w0 (keys HB G0)) (A:Sy n T H (keys HB G0) G0 w0 G a w)
  (h:Tv X T H none o.op=some (.new t (.blk cs) (.sl H.length m m))) (hc:Al [] cs=some vs) (hg:BE ops T o.guard=some .run) (hd:DD n o.dst=true)
  (k:∀{G a w} b,Sy n (Bh T o.dst (.sla (some ⟨b,0,none⟩) m m)) H ks00 G00 w00 G a w→Acc w00.heap.size ((b,cs)::l) w (keys H G)→Sy n (Bh T o.dst (.sla (some ⟨b,0,none⟩) m m)) H (keys H G) G w G a w→Goal P Q K (.ops ops rest) a w):Goal P Q K (.ops ops (o::rest)) a w:=
 Lc (I:=fun _ _=>True) cs hX (fun _ _ _ _ _ _ _=>trivial) B hA trivial A h hc hg hd fun b A h _ B=>k b A h B
end
end Go.Proofs.YtbbdanhpphlbpaaGreatDoor
