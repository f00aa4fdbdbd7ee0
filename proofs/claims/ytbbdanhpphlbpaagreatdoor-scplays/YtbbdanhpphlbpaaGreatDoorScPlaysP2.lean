/- ScPlays, part 2: the engine, contracts, theory. -/
import Derived.Test.YtbbdanhpphlbpaaGreatDoorScPlaysP1
import Derived.Test.YtbbdanhpphlbpaaGreatDoorProg
import Derived.Lib.SliceRun
import Derived.Test.YtbbdanhpphlbpaaGreatDoorChecked
import Derived.Lib.ConvBytes
import Derived.WideLaws
import Derived.Laws.AppendOwn
import Derived.Laws.OwnMore
set_option linter.unusedVariables false
set_option linter.unusedSimpArgs false
set_option linter.unusedSectionVars false
set_option maxRecDepth 100000
set_option maxHeartbeats 2000000
namespace Go.Proofs.YtbbdanhpphlbpaaGreatDoor
open Go.RowKit
structure Ms (H:Hp)(ks:List Nat)(G0:Gr)(w0:World)(G:Gr)(w:World):Prop where
 mem:Mem H G w
 pre:∃F,G=G0++F
 own:∀(i:Nat) (e:A6) (L:Loc),H[i]?=some (some e)→e.mut=true→G[i]?=some (some L)→ks.contains L.b=true∨w0.heap.size≤L.b
 mix:CR ks w0 w
section
variable {n:Nat}{T:List (Nat×SV)}{H:Hp}{ks:List Nat}{G0:Gr}{w0:World}{G:Gr}{a:Act}{w w':World}
theorem Sy.ms (A:Sy n T H ks G0 w0 G a w):Ms H ks G0 w0 G w:=⟨A.mem,A.pre,A.own,A.mix⟩
theorem Ms.sy (h:Ms H ks G0 w0 G w)(h1:a.tmps.size=n)(h2:a.defers=[])(h3:∀t x,look T t=some x→den G x=some (a.tmps.getD t undef)):Sy n T H ks G0 w0 G a w:=⟨h1,h2,h3,h.mem,h.pre,h.own,h.mix⟩
theorem Ms.grow (h:Ms H ks G0 w0 G w)(hg:BW w w'):Ms H ks G0 w0 G w':=
 ⟨⟨h.mem.len,fun i e hi=>(h.mem.ent i e hi).mix hg.mix (fun _ _ _=>rfl),h.mem.sep⟩,h.pre,h.own,h.mix.grow hg⟩
end
def Y0 (o:Oper)(j:Nat):Nat→Bool
 |0=>true
 |i+1=>(Nat.beq i j||waits o i)&&Y0 o j i
theorem Kg {o:Oper}{j:Nat}:∀{c:Nat},Y0 o j c=true→∀i,i<c→i≠j→waits o i=true
 |0,_,_,h,_=>by omega
 | c+1,hb,i,h,jF=>by
  simp only [Y0,Bool.and_eq_true,Bool.or_eq_true]at hb
  by_cases hi:i=c
  ·subst hi
   rcases hb.1 with h1|h1
   ·exact absurd (Nat.eq_of_beq_eq_true h1) jF
   ·exact h1
  ·exact Kg hb.2 i (by omega) jF
def Jv (t c:Nat):List Oper→Nat→Bool
 | [],_=>true
 |o::l,j=>(match o.dst with|some d=> !Nat.beq d t||Y0 o j c|none=>true)&&Jv t c l (j+1)
theorem GB {t c:Nat}:∀{l:List Oper} {j:Nat},Jv t c l j=true→∀(i:Nat) (o:Oper),l[i]?=some o→o.dst=some t→Y0 o (j+i) c=true
 | [],_,_,_,_,h,_=>by cases h
 | p::l,j,hb,i,o,h,hd=>by
  simp only [Jv,Bool.and_eq_true]at hb
  cases i with
  |zero=>
   cases h
   have:=hb.1
   rw [hd]at this
   simpa using this
  |succ i=>rw [show j+(i+1)=j+1+i by omega];exact GB hb.2 i o h hd
def Cx (l:List Oper):List (Nat×SV)→List (Nat×SV)
 | []=>[]
 |(t,x)::T=>bif Jv t l.length l 0 then(t,x)::Cx l T else Cx l T
theorem DI {l:List Oper}:∀{T:List (Nat×SV)} {t:Nat} {x:SV},look (Cx l T) t=some x→look T t=some x∧Jv t l.length l 0=true
 | [],_,_,h=>by cases h
 | (k,y)::T,t,x,h=>by
  unfold Cx at h
  cases hb:Jv k l.length l 0 with
  | false=>
   rw [hb]at h
   obtain⟨h1,h2⟩:=DI h
   refine⟨?_,h2⟩
   unfold look
   cases hk:Nat.beq k t with
   |false=>exact h1
   |true=>
    exfalso
    have:=Nat.eq_of_beq_eq_true hk
    subst this
    rw [hb]at h2;cases h2
  | true=>
   rw [hb]at h
   simp only [cond_true]at h
   unfold look at h⊢
   cases hk:Nat.beq k t with
   |true=>
    rw [hk]at h
    have:=Nat.eq_of_beq_eq_true hk
    subst this
    exact⟨h,hb⟩
   |false=>rw [hk]at h;exact DI h
def IR (o:Oper):List Oper→List SV→Nat→List (Nat×SV)→List (Nat×SV)
 |p::l,x::xs,k,T=>bif waits o k then Ay (IR o l xs (k+1) T) p.dst x else IR o l xs (k+1) T
 |_,_,_,T=>T
theorem Nz {o:Oper}{T:List (Nat×SV)}{t:Nat}{x:SV}:∀{l:List Oper} {xs:List SV} {k:Nat},look (IR o l xs k T) t=some x→(∃i p,l[i]?=some p∧xs[i]?=some x∧waits o (k+i)=true∧p.dst=some t)∨look T t=some x
 | [],_,_,h=>.inr h
 |_::_,[],_,h=>.inr h
 | p ::l,y::xs,k,h=>by
  have rest:look (IR o l xs (k+1) T) t=some x→(∃i q,(p::l)[i]?=some q∧(y::xs)[i]?=some x∧waits o (k+i)=true∧q.dst=some t)∨look T t=some x:=fun h=>by
   rcases Nz h with⟨i,q,h1,h2,h3,h4⟩|h
   ·exact .inl ⟨i+1,q,by simpa using h1,by simpa using h2,by rw [show k+(i+1)=k+1+i by omega];exact h3,h4⟩
   ·exact .inr h
  unfold IR at h
  cases hb:waits o k with
  |false=>rw [hb]at h;exact rest h
  | true=>
   rw [hb]at h
   simp only [cond_true]at h
   cases hd:p.dst with
   |none=>rw [hd]at h;exact rest h
   | some d=>
    rw [hd]at h
    simp only [Ay,look]at h
    cases hk:Nat.beq d t with
    |false=>rw [hk]at h;exact rest h
    |true=>
     rw [hk]at h
     cases h
     have:=Nat.eq_of_beq_eq_true hk
     subst this
     exact .inl ⟨0,p,rfl,rfl,by simpa using hb,hd⟩
def Hv (X:Tx) (n:Nat) (ops:Array Oper) (pc:List (Nat×SV)) (cl:List (Nat×SV×Hp)):List Oper→Nat→List (Nat×SV)→Hp→Option (List SV×List (Nat×Hp))
  | [],_,_,_=>some ([],[])
  | o ::l,j,T,H=>match cl.lookup j with
    | some (x,H')=>match Hv X n ops pc cl l (j+1) (Ay T o.dst x) H' with
      |some (xs,hs)=>some (x::xs,(j,H')::hs)
      |none=>none
    | none=>match look pc j with
     |some x=>match Hv X n ops pc cl l (j+1) (Ay T o.dst x) H with
      |some (xs,hs)=>some (x::xs,hs)
      |none=>none
     |none=>match Cj X n ops T H o with
      | some (.val x _)=>match Hv X n ops pc cl l (j+1) (Ay T o.dst x) H with
        |some (xs,hs)=>some (x::xs,hs)
        |none=>none
      | some (.new t en x)=>O2 (H++[some en]) fun H'=>match Hv X n ops pc cl l (j+1) (Ay T o.dst x) H' with
        |some (xs,hs)=>some (x::xs,(j,H')::hs)
        |none=>none
      | some (.upd i cs _)=>O2 (Br H i (some (.blk cs))) fun H'=>match Hv X n ops pc cl l (j+1) T H' with
        |some (xs,hs)=>some (.tup []::xs,(j,H')::hs)
        |none=>none
      |none=>none
def TR (ops:Array Oper)(p:Nat):Nat→List Edge→Bool
 |0,_=>false
 |f+1,l=>l.any fun e=>Region.binds .any e&&(match ops[e.on]? with|some q=>waits q p||TR ops p f q.after.toList|none=>false)
theorem Dq {ops:Array Oper}{listed:Array Bool}{p:Nat}(n6:∀(j:Nat) (o:Oper) (p:Nat),ops[j]?=some o→listed.getD j false=true→waits o p=true→listed.getD p false=true):∀(f:Nat) (l:List Edge),(∀e∈l,Region.binds .any e=true→listed.getD e.on false=true)→TR ops p f l=true→listed.getD p false=true
 |0,_,_,h=>by cases h
 | f+1,l,hl,h=>by
  unfold TR at h
  rw [List.any_eq_true]at h
  obtain⟨e,he,hb⟩:=h
  rw [Bool.and_eq_true]at hb
  have h1:=hl e he hb.1
  split at hb
  ·next q hq=>
   have h2:=hb.2
   rw [Bool.or_eq_true]at h2
   rcases h2 with h2|h2
   ·exact n6 _ q p hq h1 h2
   ·refine Dq n6 f _ (fun e' oC pH=>?_) h2
    refine n6 _ q e'.on hq h1 ?_
    unfold waits
    rw [List.any_eq_true]
    exact⟨e',oC,by simp [pH]⟩
  ·exact absurd hb.2 (by simp)
def wt (ops:Array Oper)(o:Oper)(p:Nat):Bool:=bif waits o p then true else TR ops p 2 o.after.toList
def Je (ops:Array Oper)(o:Oper)(j k:Nat):List (Nat×Hp)→Nat→Bool
 | [],_=>true
 |(p,_)::es,m=>(!wt ops o p||Nat.blt m k)&&(match ops[p]? with|some q=> !waits q j||Nat.ble k m|none=>true)&&Je ops o j k es (m+1)
theorem Lc {ops:Array Oper}{o:Oper}{j k:Nat}:∀{es:List (Nat×Hp)} {m:Nat},(∀i p H',es[i]?=some (p,H')→(wt ops o p=true→m+i<k)∧(∀q,ops[p]?=some q→waits q j=true→k≤m+i))→Je ops o j k es m=true
 | [],_,_=>rfl
 | (p,H')::es,m,h=>by
  obtain⟨h1,h2⟩:=h 0 p H' rfl
  unfold Je
  simp only [Bool.and_eq_true,Bool.or_eq_true,Bool.not_eq_true']
  refine⟨⟨?_,?_⟩,Lc fun i q H2 hi=>?_⟩
  ·cases hw:wt ops o p with
   |false=>exact .inl rfl
   |true=>exact .inr (by have:=h1 hw;simp [Nat.blt_eq];omega)
  ·split
   ·next q hq=>
    simp only [Bool.or_eq_true,Bool.not_eq_true']
    cases hw:waits q j with
    |false=>exact .inl rfl
    |true=>exact .inr (by have:=h2 q hq hw;simpa using this)
   ·rfl
  ·have:=h (i+1) q H2 hi
   rw [show m+1+i=m+(i+1) by omega];exact this
def Kh (X:Tx)(n:Nat)(ops:Array Oper)(es:List (Nat×Hp))(Tw:List (Nat×SV))(o:Oper)(j:Nat):Nat→List Hp→Option (List SV×Ob)
 |_,[]=>some ([],[])
 | k,H::hs=>match Kh X n ops es Tw o j (k+1) hs with
  |some (D,E)=>bif Je ops o j k es 0 then(match Cj X n ops Tw H o with
   |some (.val x F)=>some (x::D,F++E)
   |_=>none)else some (D,E)
  |none=>none
theorem FK {X:Tx}{n:Nat}{ops:Array Oper}{es:List (Nat×Hp)}{Tw:List (Nat×SV)}{o:Oper}{j:Nat}:∀{hs:List Hp} {k:Nat} {D:List SV} {E:Ob},Kh X n ops es Tw o j k hs=some (D,E)→Cz E→∀(i:Nat) (H:Hp),hs[i]?=some H→Je ops o j (k+i) es 0=true→
  ∃x F,Cj X n ops Tw H o=some (.val x F)∧Cz F∧x∈D
 | [],k,D,E,h,hE,i,H,hi,hm=>by cases hi
 | H0 ::hs,k,D,E,h,hE,i,H,hi,hm=>by
  unfold Kh at h
  split at h
  ·next D1 E1 p6=>
   cases hb:Je ops o j k es 0 with
   |false=>
    rw [hb]at h
    cases h
    cases i with
    |zero=>rw [Nat.add_zero,hb]at hm;cases hm
    |succ i=>exact FK p6 hE i H hi (by rw [show k+1+i=k+(i+1) by omega];exact hm)
   | true=>
    rw [hb]at h
    simp only [cond_true]at h
    split at h
    ·next x F hx=>
     cases h
     obtain⟨e1,e2⟩:=AQ hE
     cases i with
     |zero=>cases hi;exact⟨x,F,hx,e1,by simp⟩
     |succ i=>
      obtain⟨y,F',q1,q2,q3⟩:=FK p6 e2 i H hi (by rw [show k+1+i=k+(i+1) by omega];exact hm)
      exact⟨y,F',q1,q2,List.mem_cons_of_mem _ q3⟩
    ·cases h
  ·cases h
def FL (j:Nat):List (Nat×Hp)→Bool
 | []=>false
 |(p,_)::es=>Nat.beq p j||FL j es
theorem Ir {j:Nat}:∀{es:List (Nat×Hp)},FL j es=true→∃(i:Nat) (H:Hp),es[i]?=some (j,H)
 | [],h=>by cases h
 |(p,H)::es,h=>by
  simp only [FL,Bool.or_eq_true]at h
  rcases h with h|h
  ·exact⟨0,H,by rw [Nat.eq_of_beq_eq_true h];rfl⟩
  ·obtain⟨i,H',hi⟩:=Ir h;exact⟨i+1,H',hi⟩
theorem N1 {j:Nat}:∀{es:List (Nat×Hp)},FL j es=false→∀(i p:Nat) (H:Hp),es[i]?=some (p,H)→p≠j
 | [],_,i,p,H,h=>by cases h
 |(q,H')::es,hb,i,p,H,h=>by
  simp only [FL,Bool.or_eq_false_iff]at hb
  cases i with
  |zero=>cases h;exact fun e=>by subst e;simp at hb
  |succ i=>exact N1 hb.2 i p H h
def Ld (X:Tx) (n:Nat) (ops:Array Oper) (all:List Oper) (xs:List SV) (T:List (Nat×SV)) (es:List (Nat×Hp)) (hs:List Hp) (pc:List (Nat×SV)):List Oper→List SV→Nat→Option (List (SV×SV)×Ob)
 | [],_,_=>some ([],[])
 |_::_,[],_=>none
 | o::l,x::ys,j=>match Ld X n ops all xs T es hs pc l ys (j+1)with
  | some (D,E)=>bif FL j es then some (D,E)else(match look pc j with
   |some z=>some ((z,x)::D,E)
   |none=>match Kh X n ops es (IR o all xs 0 T) o j 0 hs with
    |some (zs,F)=>some (zs.map (fun z=>(z,x))++D,F++E)
    |none=>none)
  |none=>none
theorem Is {X:Tx} {n:Nat} {ops:Array Oper} {all:List Oper} {xs:List SV} {T:List (Nat×SV)} {es:List (Nat×Hp)} {hs:List Hp} {pc:List (Nat×SV)}:∀{l:List Oper} {ys:List SV} {j:Nat} {D:List (SV×SV)} {E:Ob},Ld X n ops all xs T es hs pc l ys j=some (D,E)→Cz E→D.map (·.1)=D.map (·.2)→
  ∀(i:Nat) (o:Oper),l[i]?=some o→FL (j+i) es=false→∃x,ys[i]?=some x∧(look pc (j+i)=some x∨∀(k:Nat) (H:Hp),hs[k]?=some H→Je ops o (j+i) k es 0=true→∃F,Cj X n ops (IR o all xs 0 T) H o=some (.val x F)∧Cz F)
 | [],ys,j,D,E,h,hE,hD,i,o,hi,_=>by cases hi
 |_::_,[],j,D,E,h,hE,hD,i,o,hi,_=>by cases h
 | p :: l,y::ys,j,D,E,h,hE,hD,i,o,hi,he=>by
  have step:∀{D1:List (SV×SV)} {E1:Ob},Ld X n ops all xs T es hs pc l ys (j+1)=some (D1,E1)→Cz E1→D1.map (·.1)=D1.map (·.2)→∀i,l[i]?=some o→FL (j+(i+1)) es=false→∃x,ys[i]?=some x∧(look pc (j+(i+1))=some x∨∀(k:Nat) (H:Hp),hs[k]?=some H→Je ops o (j+(i+1)) k es 0=true→∃F,Cj X n ops (IR o all xs 0 T) H o=some (.val x F)∧Cz F):=by
   intro D1 E1 h1 e1 d1 i hi he
   have:=Is h1 e1 d1 i o hi (by rw [show j+1+i=j+(i+1) by omega];exact he)
   rw [show j+1+i=j+(i+1) by omega]at this
   exact this
  unfold Ld at h
  split at h
  ·next D1 E1 h1=>
   cases hb:FL j es with
   |true=>
    rw [hb]at h
    cases h
    cases i with
    |zero=>rw [Nat.add_zero,hb]at he;cases he
    |succ i=>exact step h1 hE hD i hi he
   | false=>
    rw [hb]at h
    simp only [cond_false]at h
    split at h
    ·next z hz=>
     cases h
     simp only [List.map_cons,List.cons.injEq]at hD
     cases i with
     |zero=>
      cases hi
      refine⟨y,rfl,.inl ?_⟩
      rw [Nat.add_zero,hz,hD.1]
     |succ i=>exact step h1 hE hD.2 i hi he
    ·split at h
     ·next zs F hz=>
      cases h
      obtain⟨e1,e2⟩:=AQ hE
      simp only [List.map_append]at hD
      obtain⟨d1,d2⟩:=List.append_inj hD (by simp)
      cases i with
      | zero=>
       cases hi
       refine⟨y,rfl,.inr fun k H hk hm=>?_⟩
       obtain⟨x,F',q1,q2,q3⟩:=FK hz e1 k H hk (by rw [Nat.zero_add];exact hm)
       have:x=y:=by
        simp only [List.map_map]at d1
        have:=List.map_inj_left.1 d1 x q3
        simpa using this
       subst this
       exact⟨F',q1,q2⟩
      |succ i=>exact step h1 e2 d2 i hi he
     ·cases h
  ·cases h
def Dr (ops:Array Oper):List (Nat×Hp)→Bool
 |(p,H)::(q,H')::es=>(match ops[q]? with|some o=>wt ops o p|none=>false)&&Nat.blt p q&&Dr ops ((q,H')::es)
 |_=>true
theorem It {ops:Array Oper}:∀{es:List (Nat×Hp)},Dr ops es=true→∀(i p:Nat) (H:Hp) (q:Nat) (H':Hp),es[i]?=some (p,H)→es[i+1]?=some (q,H')→∃o,ops[q]?=some o∧wt ops o p=true
 | [],_,i,p,H,q,H',h,_=>by cases h
 | [_],_,i,p,H,q,H',_,h=>by simp at h
 | (a,Ha)::(b,Hb)::es,hb,i,p,H,q,H',h1,h2=>by
  simp only [Dr,Bool.and_eq_true]at hb
  cases i with
  |zero=>
   cases h1;cases h2
   have:=hb.1.1
   split at this
   ·next o ho=>exact⟨o,ho,this⟩
   ·cases this
  |succ i=>exact It hb.2 i p H q H' h1 h2
theorem O4 {ops:Array Oper}:∀{es:List (Nat×Hp)},Dr ops es=true→∀(i k p:Nat) (H H':Hp),es[i]?=some (p,H)→es[k]?=some (p,H')→i=k:=by
 have lt:∀{es:List (Nat×Hp)} {p:Nat} {H:Hp},Dr ops ((p,H)::es)=true→∀(k q:Nat) (H':Hp),es[k]?=some (q,H')→p<q:=by
  intro es
  induction es with
  |nil=>intro p H _ k q H' h;cases h
  |cons x es ih=>
   obtain⟨b,Hb⟩:=x
   intro p H hb k q H' h
   simp only [Dr,Bool.and_eq_true]at hb
   have h1:p<b:=by have:=hb.1.2;simpa [Nat.blt_eq]using this
   cases k with
   |zero=>cases h;exact h1
   |succ k=>have:=ih hb.2 k q H' h;omega
 intro es
 induction es with
 |nil=>intro _ i k p H H' h;cases h
 | cons x es ih=>
  obtain⟨b,Hb⟩:=x
  intro hb i k p H H' h1 h2
  have n5:Dr ops es=true:=by
   cases es with
   |nil=>rfl
   |cons y es=>simp only [Dr,Bool.and_eq_true]at hb;exact hb.2
  cases i with
  |zero=>
   cases k with
   |zero=>rfl
   |succ k=>cases h1;exact absurd (lt hb k _ H' h2) (by omega)
  |succ i=>
   cases k with
   |zero=>cases h2;exact absurd (lt hb i _ H h1) (by omega)
   |succ k=>rw [ih n5 i k p H H' h1 h2]
def lD:List Oper→List SV→List (Nat×SV)→List (Nat×SV)
 |o::l,x::xs,T=>Ay (lD l xs T) o.dst x
 |_,_,T=>T
theorem Ga {T:List (Nat×SV)}{t:Nat}{x:SV}:∀{l:List Oper} {xs:List SV},xs.length=l.length→look (lD l xs T) t=some x→(∃(i:Nat) (p:Oper),l[i]?=some p∧xs[i]?=some x∧p.dst=some t)∨(look T t=some x∧∀(i:Nat) (p:Oper),l[i]?=some p→p.dst≠some t)
 | [],_,_,h=>.inr ⟨h,fun i p h=>by cases h⟩
 |_::_,[],hl,h=>by cases hl
 | p::l,y::xs,hl,h=>by
  have rest:look (lD l xs T) t=some x→p.dst≠some t→(∃(i:Nat) (q:Oper),(p::l)[i]?=some q∧(y::xs)[i]?=some x∧q.dst=some t)∨(look T t=some x∧∀(i:Nat) (q:Oper),(p::l)[i]?=some q→q.dst≠some t):=fun h hp=>by
   rcases Ga (by simpa using hl) h with⟨i,q,h1,h2,h4⟩|⟨h1,h2⟩
   ·exact .inl ⟨i+1,q,by simpa using h1,by simpa using h2,h4⟩
   ·refine .inr ⟨h1,fun i q hq=>?_⟩
    cases i with
    |zero=>cases hq;exact hp
    |succ i=>exact h2 i q (by simpa using hq)
  unfold lD at h
  cases hd:p.dst with
  |none=>rw [hd]at h;exact rest h (by rw [hd];simp)
  | some d=>
   rw [hd]at h
   simp only [Ay,look]at h
   cases hk:Nat.beq d t with
   |false=>
    rw [hk]at h
    refine rest h fun e=>?_
    rw [hd]at e;cases e
    rw [show Nat.beq t t=true from Nat.beq_refl t]at hk;cases hk
   |true=>
    rw [hk]at h
    cases h
    have:=Nat.eq_of_beq_eq_true hk
    subst this
    exact .inl ⟨0,p,rfl,rfl,hd⟩
section
variable {P:Program}{X:Tx}{n:Nat}{ks:List Nat}{G0:Gr}{w0:World}{T:List (Nat×SV)}{l:List Oper}{xs:List SV}{es:List (Nat×Hp)}{hs:List Hp}{Q:Exit→Act→World→Prop}
structure Y1 (n:Nat)(ks:List Nat)(G0:Gr)(w0:World)(T:List (Nat×SV))(l:List Oper)(xs:List SV)(es:List (Nat×Hp))(hs:List Hp)(listed:Array Bool)(k:Nat)(G:Gr)(a:Act)(w:World):Prop where
 size:a.tmps.size=n
 defers:a.defers=[]
 base:∀t x,look T t=some x→(∀(j:Nat) (o:Oper),l[j]?=some o→o.dst=some t→listed.getD j false=false)→den G x=some (a.tmps.getD t undef)
 done:∀(j:Nat) (o:Oper) (x:SV) (d:Nat),l[j]?=some o→listed.getD j false=true→xs[j]?=some x→o.dst=some d→den G x=some (a.tmps.getD d undef)
 ms:∃H,hs[k]?=some H∧Ms H ks G0 w0 G w
 eff:∀(i p:Nat) (H':Hp),es[i]?=some (p,H')→(listed.getD p false=true↔i<k)
 closed:∀(j:Nat) (o:Oper) (p:Nat),l[j]?=some o→listed.getD j false=true→waits o p=true→listed.getD p false=true
def Aw (P:Program)(n:Nat)(ops:Array Oper)(ks:List Nat)(G0:Gr)(w0:World)(Tw:List (Nat×SV))(H:Hp)(o:Oper)(x:SV)(H':Hp):Prop:=
 ∀G a w,Sy n Tw H ks G0 w0 G a w→BG P ops o a w fun v w'=>∃F,den (G++F) x=some v∧Ms H' ks G0 w0 (G++F) w'
theorem QX {ops:Array Oper}{o:Oper}{H:Hp}{Tw:List (Nat×SV)}{G:Gr}{a:Act}{w:World}(hX:X.ok P=true)(A:Sy n Tw H ks G0 w0 G a w){x:SV}{E:Ob}(h:Cj X n ops Tw H o=some (.val x E))(hE:Cz E):∃z,den G x=some z∧∀K:Value→World→Prop,K z w→BG P ops o a w K:=by
 unfold Cj at h
 have tE:IE none:=fun g hg=>by cases hg
 split at h
 ·next hd=>
  split at h
  ·next hg=>
   obtain⟨z,hz,k⟩:=IP (P:=P) (ops:=ops) hX A h
   exact⟨z,hz,k hE tE (An (gd:=none) A hg)⟩
  ·next hg=>cases h;exact⟨undef,rfl,fun K hK=>EL (Nt A hg) hK⟩
  ·next b hg=>
   split at h
   ·next y F hx=>
    cases h
    have hw:=Mi A hg
    obtain⟨z,hz,k⟩:=IP (P:=P) (ops:=ops) hX A hx
    cases b with
    |true=>exact⟨z,by simp [den,hz],k hE (fun g hg=>by cases hg;rfl) hw⟩
    |false=>exact⟨undef,by simp [den,hz],fun K hK=>EL hw hK⟩
   ·cases h
  ·cases h
 ·cases h
theorem QY (hX:X.ok P=true) (kC:Ih l.toArray n []=true) (oD:Dr l.toArray es=true) (hT:∀t x,look T t=some x→∀(j:Nat) (o:Oper),l[j]?=some o→o.dst=some t→∀i,i<l.length→i≠j→waits o i=true) (hl:xs.length=l.length) (hlen:hs.length=es.length+1)
  (rM:∀(i:Nat) (o:Oper),l[i]?=some o→FL i es=false→∃x,xs[i]?=some x∧∀(k:Nat) (H:Hp),hs[k]?=some H→Je l.toArray o i k es 0=true→Aw P n l.toArray ks G0 w0 (IR o l xs 0 T) H o x H)
  (rN:∀(m p:Nat) (H':Hp),es[m]?=some (p,H')→hs[m+1]?=some H'∧∃o x H,l[p]?=some o∧xs[p]?=some x∧hs[m]?=some H∧Aw P n l.toArray ks G0 w0 (IR o l xs 0 T) H o x H')
  (oE:∀G a w H,hs[es.length]?=some H→Sy n (lD l xs T) H ks G0 w0 G a w→Q .normal a w):
  ∀(fuel:Nat) (listed:Array Bool) (a:Act) (w:World) (k:Nat) (G:Gr),listed.size=l.length→((List.range l.length).filter fun i=> !listed.getD i true).length≤fuel→Y1 n ks G0 w0 T l xs es hs listed k G a w→wpAny P .any l.toArray Q fuel listed a w:=by
 have last:∀(listed:Array Bool) (a:Act) (w:World) (k:Nat) (G:Gr),listed.size=l.length→Region.ready .any l.toArray listed=[]→Y1 n ks G0 w0 T l xs es hs listed k G a w→Q .normal a w:=by
  intro listed a w k G lF hr I
  have all:∀i,i<l.length→listed.getD i false=true:=by
   intro i
   induction i using Nat.strongRecOn with
   | _ i ih=>
    intro hi
    cases hq:listed.getD i false with
    |true=>rfl
    | false=>
     exfalso
     have:i∈Region.ready .any l.toArray listed:=by
      rw [mem_ready]
      have rO:i<listed.size:=by omega
      have lG:l.toArray[i]?=some l[i]:=by simp [hi]
      refine⟨by simpa [rO]using hq,l[i],lG,fun e he hb=>?_⟩
      have i7:=(EM kC lG).2 e he hb
      exact ih e.on i7 (by omega)
     rw [hr]at this;cases this
  obtain⟨H,h1,h2⟩:=I.ms
  have hk:k=es.length:=by
   have rK:k<hs.length:=(List.getElem?_eq_some_iff.1 h1).1
   by_cases hk:k<es.length
   ·exfalso
    have he:es[k]?=some (es[k].1,es[k].2):=by simp [hk]
    obtain⟨_,o,x,_,ho,_⟩:=rN k _ _ he
    have hp:es[k].1<l.length:=(List.getElem?_eq_some_iff.1 ho).1
    have:=(I.eff k _ _ he).1 (all _ hp)
    omega
   ·omega
  subst hk
  refine oE G a w H h1 (h2.sy I.size I.defers fun t x hx=>?_)
  rcases Ga hl hx with⟨i,p,q1,q2,q3⟩|⟨hx,nH⟩
  ·exact I.done i p x t q1 (all i (List.getElem?_eq_some_iff.1 q1).1) q2 q3
  ·exact I.base t x hx fun j o h1 h2=>absurd h2 (nH j o h1)
 intro fuel
 induction fuel with
 | zero=>
  intro listed a w k G lF hf I
  have hr:Region.ready .any l.toArray listed=[]:=by
   unfold Region.ready
   rw [List.filter_eq_nil_iff]
   intro i hi
   have mK:((List.range l.length).filter fun i=> !listed.getD i true)=[]:=List.eq_nil_of_length_eq_zero (by omega)
   rw [List.filter_eq_nil_iff]at mK
   have:=mK i (by simpa using hi)
   simp only [Bool.not_eq_true,Bool.not_eq_false']at this
   simp [this]
  exact⟨hr,last listed a w k G lF hr I⟩
 | succ fuel ih=>
  intro listed a w k G lF hf I
  refine⟨fun hr=>last listed a w k G lF hr I,fun i hi=>?_⟩
  obtain⟨pL,o,lG,j8⟩:=mem_ready.1 hi
  have nU:i<l.length:=by have:=(Array.getElem?_eq_some_iff.1 lG).1;simpa using this
  have kL:l[i]?=some o:=by simpa using lG
  obtain⟨pM,vH⟩:=EM kC lG
  have kS:listed.getD i false=false:=by
   have i7:i<listed.size:=by omega
   simpa [i7]using pL
  have hw:∀p,waits o p=true→listed.getD p false=true:=fun p hp=>by
   unfold waits at hp
   rw [List.any_eq_true]at hp
   obtain⟨e,oC,hb⟩:=hp
   have he:e∈o.after:=by simpa using oC
   simp only [Bool.and_eq_true,beq_iff_eq]at hb
   rw [←hb.2]
   exact j8 e he hb.1
  obtain⟨H,tG,wT⟩:=I.ms
  have A:Sy n (IR o l xs 0 T) H ks G0 w0 G a w:=wT.sy I.size I.defers fun t x hx=>by
   rcases Nz hx with⟨j,p,q1,q2,q3,q4⟩|hx
   ·exact I.done j p x t q1 (hw j (by simpa using q3)) q2 q4
   ·refine I.base t x hx fun j p h1 h2=>?_
    by_cases jW:j=i
    ·subst jW;exact kS
    ·cases hlj:listed.getD j false with
     |false=>rfl
     |true=>
      have:=I.closed j p i h1 hlj (hT t x hx j p h1 h2 i nU (Ne.symm jW))
      rw [kS]at this;cases this
  have next:∀(x:SV) (v:Value) (w':World) (F:Gr) (k':Nat),xs[i]?=some x→den (G++F) x=some v→(∃H',hs[k']?=some H'∧Ms H' ks G0 w0 (G++F) w')→
    (∀(m p:Nat) (H':Hp),es[m]?=some (p,H')→((p=i∨m<k)↔m<k'))→wpAny P .any l.toArray Q fuel (listed.setIfInBounds i true) (a.put o.dst v) w':=by
   intro x v w' F k' hx hv pJ jQ
   have i7:i<listed.size:=by omega
   have kD:∀j,(listed.setIfInBounds i true).getD j false=true↔(j=i∨listed.getD j false=true):=by
    intro j
    by_cases jW:j=i
    ·subst jW;simp [i7]
    ·rw [F7 false (Ne.symm jW)];simp [jW]
   refine ih _ _ _ k' (G++F) (by simpa using lF) ?_ ⟨?_,?_,fun t y hy nH=>?_,fun j p y d q1 q2 q3 q4=>?_,pJ,fun m p H' hm=>?_,fun j p r q1 q2 q3=>?_⟩
   ·have:((List.range l.length).filter fun k=> !(listed.setIfInBounds i true).getD k true).length<((List.range l.length).filter fun k=> !listed.getD k true).length:=by
     have kY:((List.range l.length).filter fun k=> !(listed.setIfInBounds i true).getD k true)=((List.range l.length).filter fun k=> !listed.getD k true).filter (fun k=>k !=i):=by
      rw [List.filter_filter]
      apply List.filter_congr
      intro k _
      by_cases hk:k=i
      ·subst hk;simp [i7]
      ·rw [F7 true (Ne.symm hk)];simp [hk]
     rw [kY]
     refine List.length_filter_lt_length_iff_exists.2 ⟨i,?_,by simp⟩
     simp only [List.mem_filter,List.mem_range]
     exact⟨nU,by rw [pL];rfl⟩
    omega
   ·cases hd:o.dst<;>simp [Act.put,I.size]
   ·cases hd:o.dst<;>simp [Act.put,I.defers]
   ·have oF:∀(j:Nat) (q:Oper),l[j]?=some q→q.dst=some t→listed.getD j false=false:=fun j q h1 h2=>by
     have h3:=nH j q h1 h2
     cases hlj:listed.getD j false with
     |false=>rfl
     |true=>rw [(kD j).2 (.inr hlj)]at h3;cases h3
    have h1:=AP F y (I.base t y hy oF)
    cases hd:o.dst with
    |none=>exact h1
    | some d=>
     have jF:d≠t:=fun e=>by
      have h3:=nH i o kL (by rw [hd,e])
      rw [(kD i).2 (.inl rfl)]at h3;cases h3
     simp only [Act.put,Array.getD_eq_getD_getElem?]
     rw [Array.getElem?_setIfInBounds_ne jF,←Array.getD_eq_getD_getElem?]
     exact h1
   ·by_cases jW:j=i
    ·subst jW
     rw [kL]at q1;cases q1
     rw [hx]at q3;cases q3
     have rP:d<a.tmps.size:=by rw [I.size];exact(pM d q4).1
     rw [q4]
     simp [Act.put,rP,hv]
    ·have h2:listed.getD j false=true:=by
      rcases(kD j).1 q2 with h|h
      ·exact absurd h jW
      ·exact h
     have h1:=AP F y (I.done j p y d q1 h2 q3 q4)
     cases hd:o.dst with
     |none=>exact h1
     | some d'=>
      have jF:d'≠d:=fun e=>by
       subst e
       exact jW ((pM d' hd).2.1 j (by simpa using (List.getElem?_eq_some_iff.1 q1).1) (by simp [Hs,q1,q4]))
      simp only [Act.put,Array.getD_eq_getD_getElem?]
      rw [Array.getElem?_setIfInBounds_ne jF,←Array.getD_eq_getD_getElem?]
      exact h1
   ·rw [kD p,I.eff m p H' hm];exact jQ m p H' hm
   ·rw [kD r]
    by_cases jW:j=i
    ·subst jW;rw [kL]at q1;cases q1;exact .inr (hw r q3)
    ·rcases(kD j).1 q2 with h|h
     ·exact absurd h jW
     ·exact .inr (I.closed j p r q1 h q3)
  have fin:∀{x:SV} {k':Nat},xs[i]?=some x→(∀(m p:Nat) (H':Hp),es[m]?=some (p,H')→((p=i∨m<k)↔m<k'))→∀{H':Hp},hs[k']?=some H'→BG P l.toArray o a w (fun v w'=>∃F,den (G++F) x=some v∧Ms H' ks G0 w0 (G++F) w')→wpOp P l.toArray Q i (wpAny P .any l.toArray Q fuel (listed.setIfInBounds i true)) a w:=by
   intro x k' hx jQ H' o8 hd
   unfold wpOp
   rcases hd with⟨nA,h⟩|⟨nA,F,h1,h2⟩
   ·simp only [lG,nA,if_true]
    refine .inl (Oper.wp_mono (fun a2 w2 h=>?_) (h Q))
    obtain⟨v,rfl,F,h1,h2⟩:=h
    exact next x v w2 F k' hx h1 ⟨H',o8,h2⟩ jQ
   ·simp only [lG,nA,Bool.false_eq_true,if_false]
    exact next x undef w F k' hx h1 ⟨H',o8,h2⟩ jQ
  cases he:FL i es with
  | true=>
   obtain⟨m,H',hm⟩:=Ir he
   obtain⟨o8,o',x,Hm,e1,e2,e3,e4⟩:=rN m i H' hm
   rw [kL]at e1;cases e1
   have sP:m=k:=by
    have h1:¬m<k:=fun h=>by have:=(I.eff m i H' hm).2 h;rw [this]at kS;cases kS
    have h2:m≤k:=by
     cases m with
     |zero=>omega
     | succ m=>
      have tH:m<es.length:=by have:=(List.getElem?_eq_some_iff.1 hm).1;omega
      have vI:es[m]?=some (es[m].1,es[m].2):=by simp [tH]
      obtain⟨o2,g1,g2⟩:=It oD m _ _ i H' vI hm
      rw [lG]at g1;cases g1
      have g3:listed.getD es[m].1 false=true:=by
       unfold wt at g2
       cases hd:waits o es[m].1 with
       |true=>exact hw _ hd
       |false=>
        rw [hd]at g2
        refine Dq (fun j q p' hq hj tI=>I.closed j q p' (by simpa using hq) hj tI) 2 _ (fun e he hb=>hw e.on ?_) g2
        unfold waits
        rw [List.any_eq_true]
        exact⟨e,he,by simp [hb]⟩
      have:=(I.eff m _ _ vI).1 g3
      omega
    omega
   subst sP
   rw [tG]at e3;cases e3
   refine fin e2 (k':=m+1) (fun m' p H2 mY=>?_) o8 (e4 G a w A)
   constructor
   ·rintro (rfl|h)
    ·have:=O4 oD m' m _ H2 H' mY hm;omega
    ·omega
   ·intro h
    by_cases tJ:m'=m
    ·subst tJ;rw [hm]at mY;cases mY;exact .inl rfl
    ·exact .inr (by omega)
  | false=>
   obtain⟨x,e1,e2⟩:=rM i o kL he
   have oG:Je l.toArray o i k es 0=true:=Lc fun m p H' hm=>by
    rw [Nat.zero_add]
    refine⟨fun kN=>(I.eff m p H' hm).1 ?_,fun q hq kN=>?_⟩
    ·unfold wt at kN
     cases hd:waits o p with
     |true=>exact hw p hd
     |false=>
      rw [hd]at kN
      refine Dq (fun j q p' hq hj tI=>I.closed j q p' (by simpa using hq) hj tI) 2 _ (fun e he hb=>hw e.on ?_) kN
      unfold waits
      rw [List.any_eq_true]
      exact⟨e,he,by simp [hb]⟩
    by_cases sP:m<k
    ·exfalso
     have hp:=(I.eff m p H' hm).2 sP
     have:=I.closed p q i (by simpa using hq) hp kN
     rw [this]at kS;cases kS
    ·omega
   refine fin e1 (k':=k) (fun m p H' hm=>?_) tG (e2 k H tG oG G a w A)
   constructor
   ·rintro (rfl|h)
    ·exact absurd rfl (N1 he m _ H' hm)
    ·exact h
   ·exact fun h=>.inr h
end
def WN (H:Hp):Out→SV
 | .val x _=>x
 | .new _ _ x=>x
 | .upd _ _ _=>.tup []
def N2 (X:Tx) (n:Nat) (ops:Array Oper) (l:List Oper) (xs:List SV) (T:List (Nat×SV)) (cl:List (Nat×SV×Hp)):List (Nat×Hp)→Hp→Option (List (SV×SV)×List (Hp×Hp)×Ob)
 | [],_=>some ([],[],[])
 | (p,H')::es,H=>match N2 X n ops l xs T cl es H' with
  | some (D,DH,E)=>match lg l p,lg xs p with
   | some o,some x=>match cl.lookup p with
    |some (y,_)=>some ((y,x)::D,DH,E)
    |none=>match Cj X n ops (IR o l xs 0 T) H o with
     |some out=>some ((WN H out,x)::D,(Jd H out,H')::DH,LW out++E)
     |none=>none
   |_,_=>none
  |none=>none
section
variable {P:Program}{X:Tx}{n:Nat}{ks:List Nat}{G0:Gr}{w0:World}{T:List (Nat×SV)}{l:List Oper}{xs:List SV}{Q:Exit→Act→World→Prop}{cl:List (Nat×SV×Hp)}
def HV (P:Program)(n:Nat)(ops:Array Oper)(ks:List Nat)(G0:Gr)(w0:World)(l:List Oper)(xs:List SV)(T:List (Nat×SV))(cl:List (Nat×SV×Hp)):List (Nat×Hp)→Hp→Prop
 | [],_=>True
 |(p,H')::es,H=>(match cl.lookup p,lg l p with|some (x,_),some o=>Aw P n ops ks G0 w0 (IR o l xs 0 T) H o x H'|_,_=>True)∧HV P n ops ks G0 w0 l xs T cl es H'
theorem AV {ops:Array Oper}:∀(es:List (Nat×Hp)) (H:Hp),HV P n ops ks G0 w0 l xs T [] es H
 | [],_=>trivial
 |(p,H')::es,H=>⟨by simp,AV es H'⟩
theorem Aj {ops:Array Oper}{o:Oper}{H:Hp}{Tw:List (Nat×SV)}{out:Out}(hX:X.ok P=true)(h:Cj X n ops Tw H o=some out)(hE:Cz (LW out)):Aw P n ops ks G0 w0 Tw H o (WN H out) (Jd H out):=by
 intro G a w A
 cases out with
 |val x E=>
  obtain⟨z,hz,k⟩:=QX (P:=P) hX A h hE
  exact k _ ⟨[],by simpa [WN]using hz,by simpa [Jd]using A.ms⟩
 | new t en x=>
  unfold Cj at h
  split at h
  ·next hd=>
   split at h
   ·next hg=>
    exact IQ (P:=P) (ops:=ops) hX A h (An (gd:=none) A hg) fun g w' v a1 a2 a3 a4 a5=>⟨[some ⟨g,[],[],t⟩],a5,(A.newBlk a1 a2 a3 a4).ms⟩
   ·cases h
   ·split at h<;>cases h
   ·cases h
  ·cases h
 | upd i cs E=>
  unfold Cj at h
  split at h
  ·next hd=>
   split at h
   ·next hg=>
    refine Nu hX A h hE (An (gd:=none) A hg) fun cs0 L vs' w' a1 a2 a3 a4 a5=>⟨[],rfl,?_⟩
    simpa [Jd]using (A.turn a1 a2 a3 a4 a5).ms
   ·cases h
   ·split at h<;>cases h
   ·cases h
  ·cases h
theorem GD {ops:Array Oper}(hX:X.ok P=true):∀{es:List (Nat×Hp)} {H:Hp} {D:List (SV×SV)} {DH:List (Hp×Hp)} {E:Ob},N2 X n ops l xs T cl es H=some (D,DH,E)→Cz E→D.map (·.1)=D.map (·.2)→DH.map (·.1)=DH.map (·.2)→HV P n ops ks G0 w0 l xs T cl es H→
  ∀(m p:Nat) (H':Hp),es[m]?=some (p,H')→(H::es.map (·.2))[m+1]?=some H'∧∃o x Hm,l[p]?=some o∧xs[p]?=some x∧(H::es.map (·.2))[m]?=some Hm∧Aw P n ops ks G0 w0 (IR o l xs 0 T) Hm o x H'
 | [],_,_,_,_,_,_,_,_,_,m,p,H',hm=>by cases hm
 | (q, Hq)::es,H,D,DH,E,h,hE,hD,oS,hA,m,p,H',hm=>by
  unfold N2 at h
  obtain⟨tK,vJ⟩:=hA
  split at h
  ·next D1 DH1 E1 h1=>
   split at h
   ·next o x ho hx=>
    rw [ho]at tK
    rw [Ah]at ho hx
    split at h
    ·next y Hy hc=>
     cases h
     simp only [List.map_cons,List.cons.injEq]at hD
     rw [hc]at tK
     cases m with
     |zero=>
      cases hm
      refine⟨by simp,o,x,H,ho,hx,rfl,?_⟩
      have:=hD.1
      subst this
      exact tK
     |succ m=>
      have:=GD hX h1 hE hD.2 oS vJ m p H' (by simpa using hm)
      simpa using this
    ·next hc=>
     split at h
     ·next out hs=>
      cases h
      obtain⟨e1,e2⟩:=AQ hE
      simp only [List.map_cons,List.cons.injEq]at hD oS
      cases m with
      |zero=>
       cases hm
       refine⟨by simp,o,x,H,ho,hx,rfl,?_⟩
       have:=Aj (P:=P) (ks:=ks) (G0:=G0) (w0:=w0) hX hs e1
       rw [hD.1,oS.1]at this
       exact this
      |succ m=>
       have:=GD hX h1 e2 hD.2 oS.2 vJ m p H' (by simpa using hm)
       simpa using this
     ·cases h
   ·cases h
  ·cases h
theorem Dn {ops:Array Oper}{pc:List (Nat×SV)}:∀{l:List Oper} {j:Nat} {T:List (Nat×SV)} {H:Hp} {xs:List SV} {es:List (Nat×Hp)},Hv X n ops pc cl l j T H=some (xs,es)→xs.length=l.length
 | [],_,_,_,_,_,h=>by cases h;rfl
 | o ::l,j,T,H,xs,es,h=>by
  unfold Hv at h
  split at h
  ·split at h
   ·next xs' sQ h1=>cases h;simp [Dn h1]
   ·cases h
  ·split at h
   ·split at h
    ·next xs' sQ h1=>cases h;simp [Dn h1]
    ·cases h
   ·split at h
    ·split at h
     ·next xs' sQ h1=>cases h;simp [Dn h1]
     ·cases h
    ·rw [F9]at h
     split at h
     ·next xs' sQ h1=>cases h;simp [Dn h1]
     ·cases h
    ·rw [F9]at h
     split at h
     ·next xs' sQ h1=>cases h;simp [Dn h1]
     ·cases h
    ·cases h
def Jw:Hp→List (Nat×Hp)→Hp
 |H,[]=>H
 |_,(_,H)::es=>Jw H es
theorem Le:∀(es:List (Nat×Hp)) (H:Hp),(H::es.map (·.2))[es.length]?=some (Jw H es)
 | [],H=>rfl
 |(p,H')::es,H=>by simpa [Jw]using Le es H'
theorem CG {ops:Array Oper}{Tw:List (Nat×SV)}{H:Hp}{o:Oper}{f:Nat}{az:List SV}{x:SV}(h:BS n ops Tw o=some (f,az))(lR:Fw 0 az=true)(hf:Fn P f az [] (Rt x [])):Aw P n ops ks G0 w0 Tw H o x H:=by
 intro G a w A
 obtain⟨jH,hf⟩:=hf
 obtain⟨hd,vs,hv,lK⟩:=Cb (P:=P) (ops:=ops) A h jH
 have hM:Mem [] [] w:=⟨rfl,fun i e h=>(by cases h),fun i j e f L M _ h=>(by cases h)⟩
 have p7:AE [] az=some vs:=by
  have:=BH (G:=G) az lR
  simp only [List.take_zero]at this
  rw [this];exact hv
 refine lK (hf [] w vs hM p7) ?_
 rintro e w' ⟨y,H',F,v,⟨rfl,rfl⟩,hx,rfl,l7,jL,_⟩
 have hF:F=[]:=by have:=l7.len;simp at this;exact List.eq_nil_of_length_eq_zero this.symm
 subst hF
 have hg:BW w w':=⟨jL.os,jL.tape,jL.output,jL.size,fun k hk=>jL.block k hk rfl⟩
 refine⟨v,rfl,[],?_,by simpa using A.ms.grow hg⟩
 have:=AP (G:=[]) G y (by simpa using hx)
 simpa using this
def Lf (n:Nat) (ops:Array Oper) (T:List (Nat×SV)) (o:Oper):Option (Bool×Nat×List SV×Ob):=match Ci n o.dst with
 | true=>match iY ops T o.guard with
  | some (.sym b)=>match o.op with
   | .call c=>match c.callee with
    | .value x=>match FZ (some b) T x with
     |some (.fn f l,E0)=>match Ox (some b) T c.args.toList with
      |some (az,E)=>some (b,f,az++l,E0++E)
      |_=>none
     |_=>none
    |_=>none
   |_=>none
  |_=>none
 |false=>none
theorem Lh {ops:Array Oper}{o:Oper}{H:Hp}{T:List (Nat×SV)}{G:Gr}{a:Act}{w:World}(A:Sy n T H ks G0 w0 G a w){b:Bool}{f:Nat}{az:List SV}{E:Ob}(h:Lf n ops T o=some (b,f,az,E))(hE:Cz E)(jH:b=true→Fo P f=some (false,false)):(b=false→Region.wanted o (yielded ops a.tmps)=false)∧(b=true→∃vs,AE G az=some vs∧∀{R:Ending→World→Prop} {K:Value→World→Prop},Calls P f vs.toArray w R→(∀e w',R e w'→∃v,e=.returned v∧K v w')→BG P ops o a w K):=by
 obtain⟨d,i,ty,pos,af,gd⟩:=o
 unfold Lf at h
 split at h
 ·next hd=>
  split at h
  ·next b' hg=>
   have hw:=Mi A hg
   split at h
   ·next c hc=>
    simp only at hc
    subst hc
    obtain⟨callee,args,ats⟩:=c
    simp only at h
    split at h
    ·next x=>
     split at h
     ·next f' l E0 hx=>
      split at h
      ·next az' E' hs=>
       cases h
       refine⟨fun hb=>by rw [hw,hb],fun hb=>?_⟩
       subst hb
       have h1:=A.evg (fun g hg=>by cases hg;rfl) hx (AQ hE).1
       unfold den at h1
       obtain⟨ls,h2,h3⟩:=Option.map_eq_some_iff.1 h1
       obtain⟨us,h4,h5⟩:=IN A hs
       have h6:=h5 (AQ hE).2 (fun g hg=>by cases hg;rfl)
       refine⟨us++ls,B9 h4 h2,fun hc hk=>?_⟩
       refine Nx (lb:=ls.toArray) (vs:=us.toArray) (us:=(us++ls).toArray) hw h3.symm (jH rfl) ?_ (by simp) hc hk
       rw [←h6];apply Array.ext';simp
      ·cases h
     ·cases h
    ·cases h
   ·cases h
  ·cases h
 ·cases h
theorem O5 {ops:Array Oper}{Tw:List (Nat×SV)}{H:Hp}{o:Oper}{b:Bool}{f:Nat}{az:List SV}{E:Ob}{x:SV}{v0:Value}(h:Lf n ops Tw o=some (b,f,az,E))(hE:Cz E)(lR:Fw 0 az=true)(tL:den [] x=some v0)(hf:b=true→Fn P f az [] (Rt x [])):Aw P n ops ks G0 w0 Tw H o (.opt b x) H:=by
 intro G a w A
 obtain⟨k1,k2⟩:=Lh (P:=P) (ops:=ops) A h hE (fun hb=>(hf hb).1)
 cases b with
 |false=>
  refine EL (k1 rfl) ⟨[],?_,by simpa using A.ms⟩
  have:=AP (G:=[]) G x (by simpa using tL)
  simp at this
  simp [den,this]
 | true=>
  obtain⟨jH,hf⟩:=hf rfl
  obtain⟨vs,hv,lK⟩:=k2 rfl
  have hM:Mem [] [] w:=⟨rfl,fun i e h=>(by cases h),fun i j e f L M _ h=>(by cases h)⟩
  have p7:AE [] az=some vs:=by
   have:=BH (G:=G) az lR
   simp only [List.take_zero]at this
   rw [this];exact hv
  refine lK (hf [] w vs hM p7) ?_
  rintro e w' ⟨y,H',F,v,⟨rfl,rfl⟩,hx,rfl,l7,jL,_⟩
  have hF:F=[]:=by have:=l7.len;simp at this;exact List.eq_nil_of_length_eq_zero this.symm
  subst hF
  have hg:BW w w':=⟨jL.os,jL.tape,jL.output,jL.size,fun k hk=>jL.block k hk rfl⟩
  refine⟨v,rfl,[],?_,by simpa using A.ms.grow hg⟩
  have:=AP (G:=[]) G y (by simpa using hx)
  simp at this
  simp [den,this]
def Y2 (P:Program)(n:Nat)(ops:Array Oper)(Tw:List (Nat×SV))(o:Oper)(x:SV):Prop:=
 (∃f az,BS n ops Tw o=some (f,az)∧Fw 0 az=true∧Fn P f az [] (Rt x []))∨∃b y f az E v0,Lf n ops Tw o=some (b,f,az,E)∧x=.opt b y∧Cz E∧Fw 0 az=true∧den [] y=some v0∧(b=true→Fn P f az [] (Rt y []))
def Li (P:Program)(n:Nat)(ops:Array Oper)(l:List Oper)(xs:List SV)(T:List (Nat×SV)):List (Nat×SV)→Prop
 | []=>True
 |(j,x)::pc=>(match lg l j with|some o=>Y2 P n ops (IR o l xs 0 T) o x|none=>True)∧Li P n ops l xs T pc
theorem U1 {ops:Array Oper}:∀{pc:List (Nat×SV)} {j:Nat} {x:SV} {o:Oper},Li P n ops l xs T pc→look pc j=some x→l[j]?=some o→Y2 P n ops (IR o l xs 0 T) o x
 | [],_,_,_,_,h,_=>by cases h
 | (k,y)::pc,j,x,o,hA,h,ho=>by
  unfold look at h
  cases hb:Nat.beq k j with
  |true=>
   rw [hb]at h
   cases h
   have:=Nat.eq_of_beq_eq_true hb
   subst this
   have:=hA.1
   rw [Ah,ho]at this
   exact this
  |false=>rw [hb]at h;exact U1 hA.2 h ho
structure cJ where
 xs:List SV
 es:List (Nat×Hp)
 D:List (SV×SV)
 DH:List (Hp×Hp)
 E:Ob
def N3 (X:Tx)(n:Nat)(pc:List (Nat×SV))(cl:List (Nat×SV×Hp))(l:List Oper)(T:List (Nat×SV))(H:Hp):Option cJ:=match Hv X n l.toArray pc cl l 0 T H with
 | some (xs,es)=>match Ld X n l.toArray l xs T es (H::es.map (·.2)) pc l xs 0 with
  |some (D,E)=>match N2 X n l.toArray l xs T cl es H with
   |some (D',DH,E')=>bif Dr l.toArray es then some ⟨xs,es,D++D',DH,E++E'⟩else none
   |none=>none
  |none=>none
 |none=>none
theorem U2 {id:Nat} {H:Hp} {G:Gr} {a:Act} {w:World} {K:List Fr} {r:cJ} (hX:X.ok P=true) (BK:P.follows .mixedOrders=true) (pc:List (Nat×SV)) (cl:List (Nat×SV×Hp)) (A:Sy n T H ks G0 w0 G a w) (h:N3 X n pc cl l (Cx l T) H=some r) (hE:Cz r.E) (hD:r.D.map (·.1)=r.D.map (·.2)) (oS:r.DH.map (·.1)=r.DH.map (·.2)) (kC:Ih l.toArray n []=true)
  (hA:HV P n l.toArray ks G0 w0 l r.xs (Cx l T) cl r.es H) (hP:Li P n l.toArray l r.xs (Cx l T) pc) (hk:∀{G a w},Sy n (lD l r.xs (Cx l T)) (Jw H r.es) ks G0 w0 G a w→Goal P Q K .norm a w):Goal P Q K (.code (.region id l.toArray true)) a w:=by
 unfold N3 at h
 split at h
 ·next xs es h1=>
  split at h
  ·next D E h2=>
   split at h
   ·next D' DH E' h3=>
    cases hc:Dr l.toArray es with
    |false=>rw [hc]at h;cases h
    | true=>
     rw [hc]at h
     cases h
     obtain⟨e1,e2⟩:=AQ hE
     simp only [List.map_append]at hD
     obtain⟨d1,d2⟩:=List.append_inj hD (by
      have:=congrArg List.length hD
      simp at this⊢)
     refine wp_region_any BK ?_
     have hB:Ms H ks G0 w0 G w.drew:=A.ms.grow (BW.refl w).drew
     refine QY (P:=P) (X:=X) (xs:=xs) (es:=es) (hs:=H::es.map (·.2)) (T:=Cx l T) hX kC hc (fun t x hx j o h3 h4 i hi jF=>Kg (by have:=GB (DI hx).2 j o h3 h4;rwa [Nat.zero_add]at this) i hi jF) (Dn h1) (by simp) (fun i o hi he=>?_) (GD hX h3 e2 d2 oS hA) (fun G a w H' o8 A'=>?_) _ _ _ _ 0 G (by simp) (by
      refine Nat.le_trans (List.length_filter_le _ _) (by simp)) ⟨A.size,A.defers,fun t x hx _=>A.get t x (DI hx).1,fun j o x d _ hj=>?_,⟨H,rfl,hB⟩,fun i p H' hi=>?_,fun j o p _ hj=>?_⟩
     ·obtain⟨x,g1,g2⟩:=Is h2 e1 d1 i o hi (by rw [Nat.zero_add];exact he)
      rw [Nat.zero_add]at g2
      refine⟨x,g1,fun k H hk hm=>?_⟩
      rcases g2 with g2|g2
      ·rcases U1 hP g2 hi with⟨f,az,c1,c2,c3⟩|⟨b,y,f,az,E,v0,c1,rfl,c3,c4,c5,c6⟩
       ·exact CG c1 c2 c3
       ·exact O5 c1 c3 c4 c5 c6
      ·obtain⟨F,s1,s2⟩:=g2 k H hk hm
       exact Aj (out:=.val x F) hX s1 s2
     ·rw [Le]at o8
      cases o8
      exact hk A'
     ·exfalso;simp [Array.getD_eq_getD_getElem?,Array.getElem?_replicate]at hj;split at hj<;>simp at hj
     ·constructor
      ·intro hj;exfalso;simp [Array.getD_eq_getD_getElem?,Array.getElem?_replicate]at hj;split at hj<;>simp at hj
      ·intro hj;omega
     ·exfalso;simp [Array.getD_eq_getD_getElem?,Array.getElem?_replicate]at hj;split at hj<;>simp at hj
   ·cases h
  ·cases h
 ·cases h
theorem WO {Y:Tb} {id:Nat} {H:Hp} {G:Gr} {a:Act} {w:World} {K:List Fr} {r:cJ} (hX:Y.ok P=true) (BK:P.follows .mixedOrders=true) (pc:List (Nat×SV)) (cl:List (Nat×SV×Hp)) (A:Sy n T H ks G0 w0 G a w) (h:N3 ⟨Y,false⟩ n pc cl l (Cx l T) H=some r) (hE:Cz r.E) (hD:r.D.map (·.1)=r.D.map (·.2)) (oS:r.DH.map (·.1)=r.DH.map (·.2)) (kC:Ih l.toArray n []=true)
  (hA:HV P n l.toArray ks G0 w0 l r.xs (Cx l T) cl r.es H) (hP:Li P n l.toArray l r.xs (Cx l T) pc) (hk:∀{G a w},Sy n (lD l r.xs (Cx l T)) (Jw H r.es) ks G0 w0 G a w→Goal P Q K .norm a w):Goal P Q K (.code (.region id l.toArray true)) a w:=U2 (X:=⟨Y,false⟩) hX BK pc cl A h hE hD oS kC hA hP hk
theorem Aq {Y:Tb} {id:Nat} {H:Hp} {G:Gr} {a:Act} {w:World} {K:List Fr} {r:cJ} (hX:Y.ok P=true) (BK:P.follows .mixedOrders=true) (pc:List (Nat×SV)) (cl:List (Nat×SV×Hp)) (A:Sy n T H ks G0 w0 G a w) (h:N3 ⟨Y,true⟩ n pc cl l (Cx l T) H=some r) (hE:Cz r.E) (hD:r.D.map (·.1)=r.D.map (·.2)) (oS:r.DH.map (·.1)=r.DH.map (·.2)) (kC:Ih l.toArray n []=true)
  (hA:HV P n l.toArray ks G0 w0 l r.xs (Cx l T) cl r.es H) (hP:Li P n l.toArray l r.xs (Cx l T) pc) (hk:∀{G a w},Sy n (lD l r.xs (Cx l T)) (Jw H r.es) ks G0 w0 G a w→Goal P Q K .norm a w):Goal P Q K (.code (.region id l.toArray true)) a w:=U2 (X:=⟨Y,true⟩) hX BK pc cl A h hE hD oS kC hA hP hk
end
theorem _root_.Go.Proofs.YtbbdanhpphlbpaaGreatDoor.iR {a b k:Nat}(h:a=b)(h2:Nat.ble a k=true):b≤k:=h▸Nat.le_of_ble_eq_true h2
def cK (k:Nat):List (Nat×SV)→Bool
 | []=>true
 |(_,x)::T=>JX k x&&cK k T
theorem QZ {k:Nat}:∀{T:List (Nat×SV)} {t:Nat} {x:SV},cK k T=true→look T t=some x→JX k x=true
 | [],_,_,_,h=>by cases h
 |(j,y)::T,t,x,hb,h=>by
  simp only [cK,Bool.and_eq_true]at hb
  unfold look at h
  cases hc:Nat.beq j t with
  |true=>rw [hc]at h;cases h;exact hb.1
  |false=>rw [hc]at h;exact QZ hb.2 h
def U3 (k:Nat):Hp→Bool
 | []=>true
 |some (.blk cs)::H=>Fw k cs&&U3 k H
 |_::H=>U3 k H
theorem Qa {k:Nat}:∀{H:Hp} {i:Nat} {cs:List SV},U3 k H=true→H[i]?=some (some (.blk cs))→Fw k cs=true
 | [],_,_,_,h=>by cases h
 |x::H,0,cs,hb,h=>by cases h;simp only [U3,Bool.and_eq_true]at hb;exact hb.1
 |x::H,i+1,cs,hb,h=>by
  refine Qa (H:=H) (i:=i) ?_ h
  unfold U3 at hb
  split at hb
  ·next h=>cases h
  ·next h=>cases h;rw [Bool.and_eq_true]at hb;exact hb.2
  ·next h=>cases h;exact hb
mutual
def nb:SV→SV
 | .tt=>.bool true
 | .ff=>.bool false
 | .agg l=>.agg (BY l)
 | .tup l=>.tup (BY l)
 |x=>x
def BY:List SV→List SV
 | []=>[]
 |x::l=>nb x::BY l
end
mutual
theorem Mk {G:Gr}:∀(x:SV),den G (nb x)=den G x
 | .tt=>rfl
 | .ff=>rfl
 | .agg l=>by simp only [nb,den,Gb l]
 | .tup l=>by simp only [nb,den,Gb l]
 | .ptr _ _=>rfl
 | .el _ _ _ _=>rfl
 | .ix _ _ _ _ _=>rfl
 | .sl _ _ _=>rfl
 | .fn _ _=>rfl
 | .opt _ _=>rfl
 | .int _ _=>rfl
 | .bool _=>rfl
 | .str _=>rfl
 | .sla _ _ _=>rfl
 | .sp _ _ _=>rfl
 | .st _ _ _ _ _=>rfl
 | .v _=>rfl
theorem Gb {G:Gr}:∀(l:List SV),AE G (BY l)=AE G l
 | []=>rfl
 |x::l=>by simp only [BY,AE,Mk x,Gb l]
end
def BR:Hp→Hp
 | []=>[]
 |some (.blk cs)::H=>some (.blk (BY cs))::BR H
 |e::H=>e::BR H
theorem Ml:∀(H:Hp) (i:Nat),(BR H)[i]?=(H[i]?).map fun e=>match e with|some (.blk cs)=>some (.blk (BY cs))|e=>e
 | [],i=>by simp [BR]
 |e::H,0=>by
  cases e with
  |none=>rfl
  |some q=>cases q<;>rfl
 |e::H,i+1=>by
  have:=Ml H i
  cases e with
  |none=>simpa [BR]using this
  |some q=>cases q<;>simpa [BR]using this
theorem N4 (H:Hp):(BR H).length=H.length:=by
 induction H with
 |nil=>rfl
 |cons e H ih=>
  cases e with
  |none=>simp [BR,ih]
  |some q=>cases q<;>simp [BR,ih]
theorem IS {H H2:Hp}(h:BR H=BR H2)(i:Nat)(e:A6)(he:H2[i]?=some (some e)):∃e',H[i]?=some (some e')∧e'.mut=e.mut∧(e'.empty↔e.empty)∧∀G w p,Ae G w p e'→Ae G w p e:=by
 have h1:=Ml H i
 have h2:=Ml H2 i
 rw [h,h2,he]at h1
 cases hq:H[i]? with
 |none=>rw [hq]at h1;simp at h1
 | some o=>
  rw [hq]at h1
  cases o with
  |none=>cases e<;>simp at h1
  | some e'=>
   cases e with
   | blk cs=>
    cases e' with
    |blk cs'=>
     simp at h1
     refine⟨_,rfl,rfl,Iff.rfl,fun G w p jJ=>?_⟩
     obtain⟨L,vs,k1,k2,k3⟩:=jJ
     exact⟨L,vs,k1,by rw [←Gb,h1,Gb];exact k2,k3⟩
    |lst=>simp at h1
    |row=>simp at h1
    |fac=>simp at h1
   |fac b o=>
    cases e' with
    |blk cs'=>simp at h1
    |lst=>simp at h1
    |row=>simp at h1
    |fac=>simp at h1;obtain⟨rfl,rfl⟩:=h1;exact⟨_,rfl,rfl,Iff.rfl,fun G w p jJ=>jJ⟩
   |lst s n f=>
    cases e' with
    |blk cs'=>simp at h1
    |lst=>simp at h1;obtain⟨rfl,rfl,rfl⟩:=h1;exact⟨_,rfl,rfl,Iff.rfl,fun G w p jJ=>jJ⟩
    |row=>simp at h1
    |fac=>simp at h1
   |row a b c d f=>
    cases e' with
    |blk cs'=>simp at h1
    |lst=>simp at h1
    |fac=>simp at h1
    |row=>simp at h1;obtain⟨rfl,rfl,rfl,rfl,rfl⟩:=h1;exact⟨_,rfl,rfl,Iff.rfl,fun G w p jJ=>jJ⟩
section
variable {P:Program}{X:Tx}{n:Nat}{ks:List Nat}{G0:Gr}{w0:World}{T:List (Nat×SV)}{H:Hp}{G:Gr}{a:Act}{w:World}{Q:Exit→Act→World→Prop}
theorem Sy.sayT (A:Sy n T H ks G0 w0 G a w){T':List (Nat×SV)}(h:T=T'):Sy n T' H ks G0 w0 G a w:=h▸A
theorem Sy.sayH (A:Sy n T H ks G0 w0 G a w){H':Hp}(h:H=H'):Sy n T H' ks G0 w0 G a w:=h▸A
theorem Sy.say (A:Sy n T H ks G0 w0 G a w)(t:Nat)(y:SV){x:SV}(h:look T t=some x)(e:x=y):Sy n ((t,y)::T) H ks G0 w0 G a w:=
 ⟨A.size,A.defers,fun s z hz=>by
  simp only [look]at hz
  cases hc:Nat.beq t s with
  |true=>rw [hc]at hz;cases hz;have:=Nat.eq_of_beq_eq_true hc;subst this;subst e;exact A.get t _ h
  |false=>rw [hc]at hz;exact A.get s z hz,A.mem,A.pre,A.own,A.mix⟩
def TS (T:List (Nat×SV)):List Nat→Option (List (Nat×SV))
 | []=>some []
 |t::l=>match look T t,TS T l with
  |some x,some r=>some ((t,x)::r)
  |_,_=>none
theorem Lj {T:List (Nat×SV)}:∀{l:List Nat} {r:List (Nat×SV)},TS T l=some r→∀t x,look r t=some x→look T t=some x
 | [],r,h,t,x,hx=>by cases h;cases hx
 | k::l,r,h,t,x,hx=>by
  unfold TS at h
  split at h
  ·next y r' hy hr=>
   cases h
   simp only [look]at hx
   cases hb:Nat.beq k t with
   |true=>rw [hb]at hx;cases hx;rw [←Nat.eq_of_beq_eq_true hb];exact hy
   |false=>rw [hb]at hx;exact Lj hr t x hx
  ·cases h
theorem Sy.cut (A:Sy n T H ks G0 w0 G a w)(l:List Nat){T':List (Nat×SV)}(h:TS T l=some T'):Sy n T' H ks G0 w0 G a w:=
 ⟨A.size,A.defers,fun t x hx=>A.get t x (Lj h t x hx),A.mem,A.pre,A.own,A.mix⟩
theorem Sy.trunc (A:Sy n T H ks G0 w0 G a w)(k:Nat){H':Hp}(hT:cK k T=true)(hH:H.take k=H')(hi:U3 k H'=true)(hk:G0.length≤k):Sy n T H' ks G0 w0 (G.take k) a w:=by
 have at_:∀(i:Nat) (e:A6),H'[i]?=some (some e)→H[i]?=some (some e)∧i<k:=by
  intro i e h
  rw [←hH]at h
  have oZ:i<k:=by
   have:=(List.getElem?_eq_some_iff.1 h).1
   simp at this;omega
  rw [List.getElem?_take_of_lt oZ]at h
  exact⟨h,oZ⟩
 have hG:∀i,i<k→(G.take k)[i]?=G[i]?:=fun i h=>List.getElem?_take_of_lt h
 refine⟨A.size,A.defers,fun t x hx=>by rw [C7 x (QZ hT hx)];exact A.get t x hx,⟨by rw [←hH];simp [A.mem.len],fun i e h=>?_,fun i j e f L M jV h1 h2 h3 h4 h5=>?_⟩,?_,fun i e L h1 h2 h3=>?_,A.mix⟩
 ·obtain⟨h1,h2⟩:=at_ i e h
  rw [hG i h2]
  have:=A.mem.ent i e h1
  cases e with
  |blk cs=>
   obtain⟨L,vs,q1,q2,q3⟩:=this
   exact⟨L,vs,q1,by rw [BH cs (Qa hi h)];exact q2,q3⟩
  |lst=>exact this
  |fac=>exact this
  |row=>exact this
 ·obtain⟨a1,a2⟩:=at_ i e h1
  obtain⟨b1,b2⟩:=at_ j f h2
  rw [hG i a2]at h4
  rw [hG j b2]at h5
  exact A.mem.sep i j e f L M jV a1 b1 h3 h4 h5
 ·obtain⟨F,hF⟩:=A.pre
  exact⟨F.take (k - G0.length),by rw [hF,List.take_append,List.take_of_length_le hk]⟩
 ·obtain⟨a1,a2⟩:=at_ i e h1
  rw [hG i a2]at h3
  exact A.own i e L a1 h2 h3
theorem dK {Y:Tb}{fn:Func}{x:SV}{H2 H0:Hp}(hX:Y.ok P=true){y:SV}{H':Hp}{r:List SV}{rv:List ResultVar}(A:Sy n T H (keys H0 G0) G0 w0 G a w)(hr:fn.results.toList=rv)(hv:IF ⟨Y,false⟩ T H rv=some r)(hy:AX r=y)(h0:H0.length=G0.length)(hi:JX H0.length y=true)(hH:H.take H0.length=H')(hj:U3 H0.length H'=true)(o6:Nw H0 H2=QW H2)(hR:nb y=nb x)(hS:BR H'=BR H2):bodyPost P fn (Kf (Rt x H2) H0 G0 w0) .ret a w:=by
 obtain⟨v,h1,h2⟩:=GZ (X:=⟨Y,false⟩) (fn:=fn) hX A hr hv hy
 have A':=(A.cut [] rfl).trunc H0.length rfl hH hj (by omega)
 obtain⟨F,hF⟩:=A.pre
 have hG:G.take H0.length=G0:=by rw [hF,h0];simp
 rw [hG]at A'
 have nI:H2.length=H'.length:=by rw [←N4 H2,←hS,N4]
 refine⟨A.defers,v,h2,x,H2,[],v,⟨rfl,rfl⟩,?_,rfl,?_,A.mix,?_,D3 o6,fun i e he hm L hL=>?_⟩
 ·rw [List.append_nil,←Mk,←hR,Mk,←hG,C7 y hi];exact h1
 ·rw [List.append_nil]
  refine⟨by rw [nI];exact A'.mem.len,fun i e he=>?_,fun i j e f L M jV he hf hm hL hM jF=>?_⟩
  ·obtain⟨e',k1,_,_,k2⟩:=IS hS i e he
   exact k2 _ _ _ (A'.mem.ent i e' k1)
  ·obtain⟨e',k1,k2,_,_⟩:=IS hS i e he
   obtain⟨f',l1,_,l2,_⟩:=IS hS j f hf
   exact A'.mem.sep i j e' f' L M jV k1 l1 (by rw [k2];exact hm) hL hM (fun h=>jF (l2.1 h))
 ·rw [nI,A'.mem.len];exact Nat.le_refl _
 ·rw [List.append_nil]at hL
  obtain⟨e',k1,k2,_,_⟩:=IS hS i e he
  exact A'.own i e' L k1 (by rw [k2];exact hm) hL
theorem WQ {β:Type} {c:Code} {K:List Fr} (T':β→List (Nat×SV)) (H':β→Hp) (I:β→Prop) (μ:β→Nat) (z:β) (hI:I z) (A:Sy n (T' z) (H' z) ks G0 w0 G a w)
  (round:∀z,I z→∀{G a w},Sy n (T' z) (H' z) ks G0 w0 G a w→Goal P Q (.lp (fun a w=>∃z' G,μ z'<μ z∧I z'∧Sy n (T' z') (H' z') ks G0 w0 G a w)::K) (.code c) a w):Goal P Q K (.code (.loop c)) a w:=by
 refine KU (fun m a w=>∃z G,μ z=m∧I z∧Sy n (T' z) (H' z) ks G0 w0 G a w) (μ z) ⟨z,G,rfl,hI,A⟩ ?_
 rintro m a w ⟨z,G,rfl,hz,A⟩
 refine Code.wp_mono (fun e a' w' h=>?_) (round z hz A)
 cases e with
 |normal=>obtain⟨z',G',h1,h2,h3⟩:=h;exact⟨μ z',h1,z',G',rfl,h2,h3⟩
 |_=>exact h
theorem Bk {α:Type} {c:Code} {K:List Fr} (T':α→List (Nat×SV)) (H':α→Hp) (I:α→Prop) (μ:α→Nat) (x:α) (hI:I x) (A:Sy n (T' x) (H' x) ks G0 w0 G a w)
  (round:∀x,I x→∀{G a w},Sy n (T' x) (H' x) ks G0 w0 G a w→Goal P Q (.lp (fun a w=>∃x' G,μ x'<μ x∧I x'∧Sy n (T' x') (H' x') ks G0 w0 G a w)::K) (.code c) a w):Goal P Q K (.code (.loop c)) a w:=WQ T' H' I μ x hI A round
theorem N5 {c:Code}{K:List Fr}{J J':Act→World→Prop}(h:∀a w,J a w→J' a w)(hg:Goal P Q (.lp J::K) (.code c) a w):Goal P Q (.lp J'::K) (.code c) a w:=by
 refine Code.wp_mono (fun e a' w' hq=>?_) hg
 cases e with
 |normal=>exact h _ _ hq
 |_=>exact hq
theorem Lk {α β:Type} {c:Code} {K:List Fr} (T':α→β→List (Nat×SV)) (H':α→β→Hp) (I:α→β→Prop) (μ:α→β→Nat) (x:α) (y:β) (hI:I x y) (A:Sy n (T' x y) (H' x y) ks G0 w0 G a w)
  (round:∀x y,I x y→∀{G a w},Sy n (T' x y) (H' x y) ks G0 w0 G a w→Goal P Q (.lp (fun a w=>∃x' y' G,μ x' y'<μ x y∧I x' y'∧Sy n (T' x' y') (H' x' y') ks G0 w0 G a w)::K) (.code c) a w):Goal P Q K (.code (.loop c)) a w:=
 WQ (fun z:α×β=>T' z.1 z.2) (fun z=>H' z.1 z.2) (fun z=>I z.1 z.2) (fun z=>μ z.1 z.2) (x,y) hI A fun z hz {G a w} A=>N5 (fun a w ⟨x',y',G,h1,h2,h3⟩=>⟨(x',y'),G,h1,h2,h3⟩) (round z.1 z.2 hz A)
theorem Y3 {α β γ:Type} {c:Code} {K:List Fr} (T':α→β→γ→List (Nat×SV)) (H':α→β→γ→Hp) (I:α→β→γ→Prop) (μ:α→β→γ→Nat) (x:α) (y:β) (u:γ) (hI:I x y u) (A:Sy n (T' x y u) (H' x y u) ks G0 w0 G a w)
  (round:∀x y u,I x y u→∀{G a w},Sy n (T' x y u) (H' x y u) ks G0 w0 G a w→Goal P Q (.lp (fun a w=>∃x' y' u' G,μ x' y' u'<μ x y u∧I x' y' u'∧Sy n (T' x' y' u') (H' x' y' u') ks G0 w0 G a w)::K) (.code c) a w):Goal P Q K (.code (.loop c)) a w:=
 WQ (fun z:α×β×γ=>T' z.1 z.2.1 z.2.2) (fun z=>H' z.1 z.2.1 z.2.2) (fun z=>I z.1 z.2.1 z.2.2) (fun z=>μ z.1 z.2.1 z.2.2) (x,y,u) hI A fun z hz {G a w} A=>N5 (fun a w ⟨x',y',u',G,h1,h2,h3⟩=>⟨(x',y',u'),G,h1,h2,h3⟩) (round z.1 z.2.1 z.2.2 hz A)
theorem dL {β:Type} {c:Code} {K:List Fr} (T':β→List (Nat×SV)) (H':β→Hp) (I:β→Prop) (A:Sy n T H ks G0 w0 G a w) (h:∀{G a w},Sy n T H ks G0 w0 G a w→Goal P Q (.lp (fun a w=>∃z G,I z∧Sy n (T' z) (H' z) ks G0 w0 G a w)::K) (.code c) a w)
  (hk:∀z,I z→∀{G a w},Sy n (T' z) (H' z) ks G0 w0 G a w→Goal P Q K .norm a w):Goal P Q K (.code c) a w:=by
 refine Code.wp_mono (fun e a' w' h=>?_) (h A)
 cases e with
 |normal=>obtain⟨z,G,h1,h2⟩:=h;exact hk z h1 h2
 |_=>exact h
end
theorem iU {p:Prop}[Decidable p]{E:Ob}(h:p)(k:Cz E):Cz ((decide p,true)::E):=by unfold Cz at*;simp [h,k]
theorem HW {b:Bool}{p:Prop}[Decidable p]{E:Ob}(h:b=true→p)(k:Cz E):Cz ((!b||decide p,true)::E):=by
 unfold Cz at*
 cases b with
 |false=>simp [k]
 |true=>simp [h rfl,k]
theorem BX {b:Bool}{E:Ob}(k:Cz E):Cz ((b,b)::E):=by unfold Cz at*;simp [k]
theorem Fb {w:World}{e s n:Nat}{v:Value}{xs:List Value}(h:w.ownsRow 0 e s v n xs):∃(p:Option Loc),v=.slice (p.map fun L=>⟨L.b,L.pre.length,none⟩) n (0+rm p)∧(∀L,p=some L→L.pre=[])∧v.ownBlock=p.map (·.b):=by
 rcases h.2 with⟨rfl,rfl⟩|⟨g,cap,cur,rfl,_⟩
 ·exact⟨none,rfl,fun L h=>(by cases h),rfl⟩
 ·exact⟨some ⟨g,[],List.replicate cap undef,e⟩,by simp [rm],fun L h=>(by cases h;rfl),rfl⟩
section
variable {P:Program}{X:Tx}{n:Nat}{ks:List Nat}{G0:Gr}{w0:World}{T:List (Nat×SV)}{H:Hp}{G:Gr}{a:Act}{w w':World}{Q:Exit→Act→World→Prop}{K:List Fr}{ops:Array Oper}{o:Oper}{rest:List Oper}
theorem Sy.rowMove (A:Sy n T H ks G0 w0 G a w) {i e s m c m' c':Nat} {f f':Nat→List SV} {xs':List Value} {p':Option Loc} (hi:H[i]?=some (some (.row e s m c f)))
  (hg:w.grownBy w' (((G[i]?).getD none).map (·.b))) (jX:w'.ownsRow 0 e s (.slice (p'.map fun L=>⟨L.b,L.pre.length,none⟩) m' (c'+rm p')) m' xs') (jT:∀L,p'=some L→L.pre=[]) (mL:p'.map (·.b)=((G[i]?).getD none).map (·.b)∨p'.map (·.b)=some w.heap.size)
  (hf:Bt f' m'=some xs') (jC:∀k,∃vs,AE [] (f' k)=some vs∧vs.length=s):Sy n T (Br H i none++[some (.row e s m' c' f')]) ks G0 w0 (G++[p']) a w':=by
 have hlen:=A.mem.len
 have kW:i<H.length:=(List.getElem?_eq_some_iff.1 hi).1
 have nT:(Br H i none).length=H.length:=by rw [Ag];simp
 obtain⟨q,hq⟩:∃q,G[i]?=some q:=⟨G[i],by simp [←hlen,kW]⟩
 rw [hq]at hg mL
 simp only [Option.getD_some]at hg mL
 have hold:∀(j:Nat) (x:A6),(Br H i none++[some (.row e s m' c' f')])[j]?=some (some x)→(j≠i∧H[j]?=some (some x)∧j<H.length)∨(j=H.length∧x=.row e s m' c' f'):=by
  intro j x h
  by_cases hj:j<H.length
  ·rw [List.getElem?_append_left (by omega),Ag]at h
   by_cases jW:j=i
   ·subst jW;rw [List.getElem?_set_self kW]at h;cases h
   ·rw [List.getElem?_set_ne (Ne.symm jW)]at h;exact .inl ⟨jW,h,hj⟩
  ·rw [List.getElem?_append_right (by omega),nT]at h
   have:j - H.length=0:=by
    cases hq:j - H.length with
    |zero=>rfl
    |succ k=>rw [hq]at h;simp at h
   rw [this]at h
   simp at h
   exact .inr ⟨by omega,h.symm⟩
 have hG:∀j,j<H.length→(G++[p'])[j]?=G[j]?:=fun j hj=>List.getElem?_append_left (by omega)
 have kA:(G++[p'])[H.length]?=some p':=by rw [List.getElem?_append_right (by omega),hlen];simp
 have jM:∀(j:Nat) (x:A6) (L:Loc),j≠i→H[j]?=some (some x)→G[j]?=some (some L)→¬x.empty→q.map (·.b)≠some L.b∧L.b<w.heap.size:=by
  intro j x L jW hx hL jF
  have i7:L.b<w.heap.size:=by
   have:=A.mem.ent j x hx
   rw [hL]at this
   exact Ae.lt this jF
  refine⟨fun hb=>?_,i7⟩
  cases q with
  |none=>cases hb
  |some M=>
   simp only [Option.map_some,Option.some.injEq]at hb
   exact A.mem.sep i j _ x M L (Ne.symm jW) hi hx rfl hq hL jF hb
 have pO:CR (match q with|some M=>[M.b]|none=>[]) w w':=⟨hg.os,hg.tape,hg.output,hg.size,fun k hk hc=>hg.block k hk (fun hb=>by
  cases q with
  |none=>cases hb
  |some M=>simp at hb hc;exact hc hb)⟩
 have tM:∀L,p'=some L→(ks.contains L.b=true∨w0.heap.size≤L.b):=by
  intro L hL
  subst hL
  rcases mL with h|h
  ·cases q with
   |none=>cases h
   |some M=>simp at h;rw [h];exact A.own i _ M hi rfl hq
  ·simp at h;right;rw [h];exact A.mix.size
 refine⟨A.size,A.defers,fun t x hx=>AP _ x (A.get t x hx),⟨by simp [nT,hlen],?_,?_⟩,?_,?_,?_⟩
 ·intro j x h
  rcases hold j x h with⟨h1,h2,h3⟩|⟨rfl,rfl⟩
  ·rw [hG j h3]
   refine((A.mem.ent j x h2).mix pO fun jF L hL=>?_).more _
   have:=(jM j x L h1 h2 (Cc hL) jF).1
   cases q with
   |none=>rfl
   |some M=>simp at this⊢;exact fun h=>this h.symm
  ·rw [kA];exact⟨jC,jT,xs',hf,jX⟩
 ·intro j k x y L M kQ h1 h2 h3 h4 h5 h6
  rcases hold j x h1 with⟨a1,a2,a3⟩|⟨rfl,rfl⟩
  ·rw [hG j a3]at h4
   rcases hold k y h2 with⟨b1,b2,b3⟩|⟨rfl,rfl⟩
   ·rw [hG k b3]at h5;exact A.mem.sep j k x y L M kQ a2 b2 h3 h4 h5 h6
   ·rw [kA]at h5
    cases h5
    obtain⟨g1,g2⟩:=jM j x L a1 a2 h4 (At h3)
    intro lX
    rcases mL with h|h
    ·rw [←h]at g1;simp at g1;exact g1 lX.symm
    ·simp at h;omega
  ·rw [kA]at h4
   cases h4
   rcases hold k y h2 with⟨b1,b2,b3⟩|⟨rfl,rfl⟩
   ·rw [hG k b3]at h5
    obtain⟨g1,g2⟩:=jM k y M b1 b2 h5 h6
    intro lX
    rcases mL with h|h
    ·rw [←h]at g1;simp at g1;exact g1 lX
    ·simp at h;omega
   ·exact absurd rfl kQ
 ·obtain⟨F,hF⟩:=A.pre;exact⟨F++[p'],by rw [hF,List.append_assoc]⟩
 ·intro j x L h1 h2 h3
  rcases hold j x h1 with⟨a1,a2,a3⟩|⟨rfl,rfl⟩
  ·rw [hG j a3]at h3;exact A.own j x L a2 h2 h3
  ·rw [kA]at h3;cases h3;exact tM L rfl
 ·refine A.mix.mix pO fun k hk hc=>?_
  cases q with
  |none=>rfl
  |some M=>
   simp only [List.contains_cons,List.contains_nil,Bool.or_false,beq_eq_false_iff_ne,ne_eq]
   intro wU
   subst wU
   rcases A.own i _ M hi rfl hq with h|h
   ·rw [h]at hc;cases hc
   ·omega
theorem Sy.nilRow (A:Sy n T H ks G0 w0 G a w)(t e s:Nat)(f:Nat→List SV)(h:look T t=some (.sla none 0 0))(jC:∀k,∃vs,AE [] (f k)=some vs∧vs.length=s):Sy n ((t,.sl H.length 0 0)::T) (H++[some (.row e s 0 0 f)]) ks G0 w0 (G++[none]) a w:=by
 have hlen:=A.mem.len
 have hold:∀(j:Nat) (x:A6),(H++[some (.row e s 0 0 f)])[j]?=some (some x)→(H[j]?=some (some x)∧j<H.length)∨(j=H.length∧x=.row e s 0 0 f):=by
  intro j x h
  by_cases hj:j<H.length
  ·rw [List.getElem?_append_left hj]at h;exact .inl ⟨h,hj⟩
  ·rw [List.getElem?_append_right (by omega)]at h
   have:j - H.length=0:=by
    cases hq:j - H.length with
    |zero=>rfl
    |succ k=>rw [hq]at h;simp at h
   rw [this]at h
   simp at h
   exact .inr ⟨by omega,h.symm⟩
 have hG:∀j,j<H.length→(G++[(none:Option Loc)])[j]?=G[j]?:=fun j hj=>List.getElem?_append_left (by omega)
 have kA:(G++[(none:Option Loc)])[H.length]?=some none:=by rw [List.getElem?_append_right (by omega),hlen];simp
 have A1:Sy n T (H++[some (.row e s 0 0 f)]) ks G0 w0 (G++[none]) a w:=by
  refine⟨A.size,A.defers,fun t x hx=>AP _ x (A.get t x hx),⟨by simp [hlen],?_,?_⟩,?_,?_,A.mix⟩
  ·intro j x h
   rcases hold j x h with⟨h2,h3⟩|⟨rfl,rfl⟩
   ·rw [hG j h3];exact(A.mem.ent j x h2).more _
   ·rw [kA];exact⟨jC,fun L h=>(by cases h),[],rfl,by simp,.inl ⟨rfl,rfl⟩⟩
  ·intro j k x y L M kQ h1 h2 h3 h4 h5 h6
   rcases hold j x h1 with⟨a2,a3⟩|⟨rfl,rfl⟩
   ·rw [hG j a3]at h4
    rcases hold k y h2 with⟨b2,b3⟩|⟨rfl,rfl⟩
    ·rw [hG k b3]at h5;exact A.mem.sep j k x y L M kQ a2 b2 h3 h4 h5 h6
    ·rw [kA]at h5;cases h5
   ·rw [kA]at h4;cases h4
  ·obtain⟨F,hF⟩:=A.pre;exact⟨F++[none],by rw [hF,List.append_assoc]⟩
  ·intro j x L h1 h2 h3
   rcases hold j x h1 with⟨a2,a3⟩|⟨rfl,rfl⟩
   ·rw [hG j a3]at h3;exact A.own j x L a2 h2 h3
   ·rw [kA]at h3;cases h3
 refine⟨A1.size,A1.defers,fun u x hx=>?_,A1.mem,A1.pre,A1.own,A1.mix⟩
 simp only [look]at hx
 cases hb:Nat.beq t u with
 |true=>
  rw [hb]at hx
  cases hx
  have:=Nat.eq_of_beq_eq_true hb
  subst this
  have:=A.get t _ h
  simp only [den,Option.some.injEq]at this
  unfold den
  rw [kA,←this];rfl
 |false=>rw [hb]at hx;exact A1.get u x hx
def Qb (X:Tx) (n:Nat) (ops:Array Oper) (T:List (Nat×SV)) (H:Hp) (o:Oper):Option ((Nat×Nat×Nat×Nat×Nat)×(Nat→List SV)×List SV×(Nat×Nat)×Ob):=match Ci n o.dst with
 | true =>match iY ops T o.guard with
  | some .run=>match o.op with
   | .call c=>match c.callee,c.args.toList,c.argTypes.toList with
    | .builtin .append,[x,y],[t,t']=>match jR T x,jR T y,Nat.beq t t' with
     | some (.sl i nn cc),some (.sl j 1 1),true=>match lg H i,lg H j,X.get t with
      | some (some (.row e s m c f)),some (some (.blk cs)),some ti=>match ti.elm,Fv cs with
       |some (e',s',b),some E=>match Nat.beq e e'&&Nat.beq s s'&&Nat.beq cs.length s&&Nat.ble b 10000&&Fw 0 cs with
        |true=>some ((i,e,s,m,c),f,cs,(nn,cc),E)
        |false=>none
       |_,_=>none
      |_,_,_=>none
     |_,_,_=>none
    |_,_,_=>none
   |_=>none
  |_=>none
 |false=>none
theorem Ll {Y:Tb} {i e s m c nn cc:Nat} {f:Nat→List SV} {cs:List SV} {E:Ob} (hX:Y.ok P=true) (m':Nat) (f':Nat→List SV) (h:Qb ⟨Y,false⟩ n ops T H o=some ((i,e,s,m,c),f,cs,(nn,cc),E)) (hE:Cz E) (h1:nn=m) (h2:cc=c) (hb:m≤1000000) (mY:m'=m+1)
  (hf:∀k,k<m→f' k=f k) (hn:f' m=cs) (jC:∀k,∃vs,AE [] (f' k)=some vs∧vs.length=s):Aw P n ops ks G0 w0 T H o (.sl H.length m' 0) (Br H i none++[some (.row e s m' 0 f')]):=by
 intro G a w A
 subst mY
 obtain⟨d,op,ty,pos,af,gd⟩:=o
 unfold Qb at h
 split at h
 ·next hd =>
  split at h
  ·next hg=>
   have hw:=An (gd:=none) A hg
   split at h
   ·next ca pP=>
    simp only at pP
    subst pP
    obtain⟨callee,args,ats⟩:=ca
    simp only at h
    split at h
    ·next x y t t' ha ht=>
     split at h
     ·next i' nn' cc' j hx hy nF=>
      split at h
      ·next e' s' m' c1 f1 cs' ti hi hj kO=>
       split at h
       ·next e2 s2 b E' mI tN=>
        split at h
        ·next kE=>
         cases h
         subst h1;subst h2
         simp only [Bool.and_eq_true]at kE
         obtain⟨⟨⟨⟨c1,c2⟩,c3⟩,c4⟩,c5⟩:=kE
         have e1:=Nat.eq_of_beq_eq_true c1
         have e2:=Nat.eq_of_beq_eq_true c2
         have e3:=Nat.eq_of_beq_eq_true c3
         have e4:=Nat.eq_of_beq_eq_true nF
         have o9:=Nat.le_of_ble_eq_true c4
         subst e1;subst e2;subst e4
         rw [Ah]at hi hj
         have j6:args= #[x,y]:=by have:=congrArg List.toArray ha;simpa using this
         have oH:ats= #[t,t]:=by have:=congrArg List.toArray ht;simpa using this
         subst j6;subst oH
         obtain⟨r1,r2,xs,r3,r4⟩:=A.mem.ent i _ hi
         obtain⟨L,vs,b1,b2,b3⟩:=A.mem.ent j _ hj
         obtain⟨ie,z,f1',f2',f3',f4',f5',f6',f7'⟩:=CX (Ct (i:=ti) (Tb.at (X:=Y) hX kO) mI)
         have jB:=A.ev hx
         have jN:=A.ev hy
         obtain⟨q,hq⟩:∃q,G[i]?=some q:=by
          have:i<G.length:=by rw [←A.mem.len];exact(List.getElem?_eq_some_iff.1 hi).1
          exact⟨G[i],by simp [this]⟩
         rw [hq]at r2 r4
         simp only [Option.getD_some]at r2 r4
         unfold den at jB jN
         rw [hq]at jB
         rw [Cc b1]at jN
         simp only [Option.some.injEq]at jB jN
         have tO:AE [] cs=some vs:=by
          have:=BH (G:=G) cs c5
          simp only [List.take_zero]at this
          rw [this];exact b2
         have rC:vs.length=s:=by rw [Av b2,e3]
         have p8:=Ae.range (A.mem.ent j _ hj)
         obtain⟨L2,vs2,g1,g2,g3⟩:=p8
         rw [b1]at g1;cases g1
         rw [b2]at g2;cases g2
         have jD:=CI tN hE b2
         have hmul:(nn+1)*b≤1000001*10000:=Nat.mul_le_mul (by omega) o9
         obtain⟨v',w',hr,k1,k2,_,k4⟩:=run_append_own_at (P:=P) w 0 t ty e ie z s b f1' f2' f3' f4' f5' f6' f7' _ nn xs r4 ⟨L.b,L.pre.length,none⟩ 1 (1+rm (some L)) vs (by omega)
          (fun j u hj=>by rw [Addr.add_mid];exact g3 j u hj) (fun u hu=>(List.all_eq_true.1 jD) u hu) (by simp only [maxLen];omega) (by omega) (Nat.zero_le _)
         obtain⟨p',o1,o2,o3⟩:=Fb k1
         have lO:Bt f' (nn+1)=some (xs++vs):=by
          unfold Bt
          rw [DE hf,r3,hn,tO]
         have oI:Value.ownBlock (.slice (q.map fun L=>⟨L.b,L.pre.length,none⟩) nn (cc+rm q))=q.map (·.b):=by cases q<;>rfl
         rw [oI]at k2 k4
         rw [o3]at k4
         rw [o1]at k1
         refine AR (v:=v') (w':=w') hw ?_ ?_
         ·unfold execOp
          simp only [resolve,invoke,builtin,Sem.run_bind,Sem.run_pure,Result.andThen_ok,List.map_toArray,List.map_cons,List.map_nil,←jB,←jN]
          simp only [Option.map_some]at hr⊢
          simp only [hr,Result.andThen_ok]
         ·have A2:=A.rowMove (p':=p') hi (by rw [hq];exact k2) k1 o2 (by rw [hq];exact k4) lO jC
          refine⟨[p'],?_,A2.ms⟩
          unfold den
          rw [List.getElem?_append_right (by rw [A.mem.len];exact Nat.le_refl _),A.mem.len]
          simp [o1]
        ·cases h
       ·cases h
      ·cases h
     ·cases h
    ·cases h
   ·cases h
  ·cases h
 ·cases h
theorem AW {x:SV}{H':Hp}(A:Sy n T H ks G0 w0 G a w)(hd:Ci n o.dst=true)(h:Aw P n ops ks G0 w0 T H o x H')(hk:∀{G a w},Sy n (Ay T o.dst x) H' ks G0 w0 G a w→Goal P Q K (.ops ops rest) a w):Goal P Q K (.ops ops (o::rest)) a w:=by
 refine CJ (Q:=Fa P Q K) ?_
 rcases h G a w A with⟨hw,h⟩|⟨hw,F,h1,h2⟩
 ·refine .inl ⟨hw,fun Q'=>?_⟩
  refine Oper.wp_mono (fun a' w' hh=>?_) (h Q')
  obtain⟨v,rfl,F,h1,h2⟩:=hh
  exact⟨v,rfl,hk (Sy.put (h2.sy A.size A.defers fun t y hy=>AP F y (A.get t y hy)) hd h1)⟩
 ·exact .inr ⟨hw,hk (Sy.put (h2.sy A.size A.defers fun t y hy=>AP F y (A.get t y hy)) hd h1)⟩
theorem Qc {X:Tx}{r:(Nat×Nat×Nat×Nat×Nat)×(Nat→List SV)×List SV×(Nat×Nat)×Ob}(h:Qb X n ops T H o=some r):Ci n o.dst=true:=by
 unfold Qb at h
 split at h
 ·next hd=>exact hd
 ·cases h
theorem TT {Y:Tb} {i e s m c nn cc:Nat} {f:Nat→List SV} {cs:List SV} {E:Ob} (hX:Y.ok P=true) (m':Nat) (f':Nat→List SV) (A:Sy n T H ks G0 w0 G a w) (h:Qb ⟨Y,false⟩ n ops T H o=some ((i,e,s,m,c),f,cs,(nn,cc),E)) (hE:Cz E) (h1:nn=m) (h2:cc=c) (hb:m≤1000000) (mY:m'=m+1)
  (hf:∀k,k<m→f' k=f k) (hn:f' m=cs) (jC:∀k,∃vs,AE [] (f' k)=some vs∧vs.length=s)
  (hk:∀{G a w},Sy n (Ay T o.dst (.sl H.length m' 0)) (Br H i none++[some (.row e s m' 0 f')]) ks G0 w0 G a w→Goal P Q K (.ops ops rest) a w):Goal P Q K (.ops ops (o::rest)) a w:=
 AW A (Qc h) (Ll hX m' f' h hE h1 h2 hb mY hf hn jC) hk
end
theorem Ds {f:Nat→List SV}{s:Nat}(hs:∀k,∃vs,AE [] (f k)=some vs∧vs.length=s):∀{n:Nat} {xs:List Value},Bt f n=some xs→∀(j:Nat) (u:Value),xs[j]?=some u→∃k q vs,k<n∧AE [] (f k)=some vs∧vs[q]?=some u∧j=k*s+q
 |0,xs,h,j,u,hj=>by cases h;cases hj
 | n+1,xs,h,j,u,hj=>by
  unfold Bt at h
  obtain⟨vs,h1,h2⟩:=hs n
  split at h
  ·next l hl=>
   rw [h1]at h
   cases h
   have oQ:=C4 hs hl
   by_cases nJ:j<l.length
   ·rw [List.getElem?_append_left nJ]at hj
    obtain⟨k,q,us,a1,a2,a3,a4⟩:=Ds hs hl j u hj
    exact⟨k,q,us,by omega,a2,a3,a4⟩
   ·rw [List.getElem?_append_right (by omega)]at hj
    exact⟨n,j - l.length,vs,by omega,h1,hj,by omega⟩
  ·cases h
theorem HX {f:Nat→List SV}:∀(m n:Nat) {xs ys:List Value},Bt f n=some xs→Bt (fun k=>f (n+k)) m=some ys→Bt f (n+m)=some (xs++ys)
 |0,n,xs,ys,h,k=>by cases k;simpa using h
 | m+1,n,xs,ys,h,k=>by
  unfold Bt at k
  split at k
  ·next l hl=>
   split at k
   ·next vs hv=>
    cases k
    rw [show n+(m+1)=(n+m)+1 by omega]
    unfold Bt
    rw [HX m n h hl,hv]
    simp
   ·cases k
  ·cases k
theorem Iu {f f':Nat→List SV}{s k:Nat}{vs':List Value}(hs:∀k,∃vs,AE [] (f k)=some vs∧vs.length=s)(jF:∀j,j≠k→f' j=f j)(hk:AE [] (f' k)=some vs')(hl:vs'.length=s):∀{n:Nat} {xs:List Value},Bt f n=some xs→k<n→Bt f' n=some (xs.take (k*s)++vs'++xs.drop ((k+1)*s))
 |0,xs,h,lC=>by omega
 | n+1,xs,h,lC=>by
  unfold Bt at h
  obtain⟨vs,h1,h2⟩:=hs n
  split at h
  ·next l oQ=>
   rw [h1]at h
   cases h
   have hlen:=C4 hs oQ
   unfold Bt
   by_cases lE:k=n
   ·subst lE
    rw [DE (g:=f) (fun j hj=>jF j (by omega)),oQ,hk]
    simp only [Option.some.injEq]
    rw [List.take_append_of_le_length (by omega),List.take_of_length_le (by omega),List.drop_of_length_le (by simp [Nat.add_mul];omega)]
    simp
   ·rw [Iu hs jF hk hl oQ (by omega),jF n (fun e=>lE e.symm),h1]
    simp only [Option.some.injEq]
    have hmul:(k+1)*s≤n*s:=Nat.mul_le_mul_right s (by omega)
    have vK:(k+1)*s=k*s+s:=by simp [Nat.add_mul]
    rw [List.take_append_of_le_length (by omega),List.drop_append_of_le_length (by omega)]
    simp
  ·cases h
section
variable {P:Program}{X:Tx}{n:Nat}{ks:List Nat}{G0:Gr}{w0:World}{T:List (Nat×SV)}{H:Hp}{G:Gr}{a:Act}{w w':World}{Q:Exit→Act→World→Prop}{K:List Fr}{ops:Array Oper}{o:Oper}{rest:List Oper}
theorem Sy.asList (A:Sy n T H ks G0 w0 G a w)(i:Nat){s m:Nat}{f g:Nat→List SV}{e:A6}(hi:H[i]?=some (some e))(he:(∃ty c,e=.row ty s m c f)∨∃cs,e=.blk cs∧∀k,k<m→tk s (dp (k*s) cs)=some (f k)∧Fw 0 (f k)=true)(hg:∀k,k<m→g k=f k)(jC:∀k,∃vs,AE [] (g k)=some vs):Sy n T (Br H i (some (.lst s m g))) ks G0 w0 G a w:=by
 have kW:i<H.length:=(List.getElem?_eq_some_iff.1 hi).1
 have kJ:e.mut=true:=by rcases he with⟨_,_,rfl⟩|⟨_,rfl,_⟩<;>rfl
 have hold:∀(j:Nat) (x:A6),(Br H i (some (.lst s m g)))[j]?=some (some x)→(j≠i∧H[j]?=some (some x))∨(j=i∧x=.lst s m g):=by
  intro j x h
  rw [Ag]at h
  by_cases hj:j=i
  ·subst hj;rw [List.getElem?_set_self kW]at h;cases h;exact .inr ⟨rfl,rfl⟩
  ·rw [List.getElem?_set_ne (Ne.symm hj)]at h;exact .inl ⟨hj,h⟩
 refine⟨A.size,A.defers,A.get,⟨by rw [Ag];simpa using A.mem.len,?_,?_⟩,A.pre,?_,A.mix⟩
 ·intro j x h
  rcases hold j x h with⟨k1,k2⟩|⟨rfl,rfl⟩
  ·exact A.mem.ent j x k2
  ·refine⟨jC,?_⟩
   by_cases h0:m=0
   ·exact .inl h0
   ·right
    have jH:=A.mem.ent j e hi
    rcases he with⟨ty,c,rfl⟩|⟨cs,rfl,lT⟩
    ·obtain⟨L,_,q1,_⟩:=Cw jH (k:=0) (by omega)
     have i7:L.b<w.heap.size:=by rw [q1]at jH;exact Ae.lt jH (fun h=>h)
     refine⟨L,q1,i7,fun k hk=>?_⟩
     obtain⟨L',vs,r1,r2,_,r4⟩:=Cw jH hk
     rw [q1]at r1;cases r1
     exact⟨vs,by rw [hg k hk];exact r2,r4⟩
    ·obtain⟨L,us,q1,q2,q3⟩:=jH.range
     have i7:L.b<w.heap.size:=by rw [q1]at jH;exact Ae.lt jH (fun h=>h)
     refine⟨L,q1,i7,fun k hk=>?_⟩
     obtain⟨r1,r2⟩:=lT k hk
     obtain⟨r3,r4⟩:=GS r1
     rw [Fu]at r3 r4
     have hd:AE G (f k)=some ((us.drop (k*s)).take s):=by rw [r3];exact Bo s (Bp _ q2)
     refine⟨(us.drop (k*s)).take s,?_,fun q v hv=>?_⟩
     ·rw [hg k hk]
      have:=BH (G:=G) (f k) r2
      simp only [List.take_zero]at this
      rw [this];exact hd
     ·have hq:=(List.getElem?_eq_some_iff.1 hv).1
      simp only [List.length_take,List.length_drop]at hq
      rw [List.getElem?_take_of_lt (by omega),List.getElem?_drop]at hv
      have:=q3 _ v hv
      rwa [←Nat.add_assoc]at this
 ·intro j k x y L M kQ h1 h2 h3 h4 h5 h6
  rcases hold j x h1 with⟨_,a2⟩|⟨rfl,rfl⟩
  ·rcases hold k y h2 with⟨_,b2⟩|⟨rfl,rfl⟩
   ·exact A.mem.sep j k x y L M kQ a2 b2 h3 h4 h5 h6
   ·exact A.mem.sep j k x e L M kQ a2 hi h3 h4 h5 (At kJ)
  ·cases h3
 ·intro j x L h1 h2 h3
  rcases hold j x h1 with⟨_,a2⟩|⟨rfl,rfl⟩
  ·exact A.own j x L a2 h2 h3
  ·cases h2
theorem Sy.freeze (A:Sy n T H ks G0 w0 G a w)(i:Nat){e s m c:Nat}{f:Nat→List SV}(h:lg H i=some (some (.row e s m c f))):Sy n T (Br H i (some (.lst s m f))) ks G0 w0 G a w:=by
 rw [Ah]at h
 exact A.asList i h (.inl ⟨e,c,rfl⟩) (fun _ _=>rfl) (fun k=>by obtain⟨vs,h1,_⟩:=(A.mem.ent i _ h).1 k;exact⟨vs,h1⟩)
theorem Sy.rowSet (A:Sy n T H ks G0 w0 G a w) {i e s m c k q:Nat} {f f':Nat→List SV} {l:List SV} {us:List Value} (hi:H[i]?=some (some (.row e s m c f))) (hk:k<m) (jF:∀j,j≠k→f' j=f j) (rQ:sp q (f k) l=some (f' k)) (hl:AE [] l=some us):∃L,G[i]?=some (some L)∧L.pre=[]∧(∀j,j<l.length→(w.cell? ⟨L.b,k*s+q+j,none⟩).isSome=true∧w.frozen? ⟨L.b,k*s+q+j,none⟩=false)∧
  S5 L.b w (w.setCells L.b (k*s+q) us)∧Sy n T (Br H i (some (.row e s m c f'))) ks G0 w0 G a (w.setCells L.b (k*s+q) us):=by
 have kW:i<H.length:=(List.getElem?_eq_some_iff.1 hi).1
 obtain⟨h1,h2,xs,h3,h4,h5⟩:=A.mem.ent i _ hi
 obtain⟨vs,v1,v2⟩:=h1 k
 obtain⟨p1,p2⟩:=Ht rQ
 have vE:=Av hl
 have vL:AE [] (f' k)=some (vs.take q++us++vs.drop (q+l.length)):=by rw [p1];exact B9 (B9 (Bo q v1) hl) (Bp _ v1)
 have yR:(f k).length=s:=by rw [←Av v1];exact v2
 have jC:∀j,∃vs,AE [] (f' j)=some vs∧vs.length=s:=fun j=>by
  by_cases hj:j=k
  ·subst hj;exact⟨_,vL,by simp;omega⟩
  ·rw [jF j hj];exact h1 j
 rcases h5 with⟨_,h5⟩|⟨g,cap,cur,q1,_,q3,q4,q5,q6,q7⟩
 ·omega
 cases hp:(G[i]?).getD none with
 |none=>rw [hp]at q1;cases q1
 | some L =>
  rw [hp]at q1
  simp only [Option.map_some,Value.slice.injEq,Option.some.injEq,Addr.mk.injEq]at q1
  obtain⟨⟨q8,q9,_⟩,_,q10⟩:=q1
  have jT:=h2 L hp
  subst q8
  have pX:=C4 h1 h3
  have yS:(k+1)*s≤m*s:=Nat.mul_le_mul_right s (by omega)
  have oR:(k+1)*s=k*s+s:=by simp [Nat.add_mul]
  have lT:m*s≤cap*s:=Nat.mul_le_mul_right s q4
  have n6:cur.toList.length=cap*s:=by simpa using q6
  have kI:cur.toList=cur.toList.take (k*s+q)++(cur.toList.drop (k*s+q)).take l.length++cur.toList.drop (k*s+q+l.length):=by
   have e2:cur.toList.drop (k*s+q+l.length)=(cur.toList.drop (k*s+q)).drop l.length:=by rw [List.drop_drop]
   rw [e2,List.append_assoc,List.take_append_drop,List.take_append_drop]
  have lJ:DR w L.b (cur.toList.take (k*s+q)++(cur.toList.drop (k*s+q)).take l.length++cur.toList.drop (k*s+q+l.length)).toArray e:=by rw [←kI];unfold DR;simpa using q3
  have hA:(cur.toList.take (k*s+q)).length=k*s+q:=by simp;omega
  obtain⟨g1,g2⟩:=HO us _ _ _ w (by simp;omega) lJ
  rw [hA]at g1 g2
  refine⟨L,Cc hp,jT,fun j hj=>⟨?_,?_⟩,g2,?_⟩
  ·have i7:k*s+q+j<cur.size:=by omega
   rw [cell_of_row w L.b _ cur e _ q3,Array.getElem?_eq_getElem i7];rfl
  ·have:DR w L.b cur e:=q3
   exact this.frozen _
  have hold:∀(j:Nat) (x:A6),(Br H i (some (.row e s m c f')))[j]?=some (some x)→(j≠i∧H[j]?=some (some x))∨(j=i∧x=.row e s m c f'):=by
   intro j x h
   rw [Ag]at h
   by_cases hj:j=i
   ·subst hj;rw [List.getElem?_set_self kW]at h;cases h;exact .inr ⟨rfl,rfl⟩
   ·rw [List.getElem?_set_ne (Ne.symm hj)]at h;exact .inl ⟨hj,h⟩
  refine⟨A.size,A.defers,A.get,⟨by rw [Ag];simpa using A.mem.len,?_,?_⟩,A.pre,?_,A.mix.upd g2 (A.own i _ L hi rfl (Cc hp))⟩
  ·intro j x h
   rcases hold j x h with⟨k1,k2⟩|⟨rfl,rfl⟩
   ·refine(A.mem.ent j x k2).mix g2.mix fun tP M hM=>?_
    have:=A.mem.sep i j _ x L M (Ne.symm k1) hi k2 rfl (Cc hp) (Cc hM) tP
    simp;exact fun e=>this e.symm
   ·rw [hp]
    refine⟨jC,fun L' wV=>by cases wV;exact jT,_,Iu h1 jF vL (by simp;omega) h3 hk,?_,.inr ⟨L.b,cap,_,?_,Nat.zero_le _,g1,q4,q5,?_,?_⟩⟩
    ·simp;omega
    ·simp [jT,q10]
    ·simp;omega
    ·rw [←q7]
     simp only [List.toList_toArray]
     apply List.ext_getElem?
     intro z
     by_cases hz:z<m*s
     ·rw [List.getElem?_take_of_lt hz]
      have vM:∀z',z'<s→vs[z']?=cur.toList[k*s+z']?:=fun z' yT=>by
       obtain⟨us',u1,u2⟩:=IM h1 h3 k hk
       rw [v1]at u1;cases u1
       have hh:vs[z']?=some (vs[z']'(by omega)):=List.getElem?_eq_getElem (by omega)
       have:=u2 z' _ hh
       rw [←q7,List.getElem?_take_of_lt (by omega)]at this
       rw [hh,this]
      by_cases c1:z<k*s
      ·rw [List.append_assoc,List.append_assoc,List.getElem?_append_left (by simp;omega),List.getElem?_take_of_lt (by omega)]
       rw [List.append_assoc,List.getElem?_append_left (by simp;omega),List.getElem?_take_of_lt c1,List.getElem?_take_of_lt (by omega)]
      ·by_cases c2:z<k*s+q
       ·rw [List.append_assoc,List.getElem?_append_left (by simp;omega),List.getElem?_take_of_lt (by omega)]
        rw [List.append_assoc,List.getElem?_append_right (by simp;omega),List.append_assoc,List.append_assoc,List.getElem?_append_left (by simp;omega),List.getElem?_take_of_lt (by simp;omega)]
        have:=vM (z - k*s) (by omega)
        rw [show k*s+(z - k*s)=z by omega]at this
        rw [←this];congr 1;simp;omega
       ·by_cases c3:z<k*s+q+l.length
        ·rw [List.append_assoc,List.getElem?_append_right (by simp;omega),List.getElem?_append_left (by simp;omega)]
         rw [List.append_assoc,List.getElem?_append_right (by simp;omega),List.append_assoc,List.append_assoc,List.getElem?_append_right (by simp;omega),List.getElem?_append_left (by simp;omega)]
         congr 1;simp;omega
        ·by_cases c4:z<k*s+s
         ·rw [List.getElem?_append_right (by simp;omega),List.getElem?_drop]
          rw [List.append_assoc,List.getElem?_append_right (by simp;omega),List.getElem?_append_left (by simp;omega),List.getElem?_append_right (by simp;omega),List.getElem?_drop]
          have:=vM (z - k*s) (by omega)
          rw [show k*s+(z - k*s)=z by omega]at this
          rw [show k*s+q+l.length+(z - (List.take (k*s+q) cur.toList++us).length)=z by simp;omega,←this]
          congr 1;simp;omega
         ·rw [List.getElem?_append_right (by simp;omega),List.getElem?_drop]
          rw [List.getElem?_append_right (by simp;omega),List.getElem?_drop,List.getElem?_take_of_lt (by simp;omega)]
          congr 1;simp;omega
     ·rw [List.getElem?_eq_none (by simp;omega),List.getElem?_eq_none (by simp;omega)]
  ·intro j k' x y L' M kQ b1 b2 b3 b4 b5 b6
   have a1:∃x',H[j]?=some (some x')∧x'.mut=x.mut:=by
    rcases hold j x b1 with⟨_,k2⟩|⟨rfl,rfl⟩
    ·exact⟨x,k2,rfl⟩
    ·exact⟨_,hi,rfl⟩
   have a2:∃y',H[k']?=some (some y')∧¬y'.empty:=by
    rcases hold k' y b2 with⟨_,k2⟩|⟨rfl,rfl⟩
    ·exact⟨y,k2,b6⟩
    ·exact⟨_,hi,fun h=>h⟩
   obtain⟨x',c1,c2⟩:=a1
   obtain⟨y',c3,c4⟩:=a2
   exact A.mem.sep j k' x' y' L' M kQ c1 c3 (by rw [c2];exact b3) b4 b5 c4
  ·intro j x L' b1 b2 b3
   rcases hold j x b1 with⟨_,k2⟩|⟨rfl,rfl⟩
   ·exact A.own j x L' k2 b2 b3
   ·exact A.own j _ L' hi rfl b3
end
section
variable {P:Program}{Y:Tb}{n:Nat}{ks:List Nat}{G0:Gr}{w0:World}{T:List (Nat×SV)}{H:Hp}{G:Gr}{a:Act}{w w':World}{Q:Exit→Act→World→Prop}{K:List Fr}{ops:Array Oper}{o:Oper}{rest:List Oper}
def Qd (Y:Tb) (n:Nat) (ops:Array Oper) (T:List (Nat×SV)) (H:Hp) (o:Oper):Option ((Nat×Nat×Nat×Nat×Nat)×(Nat→List SV)×(Int×Nat)×List SV×Ob):=match Ci n o.dst with
 | true=>match iY ops T o.guard with
  | some .run=>match o.op with
   | .store t x y=>match jR T x,jR T y with
    | some (.el i s j q),some v=>match lg H i,Y.get t,HQ v with
     | some (some (.row e s' m c f)),some ti,some l=>match Fv l with
      |some E=>match Nat.beq s s'&&Fw 0 l&&(match ti.row,v with|some r,.agg _=>Nat.beq l.length r|none,.agg _=>false|none,_=>ti.one|some _,_=>false)with
       |true=>some ((i,e,s,m,c),f,(j,q),l,E)
       |false=>none
      |none=>none
     |_,_,_=>none
    |_,_=>none
   |_=>none
  |_=>none
 |false=>none
theorem dM {i e s m c q : Nat} {j:Int} {f:Nat→List SV} {l:List SV} {E:Ob} (hY:Y.ok P=true) (k:Nat) (f':Nat→List SV) (h:Qd Y n ops T H o=some ((i,e,s,m,c),f,(j,q),l,E)) (hE:Cz E) (hj:j.toNat=k) (hk:k<m)
    (jF:∀j,j≠k→f' j=f j) (rQ:sp q (f k) l=some (f' k)):Aw P n ops ks G0 w0 T H o (.tup []) (Br H i (some (.row e s m c f'))):=by
  intro G a w A
  obtain⟨d,op,ty,pos,af,gd⟩:=o
  unfold Qd at h
  split at h
  · next hd =>
    split at h
    · next pA=>
      have hw:=An (gd:=none) A pA
      split at h
      · next t x y jG=>
        simp only at jG
        subst jG
        split at h
        · next i' s' j' q' v hx hy=>
          split at h
          · next e' s2 m' c' f1 ti l' hi kO hl=>
            split at h
            · next E' tN=>
              split at h
              · next kE=>
                cases h
                rw [Bool.and_eq_true,Bool.and_eq_true]at kE
                have es:=Nat.eq_of_beq_eq_true kE.1.1
                subst es
                rw [Ah]at hi
                have jN:=A.ev hy
                have jP:=Dp hl jN
                have tQ:AE [] l=some (a.eval y).cells.toList:=by
                  have:=BH (G:=G) l kE.1.2
                  simp only [List.take_zero]at this
                  rw [this];exact jP
                obtain⟨L,hL,jT,j7,hu,A2⟩:=A.rowSet hi hk jF rQ tQ
                have jD:=CI tN hE jP
                have hlen:=Av jP
                have jB:=A.ev hx
                unfold den at jB
                rw [hL]at jB
                simp only [Option.map_some,jT,List.length_nil,Nat.zero_add,hj,Option.some.injEq]at jB
                have nF:=Tb.at hY kO
                refine Jq (w':=w.setCells L.b (k*s+q) (a.eval y).cells.toList) hw ?_ ⟨[],rfl,by rw [List.append_nil];exact A2.ms⟩
                have lQ : (Instr.storeAt t (.pointer (some ⟨L.b,k*s+q,none⟩)) (a.eval y)).run P w=.ok () (w.setCells L.b (k*s+q) (a.eval y).cells.toList):=by
                  cases sO:v with
                  | agg ll=>
                    rw [sO]at kE jN hl
                    cases hr:ti.row with
                    |none=>rw [hr]at kE;exact absurd kE.2 (by simp)
                    | some r=>
                      rw [hr]at kE
                      have lM:=Nat.eq_of_beq_eq_true kE.2
                      unfold den at jN
                      obtain⟨us,u1,u2⟩:=Option.map_eq_some_iff.1 jN
                      rw [←u2]
                      rw [←u2]at jD hlen
                      simp only [Value.cells,List.toList_toArray]at jD hlen⊢
                      have:=run_storeAt_mid (P:=P) w L.b (k*s+q) t us.toArray (fun z hz=>j7 z (by simp at hz;omega)) (by simp;rw [hlen,lM];simpa using (Dl (HN nF hr)).2) (by simpa using jD)
                      simpa using this
                  | _ =>
                    all_goals
                      rw [sO]at kE jN hl
                      cases hr:ti.row with
                      |some r=>rw [hr]at kE;exact absurd kE.2 (by simp)
                      | none =>
                        rw [hr]at kE
                        first
                        |(cases hl;done)
                        | (cases hl
                           have p9:(a.eval y).cells= #[a.eval y]:=by
                             have h1:=hlen
                             have h2:(a.eval y).oneCell'=true∨True:=.inr trivial
                             have kZ:=jP
                             obtain⟨v0,ws,w1,w2,w3⟩:=Au kZ
                             cases w2
                             rw [jN]at w1
                             cases w1
                             apply Array.ext'
                             simpa using w3
                           rw [p9]at jD⊢
                           have hc:=j7 0 (by simp)
                           simp only [Nat.add_zero]at hc
                           simp only [List.all_cons,List.all_nil,Bool.and_true]at jD
                           cases hq:w.cell? ⟨L.b,k*s+q,none⟩with
                           |none=>rw [hq]at hc;cases hc.1
                           | some u=>
                             have ho:=HM nF kE.2
                             unfold oneB at ho
                             rw [Bool.and_eq_true]at ho
                             have p6:(P.info? t).map (·.size)=some 1:=by simpa using ho.2
                             cases hqi:P.info? t with
                             |none=>simp [hqi]at p6
                             | some inf=>
                               have tR:inf.size=1:=by simpa [hqi]using p6
                               have hz:(sizeOf t).run P w=.ok 1 w:=by simp [sizeOf,typeInfo,hqi,tR]
                               have tS:(store ((⟨L.b,k*s+q,none⟩:Addr).add 0) (a.eval y)).run P w=.ok () (w.setCell ⟨L.b,k*s+q,none⟩ (a.eval y)):=by
                                 rw [Addr.add_mid,Nat.add_zero,run_store P w _ _ _ jD,hq]
                                 simp [hc.2]
                               simp [Instr.storeAt,Instr.sureAddr,storeVar,hz,p9,storeCells,tS,World.setCells])
                unfold execOp
                simp only [←jB,Sem.run_bind,lQ,Result.andThen_ok,Sem.run_pure]
              ·cases h
            ·cases h
          ·cases h
        ·cases h
      ·cases h
    ·cases h
  ·cases h
theorem Qe {r:(Nat×Nat×Nat×Nat×Nat)×(Nat→List SV)×(Int×Nat)×List SV×Ob}(h:Qd Y n ops T H o=some r):Ci n o.dst=true:=by
 unfold Qd at h
 split at h
 ·next hd=>exact hd
 ·cases h
theorem gG {i e s m c q:Nat} {j:Int} {f:Nat→List SV} {l:List SV} {E:Ob} (hY:Y.ok P=true) (k:Nat) (f':Nat→List SV) (A:Sy n T H ks G0 w0 G a w) (h:Qd Y n ops T H o=some ((i,e,s,m,c),f,(j,q),l,E)) (hE:Cz E) (hj:j.toNat=k) (hk:k<m)
  (jF:∀j,j≠k→f' j=f j) (rQ:sp q (f k) l=some (f' k)) (hg:∀{G a w},Sy n (Ay T o.dst (.tup [])) (Br H i (some (.row e s m c f'))) ks G0 w0 G a w→Goal P Q K (.ops ops rest) a w):Goal P Q K (.ops ops (o::rest)) a w:=
 AW A (Qe h) (dM hY k f' h hE hj hk jF rQ) hg
end
section
variable {P:Program}{Y:Tb}{n:Nat}{ks:List Nat}{G0:Gr}{w0:World}{T:List (Nat×SV)}{H:Hp}{G:Gr}{a:Act}{w w':World}{Q:Exit→Act→World→Prop}{K:List Fr}{ops:Array Oper}{o:Oper}{rest:List Oper}
def TU (Y:Tb) (n:Nat) (ops:Array Oper) (T:List (Nat×SV)) (H:Hp) (o:Oper):Option ((Nat×Nat×Nat×Nat×Nat)×(Nat→List SV)×(Nat×Nat×Nat)×(Nat→List SV)×(Nat×Nat)):=match Ci n o.dst with
 | true =>match iY ops T o.guard with
  | some .run=>match o.op with
   | .call c=>match c.callee,c.args.toList,c.argTypes.toList with
    | .builtin .append,[x,y],[t,t']=>match jR T x,jR T y,Nat.beq t t' with
     | some (.sl i nn cc),some (.sl j mm mc),true=>match lg H i,partsOf (lg H j),Y.get t with
      | some (some (.row e s m c f)),some (s2,mb,g),some ti=>match ti.elm with
       |some (e',s',b)=>match Nat.beq e e'&&Nat.beq s s'&&Nat.beq s s2&&Nat.ble b 10000 with
        |true=>some ((i,e,s,m,c),f,(mm,mb,mc),g,(nn,cc))
        |false=>none
       |_=>none
      |_,_,_=>none
     |_,_,_=>none
    |_,_,_=>none
   |_=>none
  |_=>none
 |false=>none
theorem WR {i e s m c nn cc mm mb mc:Nat} {f g:Nat→List SV} (hY:Y.ok P=true) (m':Nat) (f':Nat→List SV) (A:Sy n T H ks G0 w0 G a w) (h:TU Y n ops T H o=some ((i,e,s,m,c),f,(mm,mb,mc),g,(nn,cc))) (h1:nn=m) (h2:cc=c) (tT:c=0) (wW:mm≤mb) (hb:m≤1000000) (n5:mm≤1000000) (mY:m'=m+mm)
  (hf:∀k,k<m→f' k=f k) (hn:∀k,k<mm→f' (m+k)=g k) (jC:∀k,∃vs,AE [] (f' k)=some vs∧vs.length=s) (jD:∀k,k<mm→∃E,Fv (g k)=some E∧Cz E)
  (hk:∀{G a w},Sy n (Ay T o.dst (.sl H.length m' 0)) (Br H i none++[some (.row e s m' 0 f')]) ks G0 w0 G a w→Goal P Q K (.ops ops rest) a w):Goal P Q K (.ops ops (o::rest)) a w:=by
 subst mY
 obtain⟨d,op,ty,pos,af,gd⟩:=o
 unfold TU at h
 split at h
 ·next hd =>
  split at h
  ·next pA =>
   have hw:=An (gd:=none) A pA
   split at h
   ·next ca pP=>
    simp only at pP
    subst pP
    obtain⟨callee,args,ats⟩:=ca
    simp only at h
    split at h
    ·next x y t t' ha ht=>
     split at h
     ·next i' nn' cc' j mm' mc' hx hy nF=>
      split at h
      ·next e' s' m' c1 f1 s2 mb' g' ti hi hj kO=>
       split at h
       ·next e2 s3 b mI=>
        split at h
        ·next kE=>
         cases h
         subst h1;subst h2
         simp only [Bool.and_eq_true]at kE
         obtain⟨⟨⟨c1,c2⟩,c3⟩,c4⟩:=kE
         have e1:=Nat.eq_of_beq_eq_true c1
         have e2':=Nat.eq_of_beq_eq_true c2
         have e3:=Nat.eq_of_beq_eq_true c3
         have e4:=Nat.eq_of_beq_eq_true nF
         have o9:=Nat.le_of_ble_eq_true c4
         subst e1;subst e2';subst e3;subst e4
         rw [Ah]at hi
         have j6:args= #[x,y]:=by have:=congrArg List.toArray ha;simpa using this
         have oH:ats= #[t,t]:=by have:=congrArg List.toArray ht;simpa using this
         subst j6;subst oH
         obtain⟨r1,r2,xs,r3,r4⟩:=A.mem.ent i _ hi
         obtain⟨g1,g2⟩:=EO A.mem hj
         obtain⟨ie,z,f1',f2',f3',f4',f5',f6',f7'⟩:=CX (Ct (Tb.at hY kO) mI)
         have jB:=A.ev hx
         have jN:=A.ev hy
         obtain⟨q,hq⟩:∃q,G[i]?=some q:=by
          have:i<G.length:=by rw [←A.mem.len];exact(List.getElem?_eq_some_iff.1 hi).1
          exact⟨G[i],by simp [this]⟩
         rw [hq]at r2 r4
         simp only [Option.getD_some]at r2 r4
         unfold den at jB jN
         rw [hq]at jB
         simp only [Option.some.injEq]at jB
         have wX:∀k,k<mm→∃vs,AE [] (g k)=some vs∧vs.length=s:=fun k hk=>by rw [←hn k hk];exact jC _
         obtain⟨ys,mM⟩:=IL (f:=fun k=>f' (nn+k)) (fun k=>jC _) mm
         have oW:=C4 (f:=fun k=>f' (nn+k)) (fun k=>jC _) mM
         have lO:Bt f' (nn+mm)=some (xs++ys):=HX mm nn (by rw [DE hf];exact r3) mM
         have oI:Value.ownBlock (.slice (q.map fun L=>⟨L.b,L.pre.length,none⟩) nn (cc+rm q))=q.map (·.b):=by cases q<;>rfl
         by_cases h0:mm=0
         ·subst h0
          cases mM
          have nC:Src P ie.size t (a.eval y) 0 [] w:=by
           split at jN
           ·next p hp=>
            rw [←Option.some.inj jN]
            cases p with
            |none=>exact Src.ofNil w f1' mc
            |some L=>exact Src.ofSlice w f1' _ 0 _ [] (by simp) (fun j u hj=>by simp at hj) (fun u hu=>by cases hu)
           ·cases jN
          have qT:nn≤cc+rm q:=by
           rcases r4.2 with⟨q1,q2⟩|⟨g,cap,cur,q1,_,_,q4,_⟩
           ·omega
           ·cases q<;>simp at q1;omega
          have hr:=run_append_nothing (P:=P) w t t ty e ie f1' f2' (q.map fun L=>⟨L.b,L.pre.length,none⟩) nn (cc+rm q) qT _ nC
          refine CJ (Q:=Fa P Q K) (AR (v:=.slice (q.map fun L=>⟨L.b,L.pre.length,none⟩) nn (cc+rm q)) (w':=w) hw ?_ ?_)
          ·unfold execOp
           simp only [resolve,invoke,builtin,Sem.run_bind,Sem.run_pure,Result.andThen_ok,List.map_toArray,List.map_cons,List.map_nil,←jB,hr]
          ·have A2:=A.rowMove (w':=w) (p':=q) (m':=nn+0) (c':=cc) (xs':=xs++[]) hi ⟨rfl,rfl,rfl,Nat.le_refl _,fun _ _ _=>rfl⟩ (by simpa using r4) r2 (.inl (by rw [hq];rfl)) lO jC
           subst tT
           refine hk (Sy.put A2 hd ?_)
           unfold den
           rw [List.getElem?_append_right (by rw [A.mem.len];exact Nat.le_refl _),A.mem.len]
           simp
         ·obtain⟨L,vs0,b1,_⟩:=g2 0 (by omega)
          rw [Cc b1]at jN
          simp only [Option.map_some,Option.some.injEq]at jN
          have hmul:(nn+mm)*b≤2000000*10000:=Nat.mul_le_mul (by omega) o9
          obtain⟨v',w',hr,k1,k2,_,k4⟩:=run_append_own_at (P:=P) w 0 t ty e ie z s b f1' f2' f3' f4' f5' f6' f7' _ nn xs r4 ⟨L.b,L.pre.length,none⟩ mm (mc+rm (some L)) ys oW
           (fun j u hj=>by
            obtain⟨k,r,us,d1,d2,d3,d4⟩:=Ds (f:=fun k=>f' (nn+k)) (fun k=>jC _) mM j u hj
            obtain⟨L',us',b1',b2',b3'⟩:=g2 k (by omega)
            rw [b1]at b1';cases b1'
            rw [hn k d1,b2']at d2
            cases d2
            have:=b3' r u d3
            rw [Addr.add_mid,d4,←Nat.add_assoc]
            exact this)
           (fun u hu=>by
            obtain⟨j,hj⟩:=List.mem_iff_getElem?.1 hu
            obtain⟨k,r,us,d1,d2,d3,d4⟩:=Ds (f:=fun k=>f' (nn+k)) (fun k=>jC _) mM j u hj
            rw [hn k d1]at d2
            obtain⟨E,o1,o2⟩:=jD k d1
            exact List.all_eq_true.1 (CI o1 o2 d2) u (List.mem_of_getElem? d3))
           (by simp only [maxLen];omega) (by omega) (Nat.zero_le _)
          obtain⟨p',o1,o2,o3⟩:=Fb k1
          rw [oI]at k2 k4
          rw [o3]at k4
          rw [o1]at k1
          refine CJ (Q:=Fa P Q K) (AR (v:=v') (w':=w') hw ?_ ?_)
          ·unfold execOp
           simp only [resolve,invoke,builtin,Sem.run_bind,Sem.run_pure,Result.andThen_ok,List.map_toArray,List.map_cons,List.map_nil,←jB,←jN,hr]
          ·have A2:=A.rowMove (p':=p') hi (by rw [hq];exact k2) k1 o2 (by rw [hq];exact k4) lO jC
           refine hk (Sy.put A2 hd ?_)
           unfold den
           rw [List.getElem?_append_right (by rw [A.mem.len];exact Nat.le_refl _),A.mem.len]
           simp [o1]
        ·cases h
       ·cases h
      ·cases h
     ·cases h
    ·cases h
   ·cases h
  ·cases h
 ·cases h
end
section
variable {n:Nat}{ks:List Nat}{G0:Gr}{w0:World}{T:List (Nat×SV)}{H:Hp}{G:Gr}{a:Act}{w:World}
theorem Sy.rowAs (A:Sy n T H ks G0 w0 G a w)(i m':Nat)(f':Nat→List SV){e s m c:Nat}{f:Nat→List SV}(h:lg H i=some (some (.row e s m c f)))(hm:m'=m)(hf:∀k,k<m→f' k=f k)(jC:∀k,∃vs,AE [] (f' k)=some vs∧vs.length=s):Sy n T (Br H i (some (.row e s m' c f'))) ks G0 w0 G a w:=by
 subst hm
 rw [Ah]at h
 have kW:i<H.length:=(List.getElem?_eq_some_iff.1 h).1
 have hold:∀(j:Nat) (x:A6),(Br H i (some (.row e s m' c f')))[j]?=some (some x)→(j≠i∧H[j]?=some (some x))∨(j=i∧x=.row e s m' c f'):=by
  intro j x h
  rw [Ag]at h
  by_cases hj:j=i
  ·subst hj;rw [List.getElem?_set_self kW]at h;cases h;exact .inr ⟨rfl,rfl⟩
  ·rw [List.getElem?_set_ne (Ne.symm hj)]at h;exact .inl ⟨hj,h⟩
 refine⟨A.size,A.defers,A.get,⟨by rw [Ag];simpa using A.mem.len,?_,?_⟩,A.pre,?_,A.mix⟩
 ·intro j x hx
  rcases hold j x hx with⟨k1,k2⟩|⟨rfl,rfl⟩
  ·exact A.mem.ent j x k2
  ·obtain⟨h1,h2,xs,h3,h4⟩:=A.mem.ent j _ h
   exact⟨jC,h2,xs,by rw [DE hf];exact h3,h4⟩
 ·intro j k x y L M kQ b1 b2 b3 b4 b5 b6
  have a1:∃x',H[j]?=some (some x')∧x'.mut=x.mut:=by
   rcases hold j x b1 with⟨_,k2⟩|⟨rfl,rfl⟩
   ·exact⟨x,k2,rfl⟩
   ·exact⟨_,h,rfl⟩
  have a2:∃y',H[k]?=some (some y')∧¬y'.empty:=by
   rcases hold k y b2 with⟨_,k2⟩|⟨rfl,rfl⟩
   ·exact⟨y,k2,b6⟩
   ·exact⟨_,h,fun h=>h⟩
  obtain⟨x',c1,c2⟩:=a1
  obtain⟨y',c3,c4⟩:=a2
  exact A.mem.sep j k x' y' L M kQ c1 c3 (by rw [c2];exact b3) b4 b5 c4
 ·intro j x L b1 b2 b3
  rcases hold j x b1 with⟨_,k2⟩|⟨rfl,rfl⟩
  ·exact A.own j x L k2 b2 b3
  ·exact A.own j _ L h rfl b3
end
section
variable {α:Type}{l m:List α}{d x:α}{k:Nat}
theorem i6 (h:k<l.length):(l++m).getD k d=l.getD k d:=by simp [List.getD,List.getElem?_append_left h]
theorem Bh:(l++m).getD (l.length+k) d=m.getD k d:=by simp [List.getD,List.getElem?_append_right]
theorem Dt:(l++[x]).getD l.length d=x:=by simp [List.getD]
end
end Go.Proofs.YtbbdanhpphlbpaaGreatDoor
namespace Go.Proofs.YtbbdanhpphlbpaaGreatDoor
open Go.RowKit
abbrev zI:SV:=.int .i64 0
abbrev zS:SV:=.str []
def X:Tb:=(.n 140 ⟨true,none,(some [.sla none 0 0]),[],none,false,false,(some (125,10,96)),none,none⟩ (.n 70 ⟨false,(some 3),(some [zI,zI,zI]),[],none,false,false,none,(some [0,0,0]),(some (3,3,1))⟩ (.n 29 ⟨true,none,(some [.sla none 0 0]),[],none,false,false,(some (3,1,8)),none,none⟩ (.n 22 ⟨false,(some 3),(some [zI,zI,zI]),[],none,false,false,none,(some [0,0,0]),(some (3,3,1))⟩ (.n 5 ⟨true,none,(some [.int .u8 0]),[],(some .u8),false,false,none,none,none⟩ (.n 3 ⟨true,none,(some [zI]),[],(some .i64),false,false,none,none,none⟩ (.n 2 ⟨true,none,(some [zI]),[],(some .i64),false,false,none,none,none⟩ .e .e) (.n 4 ⟨true,none,(some [.ff]),[],none,false,true,none,none,none⟩ .e .e)) (.n 21 ⟨true,none,(some [.int .i32 0]),[],(some .i32),false,false,none,none,none⟩ (.n 9 ⟨true,none,(some [zS]),[],none,true,false,none,none,none⟩ .e .e) .e)) (.n 25 ⟨true,none,(some [.sla none 0 0]),[],none,false,false,(some (64,1,24)),none,none⟩ (.n 24 ⟨false,(some 24),(some [zI,zI,zI,zI,zI,zI,zI,zI,zI,zI,zI,zI,zI,zI,zI,zI,zI,zI,zI,zI,zI,zI,zI,zI]),[],none,false,false,none,(some [0,0,0,0,0,0,0,0,0,0,0,0,0,0,0,0,0,0,0,0,0,0,0,0]),(some (3,23,8))⟩ (.n 23 ⟨false,(some 8),(some [zI,zI,zI,zI,zI,zI,zI,zI]),[],none,false,false,none,(some [0,0,0,0,0,0,0,0]),(some (8,3,1))⟩ .e .e) .e) (.n 28 ⟨false,(some 32),(some [zI,zS,zI,zI,zI,zI,zI,zI,zI,zI,zI,zI,zI,zI,zI,zI,zI,zI,zI,zI,zI,zI,zI,zI,zI,zI,zI,zI,zI,.sla none 0 0,zI,.sla none 0 0]),[(3,0,1),(9,1,1),(22,2,3),(24,5,24),(25,29,1),(3,30,1),(26,31,1)],none,false,false,none,none,none⟩ (.n 26 ⟨true,none,(some [.sla none 0 0]),[],none,false,false,(some (66,5,40)),none,none⟩ .e .e) .e))) (.n 53 ⟨false,(some 27),(some [zI,zI,zI,zI,zI,zI,zI,zI,zI,zI,zI,zI,zI,zI,zI,zI,zI,zI,zI,zI,zI,zI,zI,zI,zI,zI,zI]),[(24,0,24),(22,24,3)],none,false,false,none,(some [0,0,0,0,0,0,0,0,0,0,0,0,0,0,0,0,0,0,0,0,0,0,0,0,0,0,0]),none⟩ (.n 39 ⟨true,none,(some [.sla none 0 0]),[],none,false,false,(some (44,4,32)),none,none⟩ (.n 33 ⟨true,none,(some [.v (.pointer none)]),[],none,false,false,none,none,none⟩ (.n 31 ⟨true,none,(some [zI]),[],(some .i64),false,false,none,none,none⟩ .e .e) (.n 36 ⟨true,none,(some [.v (.pointer none)]),[],none,false,false,none,none,none⟩ .e .e)) (.n 48 ⟨true,none,(some [.v .nilIface]),[],none,false,false,none,none,none⟩ (.n 44 ⟨false,(some 4),(some [zI,zI,zI,zI]),[(3,0,1),(3,1,1),(3,2,1),(3,3,1)],none,false,false,none,(some [0,0,0,0]),none⟩ .e .e) .e)) (.n 64 ⟨true,none,(some [.sla none 0 0]),[],none,false,false,(some (63,17,120)),none,none⟩ (.n 63 ⟨false,(some 17),(some [zI,zI,zI,zI,zI,zI,zI,zI,zI,zI,.ff,.ff,.ff,zI,zI,zI,.ff]),[(3,0,1),(3,1,1),(3,2,1),(3,3,1),(3,4,1),(3,5,1),(3,6,1),(3,7,1),(3,8,1),(3,9,1),(4,10,1),(4,11,1),(4,12,1),(3,13,1),(3,14,1),(3,15,1),(4,16,1)],none,false,false,none,(some [0,0,0,0,0,0,0,0,0,0,1,1,1,0,0,0,1]),none⟩ (.n 58 ⟨true,none,(some [.v (.pointer none)]),[],none,false,false,none,none,none⟩ .e .e) .e) (.n 69 ⟨true,none,(some [.v (.pointer none)]),[],none,false,false,none,none,none⟩ (.n 66 ⟨false,(some 5),(some [zI,zI,zI,zI,zI]),[(3,0,1),(3,1,1),(3,2,1),(3,3,1),(3,4,1)],none,false,false,none,(some [0,0,0,0,0]),none⟩ .e .e) .e)))) (.n 99 ⟨true,none,(some [.v (.pointer none)]),[],none,false,false,none,none,none⟩ (.n 82 ⟨true,none,(some [.v .nilFunc]),[],none,false,false,none,none,none⟩ (.n 79 ⟨false,(some 4),(some [.v (.pointer none),zI,zI,zI]),[(69,0,1),(70,1,3)],none,false,false,none,none,none⟩ (.n 73 ⟨false,(some 3),(some [.sla none 0 0,.sla none 0 0,.sla none 0 0]),[],none,false,false,none,none,(some (3,72,1))⟩ (.n 72 ⟨true,none,(some [.sla none 0 0]),[],none,false,false,(some (123,3,24)),none,none⟩ .e .e) (.n 75 ⟨false,(some 7),(some [.v (.pointer none),zI,zI,zI,.sla none 0 0,.sla none 0 0,.sla none 0 0]),[(69,0,1),(70,1,3),(73,4,3)],none,false,false,none,none,none⟩ .e .e)) (.n 81 ⟨true,none,(some [.v .nilFunc]),[],none,false,false,none,none,none⟩ (.n 80 ⟨true,none,(some [.v .nilFunc]),[],none,false,false,none,none,none⟩ .e .e) .e)) (.n 95 ⟨true,none,(some [.sla none 0 0]),[],none,false,false,(some (107,3,24)),none,none⟩ (.n 94 ⟨true,none,(some [.sla none 0 0]),[],none,false,false,(some (99,1,8)),none,none⟩ (.n 84 ⟨false,(some 4),(some [zS,.v .nilFunc,.v .nilFunc,.v .nilFunc]),[(9,0,1),(80,1,1),(81,2,1),(82,3,1)],none,false,false,none,none,none⟩ .e .e) .e) (.n 98 ⟨false,(some 40),(some [zI,zS,zI,zI,zI,zI,zI,zI,zI,zI,zI,zI,zI,zI,zI,zI,zI,zI,zI,zI,zI,zI,zI,zI,zI,zI,zI,zI,zI,.sla none 0 0,zI,.sla none 0 0,.sla none 0 0,zI,zI,zI,.sla none 0 0,.sla none 0 0,.sla none 0 0,.ff]),[(28,0,32),(94,32,1),(22,33,3),(96,36,3),(4,39,1)],none,false,false,none,none,none⟩ (.n 96 ⟨false,(some 3),(some [.sla none 0 0,.sla none 0 0,.sla none 0 0]),[],none,false,false,none,none,(some (3,95,1))⟩ .e .e) .e))) (.n 125 ⟨false,(some 10),(some [.sla none 0 0,zI,zI,zI,zI,zI,zI,zI,zI,zI]),[(64,0,1),(3,1,1),(23,2,8)],none,false,false,none,none,none⟩ (.n 108 ⟨true,none,(some [.v .nilFunc]),[],none,false,false,none,none,none⟩ (.n 105 ⟨false,(some 2),(some [zI,zI]),[(3,0,1),(3,1,1)],none,false,false,none,(some [0,0]),none⟩ (.n 101 ⟨false,(some 11),(some [.sla none 0 0,zI,zI,zI,zI,zI,zI,zI,zI,zI,.sla none 0 0]),[(64,0,1),(23,1,8),(3,9,1),(29,10,1)],none,false,false,none,none,none⟩ .e .e) (.n 107 ⟨false,(some 3),(some [zI,zI,zI]),[(105,0,2),(3,2,1)],none,false,false,none,(some [0,0,0]),none⟩ .e .e)) (.n 123 ⟨false,(some 3),(some [zI,zI,zI]),[(105,0,2),(3,2,1)],none,false,false,none,(some [0,0,0]),none⟩ (.n 112 ⟨false,(some 15),(some [zI,zI,zI,zI,zI,zI,.ff,.ff,zI,zI,.ff,.ff,.ff,zI,zI]),[(3,0,1),(3,1,1),(3,2,1),(3,3,1),(105,4,2),(4,6,1),(4,7,1),(3,8,1),(3,9,1),(4,10,1),(4,11,1),(4,12,1),(3,13,1),(3,14,1)],none,false,false,none,(some [0,0,0,0,0,0,1,1,0,0,1,1,1,0,0]),none⟩ .e .e) .e)) (.n 130 ⟨true,none,(some [.sla none 0 0]),[],none,false,false,(some (134,4,40)),none,none⟩ (.n 128 ⟨true,none,(some [.sla none 0 0]),[],none,false,false,(some (84,4,40)),none,none⟩ (.n 126 ⟨true,none,(some [.v (.pointer none)]),[],none,false,false,none,none,none⟩ .e .e) .e) (.n 139 ⟨true,none,(some [.sla none 0 0]),[],none,false,false,(some (23,8,64)),none,none⟩ (.n 134 ⟨false,(some 4),(some [zI,zS,zI,zI]),[(3,0,1),(9,1,1),(3,2,1),(3,3,1)],none,false,false,none,(some [0,2,0,0]),none⟩ .e .e) .e))))) (.n 233 ⟨false,(some 2),(some [.sla none 0 0,zI]),[(130,0,1),(3,1,1)],none,false,false,none,none,none⟩ (.n 191 ⟨true,none,(some [.v (.pointer none)]),[],none,false,false,none,none,none⟩ (.n 173 ⟨true,none,(some [.sla none 0 0]),[],none,false,false,(some (203,20,176)),none,none⟩ (.n 170 ⟨false,(some 8),(some [zS,zS,zS,zS,zS,zS,zS,zS]),[],none,false,false,none,(some [2,2,2,2,2,2,2,2]),(some (8,9,1))⟩ (.n 152 ⟨true,none,(some [.sla none 0 0]),[],none,false,false,(some (5,1,1)),none,none⟩ (.n 142 ⟨false,(some 1),(some [.sla none 0 0]),[(140,0,1)],none,false,false,none,none,none⟩ .e .e) (.n 154 ⟨true,none,(some [.v (.pointer none)]),[],none,false,false,none,none,none⟩ .e .e)) (.n 172 ⟨false,(some 3),(some [zS,zS,zS]),[],none,false,false,none,(some [2,2,2]),(some (3,9,1))⟩ (.n 171 ⟨false,(some 4),(some [zS,zS,zS,zS]),[],none,false,false,none,(some [2,2,2,2]),(some (4,9,1))⟩ .e .e) .e)) (.n 185 ⟨true,none,(some [.int .u64 0]),[],(some .u64),false,false,none,none,none⟩ (.n 178 ⟨true,none,(some [.v .nilFunc]),[],none,false,false,none,none,none⟩ (.n 175 ⟨false,(some 17),(some [zS,zS,zS,zS,zS,zS,zS,zS,zS,zS,zS,zS,zS,zS,zS,zS,.sla none 0 0]),[(170,0,8),(171,8,4),(9,12,1),(172,13,3),(173,16,1)],none,false,false,none,none,none⟩ .e .e) .e) (.n 190 ⟨true,none,(some [.v (.pointer none)]),[],none,false,false,none,none,none⟩ (.n 188 ⟨true,none,(some [.int .u64 0]),[],(some .u64),false,false,none,none,none⟩ .e .e) .e))) (.n 208 ⟨true,none,(some [zI]),[],(some .i64),false,false,none,none,none⟩ (.n 201 ⟨true,none,(some [.sla none 0 0]),[],none,false,false,(some (208,1,8)),none,none⟩ (.n 195 ⟨true,none,(some [.v (.pointer none)]),[],none,false,false,none,none,none⟩ (.n 194 ⟨false,(some 36),(some [.v (.pointer none),zS,zS,zS,zS,zS,zS,zS,zS,zS,zS,zS,zS,zS,zS,zS,zS,.sla none 0 0,zI,zI,zI,zI,zI,zI,zI,zI,zI,zI,.ff,.ff,.ff,zI,zI,zI,.ff,zS]),[(191,0,1),(175,1,17),(63,18,17),(9,35,1)],none,false,false,none,none,none⟩ .e .e) (.n 197 ⟨false,(some 3),(some [.v (.pointer none),zI,zI]),[(195,0,1),(31,1,1),(3,2,1)],none,false,false,none,none,none⟩ .e .e)) (.n 207 ⟨true,none,(some [.sla none 0 0]),[],none,false,false,(some (9,1,16)),none,none⟩ (.n 203 ⟨false,(some 20),(some [zS,zS,zI,zI,zI,zI,zI,zI,zI,zI,zI,zI,.ff,.ff,.ff,zI,zI,zI,.ff,.sla none 0 0]),[(9,0,1),(9,1,1),(63,2,17),(201,19,1)],none,false,false,none,none,none⟩ .e .e) .e)) (.n 226 ⟨true,none,(some [.int .u32 0]),[],(some .u32),false,false,none,none,none⟩ (.n 220 ⟨false,(some 24),(some [.int .u8 0,.int .u8 0,.int .u8 0,.int .u8 0,.int .u8 0,.int .u8 0,.int .u8 0,.int .u8 0,.int .u8 0,.int .u8 0,.int .u8 0,.int .u8 0,.int .u8 0,.int .u8 0,.int .u8 0,.int .u8 0,.int .u8 0,.int .u8 0,.int .u8 0,.int .u8 0,.int .u8 0,.int .u8 0,.int .u8 0,.int .u8 0]),[],none,false,false,none,(some [0,0,0,0,0,0,0,0,0,0,0,0,0,0,0,0,0,0,0,0,0,0,0,0]),(some (24,5,1))⟩ (.n 215 ⟨true,none,(some [.v .nilIface]),[],none,false,false,none,none,none⟩ .e .e) .e) (.n 228 ⟨true,none,(some [.sla none 0 0]),[],none,false,false,(some (227,2,24)),none,none⟩ (.n 227 ⟨false,(some 2),(some [zS,zI]),[(9,0,1),(3,1,1)],none,false,false,none,(some [2,0]),none⟩ .e .e) .e)))) (.n 257 ⟨true,none,(some [.sla none 0 0]),[],none,false,false,(some (256,3,32)),none,none⟩ (.n 251 ⟨true,none,(some [.sla none 0 0]),[],none,false,false,(some (250,3,24)),none,none⟩ (.n 248 ⟨false,(some 2),(some [zS,zI]),[(9,0,1),(3,1,1)],none,false,false,none,(some [2,0]),none⟩ (.n 244 ⟨false,(some 2),(some [.v (.pointer none),.sla none 0 0]),[(242,0,1),(152,1,1)],none,false,false,none,none,none⟩ (.n 242 ⟨true,none,(some [.v (.pointer none)]),[],none,false,false,none,none,none⟩ .e .e) (.n 247 ⟨true,none,(some [.sla none 0 0]),[],none,false,false,(some (173,1,24)),none,none⟩ .e .e)) (.n 250 ⟨false,(some 3),(some [zS,.ff,.ff]),[(9,0,1),(4,1,1),(4,2,1)],none,false,false,none,(some [2,1,1]),none⟩ (.n 249 ⟨true,none,(some [.sla none 0 0]),[],none,false,false,(some (248,2,24)),none,none⟩ .e .e) .e)) (.n 254 ⟨false,(some 3),(some [zS,.ff,.ff]),[(9,0,1),(4,1,1),(4,2,1)],none,false,false,none,(some [2,1,1]),none⟩ (.n 253 ⟨true,none,(some [.sla none 0 0]),[],none,false,false,(some (252,2,24)),none,none⟩ (.n 252 ⟨false,(some 2),(some [zS,zI]),[(9,0,1),(3,1,1)],none,false,false,none,(some [2,0]),none⟩ .e .e) .e) (.n 256 ⟨false,(some 3),(some [zS,zI,zI]),[(9,0,1),(3,1,1),(3,2,1)],none,false,false,none,(some [2,0,0]),none⟩ (.n 255 ⟨true,none,(some [.sla none 0 0]),[],none,false,false,(some (254,3,24)),none,none⟩ .e .e) .e))) (.n 277 ⟨true,none,(some [.v (.pointer none)]),[],none,false,false,none,none,none⟩ (.n 262 ⟨false,(some 32),(some [.int .u8 0,.int .u8 0,.int .u8 0,.int .u8 0,.int .u8 0,.int .u8 0,.int .u8 0,.int .u8 0,.int .u8 0,.int .u8 0,.int .u8 0,.int .u8 0,.int .u8 0,.int .u8 0,.int .u8 0,.int .u8 0,.int .u8 0,.int .u8 0,.int .u8 0,.int .u8 0,.int .u8 0,.int .u8 0,.int .u8 0,.int .u8 0,.int .u8 0,.int .u8 0,.int .u8 0,.int .u8 0,.int .u8 0,.int .u8 0,.int .u8 0,.int .u8 0]),[],none,false,false,none,(some [0,0,0,0,0,0,0,0,0,0,0,0,0,0,0,0,0,0,0,0,0,0,0,0,0,0,0,0,0,0,0,0]),(some (32,5,1))⟩ (.n 261 ⟨false,(some 65),(some [.int .u8 0,.int .u8 0,.int .u8 0,.int .u8 0,.int .u8 0,.int .u8 0,.int .u8 0,.int .u8 0,.int .u8 0,.int .u8 0,.int .u8 0,.int .u8 0,.int .u8 0,.int .u8 0,.int .u8 0,.int .u8 0,.int .u8 0,.int .u8 0,.int .u8 0,.int .u8 0,.int .u8 0,.int .u8 0,.int .u8 0,.int .u8 0,.int .u8 0,.int .u8 0,.int .u8 0,.int .u8 0,.int .u8 0,.int .u8 0,.int .u8 0,.int .u8 0,.int .u8 0,.int .u8 0,.int .u8 0,.int .u8 0,.int .u8 0,.int .u8 0,.int .u8 0,.int .u8 0,.int .u8 0,.int .u8 0,.int .u8 0,.int .u8 0,.int .u8 0,.int .u8 0,.int .u8 0,.int .u8 0,.int .u8 0,.int .u8 0,.int .u8 0,.int .u8 0,.int .u8 0,.int .u8 0,.int .u8 0,.int .u8 0,.int .u8 0,.int .u8 0,.int .u8 0,.int .u8 0,.int .u8 0,.int .u8 0,.int .u8 0,.int .u8 0,.int .u8 0]),[],none,false,false,none,(some [0,0,0,0,0,0,0,0,0,0,0,0,0,0,0,0,0,0,0,0,0,0,0,0,0,0,0,0,0,0,0,0,0,0,0,0,0,0,0,0,0,0,0,0,0,0,0,0,0,0,0,0,0,0,0,0,0,0,0,0,0,0,0,0,0]),(some (65,5,1))⟩ (.n 260 ⟨false,(some 20),(some [.int .u64 0,.int .u64 0,.int .u64 0,.int .u64 0,.int .u64 0,.int .u64 0,.int .u64 0,.int .u64 0,.int .u64 0,.int .u64 0,.int .u64 0,.int .u64 0,.int .u64 0,.int .u64 0,.int .u64 0,.int .u64 0,.int .u64 0,.int .u64 0,.int .u64 0,.int .u64 0]),[],none,false,false,none,(some [0,0,0,0,0,0,0,0,0,0,0,0,0,0,0,0,0,0,0,0]),(some (20,185,1))⟩ .e .e) .e) (.n 271 ⟨true,none,(some [.v .nilFunc]),[],none,false,false,none,none,none⟩ (.n 263 ⟨false,(some 64),(some [.int .u8 0,.int .u8 0,.int .u8 0,.int .u8 0,.int .u8 0,.int .u8 0,.int .u8 0,.int .u8 0,.int .u8 0,.int .u8 0,.int .u8 0,.int .u8 0,.int .u8 0,.int .u8 0,.int .u8 0,.int .u8 0,.int .u8 0,.int .u8 0,.int .u8 0,.int .u8 0,.int .u8 0,.int .u8 0,.int .u8 0,.int .u8 0,.int .u8 0,.int .u8 0,.int .u8 0,.int .u8 0,.int .u8 0,.int .u8 0,.int .u8 0,.int .u8 0,.int .u8 0,.int .u8 0,.int .u8 0,.int .u8 0,.int .u8 0,.int .u8 0,.int .u8 0,.int .u8 0,.int .u8 0,.int .u8 0,.int .u8 0,.int .u8 0,.int .u8 0,.int .u8 0,.int .u8 0,.int .u8 0,.int .u8 0,.int .u8 0,.int .u8 0,.int .u8 0,.int .u8 0,.int .u8 0,.int .u8 0,.int .u8 0,.int .u8 0,.int .u8 0,.int .u8 0,.int .u8 0,.int .u8 0,.int .u8 0,.int .u8 0,.int .u8 0]),[],none,false,false,none,(some [0,0,0,0,0,0,0,0,0,0,0,0,0,0,0,0,0,0,0,0,0,0,0,0,0,0,0,0,0,0,0,0,0,0,0,0,0,0,0,0,0,0,0,0,0,0,0,0,0,0,0,0,0,0,0,0,0,0,0,0,0,0,0,0]),(some (64,5,1))⟩ .e .e) .e)) (.n 304 ⟨false,(some 2),(some [.int .u8 0,.int .u8 0]),[(5,0,1),(5,1,1)],none,false,false,none,(some [0,0]),none⟩ (.n 298 ⟨false,(some 3),(some [zS,zS,.v .nilIface]),[(9,0,1),(9,1,1),(215,2,1)],none,false,false,none,none,none⟩ (.n 293 ⟨true,none,(some [.v (.pointer none)]),[],none,false,false,none,none,none⟩ .e .e) .e) (.n 308 ⟨false,(some 1),(some [zS]),[(9,0,1)],none,false,false,none,(some [2]),none⟩ (.n 305 ⟨false,(some 32),(some [.int .u8 0,.int .u8 0,.int .u8 0,.int .u8 0,.int .u8 0,.int .u8 0,.int .u8 0,.int .u8 0,.int .u8 0,.int .u8 0,.int .u8 0,.int .u8 0,.int .u8 0,.int .u8 0,.int .u8 0,.int .u8 0,.int .u8 0,.int .u8 0,.int .u8 0,.int .u8 0,.int .u8 0,.int .u8 0,.int .u8 0,.int .u8 0,.int .u8 0,.int .u8 0,.int .u8 0,.int .u8 0,.int .u8 0,.int .u8 0,.int .u8 0,.int .u8 0]),[],none,false,false,none,(some [0,0,0,0,0,0,0,0,0,0,0,0,0,0,0,0,0,0,0,0,0,0,0,0,0,0,0,0,0,0,0,0]),(some (16,304,2))⟩ .e .e) .e))))))
theorem hX:Tb.ok Tryz.prog X=true:=by kernel_rfl
section
variable {n:Nat}{ks:List Nat}{G0:Gr}{w0:World}{T T':List (Nat×SV)}{H H':Hp}{G:Gr}{a:Act}{w:World}{Q:Exit→Act→World→Prop}{K K':List Fr}{pos pos':Pos}{E:Ob}
abbrev SV.z9:SV:=.int .i64 0
theorem N9 (f:Nat)(A:Sy n T H ks G0 w0 G a w)(h:WL ⟨X,true⟩ n f T H K pos=⟨T',H',K',pos',E⟩)(hE:Cz E)(hk:∀{G a w},Sy n T' H' ks G0 w0 G a w→Goal Tryz.prog Q K' pos' a w):Goal Tryz.prog Q K pos a w:=N hX f A h hE hk
theorem R9 {fn:Func}{x:SV}{H2 H0:Hp}{y:SV}{r:List SV}{rv:List ResultVar}(A:Sy n T H (keys H0 G0) G0 w0 G a w)(h1:(fn.results.toList,IF ⟨X,false⟩ T H rv,AX r)=(rv,some r,y))(h0:H0.length=G0.length)(h2:(JX H0.length y,H.take H0.length,U3 H0.length H',Nw H0 H2)=(true,H',true,QW H2))(hR:nb y=nb x)(hS:BR H'=BR H2):bodyPost Tryz.prog fn (Kf (Rt x H2) H0 G0 w0) .ret a w:=by
 simp only [Prod.mk.injEq]at h1 h2
 exact dK hX A h1.1 h1.2.1 h1.2.2 h0 h2.1 h2.2.1 h2.2.2.1 h2.2.2.2 hR hS
theorem C9 {ops:Array Oper}{o:Oper}{rest:List Oper}{f:Nat}{args az:List SV}{H2 l l2:Hp}{x y:SV}(m:List Nat)(hf:Fn Tryz.prog f args H' (Rt x H2))(A:Sy n T H ks G0 w0 G a w)(h:(BS n ops T o,DU m args,Cm m H',Ca H m,JY m,DG (m++Ap H.length (H2.length - m.length)) x,Cm (m++Ap H.length (H2.length - m.length)) H2)=(some (f,az),some az,some l,some l,true,some y,some l2))(hk:∀{G a w},Sy n (Ay T o.dst y) (Bn H m l2) ks G0 w0 G a w→Goal Tryz.prog Q K (.ops ops rest) a w):Goal Tryz.prog Q K (.ops ops (o::rest)) a w:=by
 simp only [Prod.mk.injEq]at h
 exact Yz m hf A h.1 h.2.1 h.2.2.1 h.2.2.2.1 h.2.2.2.2.1 h.2.2.2.2.2.1 h.2.2.2.2.2.2 hk
end
end Go.Proofs.YtbbdanhpphlbpaaGreatDoor
namespace Go.Proofs.YtbbdanhpphlbpaaGreatDoor
open Go.RowKit
def TV (m:List Nat):List (Nat×SV)→Option (List (Nat×SV))
 | []=>some []
 | (t,x)::T=>match DG m x with
  |some y=>match TV m T with
   |some r=>some ((t,y)::r)
   |none=>none
  |none=>none
theorem Jx {m:List Nat}:∀{T' T:List (Nat×SV)},TV m T'=some T→∀t x,look T' t=some x→∃y,look T t=some y∧DG m x=some y
 | [],T,h,t,x,hx=>by cases hx
 | (k,z)::T',T,h,t,x,hx=>by
  unfold TV at h
  split at h
  ·next y hy=>
   split at h
   ·next r hr=>
    cases h
    simp only [look]at hx⊢
    cases hb:Nat.beq k t with
    |true=>rw [hb]at hx;cases hx;exact⟨y,rfl,hy⟩
    |false=>rw [hb]at hx;exact Jx hr t x hx
   ·cases h
  ·cases h
section
variable {n:Nat}{ks:List Nat}{G0:Gr}{w0:World}{T:List (Nat×SV)}{H:Hp}{G:Gr}{a:Act}{w:World}
theorem Sy.mv (A:Sy n T H ks G0 w0 G a w)(k:Nat)(m:List Nat){T':List (Nat×SV)}{H' l:Hp}(hT:TV (Ap 0 k++m) T'=some T)(h1:Ca H (Ap 0 k++m)=some l)(h2:Cm (Ap 0 k++m) H'=some l)(hn:JY (Ap 0 k++m)=true)(hk:G0.length=k):Sy n T' H' ks G0 w0 (AY (Ap 0 k++m) G) a w:=by
 obtain⟨p1,p2,p3⟩:=Co h1
 obtain⟨r1,r2⟩:=Cr h2
 have hm:∀j∈Ap 0 k++m,j<G.length:=fun j hj=>by rw [←A.mem.len];exact p2 j hj
 refine⟨A.size,A.defers,fun t x hx=>?_,A.mem.sub h1 h2 hn,?_,fun i e L he kJ hL=>?_,A.mix⟩
 ·obtain⟨y,h3,h4⟩:=Jx hT t x hx
  rw [De hm x h4]
  exact A.get t y h3
 ·obtain⟨F,hF⟩:=A.pre
  refine⟨AY m G,?_⟩
  have:AY (Ap 0 k++m) G=AY (Ap 0 k) G++AY m G:=by simp [AY]
  rw [this,←hk,hF,Lb]
 ·obtain⟨f,h3,h4⟩:=r2 i _ he
  have hi:i<(Ap 0 k++m).length:=by rw [←p1];exact(List.getElem?_eq_some_iff.1 h3).1
  obtain⟨f',rfl⟩:=CS h4
  have hj:(Ap 0 k++m)[i]?=some (Ap 0 k++m)[i]:=by simp [hi]
  rw [BD hm hj]at hL
  exact A.own _ f' L (by rw [←p3 i _ hj];exact h3) (by rw [(BE h4).1];exact kJ) hL
end
end Go.Proofs.YtbbdanhpphlbpaaGreatDoor
namespace Go.Proofs.YtbbdanhpphlbpaaGreatDoor
open Go.RowKit
section
variable {P:Program}{Y:Tb}{n:Nat}{ks:List Nat}{G0:Gr}{w0:World}{T:List (Nat×SV)}{H:Hp}{G:Gr}{a:Act}{w w':World}{Q:Exit→Act→World→Prop}{K:List Fr}{ops:Array Oper}{o:Oper}{rest:List Oper}
theorem DV {f:Nat} {args az:List SV} {H' H2 l l2:Hp} {x y:SV} (m:List Nat) (hf:Fn P f args H' (Rt x H2)) (h1:BS n ops T o=some (f,az)) (h2:DU m args=some az) (h3:Cm m H'=some l) (h4:Ca H m=some l) (h5:JY m=true)
  (h6:DG (m++Ap H.length (H2.length - m.length)) x=some y) (h7:Cm (m++Ap H.length (H2.length - m.length)) H2=some l2):Aw P n ops ks G0 w0 T H o y (Bn H m l2):=by
 intro G a w A
 rcases Ny (R2:=fun z H3=>z=y∧H3=Bn H m l2) m hf A h1 h2 h3 h4 h5 (fun x' H' ⟨e1,e2⟩=>by subst e1;subst e2;exact⟨y,l2,h6,h7,rfl,rfl⟩)with⟨hw,h⟩|⟨hw,z,H3,F,⟨rfl,rfl⟩,g2,g3⟩
 ·refine .inl ⟨hw,fun Q'=>?_⟩
  refine Oper.wp_mono (fun a' w' hh=>?_) (h Q')
  obtain⟨v,rfl,z,H3,F,⟨rfl,rfl⟩,g2,g3⟩:=hh
  exact⟨v,rfl,F,g2,g3.ms⟩
 ·exact .inr ⟨hw,F,g2,g3.ms⟩
def WS (Y:Tb) (n:Nat) (ops:Array Oper) (T:List (Nat×SV)) (o:Oper):Option (Nat×Nat):=match Ci n o.dst with
 | true=>match iY ops T o.guard with
  | some .run=>match o.op with
   | .binOp .eql t x y _=>match jR T x,jR T y,Y.get t with
    |some (.sl i m _),some (.sla none 0 0),some ti=>match ti.elm with
     |some _=>some (i,m)
     |none=>none
    |_,_,_=>none
   |_=>none
  |_=>none
 |false=>none
theorem WT {i m:Nat}(hY:Y.ok P=true)(A:Sy n T H ks G0 w0 G a w)(h:WS Y n ops T o=some (i,m)):Ci n o.dst=true∧∃p,G[i]?=some p∧∀K:Value→World→Prop,K (.bool p.isNone) w→BG P ops o a w K:=by
 obtain⟨d,op,ty,pos,af,gd⟩:=o
 unfold WS at h
 split at h
 ·next hd=>
  split at h
  ·next pA=>
   have hw:=An (gd:=none) A pA
   split at h
   ·next t x y t2 jG=>
    simp only at jG
    subst jG
    split at h
    ·next i' m' c' ti hx hy kO=>
     split at h
     ·next el mI=>
      cases h
      obtain⟨e,s,b⟩:=el
      have jB:=A.ev hx
      have jN:=A.ev hy
      unfold den at jB
      split at jB
      ·next p hp=>
       simp only [den,Option.some.injEq]at jB jN
       refine⟨hd,p,hp,fun K hK=>Jr (u:=.slice (p.map fun L=>⟨L.b,L.pre.length,none⟩) m (c'+rm p)) (v:=.slice none 0 0) hw jB.symm jN.symm ⟨by simp [eqGuard],?_⟩ hK⟩
       obtain⟨ie,z,f1',_⟩:=CX (Ct (Tb.at hY kO) mI)
       rw [Go.Lib.run_eql_slice_nil w t e _ _ _ 0 0 f1']
       cases p<;>rfl
      ·cases jB
     ·cases h
    ·cases h
   ·cases h
  ·cases h
 ·cases h
theorem dN {i m s m2:Nat} {f:Nat→List SV} (hY:Y.ok P=true) (A:Sy n T H ks G0 w0 G a w) (h:WS Y n ops T o=some (i,m)) (hi:lg H i=some (some (.lst s m2 f)))
  (h1:m2=0→∀{G a w},Sy n (Ay T o.dst .tt) H ks G0 w0 G a w→Goal P Q K (.ops ops rest) a w)
  (h2:∀{G a w},Sy n (Ay T o.dst .ff) H ks G0 w0 G a w→Goal P Q K (.ops ops rest) a w):Goal P Q K (.ops ops (o::rest)) a w:=by
 obtain⟨hd,p,hp,lK⟩:=WT hY A h
 rw [Ah]at hi
 have jH:=A.mem.ent i _ hi
 rw [hp]at jH
 simp only [Option.getD_some]at jH
 cases p with
 | none=>
  have:m2=0:=by
   rcases jH.2 with h|⟨L,h,_⟩
   ·exact h
   ·cases h
  exact CJ (Q:=Fa P Q K) (lK _ (h1 this (Sy.put A hd rfl)))
 |some L=>exact CJ (Q:=Fa P Q K) (lK _ (h2 (Sy.put A hd rfl)))
theorem Df {fn:Func}{R:Ending→World→Prop}(h:bodyPost P fn R .ret a w):bodyPost P fn R .normal a w:=h
theorem Y4 {α:Type} {c:Code} (T':α→List (Nat×SV)) (H':α→Hp) (I:α→Prop) (A:Sy n T H ks G0 w0 G a w) (h:∀{G a w},Sy n T H ks G0 w0 G a w→Goal P Q (.lp (fun a w=>∃x G,I x∧Sy n (T' x) (H' x) ks G0 w0 G a w)::K) (.code c) a w)
  (hk:∀x,I x→∀{G a w},Sy n (T' x) (H' x) ks G0 w0 G a w→Goal P Q K .norm a w):Goal P Q K (.code c) a w:=dL T' H' I A h hk
end
abbrev Dd:=World→List Nat→Prop
def Dd.OK (I:Dd):Prop:=∀w ks w' ks',I w ks→CR ks w w'→(∀b,ks'.contains b=true→ks.contains b=true∨w.heap.size≤b)→I w' ks'
def Bi (I:Dd)(P:Program)(f:Nat)(args:List SV)(H:Hp)(R:SV→Hp→Prop):Prop:=
 Fo P f=some (false,false)∧∀G w vs,Mem H G w→I w (keys H G)→AE G args=some vs→Calls P f vs.toArray w (Kf R H G w)
def Y5 (P:Program)(f:Nat)(args:List SV)(H':Hp)(R:SV→Hp→Prop)(Gp:Gr)(w:World)(ks:List Nat)(w0:World):Prop:=
 Fo P f=some (false,false)∧∀vs,Mem H' Gp w→(∀b,(keys H' Gp).contains b=true→ks.contains b=true∨w0.heap.size≤b)→AE Gp args=some vs→Calls P f vs.toArray w (Kf R H' Gp w)
theorem Fn.toI {I:Dd}{P:Program}{f:Nat}{args:List SV}{H:Hp}{R:SV→Hp→Prop}(h:Fn P f args H R):Bi I P f args H R:=⟨h.1,fun G w vs hM _ hv=>h.2 G w vs hM hv⟩
theorem Bi.mono {I J:Dd}{P:Program}{f:Nat}{args:List SV}{H:Hp}{R:SV→Hp→Prop}(h:Bi I P f args H R)(hj:∀w ks,J w ks→I w ks):Bi J P f args H R:=⟨h.1,fun G w vs hM hJ hv=>h.2 G w vs hM (hj _ _ hJ) hv⟩
section
variable {P:Program}{X:Tx}{n:Nat}{ks:List Nat}{G0:Gr}{w0:World}{T:List (Nat×SV)}{H:Hp}{G:Gr}{a:Act}{w:World}{ops:Array Oper}{o:Oper}{rest:List Oper}{Q:Exit→Act→World→Prop}{K:List Fr}{I:Dd}
theorem Bi.at {f:Nat}{args:List SV}{H':Hp}{R:SV→Hp→Prop}(h:Bi I P f args H' R)(hI:I.OK)(h0:I w0 ks)(hm:CR ks w0 w){Gp:Gr}:Y5 P f args H' R Gp w ks w0:=
 ⟨h.1,fun vs hM jX hv=>h.2 Gp w vs hM (hI _ _ _ _ h0 hm jX) hv⟩
theorem Lm {f:Nat} {args az:List SV} {H' l:Hp} {R R2:SV→Hp→Prop} (m:List Nat) (A:Sy n T H ks G0 w0 G a w) (hf:Y5 P f args H' R (AY m G) w ks w0) (h1:BS n ops T o=some (f,az)) (h2:DU m args=some az) (h3:Cm m H'=some l) (h4:Ca H m=some l) (h5:JY m=true)
  (hk:∀x H2,R x H2→∃y l2,DG (m++Ap H.length (H2.length - m.length)) x=some y∧Cm (m++Ap H.length (H2.length - m.length)) H2=some l2∧R2 y (Bn H m l2)):BG P ops o a w fun v w'=>∃y H3 F,R2 y H3∧den (G++F) y=some v∧Sy n T H3 ks G0 w0 (G++F) a w':=by
 obtain⟨jH,hf⟩:=hf
 obtain⟨hd,vs,hv,lK⟩:=Cb (P:=P) (ops:=ops) A h1 jH
 obtain⟨p1,p2,p3⟩:=Co h4
 obtain⟨r1,r2⟩:=Cr h3
 have hlen:=A.mem.len
 have hm:∀j∈m,j<G.length:=fun j hj=>by rw [←hlen];exact p2 j hj
 have hM:=A.mem.sub h4 h3 h5
 have mJ:AE (AY m G) args=some vs:=by rw [Ck hm args h2];exact hv
 have qS:H'.length=m.length:=by rw [←r1,p1]
 have lB:(AY m G).length=m.length:=by simp [AY]
 have kX:∀b,(keys H' (AY m G)).contains b=true→∃i e L,i∈m∧H[i]?=some (some e)∧e.mut=true∧G[i]?=some (some L)∧L.b=b:=by
  intro b hb
  obtain⟨i,e,L,k1,km,k2,k3⟩:=mem_keys.1 hb
  obtain⟨f,q1,q2⟩:=r2 i _ k1
  obtain⟨f',rfl⟩:=CS q2
  have hi:i<m.length:=by rw [←p1];exact(List.getElem?_eq_some_iff.1 q1).1
  have hj:m[i]?=some m[i]:=by simp [hi]
  rw [BD hm hj]at k2
  rw [p3 i _ hj]at q1
  exact⟨m[i],f',L,List.getElem_mem hi,q1,by rw [(BE q2).1];exact km,k2,k3⟩
 have jX:∀b,(keys H' (AY m G)).contains b=true→ks.contains b=true∨w0.heap.size≤b:=by
  intro b hb
  obtain⟨i,e,L,_,k1,k2,k3,k4⟩:=kX b hb
  subst k4
  exact A.own i e L k1 k2 k3
 refine lK (hf vs hM jX mJ) ?_
 rintro e w' ⟨x,H2,F,v,hR,hx,rfl,l7,jL,oQ,n7,l9⟩
 refine⟨v,rfl,?_⟩
 obtain⟨y,l2,e1,e2,e3⟩:=hk x H2 hR
 obtain⟨s1,s2⟩:=Cr e2
 have pK:H2.length=m.length+F.length:=by have:=l7.len;simp [lB]at this;exact this
 have n8:m.length≤l2.length:=by rw [s1,pK];omega
 have p5:H2.length - m.length=F.length:=by omega
 rw [p5]at e1 e2 s2
 have lM:(Ap H.length F.length).length=F.length:=CA _ _
 have nY:AY (m++Ap H.length F.length) (G++F)=AY m G++F:=by
  have a1:AY m (G++F)=AY m G:=by
   unfold AY
   refine List.map_congr_left fun j hj=>?_
   rw [List.getElem?_append_left (hm j hj)]
  have a2:AY (Ap H.length F.length) (G++F)=F:=by
   apply List.ext_getElem?
   intro i
   by_cases hi:i<F.length
   ·unfold AY
    rw [List.getElem?_map,Cd _ _ _ hi]
    simp only [Option.map_some]
    rw [List.getElem?_append_right (by omega),show H.length+i - G.length=i by omega]
    simp [hi]
   ·rw [List.getElem?_eq_none (by simp [AY,lM];omega),List.getElem?_eq_none (by omega)]
  rw [show AY (m++Ap H.length F.length) (G++F)=AY m (G++F)++AY (Ap H.length F.length) (G++F) by simp [AY],a1,a2]
 have oR:∀j∈m++Ap H.length F.length,j<(G++F).length:=by
  intro j hj
  rcases List.mem_append.1 hj with hj|hj
  ·have:=hm j hj;simp;omega
  ·obtain⟨k,hk⟩:=List.mem_iff_getElem?.1 hj
   have jQ:k<F.length:=by have:=(List.getElem?_eq_some_iff.1 hk).1;rwa [lM]at this
   rw [Cd _ _ _ jQ]at hk
   cases hk
   simp;omega
 have cases3:∀(i:Nat) (e:A6),(Bn H m l2)[i]?=some (some e)→
   (∃(k:Nat) (e':A6),(m++Ap H.length F.length)[k]?=some i∧H2[k]?=some (some e')∧FJ (m++Ap H.length F.length) (some e')=some (some e))∨(i∉m∧H[i]?=some (some e)∧i<H.length):=by
  intro i e he
  have back:∀k:Nat,l2[k]?=some (some e)→∃e',H2[k]?=some (some e')∧FJ (m++Ap H.length F.length) (some e')=some (some e):=by
   intro k hk
   have n9:k<H2.length:=by rw [←s1];exact(List.getElem?_eq_some_iff.1 hk).1
   obtain⟨f,t1,t2⟩:=s2 k H2[k] (by simp [n9])
   rw [hk]at t1
   cases t1
   cases hq:H2[k]with
   |none=>rw [hq]at t2;cases t2
   |some e'=>rw [hq]at t2;exact⟨e',by simp [n9,hq],t2⟩
  rcases HU (H:=H) (l:=l2) n8 h5 p2 i with⟨k,q1,q2⟩|⟨q1,q2,q3⟩|⟨q1,q2⟩
  ·rw [q2]at he
   obtain⟨e',b1,b2⟩:=back k he
   exact .inl ⟨k,e',by rw [List.getElem?_append_left (List.getElem?_eq_some_iff.1 q1).1];exact q1,b1,b2⟩
  ·rw [q3]at he;exact .inr ⟨q1,he,q2⟩
  ·rw [q2]at he
   obtain⟨e',b1,b2⟩:=back _ he
   have i7:i - H.length<F.length:=by have:=(List.getElem?_eq_some_iff.1 b1).1;omega
   refine .inl ⟨_,e',?_,b1,b2⟩
   rw [List.getElem?_append_right (by omega),show m.length+(i - H.length) - m.length=i - H.length by omega,Cd _ _ _ i7]
   congr 1;omega
 have j0:∀(i k:Nat),(m++Ap H.length F.length)[k]?=some i→(AY m G++F)[k]?=(G++F)[i]?:=fun i k hk=>by rw [←nY,BD oR hk]
 have kB:∀i:Nat,i<H.length→(G++F)[i]?=G[i]?:=fun i hi=>List.getElem?_append_left (by omega)
 have jM:∀(i:Nat) (e:A6) (L:Loc),(i∉m∨e.mut=false)→H[i]?=some (some e)→G[i]?=some (some L)→¬e.empty→(keys H' (AY m G)).contains L.b=false:=by
  intro i e L hi he hL jF
  cases hc:(keys H' (AY m G)).contains L.b with
  |false=>rfl
  |true=>
   obtain⟨j,e',L',k0,k1,k2,k3,k4⟩:=kX _ hc
   refine absurd k4 (A.mem.sep j i e' e L' L (fun h=>?_) k1 he k2 k3 hL jF)
   subst h
   rcases hi with hi|hi
   ·exact hi k0
   ·rw [k1]at he;cases he;rw [k2]at hi;cases hi
 have oA:∀(i:Nat) (e:A6) (L:Loc),H[i]?=some (some e)→G[i]?=some (some L)→¬e.empty→L.b<w.heap.size:=by
  intro i e L he hL jF
  have:=A.mem.ent i e he
  rw [hL]at this
  exact Ae.lt this jF
 have oB:∀(i k:Nat) (e e':A6),(m++Ap H.length F.length)[k]?=some i→H2[k]?=some (some e')→FJ (m++Ap H.length F.length) (some e')=some (some e)→e.mut=false→H[i]?=some (some e)∧i<H.length:=by
  intro i k e e' t1 t2 t3 t4
  have h6:e'.mut=false:=by rw [←(BE t3).1];exact t4
  have h7:=n7 k e' t2 h6
  obtain⟨f,q1,q2⟩:=r2 k _ h7
  obtain⟨f',rfl⟩:=CS q2
  have jQ:k<m.length:=by rw [←p1];exact(List.getElem?_eq_some_iff.1 q1).1
  rw [List.getElem?_append_left jQ]at t1
  rw [p3 k i t1]at q1
  have:e=f':=by
   cases e' with
   |lst s n g=>cases q2;cases t3;rfl
   |fac b o=>cases q2;cases t3;rfl
   |blk=>cases h6
   |row=>cases h6
  subst this
  exact⟨q1,(List.getElem?_eq_some_iff.1 q1).1⟩
 refine⟨y,_,F,e3,?_,⟨A.size,A.defers,fun t z hz=>AP F z (A.get t z hz),⟨?_,?_,?_⟩,?_,?_,?_⟩⟩
 ·rw [←De oR x e1,nY];exact hx
 ·rw [GA n8,s1,pK];simp;omega
 ·intro i e he
  rcases cases3 i e he with⟨k,e',t1,t2,t3⟩|⟨t1,t2,t3⟩
  ·have:=l7.ent k e' t2
   rw [←nY]at this
   exact(Ke oR t1 t3).1 this
  ·rw [kB i t3]
   refine((A.mem.ent i e t2).mix jL fun jF L hL=>?_).more F
   refine jM i e L (.inl t1) t2 ?_ jF
   cases hq:G[i]? with
   |none=>rw [hq]at hL;cases hL
   |some p=>rw [hq]at hL;simp at hL;rw [hL]
 ·intro i j e f L M jV he pW kJ hL lN jF
  have still:∀(i':Nat) (e':A6),(Bn H m l2)[i']?=some (some e')→(∃(k:Nat) (e'':A6),(m++Ap H.length F.length)[k]?=some i'∧H2[k]?=some (some e'')∧FJ (m++Ap H.length F.length) (some e'')=some (some e')∧e'.mut=true)∨((i'∉m∨e'.mut=false)∧H[i']?=some (some e')∧i'<H.length):=by
   intro i' e' oC
   rcases cases3 i' e' oC with⟨k,e'',t1,t2,t3⟩|⟨t1,t2,t3⟩
   ·cases mY:e'.mut with
    |true=>exact .inl ⟨k,e'',t1,t2,t3,rfl⟩
    |false=>obtain⟨g1,g2⟩:=oB i' k e' e'' t1 t2 t3 mY;exact .inr ⟨.inr rfl,g1,g2⟩
   ·exact .inr ⟨.inl t1,t2,t3⟩
  rcases still i e he with⟨k,e',t1,t2,t3,t4⟩|⟨t1,t2,t3⟩
  ·rcases still j f pW with⟨k',f',u1,u2,u3,u4⟩|⟨u1,u2,u3⟩
   ·rw [←j0 i k t1]at hL
    rw [←j0 j k' u1]at lN
    refine l7.sep k k' e' f' L M (fun h=>jV ?_) t2 u2 (by rw [←(BE t3).1];exact t4) hL lN (fun h=>jF ((BE u3).2.2 h))
    subst h
    rw [t1]at u1
    exact Option.some.inj u1
   ·rw [←j0 i k t1]at hL
    rw [kB j u3]at lN
    have h6:=l9 k e' t2 (by rw [←(BE t3).1];exact t4) L hL
    intro lX
    rcases h6 with h6|h6
    ·rw [lX,jM j f M u1 u2 lN jF]at h6;cases h6
    ·have:=oA j f M u2 lN jF;omega
  ·rcases still j f pW with⟨k',f',u1,u2,u3,u4⟩|⟨u1,u2,u3⟩
   ·rw [←j0 j k' u1]at lN
    rw [kB i t3]at hL
    have h6:=l9 k' f' u2 (by rw [←(BE u3).1];exact u4) M lN
    intro lX
    rcases h6 with h6|h6
    ·rw [←lX,jM i e L t1 t2 hL (At kJ)]at h6;cases h6
    ·have:=oA i e L t2 hL (At kJ);omega
   ·rw [kB i t3]at hL
    rw [kB j u3]at lN
    exact A.mem.sep i j e f L M jV t2 u2 kJ hL lN jF
 ·obtain⟨F0,rJ⟩:=A.pre
  exact⟨F0++F,by rw [rJ,List.append_assoc]⟩
 ·intro i e L he kJ hL
  rcases cases3 i e he with⟨k,e',t1,t2,t3⟩|⟨t1,t2,t3⟩
  ·rw [←j0 i k t1]at hL
   rcases l9 k e' t2 (by rw [←(BE t3).1];exact kJ) L hL with h6|h6
   ·exact jX _ h6
   ·right;exact Nat.le_trans A.mix.size h6
  ·rw [kB i t3]at hL;exact A.own i e L t2 kJ hL
 ·refine A.mix.mix jL fun k rK rL=>?_
  cases hc:(keys H' (AY m G)).contains k with
  |false=>rfl
  |true=>
   rcases jX k hc with h6|h6
   ·rw [h6]at rL;cases rL
   ·omega
theorem Y6 {f:Nat} {args az:List SV} {H' H2 l l2:Hp} {x y:SV} (m:List Nat) (hI:I.OK) (h0:I w0 ks) (hf:Bi I P f args H' (Rt x H2)) (A:Sy n T H ks G0 w0 G a w) (h1:BS n ops T o=some (f,az)) (h2:DU m args=some az) (h3:Cm m H'=some l) (h4:Ca H m=some l) (h5:JY m=true)
  (h6:DG (m++Ap H.length (H2.length - m.length)) x=some y) (h7:Cm (m++Ap H.length (H2.length - m.length)) H2=some l2) (hk:∀{G a w},Sy n (Ay T o.dst y) (Bn H m l2) ks G0 w0 G a w→Goal P Q K (.ops ops rest) a w):Goal P Q K (.ops ops (o::rest)) a w:=by
 have hd:=(Cb (P:=P) (ops:=ops) A h1 hf.1).1
 refine CJ (Q:=Fa P Q K) ?_
 rcases Lm (R2:=fun y H3=>∀{G a w},Sy n (Ay T o.dst y) H3 ks G0 w0 G a w→Goal P Q K (.ops ops rest) a w) m A (hf.at hI h0 A.mix) h1 h2 h3 h4 h5 (fun x' H' ⟨e1,e2⟩=>by subst e1;subst e2;exact⟨y,l2,h6,h7,hk⟩)with⟨hw,h⟩|⟨hw,y,H3,F,g1,g2,g3⟩
 ·refine .inl ⟨hw,fun Q'=>?_⟩
  refine Oper.wp_mono (fun a' w' hh=>?_) (h Q')
  obtain⟨v,rfl,y,H3,F,g1,g2,g3⟩:=hh
  exact⟨v,rfl,g1 (Sy.put g3 hd g2)⟩
 ·exact .inr ⟨hw,g1 (Sy.put g3 hd g2)⟩
theorem C8 {f:Nat} {args az:List SV} {H' H2 l l2:Hp} {x y:SV} (m:List Nat) (hI:I.OK) (h0:I w0 ks) (hf:Bi I P f args H' (Rt x H2)) (h1:BS n ops T o=some (f,az)) (h2:DU m args=some az) (h3:Cm m H'=some l) (h4:Ca H m=some l) (h5:JY m=true)
  (h6:DG (m++Ap H.length (H2.length - m.length)) x=some y) (h7:Cm (m++Ap H.length (H2.length - m.length)) H2=some l2):Aw P n ops ks G0 w0 T H o y (Bn H m l2):=by
 intro G a w A
 rcases Lm (R2:=fun z H3=>z=y∧H3=Bn H m l2) m A (hf.at hI h0 A.mix) h1 h2 h3 h4 h5 (fun x' H' ⟨e1,e2⟩=>by subst e1;subst e2;exact⟨y,l2,h6,h7,rfl,rfl⟩)with⟨hw,h⟩|⟨hw,z,H3,F,⟨rfl,rfl⟩,g2,g3⟩
 ·refine .inl ⟨hw,fun Q'=>?_⟩
  refine Oper.wp_mono (fun a' w' hh=>?_) (h Q')
  obtain⟨v,rfl,z,H3,F,⟨rfl,rfl⟩,g2,g3⟩:=hh
  exact⟨v,rfl,F,g2,g3.ms⟩
 ·exact .inr ⟨hw,F,g2,g3.ms⟩
theorem Ab {f:Nat} {fn:Func} {c:Code} {args:List SV} {R:SV→Hp→Prop} (jH:Fo P f=some (false,false)) (hf:P.funcs[f]?=some fn) (hb:fn.body=some c) (hn:fn.ntmps=n) (hl:Nat.ble args.length n=true)
  (h:∀G w a,H.length=G.length→I w (keys H G)→Sy n (La args 0) H (keys H G) G w G a w→Goal P (bodyPost P fn (Kf R H G w)) [] (.code c) a w):Bi I P f args H R:=by
 refine⟨jH,fun G w vs hM hI hv=>?_⟩
 refine calls_of_wp hf hb (h G w _ hM.len hI ⟨?_,rfl,fun t x hx=>?_,hM,⟨[],by simp⟩,fun i e L h1 h2 h3=>.inl (mem_keys.2 ⟨i,e,L,h1,h2,h3,rfl⟩),CR.refl _ _⟩)
 ·have:=Av hv
  have:=Nat.le_of_ble_eq_true hl
  simp [hn];omega
 ·obtain⟨_,h2⟩:=Dm hx
  simp only [Nat.sub_zero]at h2
  obtain⟨v,h3,h4⟩:=CL hv h2
  have i7:t<vs.length:=(List.getElem?_eq_some_iff.1 h3).1
  rw [h4]
  simp [Array.getD_eq_getD_getElem?,Array.getElem?_append,i7]at h3⊢
  exact h3.symm
end
section
variable {n:Nat}{ks:List Nat}{G0:Gr}{w0:World}{T T':List (Nat×SV)}{H H':Hp}{G:Gr}{a:Act}{w:World}{Q:Exit→Act→World→Prop}{K K':List Fr}{pos pos':Pos}{E:Ob}
theorem I9 {I:Dd}{ops:Array Oper}{o:Oper}{rest:List Oper}{f:Nat}{args az:List SV}{H2 l l2:Hp}{x y:SV}(m:List Nat)(hI:I.OK)(h0:I w0 ks)(hf:Bi I Tryz.prog f args H' (Rt x H2))(A:Sy n T H ks G0 w0 G a w)(h:(BS n ops T o,DU m args,Cm m H',Ca H m,JY m,DG (m++Ap H.length (H2.length - m.length)) x,Cm (m++Ap H.length (H2.length - m.length)) H2)=(some (f,az),some az,some l,some l,true,some y,some l2))(hk:∀{G a w},Sy n (Ay T o.dst y) (Bn H m l2) ks G0 w0 G a w→Goal Tryz.prog Q K (.ops ops rest) a w):Goal Tryz.prog Q K (.ops ops (o::rest)) a w:=by
 simp only [Prod.mk.injEq]at h
 exact Y6 m hI h0 hf A h.1 h.2.1 h.2.2.1 h.2.2.2.1 h.2.2.2.2.1 h.2.2.2.2.2.1 h.2.2.2.2.2.2 hk
end
mutual
def Ge:SV→List (Option Addr)
 | .sla ao _ _=>[ao]
 | .agg l=>Mm l
 |_=>[]
def Mm:List SV→List (Option Addr)
 | []=>[]
 |x::l=>Ge x++Mm l
end
mutual
def O6 (i:Nat):SV→SV
 | .sla _ m c=>.sl i m c
 | .agg l=>.agg (WU i l)
 |x=>x
def WU (i:Nat):List SV→List SV
 | []=>[]
 |x::l=>O6 i x::WU i l
end
def Gf:Option Addr→Option Loc
 |some a=>some ⟨a.block,[],[],0⟩
 |none=>none
mutual
theorem Qf {G:Gr}{i:Nat}{ao:Option Addr}(ha:∀a,ao=some a→a=⟨a.block,0,none⟩)(hG:G[i]?=some (Gf ao)):∀(x:SV),(∀z∈Ge x,z=ao)→den G (O6 i x)=den G x
 | .sla a m c,h=>by
  have h1:a=ao:=h a (by unfold Ge;exact List.mem_singleton.2 rfl)
  subst h1
  unfold O6 den
  rw [hG]
  cases a with
  |none=>rfl
  |some a=>have:=ha a rfl;simp only [Gf,Option.map_some,rm,List.length_nil,Nat.add_zero];rw [this]
 | .agg l,h=>by unfold O6 den;rw [Ki ha hG l (by unfold Ge at h;exact h)]
 | .int _ _,_=>rfl
 | .bool _,_=>rfl
 | .tt,_=>rfl
 | .ff,_=>rfl
 | .str _,_=>rfl
 | .ptr _ _,_=>rfl
 | .el _ _ _ _,_=>rfl
 | .ix _ _ _ _ _,_=>rfl
 | .sl _ _ _,_=>rfl
 | .sp _ _ _,_=>rfl
 | .st _ _ _ _ _,_=>rfl
 | .tup _,_=>rfl
 | .fn _ _,_=>rfl
 | .opt _ _,_=>rfl
 | .v _,_=>rfl
theorem Ki {G:Gr}{i:Nat}{ao:Option Addr}(ha:∀a,ao=some a→a=⟨a.block,0,none⟩)(hG:G[i]?=some (Gf ao)):∀(l:List SV),(∀z∈Mm l,z=ao)→AE G (WU i l)=AE G l
 | [],_=>rfl
 |x::l,h=>by
  unfold Mm at h
  unfold WU AE
  rw [Qf ha hG x (fun z hz=>h z (List.mem_append_left _ hz)),Ki ha hG l (fun z hz=>h z (List.mem_append_right _ hz))]
end
def CT (ao:Option Addr)(ps:List Int)(w:World)(ks:List Nat):Prop:=
 (ao=none∧ps=[])∨∃b,ao=some ⟨b,0,none⟩∧b<w.heap.size∧ks.contains b=false∧w.rangeAt b 0 (ps.map (Value.int .i64))
theorem CT.go {ao:Option Addr}{ps:List Int}{w w':World}{ks ks':List Nat}(h:CT ao ps w ks)(m:CR ks w w')(hk:∀b,ks'.contains b=true→ks.contains b=true∨w.heap.size≤b):CT ao ps w' ks':=by
 rcases h with h|⟨b,h1,h2,h3,h4⟩
 ·exact .inl h
 ·refine .inr ⟨b,h1,Nat.lt_of_lt_of_le h2 m.size,?_,FY h4 m h2 h3⟩
  cases hc:ks'.contains b with
  |false=>rfl
  |true=>
   rcases hk b hc with h5|h5
   ·rw [h5]at h3;cases h3
   ·omega
abbrev WV (ps:List Int):A6:=.lst 1 ps.length fun j=>[.int .i64 (ps.getD j 0)]
section
variable {P:Program}{n:Nat}{ks:List Nat}{G0:Gr}{w0:World}{T:List (Nat×SV)}{H:Hp}{G:Gr}{a:Act}{w:World}{Q:Exit→Act→World→Prop}{K:List Fr}{pos:Pos}
theorem Sy.adopt (A:Sy n T H ks G0 w0 G a w){ao:Option Addr}{ps:List Int}(h0:CT ao ps w0 ks)(t:Nat){x:SV}(hx:look T t=some x)(hs:∀z∈Ge x,z=ao):Sy n ((t,O6 H.length x)::T) (H++[some (WV ps)]) ks G0 w0 (G++[Gf ao]) a w:=by
 have hl:=h0.go A.mix (ks':=ks) fun b hb=>.inl hb
 have hlen:=A.mem.len
 have ha:∀q,ao=some q→q=⟨q.block,0,none⟩:=by
  intro q hq
  rcases h0 with⟨h1,_⟩|⟨b,h1,_⟩
  ·rw [h1]at hq;cases hq
  ·rw [h1]at hq;cases hq;rfl
 have hG:(G++[Gf ao])[H.length]?=some (Gf ao):=by rw [List.getElem?_append_right (by omega),hlen];simp
 have hold:∀(i:Nat) (e:A6),(H++[some (WV ps)])[i]?=some (some e)→(H[i]?=some (some e)∧i<H.length)∨(i=H.length∧e=WV ps):=by
  intro i e h
  by_cases hi:i<H.length
  ·rw [List.getElem?_append_left hi]at h;exact .inl ⟨h,hi⟩
  ·rw [List.getElem?_append_right (by omega)]at h
   have:i - H.length=0:=by
    cases hq:i - H.length with
    |zero=>rfl
    |succ k=>rw [hq]at h;simp at h
   rw [this]at h
   simp at h
   exact .inr ⟨by omega,h.symm⟩
 have lI:∀i,i<H.length→(G++[Gf ao])[i]?=G[i]?:=fun i hi=>List.getElem?_append_left (by omega)
 refine⟨A.size,A.defers,fun s z hz=>?_,⟨by simp [hlen],?_,?_⟩,?_,?_,A.mix⟩
 ·unfold look at hz
  cases hc:Nat.beq t s with
  |true=>
   rw [hc]at hz;cases hz
   have:=Nat.eq_of_beq_eq_true hc
   subst this
   rw [Qf ha hG x hs]
   exact AP _ x (A.get t x hx)
  |false=>rw [hc]at hz;exact AP _ z (A.get s z hz)
 ·intro i e h
  rcases hold i e h with⟨h1,h2⟩|⟨rfl,rfl⟩
  ·rw [lI i h2];exact(A.mem.ent i e h1).more _
  ·rw [hG]
   refine⟨fun k=>⟨_,rfl⟩,?_⟩
   rcases hl with⟨_,h2⟩|⟨b,h1,h2,_,h4⟩
   ·left;rw [h2];rfl
   ·right
    subst h1
    refine⟨_,rfl,h2,fun k hk=>⟨_,rfl,fun j y hy=>?_⟩⟩
    have hj:j=0:=by
     cases j with
     |zero=>rfl
     |succ j=>simp at hy
    subst hj
    simp at hy
    subst hy
    have:=h4 k (.int .i64 (ps.getD k 0)) (by simp [List.getD,hk])
    simpa using this
 ·intro i j e f L M jV h1 h2 h3 h4 h5 h6
  rcases hold i e h1 with⟨k1,k2⟩|⟨rfl,rfl⟩
  ·rw [lI i k2]at h4
   rcases hold j f h2 with⟨k3,k4⟩|⟨rfl,rfl⟩
   ·rw [lI j k4]at h5;exact A.mem.sep i j e f L M jV k1 k3 h3 h4 h5 h6
   ·rw [hG]at h5
    rcases hl with⟨q1,_⟩|⟨b,q1,q2,q3,_⟩
    ·subst q1;cases h5
    ·subst q1
     cases h5
     intro lX
     rcases h0 with⟨q,_⟩|⟨b',q,q4,q5,_⟩
     ·cases q
     ·cases q
      rcases A.own i e L k1 h3 h4 with h7|h7
      ·rw [lX]at h7;simp only at h7;rw [q3]at h7;cases h7
      ·rw [lX]at h7;simp only at h7;omega
  ·cases h3
 ·obtain⟨F,hF⟩:=A.pre;exact⟨F++[Gf ao],by rw [hF,List.append_assoc]⟩
 ·intro i e L h1 h2 h3
  rcases hold i e h1 with⟨k1,k2⟩|⟨rfl,rfl⟩
  ·rw [lI i k2]at h3;exact A.own i e L k1 h2 h3
  ·cases h2
theorem U4 {ao:Option Addr}{ps:List Int}(t:Nat)(h0:CT ao ps w0 ks)(A:Sy n T H ks G0 w0 G a w){x y:SV}{H':Hp}(hx:look T t=some x)(hs:Ge x=[ao])(hy:O6 H.length x=y)(hH:H++[some (WV ps)]=H')(hk:∀{G},Sy n ((t,y)::T) H' ks G0 w0 G a w→Goal P Q K pos a w):Goal P Q K pos a w:=by
 subst hy;subst hH
 exact hk (A.adopt h0 t hx fun z hz=>by rw [hs]at hz;exact List.mem_singleton.1 hz)
end
def Iv (b o:Nat)(vs:List Value)(w:World)(ks:List Nat):Prop:=b<w.heap.size∧ks.contains b=false∧w.rangeAt b o vs
theorem Iv.go {b o:Nat}{vs:List Value}{w w':World}{ks ks':List Nat}(h:Iv b o vs w ks)(m:CR ks w w')(hk:∀b,ks'.contains b=true→ks.contains b=true∨w.heap.size≤b):Iv b o vs w' ks':=by
 obtain⟨h1,h2,h3⟩:=h
 refine⟨Nat.lt_of_lt_of_le h1 m.size,?_,FY h3 m h1 h2⟩
 cases hc:ks'.contains b with
 |false=>rfl
 |true=>
  rcases hk b hc with h5|h5
  ·rw [h5]at h2;cases h2
  ·omega
abbrev E3 (b o:Nat):SV:=.v (.pointer (some ⟨b,o,none⟩))
section
variable {P:Program}{n:Nat}{ks:List Nat}{G0:Gr}{w0:World}{T:List (Nat×SV)}{H:Hp}{G:Gr}{a:Act}{w:World}{Q:Exit→Act→World→Prop}{K:List Fr}{pos:Pos}{ops:Array Oper}{o:Oper}{rest:List Oper}
theorem Sy.base (A:Sy n T H ks G0 w0 G a w):Sy n T H (keys H G) G w G a w:=
 ⟨A.size,A.defers,A.get,A.mem,⟨[],by simp⟩,fun i e L h1 h2 h3=>.inl (mem_keys.2 ⟨i,e,L,h1,h2,h3,rfl⟩),CR.refl _ _⟩
theorem Sy.keys_own (A:Sy n T H ks G0 w0 G a w):∀b,(keys H G).contains b=true→ks.contains b=true∨w0.heap.size≤b:=fun b hb=>by
 obtain⟨i,e,L,h1,h2,h3,h4⟩:=mem_keys.1 hb
 rw [←h4];exact A.own i e L h1 h2 h3
theorem Sy.trans {n':Nat}{T1:List (Nat×SV)}{H1:Hp}{G1:Gr}{a1:Act}{w1:World}(B:Sy n' T1 H1 ks G0 w0 G1 a1 w1)(A:Sy n T H (keys H1 G1) G1 w1 G a w):Sy n T H ks G0 w0 G a w:=by
 obtain⟨F1,h1⟩:=B.pre
 obtain⟨F2,h2⟩:=A.pre
 refine⟨A.size,A.defers,A.get,A.mem,⟨F1++F2,by rw [h2,h1,List.append_assoc]⟩,fun i e L k1 k2 k3=>?_,B.mix.mix A.mix fun k hk hc=>?_⟩
 ·rcases A.own i e L k1 k2 k3 with h|h
  ·exact B.keys_own _ h
  ·exact .inr (Nat.le_trans B.mix.size h)
 ·cases hq:(keys H1 G1).contains k with
  |false=>rfl
  |true=>
   rcases B.keys_own k hq with h|h
   ·rw [h]at hc;cases hc
   ·omega
theorem Dd.OK.now {I:Dd}(hI:I.OK)(A:Sy n T H ks G0 w0 G a w)(h0:I w0 ks):I w (keys H G):=hI _ _ _ _ h0 A.mix A.keys_own
theorem Ew {β:Type} {c:Code} (T':β→List (Nat×SV)) (H':β→Hp) (J:β→World→List Nat→Prop) (μ:β→Nat) (z:β) (A:Sy n (T' z) (H' z) ks G0 w0 G a w) (hJ:J z w (keys (H' z) G))
  (round:∀z G a w,J z w (keys (H' z) G)→G0.length≤G.length→Sy n (T' z) (H' z) (keys (H' z) G) G w G a w→Sy n (T' z) (H' z) ks G0 w0 G a w→Goal P Q (.lp (fun a' w'=>∃z' G',μ z'<μ z∧J z' w' (keys (H' z') G')∧Sy n (T' z') (H' z') ks G0 w0 G' a' w')::K) (.code c) a w):Goal P Q K (.code (.loop c)) a w:=by
 refine KU (fun m a w=>∃z G,μ z=m∧J z w (keys (H' z) G)∧Sy n (T' z) (H' z) ks G0 w0 G a w) (μ z) ⟨z,G,rfl,hJ,A⟩ ?_
 rintro m a w ⟨z,G,rfl,hz,A⟩
 obtain⟨F,hF⟩:=A.pre
 refine Code.wp_mono (fun e a' w' h=>?_) (round z G a w hz (by rw [hF];simp) A.base A)
 cases e with
 |normal=>obtain⟨z',G',h1,h2,h3⟩:=h;exact⟨μ z',h1,z',G',rfl,h2,h3⟩
 |_=>exact h
end
theorem BQ {H H' l:Hp}{G:Gr}{m:List Nat}(hlen:H.length=G.length)(h1:Ca H m=some l)(h2:Cm m H'=some l):∀b,(keys H' (AY m G)).contains b=true→(keys H G).contains b=true:=fun b hb=>by
 obtain⟨p1,p2,p3⟩:=Co h1
 obtain⟨r1,r2⟩:=Cr h2
 have hm:∀j∈m,j<G.length:=fun j hj=>by rw [←hlen];exact p2 j hj
 obtain⟨i,e,L,k1,km,k2,k3⟩:=mem_keys.1 hb
 obtain⟨f,q1,q2⟩:=r2 i _ k1
 obtain⟨f',rfl⟩:=CS q2
 have hi:i<m.length:=by rw [←p1];exact(List.getElem?_eq_some_iff.1 q1).1
 have hj:m[i]?=some m[i]:=by simp [hi]
 rw [BD hm hj]at k2
 rw [p3 i _ hj]at q1
 exact mem_keys.2 ⟨m[i],f',L,q1,by rw [(BE q2).1];exact km,k2,k3⟩
def Jf (P:Program)(f:Nat)(args:List SV)(H:Hp)(J:SV→World→World→Prop):Prop:=
 Fo P f=some (false,false)∧∀G w vs,Mem H G w→AE G args=some vs→Calls P f vs.toArray w fun e w'=>∃x v,den [] x=some v∧e=.returned v∧BW w w'∧J x w w'
section
variable {P:Program}{n:Nat}{ks:List Nat}{G0:Gr}{w0:World}{T:List (Nat×SV)}{H:Hp}{G:Gr}{a:Act}{w:World}{Q:Exit→Act→World→Prop}{K:List Fr}{pos:Pos}{ops:Array Oper}{o:Oper}{rest:List Oper}
theorem DJ {f:Nat} {fn:Func} {c:Code} {args:List SV} {J:SV→World→World→Prop} (jH:Fo P f=some (false,false)) (hf:P.funcs[f]?=some fn) (hb:fn.body=some c) (hn:fn.ntmps=n) (hl:Nat.ble args.length n=true)
  (h:∀G w a,H.length=G.length→Sy n (La args 0) H (keys H G) G w G a w→Goal P (bodyPost P fn fun e w'=>∃x v,den [] x=some v∧e=.returned v∧BW w w'∧J x w w') [] (.code c) a w):Jf P f args H J:=by
 refine⟨jH,fun G w vs hM hv=>?_⟩
 refine calls_of_wp hf hb (h G w _ hM.len ⟨?_,rfl,fun t x hx=>?_,hM,⟨[],by simp⟩,fun i e L h1 h2 h3=>.inl (mem_keys.2 ⟨i,e,L,h1,h2,h3,rfl⟩),CR.refl _ _⟩)
 ·have:=Av hv
  have:=Nat.le_of_ble_eq_true hl
  simp [hn];omega
 ·obtain⟨_,h2⟩:=Dm hx
  simp only [Nat.sub_zero]at h2
  obtain⟨v,h3,h4⟩:=CL hv h2
  have i7:t<vs.length:=(List.getElem?_eq_some_iff.1 h3).1
  rw [h4]
  simp [Array.getD_eq_getD_getElem?,Array.getElem?_append,i7]at h3⊢
  exact h3.symm
theorem HY {Y:Tb}{fn:Func}{J:SV→World→World→Prop}{H0:Hp}(hX:Y.ok P=true){y:SV}{r:List SV}{rv:List ResultVar}{v':Value}(A:Sy n T H (keys H0 G0) G0 w0 G a w)(nK:∀(i:Nat) (e:A6),H0[i]?=some (some e)→e.mut=false)(hr:fn.results.toList=rv)(hv:IF ⟨Y,false⟩ T H rv=some r)(hy:AX r=y)(hc:den [] y=some v')(hJ:J y w0 w):bodyPost P fn (fun e w'=>∃x v,den [] x=some v∧e=.returned v∧BW w0 w'∧J x w0 w') .ret a w:=by
 obtain⟨v,h1,h2⟩:=GZ (X:=⟨Y,false⟩) (fn:=fn) hX A hr hv hy
 have h3:den G y=some v':=by simpa using AP G y hc
 rw [h3]at h1
 cases h1
 have hk:∀k,(keys H0 G0).contains k=false:=fun k=>by
  cases hz:(keys H0 G0).contains k with
  |false=>rfl
  |true=>
   obtain⟨i,e',L,q1,q2,_⟩:=mem_keys.1 hz
   rw [nK i e' q1]at q2;cases q2
 have hm:=A.mix
 exact⟨A.defers,v',h2,y,v',hc,rfl,⟨hm.os,hm.tape,hm.output,hm.size,fun k jQ=>hm.block k jQ (hk k)⟩,hJ⟩
theorem Iw {f:Nat} {args az:List SV} {H' l:Hp} {J:SV→World→World→Prop} (m:List Nat) (hf:Jf P f args H' J) (A:Sy n T H ks G0 w0 G a w) (h1:BS n ops T o=some (f,az)) (h2:DU m args=some az) (h3:Cm m H'=some l) (h4:Ca H m=some l) (h5:JY m=true)
  (hk:∀x a' w',J x w w'→(∀k,(keys H G).contains k=true→k<w.heap.size)→Sy n (Ay T o.dst x) H ks G0 w0 G a' w'→Goal P Q K (.ops ops rest) a' w'):Goal P Q K (.ops ops (o::rest)) a w:=by
 obtain⟨hd,us,hu,lK⟩:=Cb (P:=P) (ops:=ops) A h1 hf.1
 obtain⟨p1,p2,p3⟩:=Co h4
 have hm:∀j∈m,j<G.length:=fun j hj=>by rw [←A.mem.len];exact p2 j hj
 have hM:=A.mem.sub h4 h3 h5
 have mJ:AE (AY m G) args=some us:=by rw [Ck hm args h2];exact hu
 refine CJ (Q:=Fa P Q K) (lK (hf.2 _ w us hM mJ) fun e w' he=>?_)
 obtain⟨x,v,e1,rfl,hg,hJ⟩:=he
 refine⟨v,rfl,hk x _ _ hJ (fun k hz=>?_) (Sy.put ⟨A.size,A.defers,A.get,⟨A.mem.len,fun i e hi=>(A.mem.ent i e hi).mix hg.mix (fun _ _ _=>rfl),A.mem.sep⟩,A.pre,A.own,A.mix.grow hg⟩ hd (by simpa using AP G x e1))⟩
 obtain⟨i,e,L,q1,q2,q3,q4⟩:=mem_keys.1 hz
 have:=A.mem.ent i e q1
 rw [q3]at this
 rw [←q4];exact Ae.lt this (At q2)
theorem Gg {H0:Hp}(B:Sy n T H (keys H0 G0) G0 w0 G a w)(nK:∀(i:Nat) (e:A6),H0[i]?=some (some e)→e.mut=false){b:Nat}(h:(keys H G).contains b=true∨w.heap.size≤b):w0.heap.size≤b:=by
 rcases h with h|h
 ·rcases B.keys_own b h with h|h
  ·obtain⟨i,e',L,q1,q2,_⟩:=mem_keys.1 h
   rw [nK i e' q1]at q2;cases q2
  ·exact h
 ·exact Nat.le_trans B.mix.size h
end
def Gl (os:List (Nat×Obj)):Dd:=fun w ks=>∀p∈os,w.heap[p.1]?=some p.2∧ks.contains p.1=false
theorem Gl.ok {os:List (Nat×Obj)}:Dd.OK (Gl os):=fun w ks w' ks' h m hk p hp=>by
 obtain⟨h1,h2⟩:=h p hp
 have hl:p.1<w.heap.size:=(Array.getElem?_eq_some_iff.1 h1).1
 refine⟨by rw [m.block p.1 hl h2];exact h1,?_⟩
 cases hc:ks'.contains p.1 with
 |false=>rfl
 |true=>
  rcases hk _ hc with h3|h3
  ·rw [h3]at h2;cases h2
  ·omega
theorem Gh {I:Dd}{P:Program}{f:Nat}{args:List SV}{vs:List Value}{x:SV}{v:Value}(jH:Fo P f=some (false,false))(ha:AE [] args=some vs)(hx:den [] x=some v)(h:∀w ks,I w ks→Calls P f vs.toArray w fun e w'=>e=.returned v∧BW w w'):Bi I P f args [] (Rt x []):=by
 refine⟨jH,fun G w us hM hI hv=>?_⟩
 have h1:AE G args=some vs:=by simpa using Al G args ha
 rw [h1]at hv
 cases hv
 have hG:G=[]:=List.eq_nil_of_length_eq_zero hM.len.symm
 subst hG
 refine(h w _ hI).mono ?_
 rintro e w' ⟨rfl,hg⟩
 exact⟨x,[],[],v,⟨rfl,rfl⟩,by simpa using hx,rfl,⟨rfl,fun i e he=>by simp at he,fun i j e f L M _ he=>by simp at he⟩,(CR.refl _ w).grow hg,Nat.le_refl _,fun i e he _=>by simp at he,fun i e he=>by simp at he⟩
theorem TW {P:Program}{f:Nat}{args:List SV}{vs:List Value}{x:SV}{v:Value}(jH:Fo P f=some (false,false))(ha:AE [] args=some vs)(hx:den [] x=some v)(h:∀w,Calls P f vs.toArray w fun e w'=>e=.returned v∧BW w w'):Fn P f args [] (Rt x []):=by
 have:=Gh (I:=fun _ _=>True) jH ha hx fun w _ _=>h w
 exact⟨this.1,fun G w us hM hv=>this.2 G w us hM trivial hv⟩
theorem N6 {I:Dd}{P:Program}{f:Nat}{az:List SV}{H H2:Hp}{x y:SV}(h:Bi I P f az H (Rt x H2))(e:∀G,den G x=den G y):Bi I P f az H (Rt y H2):=
 ⟨h.1,fun G w vs hM hI hv=>Calls.mono (h.2 G w vs hM hI hv) fun e' w' ⟨x',H',F,v,⟨q1,q2⟩,r⟩=>by subst q1;subst q2;exact⟨y,_,F,v,⟨rfl,rfl⟩,by rw [←e];exact r.1,r.2⟩⟩
section
variable {P:Program}{n:Nat}{ks:List Nat}{G0:Gr}{w0:World}{I:Dd}
theorem Mn {ops:Array Oper}{Tw:List (Nat×SV)}{H:Hp}{o:Oper}{b:Bool}{f:Nat}{az:List SV}{E:Ob}{x:SV}{v0:Value}(jJ:I.OK)(h0:I w0 ks)(h:Lf n ops Tw o=some (b,f,az,E))(hE:Cz E)(lR:Fw 0 az=true)(tL:den [] x=some v0)(hf:b=true→Bi I P f az [] (Rt x [])):Aw P n ops ks G0 w0 Tw H o (.opt b x) H:=by
 intro G a w A
 obtain⟨k1,k2⟩:=Lh (P:=P) (ops:=ops) A h hE (fun hb=>(hf hb).1)
 cases b with
 |false=>
  refine EL (k1 rfl) ⟨[],?_,by simpa using A.ms⟩
  have:=AP (G:=[]) G x (by simpa using tL)
  simp at this
  simp [den,this]
 | true=>
  obtain⟨jH,hf⟩:=hf rfl
  obtain⟨vs,hv,lK⟩:=k2 rfl
  have hM:Mem [] [] w:=⟨rfl,fun i e h=>(by cases h),fun i j e f L M _ h=>(by cases h)⟩
  have p7:AE [] az=some vs:=by
   have:=BH (G:=G) az lR
   simp only [List.take_zero]at this
   rw [this];exact hv
  refine lK (hf [] w vs hM (jJ _ _ _ _ h0 A.mix fun b hb=>by simp [keys]at hb) p7) ?_
  rintro e w' ⟨y,H',F,v,⟨rfl,rfl⟩,hx,rfl,l7,jL,_⟩
  have hF:F=[]:=by have:=l7.len;simp at this;exact List.eq_nil_of_length_eq_zero this.symm
  subst hF
  have hg:BW w w':=⟨jL.os,jL.tape,jL.output,jL.size,fun k hk=>jL.block k hk rfl⟩
  refine⟨v,rfl,[],?_,by simpa using A.ms.grow hg⟩
  have:=AP (G:=[]) G y (by simpa using hx)
  simp at this
  simp [den,this]
end
theorem CT.ok {ao:Option Addr}{ps:List Int}:Dd.OK (CT ao ps):=fun w ks w' ks' h m hk=>h.go m hk
end Go.Proofs.YtbbdanhpphlbpaaGreatDoor
namespace Go.Proofs.YtbbdanhpphlbpaaGreatDoor
def GE (b:UInt8):Bool:=decide (48≤b.toNat∧b.toNat≤57)
def Mo (b:UInt8):Bool:=decide (97≤b.toNat∧b.toNat≤122∨65≤b.toNat∧b.toNat≤90)
def kR (b:UInt8):Bool:=decide (b.toNat=32∨b.toNat=9∨b.toNat=10)
def Dg (b:UInt8):Bool:=Mo b||GE b
def IG (b:UInt8):Bool:=Mo b||b.toNat==95
def E4 (b:UInt8):Bool:=IG b||(GE b||b.toNat==46)
def rn (p:UInt8→Bool)(l:List UInt8):Nat:=(l.takeWhile p).length
theorem D4 (p:UInt8→Bool)(l:List UInt8):rn p l≤l.length:=by
 unfold rn;exact(List.takeWhile_sublist p).length_le
theorem WW (p:UInt8→Bool):rn p []=0:=rfl
theorem N7 (p:UInt8→Bool)(b:UInt8)(l:List UInt8):rn p (b::l)=if p b then rn p l+1 else 0:=by
 unfold rn;rw [List.takeWhile_cons];split<;>rfl
theorem Fc {l:List UInt8}{n:Nat}{y:UInt8}(h:l[n]?=some y):l.drop n=y::l.drop (n+1):=by
 obtain⟨h1,h2⟩:=List.getElem?_eq_some_iff.1 h
 rw [List.drop_eq_getElem_cons h1,h2]
theorem U5 {p:UInt8→Bool}{l:List UInt8}{n:Nat}{y:UInt8}(h:l[n]?=some y)(hp:p y=true):rn p (l.drop n)=rn p (l.drop (n+1))+1:=by
 rw [Fc h,N7,if_pos hp]
theorem TX {p:UInt8→Bool}{l:List UInt8}{n:Nat}{y:UInt8}(h:l[n]?=some y)(hp:p y=false):rn p (l.drop n)=0:=by
 rw [Fc h,N7,if_neg (by simp [hp])]
theorem WX {p:UInt8→Bool}{l:List UInt8}{n:Nat}(h:l.length≤n):rn p (l.drop n)=0:=by
 rw [List.drop_eq_nil_of_le h,WW]
end Go.Proofs.YtbbdanhpphlbpaaGreatDoor
namespace Go.Proofs.YtbbdanhpphlbpaaGreatDoor
open Go.RowKit
set_option simprocs false
theorem BK:Tryz.prog.follows .mixedOrders=true:=by kernel_rfl
theorem HZ {P:Program}{f:Nat}{az:List SV}{H H2:Hp}{x y:SV}(h:Fn P f az H (Rt x H2))(e:∀G,den G x=den G y):Fn P f az H (Rt y H2):=
 ⟨h.1,fun G w vs hM hv=>Calls.mono (h.2 G w vs hM hv) fun e' w' ⟨x',H',F,v,⟨q1,q2⟩,r⟩=>by subst q1;subst q2;exact⟨y,_,F,v,⟨rfl,rfl⟩,by rw [←e];exact r.1,r.2⟩⟩
theorem Gi {p q:Bool}(h:p=q):∀G,den G (.bool p)=den G (.bool q):=fun _=>by rw [h]
theorem BI {k:IntKind}{p q:Int}(h:p=q):∀G,den G (.int k p)=den G (.int k q):=fun _=>by rw [h]
theorem Ix (c:Int):Fn Tryz.prog 153 [.int .u8 c] [] (Rt (.bool ((decide (48≤c))&&(decide (c≤57)))) []):=
 AG (n:=9) (by kernel_rfl) Tryz.func153 rfl rfl rfl fun G w a h0 A=>N9 17 A rfl rfl fun A=>R9 A rfl h0 rfl rfl rfl
theorem O7 (b:UInt8):Fn Tryz.prog 153 [.int .u8 ((b.toNat:Nat):Int)] [] (Rt (.bool (GE b)) []):=HZ (Ix ((b.toNat:Nat):Int)) (Gi (by rw [Bool.eq_iff_iff];simp [GE,kR,Mo,IG,E4,Dg];try omega))
theorem Qg (c:Int):Fn Tryz.prog 150 [.int .u8 c] [] (Rt (.bool (((c==32)||(c==9))||(c==10))) []):=
 AG (n:=13) (by kernel_rfl) Tryz.func150 rfl rfl rfl fun G w a h0 A=>N9 21 A rfl rfl fun A=>R9 A rfl h0 rfl rfl rfl
theorem O8 (b:UInt8):Fn Tryz.prog 150 [.int .u8 ((b.toNat:Nat):Int)] [] (Rt (.bool (kR b)) []):=HZ (Qg ((b.toNat:Nat):Int)) (Gi (by rw [Bool.eq_iff_iff];simp [GE,kR,Mo,IG,E4,Dg];try omega))
theorem Jy (c:Int):Fn Tryz.prog 206 [.int .u8 c] [] (Rt (.bool (((decide (97≤c))&&(decide (c≤122)))||((decide (65≤c))&&(decide (c≤90))))) []):=
 AG (n:=17) (by kernel_rfl) Tryz.func206 rfl rfl rfl fun G w a h0 A=>N9 25 A rfl rfl fun A=>R9 A rfl h0 rfl rfl rfl
theorem Gj (c:Int):Fn Tryz.prog 157 [.int .u8 c] [] (Rt (.bool ((((decide (97≤c))&&(decide (c≤122)))||((decide (65≤c))&&(decide (c≤90))))||(c==95))) []):=
 AG (n:=9) (by kernel_rfl) Tryz.func157 rfl rfl rfl fun G w a h0 A=>N9 8 A rfl rfl fun A=>C9 [] (Jy c) A rfl fun A=>N9 8 A rfl rfl fun A=>R9 A rfl h0 rfl rfl rfl
theorem Jg (b:UInt8):Fn Tryz.prog 157 [.int .u8 ((b.toNat:Nat):Int)] [] (Rt (.bool (IG b)) []):=HZ (Gj ((b.toNat:Nat):Int)) (Gi (by rw [Bool.eq_iff_iff];simp [GE,kR,Mo,IG,E4,Dg];try omega))
def D5 (c:Int):Bool:=if((((decide (97≤c))&&(decide (c≤122)))||((decide (65≤c))&&(decide (c≤90))))||(c==95))=true then true else((decide (48≤c))&&(decide (c≤57)))||(c==46)
theorem Ln (c:Int):Fn Tryz.prog 158 [.int .u8 c] [] (Rt (.bool (D5 c)) []):=
 AG (n:=13) (by kernel_rfl) Tryz.func158 rfl rfl rfl fun G w a h0 A=>N9 8 A rfl rfl fun A=>C9 [] (Gj c) A rfl fun A=>N9 1 A rfl rfl fun A=>fork 5 A rfl
  (fun h1 A=>N9 11 A rfl rfl fun A=>R9 A rfl h0 rfl (by simp only [AX,nb,BY,BR,D5,if_pos h1]) rfl)
  (fun h1 A=>N9 1 A rfl rfl fun A=>C9 [] (Ix c) A rfl fun A=>N9 9 A rfl rfl fun A=>R9 A rfl h0 rfl (by simp only [AX,nb,BY,BR,D5,if_neg (ne_true_of_eq_false h1)]) rfl)
theorem Kj (b:UInt8):Fn Tryz.prog 158 [.int .u8 ((b.toNat:Nat):Int)] [] (Rt (.bool (E4 b)) []):=HZ (Ln ((b.toNat:Nat):Int)) (Gi (by rw [Bool.eq_iff_iff];simp [D5,GE,kR,Mo,IG,E4,Dg];try omega))
def DQ (c:Int):Bool:=if(((decide (97≤c))&&(decide (c≤122)))||((decide (65≤c))&&(decide (c≤90))))=true then true else(decide (48≤c))&&(decide (c≤57))
theorem Jh (c:Int):Fn Tryz.prog 156 [.int .u8 c] [] (Rt (.bool (DQ c)) []):=
 AG (n:=9) (by kernel_rfl) Tryz.func156 rfl rfl rfl fun G w a h0 A=>N9 8 A rfl rfl fun A=>C9 [] (Jy c) A rfl fun A=>N9 1 A rfl rfl fun A=>fork 5 A rfl
  (fun h1 A=>N9 7 A rfl rfl fun A=>R9 A rfl h0 rfl (by simp only [AX,nb,BY,BR,DQ,if_pos h1]) rfl)
  (fun h1 A=>N9 1 A rfl rfl fun A=>C9 [] (Ix c) A rfl fun A=>N9 5 A rfl rfl fun A=>R9 A rfl h0 rfl (by simp only [AX,nb,BY,BR,DQ,if_neg (ne_true_of_eq_false h1)]) rfl)
theorem Iy (b:UInt8):Fn Tryz.prog 156 [.int .u8 ((b.toNat:Nat):Int)] [] (Rt (.bool (Dg b)) []):=HZ (Jh ((b.toNat:Nat):Int)) (Gi (by rw [Bool.eq_iff_iff];simp [DQ,GE,kR,Mo,IG,E4,Dg];try omega))
theorem jK {l:List UInt8}{k:Nat}(h:(k:Int)<(l.length:Int)):l[k]?=some (l.getD ((k:Int)).toNat 0):=by
 have hk:k<l.length:=by omega
 simp [List.getD,hk]
theorem Qh {p:UInt8→Bool}{l:List UInt8}{k:Nat}(h:k≤l.length∧k+rn p (l.drop k)=rn p l)(h1:(k:Int)<(l.length:Int))(h2:p (l.getD ((k:Int)).toNat 0)=true):k+1≤l.length∧k+1+rn p (l.drop (k+1))=rn p l:=by
 have:=U5 (jK h1) h2
 exact⟨by omega,by omega⟩
theorem Lo {p:UInt8→Bool}{l:List UInt8}{k:Nat}(h:k≤l.length∧k+rn p (l.drop k)=rn p l)(h2:¬(k:Int)<(l.length:Int)∨((k:Int)<(l.length:Int)∧p (l.getD ((k:Int)).toNat 0)=false)):(k:Int)=((rn p l:Nat):Int):=by
 rcases h2 with h2|⟨h1,h2⟩
 ·have:=WX (p:=p) (l:=l) (n:=k) (by omega);omega
 ·have:=TX (jK h1) h2;omega
theorem Y7 (f:Nat)(p:UInt8→Bool)(l:List UInt8)(hf:∀b:UInt8,Fn Tryz.prog f [.int .u8 ((b.toNat:Nat):Int)] [] (Rt (.bool (p b)) []))(hl:l.length≤1000000):Fn Tryz.prog 155 [.str l,.fn f []] [] (Rt (.int .i64 ((rn p l:Nat):Int)) []):=
 AG (n:=20) (by kernel_rfl) Tryz.func155 rfl rfl rfl fun G w a h0 A=>N9 12 A rfl rfl fun A=>Bk (fun(k:Nat)=>[(0,.str l),(1,.fn f []),(4,.int .i64 0),(5,.int .i64 (k:Int))]) (fun(k:Nat)=>[]) (fun(k:Nat)=>k≤l.length∧k+rn p (l.drop k)=rn p l) (fun(k:Nat)=>l.length - k) 0 ⟨Nat.zero_le _,by simp⟩ ((A.cut [0,1,4,5] rfl).trunc 0 rfl rfl rfl (iR h0 rfl)) fun k hI {G a w} A=>N9 8 A rfl rfl fun A=>AL 10 A rfl
   (fun h1 A=>N9 4 A rfl (iU (by omega)<|iT) fun A=>C9 [] (hf (l.getD ((k:Int)).toNat 0)) A rfl fun A=>N9 3 A rfl rfl fun A=>fork 16 A rfl
    (fun h2 A=>N9 10 A rfl (iU (by omega)<|iT) fun A=>⟨k+1,_,(by omega),(Qh hI h1 h2),((A.cut [0,1,4,5] rfl).trunc 0 rfl rfl rfl (iR h0 rfl))⟩)
    (fun h2 A=>N9 10 A rfl rfl fun A=>R9 A rfl h0 rfl (congrArg (SV.int IntKind.i64) (Lo hI (.inr ⟨h1,h2⟩))) rfl))
   (fun h1 A=>N9 18 A rfl rfl fun A=>R9 A rfl h0 rfl (congrArg (SV.int IntKind.i64) (Lo hI (.inl h1))) rfl)
theorem ED (r:Int):Fn Tryz.prog 162 [.int .i64 r] [] (Rt (.bool ((decide (r≥0))&&(decide (r<8)))) []):=
 AG (n:=9) (by kernel_rfl) Tryz.func162 rfl rfl rfl fun G w a h0 A=>N9 17 A rfl rfl fun A=>R9 A rfl h0 rfl rfl rfl
def CB (r:Int):Bool:=if r=(-1)then true else(decide (r≥0))&&(decide (r<8))
theorem Ei (r:Int):Fn Tryz.prog 163 [.int .i64 r] [] (Rt (.bool (CB r)) []):=
 AG (n:=9) (by kernel_rfl) Tryz.func163 rfl rfl rfl fun G w a h0 A=>N9 10 A rfl rfl fun A=>AN 5 A rfl
  (fun h1 A=>N9 7 A rfl rfl fun A=>R9 A rfl h0 rfl (by simp only [AX,nb,BY,BR,CB,if_pos h1]) rfl)
  (fun h1 A=>N9 1 A rfl rfl fun A=>C9 [] (ED r) A rfl fun A=>N9 5 A rfl rfl fun A=>R9 A rfl h0 rfl (by simp only [AX,nb,BY,BR,CB,if_neg (h1)]) rfl)
theorem Jz (r:Int):Fn Tryz.prog 165 [.int .i64 r] [] (Rt (.bool (((r==1)||(r==2))||(r==3))) []):=
 AG (n:=13) (by kernel_rfl) Tryz.func165 rfl rfl rfl fun G w a h0 A=>N9 21 A rfl rfl fun A=>R9 A rfl h0 rfl rfl rfl
theorem J1 (op dst ra rb imm loc off ix sz fn:Int)(acq weak rel:Bool)(pred succ to_:Int)(zero:Bool):Fn Tryz.prog 122 [.agg [.int .i64 op,.int .i64 dst,.int .i64 ra,.int .i64 rb,.int .i64 imm,.int .i64 loc,.int .i64 off,.int .i64 ix,.int .i64 sz,.int .i64 fn,.bool acq,.bool weak,.bool rel,.int .i64 pred,.int .i64 succ,.int .i64 to_,.bool zero]] [] (Rt (.bool (op==9)) []):=
 AG (n:=6) (by kernel_rfl) Tryz.func122 rfl rfl rfl fun G w a h0 A=>N9 15 A rfl rfl fun A=>R9 A rfl h0 rfl rfl rfl
theorem Kk (op dst ra rb imm loc off ix sz fn:Int)(acq weak rel:Bool)(pred succ to_:Int)(zero:Bool):Fn Tryz.prog 129 [.agg [.int .i64 op,.int .i64 dst,.int .i64 ra,.int .i64 rb,.int .i64 imm,.int .i64 loc,.int .i64 off,.int .i64 ix,.int .i64 sz,.int .i64 fn,.bool acq,.bool weak,.bool rel,.int .i64 pred,.int .i64 succ,.int .i64 to_,.bool zero]] [] (Rt (.bool ((op==4)||(op==6))) []):=
 AG (n:=11) (by kernel_rfl) Tryz.func129 rfl rfl rfl fun G w a h0 A=>N9 20 A rfl rfl fun A=>R9 A rfl h0 rfl rfl rfl
theorem IT (op dst ra rb imm loc off ix sz fn:Int)(acq weak rel:Bool)(pred succ to_:Int)(zero:Bool):Fn Tryz.prog 132 [.agg [.int .i64 op,.int .i64 dst,.int .i64 ra,.int .i64 rb,.int .i64 imm,.int .i64 loc,.int .i64 off,.int .i64 ix,.int .i64 sz,.int .i64 fn,.bool acq,.bool weak,.bool rel,.int .i64 pred,.int .i64 succ,.int .i64 to_,.bool zero]] [] (Rt (.bool ((op==5)||(op==6))) []):=
 AG (n:=11) (by kernel_rfl) Tryz.func132 rfl rfl rfl fun G w a h0 A=>N9 20 A rfl rfl fun A=>R9 A rfl h0 rfl rfl rfl
def BM (op dst ra rb imm loc off ix sz fn:Int)(acq weak rel:Bool)(pred succ to_:Int)(zero:Bool):Bool:=if((op==4)||(op==6))=true then true else(op==5)||(op==6)
theorem Fx (op dst ra rb imm loc off ix sz fn:Int)(acq weak rel:Bool)(pred succ to_:Int)(zero:Bool):Fn Tryz.prog 161 [.agg [.int .i64 op,.int .i64 dst,.int .i64 ra,.int .i64 rb,.int .i64 imm,.int .i64 loc,.int .i64 off,.int .i64 ix,.int .i64 sz,.int .i64 fn,.bool acq,.bool weak,.bool rel,.int .i64 pred,.int .i64 succ,.int .i64 to_,.bool zero]] [] (Rt (.bool (BM op dst ra rb imm loc off ix sz fn acq weak rel pred succ to_ zero)) []):=
 AG (n:=9) (by kernel_rfl) Tryz.func161 rfl rfl rfl fun G w a h0 A=>N9 9 A rfl rfl fun A=>C9 [] (Kk op dst ra rb imm loc off ix sz fn acq weak rel pred succ to_ zero) A rfl fun A=>N9 1 A rfl rfl fun A=>fork 5 A rfl
  (fun h1 A=>N9 7 A rfl rfl fun A=>R9 A rfl h0 rfl (by simp only [AX,nb,BY,BR,BM,if_pos h1]) rfl)
  (fun h1 A=>N9 1 A rfl rfl fun A=>C9 [] (IT op dst ra rb imm loc off ix sz fn acq weak rel pred succ to_ zero) A rfl fun A=>N9 5 A rfl rfl fun A=>R9 A rfl h0 rfl (by simp only [AX,nb,BY,BR,BM,if_neg (ne_true_of_eq_false h1)]) rfl)
def Ej (op dst ra rb imm loc off ix sz fn:Int)(acq weak rel:Bool)(pred succ to_:Int)(zero:Bool)(rr:Int):Int:=if rr≠(-1)then 0 else imm
theorem N8 (op dst ra rb imm loc off ix sz fn:Int)(acq weak rel:Bool)(pred succ to_:Int)(zero:Bool)(rr:Int):Fn Tryz.prog 160 [.agg [.int .i64 op,.int .i64 dst,.int .i64 ra,.int .i64 rb,.int .i64 imm,.int .i64 loc,.int .i64 off,.int .i64 ix,.int .i64 sz,.int .i64 fn,.bool acq,.bool weak,.bool rel,.int .i64 pred,.int .i64 succ,.int .i64 to_,.bool zero],.int .i64 rr] [] (Rt (.int .i64 (Ej op dst ra rb imm loc off ix sz fn acq weak rel pred succ to_ zero rr)) []):=
 AG (n:=9) (by kernel_rfl) Tryz.func160 rfl rfl rfl fun G w a h0 A=>N9 13 A rfl rfl fun A=>Dc 6 A rfl
  (fun h1 A=>N9 7 A rfl rfl fun A=>R9 A rfl h0 rfl (by simp only [AX,nb,BY,BR,Ej,if_pos h1]) rfl)
  (fun h1 A=>N9 11 A rfl rfl fun A=>R9 A rfl h0 rfl (by simp only [AX,nb,BY,BR,Ej,if_neg (not_not_intro h1)]) rfl)
theorem Kl (sz:Int):Fn Tryz.prog 209 [.int .i64 sz] [] (Rt (.bool ((((sz==1)||(sz==2))||(sz==4))||(sz==8))) []):=
 AG (n:=17) (by kernel_rfl) Tryz.func209 rfl rfl rfl fun G w a h0 A=>N9 25 A rfl rfl fun A=>R9 A rfl h0 rfl rfl rfl
theorem Hc (a1 sz:Int):Fn Tryz.prog 171 [.int .i64 a1,.int .i64 sz] [] (Rt (.bool (((((((sz==1)||(sz==2))||(sz==4))||(sz==8))&&(decide (a1≥0)))&&(decide (a1≤(IntKind.wrap .i64 (8 - sz)))))&&((Int.tmod a1 sz)==0))) []):=
 AG (n:=23) (by kernel_rfl) Tryz.func171 rfl rfl rfl fun G w a h0 A=>M hX 8 A rfl rfl fun A=>C9 [] (Kl sz) A rfl fun A=>M hX 20 A rfl (BX<|BX<|BX<|BX<|BX<|BX<|BX<|BX<|HW (fun hg=>(by(try simp at hg);first|omega|(simp;omega)))<|BX<|BX<|iT) fun A=>R9 A rfl h0 rfl rfl rfl
def Iz (a1 sz:Int):Int:=if(!(((((((sz==1)||(sz==2))||(sz==4))||(sz==8))&&(decide (a1≥0)))&&(decide (a1≤(IntKind.wrap .i64 (8 - sz)))))&&((Int.tmod a1 sz)==0)))=true then 0 else IntKind.wrap .i64 ((IntKind.wrap .i64 ((IntKind.wrap .i64 (1*2^min (sz).toNat (IntKind.bits .i64))) - 1))*2^min (a1).toNat (IntKind.bits .i64))
theorem WY (a1 sz:Int):Fn Tryz.prog 174 [.int .i64 a1,.int .i64 sz] [] (Rt (.int .i64 (Iz a1 sz)) []):=
 AG (n:=14) (by kernel_rfl) Tryz.func174 rfl rfl rfl fun G w a h0 A=>M hX 10 A rfl rfl fun A=>C9 [] (Hc a1 sz) A rfl fun A=>M hX 3 A rfl rfl fun A=>fork 8 A rfl
  (fun h1 A=>M hX 7 A rfl rfl fun A=>R9 A rfl h0 rfl (by simp only [AX,nb,BY,BR,Iz,if_pos h1]) rfl)
  (fun h1 A=>M hX 14 A rfl (iU (by(try simp at h1);first|omega|(simp;omega))<|iU (by(try simp at h1);first|omega|(simp;omega))<|iT) fun A=>R9 A rfl h0 rfl (by simp only [AX,nb,BY,BR,Iz,if_neg (ne_true_of_eq_false h1)]) rfl)
def Bl (op dst ra rb imm loc off ix sz fn:Int)(acq weak rel:Bool)(pred succ to_:Int)(zero:Bool):Bool:=if loc≥0 then if loc<3 then if(CB ix)=true then !((Iz off sz)==0)else false else false else false
theorem Hd (op dst ra rb imm loc off ix sz fn:Int)(acq weak rel:Bool)(pred succ to_:Int)(zero:Bool):Fn Tryz.prog 164 [.agg [.int .i64 op,.int .i64 dst,.int .i64 ra,.int .i64 rb,.int .i64 imm,.int .i64 loc,.int .i64 off,.int .i64 ix,.int .i64 sz,.int .i64 fn,.bool acq,.bool weak,.bool rel,.int .i64 pred,.int .i64 succ,.int .i64 to_,.bool zero]] [] (Rt (.bool (Bl op dst ra rb imm loc off ix sz fn acq weak rel pred succ to_ zero)) []):=
 AG (n:=24) (by kernel_rfl) Tryz.func164 rfl rfl rfl fun G w a h0 A=>N9 12 A rfl rfl fun A=>AL 6 A rfl
  (fun h1 A=>N9 5 A rfl rfl fun A=>AL 11 A rfl
   (fun h2 A=>N9 2 A rfl rfl fun A=>C9 [] (Ei ix) A rfl fun A=>N9 2 A rfl rfl fun A=>fork 16 A rfl
    (fun h3 A=>N9 4 A rfl rfl fun A=>C9 [] (WY off sz) A rfl fun A=>N9 6 A rfl rfl fun A=>R9 A rfl h0 rfl (by simp only [AX,nb,BY,BR,Bl,if_pos h1,if_pos h2,if_pos h3]) rfl)
    (fun h3 A=>N9 11 A rfl rfl fun A=>R9 A rfl h0 rfl (by simp only [AX,nb,BY,BR,Bl,if_pos h1,if_pos h2,if_neg (ne_true_of_eq_false h3)]) rfl))
   (fun h2 A=>N9 16 A rfl rfl fun A=>R9 A rfl h0 rfl (by simp only [AX,nb,BY,BR,Bl,if_pos h1,if_neg h2]) rfl))
  (fun h1 A=>N9 21 A rfl rfl fun A=>R9 A rfl h0 rfl (by simp only [AX,nb,BY,BR,Bl,if_neg h1]) rfl)
def Bu (op dst ra rb imm loc off ix sz fn:Int)(acq weak rel:Bool)(pred succ to_:Int)(zero:Bool):Int:=if op=1 then dst else if op=2 then dst else if op=3 then dst else if op=4 then dst else if op=5 then(-1)else if op=6 then dst else(-1)
def Bv (op dst ra rb imm loc off ix sz fn:Int)(acq weak rel:Bool)(pred succ to_:Int)(zero:Bool):Int:=if op=1 then(-1)else if op=2 then ra else if op=3 then ra else if op=4 then(-1)else if op=5 then ra else if op=6 then ra else if op=7 then(-1)else if op=9 then ra else(-1)
def Bw (op dst ra rb imm loc off ix sz fn:Int)(acq weak rel:Bool)(pred succ to_:Int)(zero:Bool):Int:=if op=1 then(-1)else if op=2 then(-1)else if op=3 then rb else(-1)
def Bx (op dst ra rb imm loc off ix sz fn:Int)(acq weak rel:Bool)(pred succ to_:Int)(zero:Bool):Int:=if op=1 then imm else if op=2 then 0 else if op=3 then Ej op dst ra rb imm loc off ix sz fn acq weak rel pred succ to_ zero rb else if op=4 then 0 else if op=5 then Ej op dst ra rb imm loc off ix sz fn acq weak rel pred succ to_ zero ra else 0
def By (op dst ra rb imm loc off ix sz fn:Int)(acq weak rel:Bool)(pred succ to_:Int)(zero:Bool):Int:=if op=1 then if(BM op dst ra rb imm loc off ix sz fn acq weak rel pred succ to_ zero)=true then loc else 0 else if op=2 then if(BM op dst ra rb imm loc off ix sz fn acq weak rel pred succ to_ zero)=true then loc else 0 else if op=3 then if(BM op dst ra rb imm loc off ix sz fn acq weak rel pred succ to_ zero)=true then loc else 0 else if op=4 then if(BM op dst ra rb imm loc off ix sz fn acq weak rel pred succ to_ zero)=true then loc else 0 else if op=5 then if(BM op dst ra rb imm loc off ix sz fn acq weak rel pred succ to_ zero)=true then loc else 0 else if op=6 then if(BM op dst ra rb imm loc off ix sz fn acq weak rel pred succ to_ zero)=true then loc else 0 else if op=7 then if(BM op dst ra rb imm loc off ix sz fn acq weak rel pred succ to_ zero)=true then loc else 0 else if op=9 then if(BM op dst ra rb imm loc off ix sz fn acq weak rel pred succ to_ zero)=true then loc else 0 else if(BM op dst ra rb imm loc off ix sz fn acq weak rel pred succ to_ zero)=true then loc else 0
def Bz (op dst ra rb imm loc off ix sz fn:Int)(acq weak rel:Bool)(pred succ to_:Int)(zero:Bool):Int:=if op=1 then if(BM op dst ra rb imm loc off ix sz fn acq weak rel pred succ to_ zero)=true then off else 0 else if op=2 then if(BM op dst ra rb imm loc off ix sz fn acq weak rel pred succ to_ zero)=true then off else 0 else if op=3 then if(BM op dst ra rb imm loc off ix sz fn acq weak rel pred succ to_ zero)=true then off else 0 else if op=4 then if(BM op dst ra rb imm loc off ix sz fn acq weak rel pred succ to_ zero)=true then off else 0 else if op=5 then if(BM op dst ra rb imm loc off ix sz fn acq weak rel pred succ to_ zero)=true then off else 0 else if op=6 then if(BM op dst ra rb imm loc off ix sz fn acq weak rel pred succ to_ zero)=true then off else 0 else if op=7 then if(BM op dst ra rb imm loc off ix sz fn acq weak rel pred succ to_ zero)=true then off else 0 else if op=9 then if(BM op dst ra rb imm loc off ix sz fn acq weak rel pred succ to_ zero)=true then off else 0 else if(BM op dst ra rb imm loc off ix sz fn acq weak rel pred succ to_ zero)=true then off else 0
def B4 (op dst ra rb imm loc off ix sz fn:Int)(acq weak rel:Bool)(pred succ to_:Int)(zero:Bool):Int:=if op=1 then if(BM op dst ra rb imm loc off ix sz fn acq weak rel pred succ to_ zero)=true then ix else(-1)else if op=2 then if(BM op dst ra rb imm loc off ix sz fn acq weak rel pred succ to_ zero)=true then ix else(-1)else if op=3 then if(BM op dst ra rb imm loc off ix sz fn acq weak rel pred succ to_ zero)=true then ix else(-1)else if op=4 then if(BM op dst ra rb imm loc off ix sz fn acq weak rel pred succ to_ zero)=true then ix else(-1)else if op=5 then if(BM op dst ra rb imm loc off ix sz fn acq weak rel pred succ to_ zero)=true then ix else(-1)else if op=6 then if(BM op dst ra rb imm loc off ix sz fn acq weak rel pred succ to_ zero)=true then ix else(-1)else if op=7 then if(BM op dst ra rb imm loc off ix sz fn acq weak rel pred succ to_ zero)=true then ix else(-1)else if op=9 then if(BM op dst ra rb imm loc off ix sz fn acq weak rel pred succ to_ zero)=true then ix else(-1)else if(BM op dst ra rb imm loc off ix sz fn acq weak rel pred succ to_ zero)=true then ix else(-1)
def B5 (op dst ra rb imm loc off ix sz fn:Int)(acq weak rel:Bool)(pred succ to_:Int)(zero:Bool):Int:=if op=1 then if(BM op dst ra rb imm loc off ix sz fn acq weak rel pred succ to_ zero)=true then sz else 0 else if op=2 then if(BM op dst ra rb imm loc off ix sz fn acq weak rel pred succ to_ zero)=true then sz else 0 else if op=3 then if(BM op dst ra rb imm loc off ix sz fn acq weak rel pred succ to_ zero)=true then sz else 0 else if op=4 then if(BM op dst ra rb imm loc off ix sz fn acq weak rel pred succ to_ zero)=true then sz else 0 else if op=5 then if(BM op dst ra rb imm loc off ix sz fn acq weak rel pred succ to_ zero)=true then sz else 0 else if op=6 then if(BM op dst ra rb imm loc off ix sz fn acq weak rel pred succ to_ zero)=true then sz else 0 else if op=7 then if(BM op dst ra rb imm loc off ix sz fn acq weak rel pred succ to_ zero)=true then sz else 0 else if op=9 then if(BM op dst ra rb imm loc off ix sz fn acq weak rel pred succ to_ zero)=true then sz else 0 else if(BM op dst ra rb imm loc off ix sz fn acq weak rel pred succ to_ zero)=true then sz else 0
def plain8 (op dst ra rb imm loc off ix sz fn:Int)(acq weak rel:Bool)(pred succ to_:Int)(zero:Bool):Int:=if op=1 then 0 else if op=2 then 0 else if op=3 then fn else if op=4 then 0 else if op=5 then 0 else if op=6 then fn else 0
def B6 (op dst ra rb imm loc off ix sz fn:Int)(acq weak rel:Bool)(pred succ to_:Int)(zero:Bool):Bool:=if op=1 then false else if op=2 then false else if op=3 then false else if op=4 then acq else if op=5 then false else if op=6 then acq else false
def BZ (op dst ra rb imm loc off ix sz fn:Int)(acq weak rel:Bool)(pred succ to_:Int)(zero:Bool):Bool:=if op=1 then false else if op=2 then false else if op=3 then false else if op=4 then weak else false
def Ba (op dst ra rb imm loc off ix sz fn:Int)(acq weak rel:Bool)(pred succ to_:Int)(zero:Bool):Bool:=if op=1 then false else if op=2 then false else if op=3 then false else if op=4 then false else if op=5 then rel else if op=6 then rel else false
def Bb (op dst ra rb imm loc off ix sz fn:Int)(acq weak rel:Bool)(pred succ to_:Int)(zero:Bool):Int:=if op=1 then 0 else if op=2 then 0 else if op=3 then 0 else if op=4 then 0 else if op=5 then 0 else if op=6 then 0 else if op=7 then pred else 0
def Bc (op dst ra rb imm loc off ix sz fn:Int)(acq weak rel:Bool)(pred succ to_:Int)(zero:Bool):Int:=if op=1 then 0 else if op=2 then 0 else if op=3 then 0 else if op=4 then 0 else if op=5 then 0 else if op=6 then 0 else if op=7 then succ else 0
def Bd (op dst ra rb imm loc off ix sz fn:Int)(acq weak rel:Bool)(pred succ to_:Int)(zero:Bool):Int:=if op=1 then 0 else if op=2 then 0 else if op=3 then 0 else if op=4 then 0 else if op=5 then 0 else if op=6 then 0 else if op=7 then 0 else if op=9 then to_ else 0
def Be (op dst ra rb imm loc off ix sz fn:Int)(acq weak rel:Bool)(pred succ to_:Int)(zero:Bool):Bool:=if op=1 then false else if op=2 then false else if op=3 then false else if op=4 then false else if op=5 then false else if op=6 then false else if op=7 then false else if op=9 then zero else false
theorem WZ (op dst ra rb imm loc off ix sz fn:Int) (acq weak rel:Bool) (pred succ to_:Int) (zero:Bool):Fn Tryz.prog 120 [.agg [.int .i64 op,.int .i64 dst,.int .i64 ra,.int .i64 rb,.int .i64 imm,.int .i64 loc,.int .i64 off,.int .i64 ix,.int .i64 sz,.int .i64 fn,.bool acq,.bool weak,.bool rel,.int .i64 pred,.int .i64 succ,.int .i64 to_,.bool zero]] [] (Rt (.agg [.int .i64 op,.int .i64 (Bu op dst ra rb imm loc off ix sz fn acq weak rel pred succ to_ zero),.int .i64 (Bv op dst ra rb imm loc off ix sz fn acq weak rel pred succ to_ zero),.int .i64 (Bw op dst ra rb imm loc off ix sz fn acq weak rel pred succ to_ zero),.int .i64 (Bx op dst ra rb imm loc off ix sz fn acq weak rel pred succ to_ zero),.int .i64 (By op dst ra rb imm loc off ix sz fn acq weak rel pred succ to_ zero),.int .i64 (Bz op dst ra rb imm loc off ix sz fn acq weak rel pred succ to_ zero),.int .i64 (B4 op dst ra rb imm loc off ix sz fn acq weak rel pred succ to_ zero),.int .i64 (B5 op dst ra rb imm loc off ix sz fn acq weak rel pred succ to_ zero),.int .i64 (plain8 op dst ra rb imm loc off ix sz fn acq weak rel pred succ to_ zero),.bool (B6 op dst ra rb imm loc off ix sz fn acq weak rel pred succ to_ zero),.bool (BZ op dst ra rb imm loc off ix sz fn acq weak rel pred succ to_ zero),.bool (Ba op dst ra rb imm loc off ix sz fn acq weak rel pred succ to_ zero),.int .i64 (Bb op dst ra rb imm loc off ix sz fn acq weak rel pred succ to_ zero),.int .i64 (Bc op dst ra rb imm loc off ix sz fn acq weak rel pred succ to_ zero),.int .i64 (Bd op dst ra rb imm loc off ix sz fn acq weak rel pred succ to_ zero),.bool (Be op dst ra rb imm loc off ix sz fn acq weak rel pred succ to_ zero)]) []):=
 AG (n:=119) (by kernel_rfl) Tryz.func120 rfl rfl rfl fun G w a h0 A=>N9 29 A rfl rfl fun A=>AN 9 A rfl
  (fun h1 A=>N9 1 A rfl rfl fun A=>Aq hX BK [] [] A rfl rfl rfl rfl (by kernel_rfl) (AV _ _) trivial fun A=>N9 6 A rfl rfl fun A=>C9 [] (Fx op dst ra rb imm loc off ix sz fn acq weak rel pred succ to_ zero) A rfl fun A=>N9 2 A rfl rfl fun A=>fork 105 A rfl
   (fun h2 A=>N9 1 A rfl rfl fun A=>Aq hX BK [] [] A rfl rfl rfl rfl (by kernel_rfl) (AV _ _) trivial fun A=>N9 8 A rfl rfl fun A=>R9 A rfl h0 rfl (by simp only [AX,nb,BY,BR,Bu,Bv,Bw,Bx,By,Bz,B4,B5,plain8,B6,BZ,Ba,Bb,Bc,Bd,Be,if_pos h1,if_pos h2]) rfl)
   (fun h2 A=>N9 10 A rfl rfl fun A=>R9 A rfl h0 rfl (by simp only [AX,nb,BY,BR,Bu,Bv,Bw,Bx,By,Bz,B4,B5,plain8,B6,BZ,Ba,Bb,Bc,Bd,Be,if_pos h1,if_neg (ne_true_of_eq_false h2)]) rfl))
  (fun h1 A=>N9 7 A rfl rfl fun A=>AN 17 A rfl
   (fun h3 A=>N9 1 A rfl rfl fun A=>Aq hX BK [] [] A rfl rfl rfl rfl (by kernel_rfl) (AV _ _) trivial fun A=>N9 6 A rfl rfl fun A=>C9 [] (Fx op dst ra rb imm loc off ix sz fn acq weak rel pred succ to_ zero) A rfl fun A=>N9 2 A rfl rfl fun A=>fork 105 A rfl
    (fun h4 A=>N9 1 A rfl rfl fun A=>Aq hX BK [] [] A rfl rfl rfl rfl (by kernel_rfl) (AV _ _) trivial fun A=>N9 8 A rfl rfl fun A=>R9 A rfl h0 rfl (by simp only [AX,nb,BY,BR,Bu,Bv,Bw,Bx,By,Bz,B4,B5,plain8,B6,BZ,Ba,Bb,Bc,Bd,Be,if_neg (h1),if_pos h3,if_pos h4]) rfl)
    (fun h4 A=>N9 10 A rfl rfl fun A=>R9 A rfl h0 rfl (by simp only [AX,nb,BY,BR,Bu,Bv,Bw,Bx,By,Bz,B4,B5,plain8,B6,BZ,Ba,Bb,Bc,Bd,Be,if_neg (h1),if_pos h3,if_neg (ne_true_of_eq_false h4)]) rfl))
   (fun h3 A=>N9 7 A rfl rfl fun A=>AN 25 A rfl
    (fun h5 A=>N9 1 A rfl rfl fun A=>Aq hX BK [(11,.int .i64 (Ej op dst ra rb imm loc off ix sz fn acq weak rel pred succ to_ zero rb))] [] A rfl rfl rfl rfl (by kernel_rfl) (AV _ _) ⟨.inl ⟨_,_,rfl,rfl,N8 op dst ra rb imm loc off ix sz fn acq weak rel pred succ to_ zero rb⟩,trivial⟩ fun A=>N9 6 A rfl rfl fun A=>C9 [] (Fx op dst ra rb imm loc off ix sz fn acq weak rel pred succ to_ zero) A rfl fun A=>N9 2 A rfl rfl fun A=>fork 105 A rfl
     (fun h6 A=>N9 1 A rfl rfl fun A=>Aq hX BK [] [] A rfl rfl rfl rfl (by kernel_rfl) (AV _ _) trivial fun A=>N9 8 A rfl rfl fun A=>R9 A rfl h0 rfl (by simp only [AX,nb,BY,BR,Bu,Bv,Bw,Bx,By,Bz,B4,B5,plain8,B6,BZ,Ba,Bb,Bc,Bd,Be,if_neg (h1),if_neg (h3),if_pos h5,if_pos h6]) rfl)
     (fun h6 A=>N9 10 A rfl rfl fun A=>R9 A rfl h0 rfl (by simp only [AX,nb,BY,BR,Bu,Bv,Bw,Bx,By,Bz,B4,B5,plain8,B6,BZ,Ba,Bb,Bc,Bd,Be,if_neg (h1),if_neg (h3),if_pos h5,if_neg (ne_true_of_eq_false h6)]) rfl))
    (fun h5 A=>N9 7 A rfl rfl fun A=>AN 44 A rfl
     (fun h7 A=>N9 1 A rfl rfl fun A=>Aq hX BK [] [] A rfl rfl rfl rfl (by kernel_rfl) (AV _ _) trivial fun A=>N9 6 A rfl rfl fun A=>C9 [] (Fx op dst ra rb imm loc off ix sz fn acq weak rel pred succ to_ zero) A rfl fun A=>N9 2 A rfl rfl fun A=>fork 105 A rfl
      (fun h8 A=>N9 1 A rfl rfl fun A=>Aq hX BK [] [] A rfl rfl rfl rfl (by kernel_rfl) (AV _ _) trivial fun A=>N9 8 A rfl rfl fun A=>R9 A rfl h0 rfl (by simp only [AX,nb,BY,BR,Bu,Bv,Bw,Bx,By,Bz,B4,B5,plain8,B6,BZ,Ba,Bb,Bc,Bd,Be,if_neg (h1),if_neg (h3),if_neg (h5),if_pos h7,if_pos h8]) rfl)
      (fun h8 A=>N9 10 A rfl rfl fun A=>R9 A rfl h0 rfl (by simp only [AX,nb,BY,BR,Bu,Bv,Bw,Bx,By,Bz,B4,B5,plain8,B6,BZ,Ba,Bb,Bc,Bd,Be,if_neg (h1),if_neg (h3),if_neg (h5),if_pos h7,if_neg (ne_true_of_eq_false h8)]) rfl))
     (fun h7 A=>N9 7 A rfl rfl fun A=>AN 55 A rfl
      (fun h9 A=>N9 1 A rfl rfl fun A=>Aq hX BK [(5,.int .i64 (Ej op dst ra rb imm loc off ix sz fn acq weak rel pred succ to_ zero ra))] [] A rfl rfl rfl rfl (by kernel_rfl) (AV _ _) ⟨.inl ⟨_,_,rfl,rfl,N8 op dst ra rb imm loc off ix sz fn acq weak rel pred succ to_ zero ra⟩,trivial⟩ fun A=>N9 6 A rfl rfl fun A=>C9 [] (Fx op dst ra rb imm loc off ix sz fn acq weak rel pred succ to_ zero) A rfl fun A=>N9 2 A rfl rfl fun A=>fork 105 A rfl
       (fun kH A=>N9 1 A rfl rfl fun A=>Aq hX BK [] [] A rfl rfl rfl rfl (by kernel_rfl) (AV _ _) trivial fun A=>N9 8 A rfl rfl fun A=>R9 A rfl h0 rfl (by simp only [AX,nb,BY,BR,Bu,Bv,Bw,Bx,By,Bz,B4,B5,plain8,B6,BZ,Ba,Bb,Bc,Bd,Be,if_neg (h1),if_neg (h3),if_neg (h5),if_neg (h7),if_pos h9,if_pos kH]) rfl)
       (fun kH A=>N9 10 A rfl rfl fun A=>R9 A rfl h0 rfl (by simp only [AX,nb,BY,BR,Bu,Bv,Bw,Bx,By,Bz,B4,B5,plain8,B6,BZ,Ba,Bb,Bc,Bd,Be,if_neg (h1),if_neg (h3),if_neg (h5),if_neg (h7),if_pos h9,if_neg (ne_true_of_eq_false kH)]) rfl))
      (fun h9 A=>N9 7 A rfl rfl fun A=>AN 68 A rfl
       (fun kF A=>N9 1 A rfl rfl fun A=>Aq hX BK [] [] A rfl rfl rfl rfl (by kernel_rfl) (AV _ _) trivial fun A=>N9 6 A rfl rfl fun A=>C9 [] (Fx op dst ra rb imm loc off ix sz fn acq weak rel pred succ to_ zero) A rfl fun A=>N9 2 A rfl rfl fun A=>fork 105 A rfl
        (fun mA A=>N9 1 A rfl rfl fun A=>Aq hX BK [] [] A rfl rfl rfl rfl (by kernel_rfl) (AV _ _) trivial fun A=>N9 8 A rfl rfl fun A=>R9 A rfl h0 rfl (by simp only [AX,nb,BY,BR,Bu,Bv,Bw,Bx,By,Bz,B4,B5,plain8,B6,BZ,Ba,Bb,Bc,Bd,Be,if_neg (h1),if_neg (h3),if_neg (h5),if_neg (h7),if_neg (h9),if_pos kF,if_pos mA]) rfl)
        (fun mA A=>N9 10 A rfl rfl fun A=>R9 A rfl h0 rfl (by simp only [AX,nb,BY,BR,Bu,Bv,Bw,Bx,By,Bz,B4,B5,plain8,B6,BZ,Ba,Bb,Bc,Bd,Be,if_neg (h1),if_neg (h3),if_neg (h5),if_neg (h7),if_neg (h9),if_pos kF,if_neg (ne_true_of_eq_false mA)]) rfl))
       (fun kF A=>N9 7 A rfl rfl fun A=>AN 85 A rfl
        (fun lU A=>N9 1 A rfl rfl fun A=>Aq hX BK [] [] A rfl rfl rfl rfl (by kernel_rfl) (AV _ _) trivial fun A=>N9 6 A rfl rfl fun A=>C9 [] (Fx op dst ra rb imm loc off ix sz fn acq weak rel pred succ to_ zero) A rfl fun A=>N9 2 A rfl rfl fun A=>fork 105 A rfl
         (fun nD A=>N9 1 A rfl rfl fun A=>Aq hX BK [] [] A rfl rfl rfl rfl (by kernel_rfl) (AV _ _) trivial fun A=>N9 8 A rfl rfl fun A=>R9 A rfl h0 rfl (by simp only [AX,nb,BY,BR,Bu,Bv,Bw,Bx,By,Bz,B4,B5,plain8,B6,BZ,Ba,Bb,Bc,Bd,Be,if_neg (h1),if_neg (h3),if_neg (h5),if_neg (h7),if_neg (h9),if_neg (kF),if_pos lU,if_pos nD]) rfl)
         (fun nD A=>N9 10 A rfl rfl fun A=>R9 A rfl h0 rfl (by simp only [AX,nb,BY,BR,Bu,Bv,Bw,Bx,By,Bz,B4,B5,plain8,B6,BZ,Ba,Bb,Bc,Bd,Be,if_neg (h1),if_neg (h3),if_neg (h5),if_neg (h7),if_neg (h9),if_neg (kF),if_pos lU,if_neg (ne_true_of_eq_false nD)]) rfl))
        (fun lU A=>N9 7 A rfl rfl fun A=>AN 93 A rfl
         (fun nL A=>N9 1 A rfl rfl fun A=>Aq hX BK [] [] A rfl rfl rfl rfl (by kernel_rfl) (AV _ _) trivial fun A=>N9 6 A rfl rfl fun A=>C9 [] (Fx op dst ra rb imm loc off ix sz fn acq weak rel pred succ to_ zero) A rfl fun A=>N9 2 A rfl rfl fun A=>fork 105 A rfl
          (fun nS A=>N9 1 A rfl rfl fun A=>Aq hX BK [] [] A rfl rfl rfl rfl (by kernel_rfl) (AV _ _) trivial fun A=>N9 8 A rfl rfl fun A=>R9 A rfl h0 rfl (by simp only [AX,nb,BY,BR,Bu,Bv,Bw,Bx,By,Bz,B4,B5,plain8,B6,BZ,Ba,Bb,Bc,Bd,Be,if_neg (h1),if_neg (h3),if_neg (h5),if_neg (h7),if_neg (h9),if_neg (kF),if_neg (lU),if_pos nL,if_pos nS]) rfl)
          (fun nS A=>N9 10 A rfl rfl fun A=>R9 A rfl h0 rfl (by simp only [AX,nb,BY,BR,Bu,Bv,Bw,Bx,By,Bz,B4,B5,plain8,B6,BZ,Ba,Bb,Bc,Bd,Be,if_neg (h1),if_neg (h3),if_neg (h5),if_neg (h7),if_neg (h9),if_neg (kF),if_neg (lU),if_pos nL,if_neg (ne_true_of_eq_false nS)]) rfl))
         (fun nL A=>N9 8 A rfl rfl fun A=>C9 [] (Fx op dst ra rb imm loc off ix sz fn acq weak rel pred succ to_ zero) A rfl fun A=>N9 2 A rfl rfl fun A=>fork 105 A rfl
          (fun oT A=>N9 1 A rfl rfl fun A=>Aq hX BK [] [] A rfl rfl rfl rfl (by kernel_rfl) (AV _ _) trivial fun A=>N9 8 A rfl rfl fun A=>R9 A rfl h0 rfl (by simp only [AX,nb,BY,BR,Bu,Bv,Bw,Bx,By,Bz,B4,B5,plain8,B6,BZ,Ba,Bb,Bc,Bd,Be,if_neg (h1),if_neg (h3),if_neg (h5),if_neg (h7),if_neg (h9),if_neg (kF),if_neg (lU),if_neg (nL),if_pos oT]) rfl)
          (fun oT A=>N9 10 A rfl rfl fun A=>R9 A rfl h0 rfl (by simp only [AX,nb,BY,BR,Bu,Bv,Bw,Bx,By,Bz,B4,B5,plain8,B6,BZ,Ba,Bb,Bc,Bd,Be,if_neg (h1),if_neg (h3),if_neg (h5),if_neg (h7),if_neg (h9),if_neg (kF),if_neg (lU),if_neg (nL),if_neg (ne_true_of_eq_false oT)]) rfl)))))))))
def BN (op dst ra rb imm loc off ix sz fn:Int)(acq weak rel:Bool)(pred succ to_:Int)(zero:Bool):Bool:=if op=1 then(decide (dst≥0))&&(decide (dst<8))else if op=2 then if((decide (dst≥0))&&(decide (dst<8)))=true then(decide (ra≥0))&&(decide (ra<8))else false else if op=3 then if((decide (dst≥0))&&(decide (dst<8)))=true then if((decide (ra≥0))&&(decide (ra<8)))=true then((CB rb)&&(decide (fn≥1)))&&(decide (fn≤5))else false else false else if op=4 then if((decide (dst≥0))&&(decide (dst<8)))=true then(Bl op dst ra rb imm loc off ix sz fn acq weak rel pred succ to_ zero)&&(!(acq&&weak))else false else if op=5 then if(CB ra)=true then Bl op dst ra rb imm loc off ix sz fn acq weak rel pred succ to_ zero else false else if op=6 then if((decide (dst≥0))&&(decide (dst<8)))=true then if((decide (ra≥0))&&(decide (ra<8)))=true then(Bl op dst ra rb imm loc off ix sz fn acq weak rel pred succ to_ zero)&&((fn==6)||(fn==1))else false else false else if op=7 then if(((pred==1)||(pred==2))||(pred==3))=true then((succ==1)||(succ==2))||(succ==3)else false else if op=8 then true else if op=9 then(decide (ra≥0))&&(decide (ra<8))else false
theorem Wa (op dst ra rb imm loc off ix sz fn:Int) (acq weak rel:Bool) (pred succ to_:Int) (zero:Bool):Fn Tryz.prog 121 [.agg [.int .i64 op,.int .i64 dst,.int .i64 ra,.int .i64 rb,.int .i64 imm,.int .i64 loc,.int .i64 off,.int .i64 ix,.int .i64 sz,.int .i64 fn,.bool acq,.bool weak,.bool rel,.int .i64 pred,.int .i64 succ,.int .i64 to_,.bool zero]] [] (Rt (.bool (BN op dst ra rb imm loc off ix sz fn acq weak rel pred succ to_ zero)) []):=
 AG (n:=113) (by kernel_rfl) Tryz.func121 rfl rfl rfl fun G w a h0 A=>N9 20 A rfl rfl fun A=>AN 5 A rfl
  (fun h1 A=>N9 5 A rfl rfl fun A=>C9 [] (ED dst) A rfl fun A=>N9 4 A rfl rfl fun A=>R9 A rfl h0 rfl (by simp only [AX,nb,BY,BR,BN,if_pos h1]) rfl)
  (fun h1 A=>N9 7 A rfl rfl fun A=>AN 10 A rfl
   (fun h2 A=>N9 5 A rfl rfl fun A=>C9 [] (ED dst) A rfl fun A=>N9 1 A rfl rfl fun A=>fork 15 A rfl
    (fun h3 A=>N9 2 A rfl rfl fun A=>C9 [] (ED ra) A rfl fun A=>N9 5 A rfl rfl fun A=>R9 A rfl h0 rfl (by simp only [AX,nb,BY,BR,BN,if_neg (h1),if_pos h2,if_pos h3]) rfl)
    (fun h3 A=>N9 8 A rfl rfl fun A=>R9 A rfl h0 rfl (by simp only [AX,nb,BY,BR,BN,if_neg (h1),if_pos h2,if_neg (ne_true_of_eq_false h3)]) rfl))
   (fun h2 A=>N9 7 A rfl rfl fun A=>AN 20 A rfl
    (fun h4 A=>N9 5 A rfl rfl fun A=>C9 [] (ED dst) A rfl fun A=>N9 1 A rfl rfl fun A=>fork 25 A rfl
     (fun h5 A=>N9 2 A rfl rfl fun A=>C9 [] (ED ra) A rfl fun A=>N9 2 A rfl rfl fun A=>fork 30 A rfl
      (fun h6 A=>N9 2 A rfl rfl fun A=>C9 [] (Ei rb) A rfl fun A=>N9 15 A rfl rfl fun A=>R9 A rfl h0 rfl (by simp only [AX,nb,BY,BR,BN,if_neg (h1),if_neg (h2),if_pos h4,if_pos h5,if_pos h6]) rfl)
      (fun h6 A=>N9 18 A rfl rfl fun A=>R9 A rfl h0 rfl (by simp only [AX,nb,BY,BR,BN,if_neg (h1),if_neg (h2),if_pos h4,if_pos h5,if_neg (ne_true_of_eq_false h6)]) rfl))
     (fun h5 A=>N9 23 A rfl rfl fun A=>R9 A rfl h0 rfl (by simp only [AX,nb,BY,BR,BN,if_neg (h1),if_neg (h2),if_pos h4,if_neg (ne_true_of_eq_false h5)]) rfl))
    (fun h4 A=>N9 7 A rfl rfl fun A=>AN 45 A rfl
     (fun h7 A=>N9 5 A rfl rfl fun A=>C9 [] (ED dst) A rfl fun A=>N9 1 A rfl rfl fun A=>fork 50 A rfl
      (fun h8 A=>N9 1 A rfl rfl fun A=>C9 [] (Hd op dst ra rb imm loc off ix sz fn acq weak rel pred succ to_ zero) A rfl fun A=>N9 14 A rfl rfl fun A=>R9 A rfl h0 rfl (by simp only [AX,nb,BY,BR,BN,if_neg (h1),if_neg (h2),if_neg (h4),if_pos h7,if_pos h8]) rfl)
      (fun h8 A=>N9 16 A rfl rfl fun A=>R9 A rfl h0 rfl (by simp only [AX,nb,BY,BR,BN,if_neg (h1),if_neg (h2),if_neg (h4),if_pos h7,if_neg (ne_true_of_eq_false h8)]) rfl))
     (fun h7 A=>N9 7 A rfl rfl fun A=>AN 63 A rfl
      (fun h9 A=>N9 5 A rfl rfl fun A=>C9 [] (Ei ra) A rfl fun A=>N9 1 A rfl rfl fun A=>fork 68 A rfl
       (fun kH A=>N9 1 A rfl rfl fun A=>C9 [] (Hd op dst ra rb imm loc off ix sz fn acq weak rel pred succ to_ zero) A rfl fun A=>N9 5 A rfl rfl fun A=>R9 A rfl h0 rfl (by simp only [AX,nb,BY,BR,BN,if_neg (h1),if_neg (h2),if_neg (h4),if_neg (h7),if_pos h9,if_pos kH]) rfl)
       (fun kH A=>N9 7 A rfl rfl fun A=>R9 A rfl h0 rfl (by simp only [AX,nb,BY,BR,BN,if_neg (h1),if_neg (h2),if_neg (h4),if_neg (h7),if_pos h9,if_neg (ne_true_of_eq_false kH)]) rfl))
      (fun h9 A=>N9 7 A rfl rfl fun A=>AN 72 A rfl
       (fun kF A=>N9 5 A rfl rfl fun A=>C9 [] (ED dst) A rfl fun A=>N9 1 A rfl rfl fun A=>fork 77 A rfl
        (fun mA A=>N9 2 A rfl rfl fun A=>C9 [] (ED ra) A rfl fun A=>N9 2 A rfl rfl fun A=>fork 82 A rfl
         (fun lU A=>N9 1 A rfl rfl fun A=>C9 [] (Hd op dst ra rb imm loc off ix sz fn acq weak rel pred succ to_ zero) A rfl fun A=>N9 15 A rfl rfl fun A=>R9 A rfl h0 rfl (by simp only [AX,nb,BY,BR,BN,if_neg (h1),if_neg (h2),if_neg (h4),if_neg (h7),if_neg (h9),if_pos kF,if_pos mA,if_pos lU]) rfl)
         (fun lU A=>N9 17 A rfl rfl fun A=>R9 A rfl h0 rfl (by simp only [AX,nb,BY,BR,BN,if_neg (h1),if_neg (h2),if_neg (h4),if_neg (h7),if_neg (h9),if_pos kF,if_pos mA,if_neg (ne_true_of_eq_false lU)]) rfl))
        (fun mA A=>N9 22 A rfl rfl fun A=>R9 A rfl h0 rfl (by simp only [AX,nb,BY,BR,BN,if_neg (h1),if_neg (h2),if_neg (h4),if_neg (h7),if_neg (h9),if_pos kF,if_neg (ne_true_of_eq_false mA)]) rfl))
       (fun kF A=>N9 7 A rfl rfl fun A=>AN 96 A rfl
        (fun nD A=>N9 5 A rfl rfl fun A=>C9 [] (Jz pred) A rfl fun A=>N9 1 A rfl rfl fun A=>fork 101 A rfl
         (fun nL A=>N9 2 A rfl rfl fun A=>C9 [] (Jz succ) A rfl fun A=>N9 5 A rfl rfl fun A=>R9 A rfl h0 rfl (by simp only [AX,nb,BY,BR,BN,if_neg (h1),if_neg (h2),if_neg (h4),if_neg (h7),if_neg (h9),if_neg (kF),if_pos nD,if_pos nL]) rfl)
         (fun nL A=>N9 8 A rfl rfl fun A=>R9 A rfl h0 rfl (by simp only [AX,nb,BY,BR,BN,if_neg (h1),if_neg (h2),if_neg (h4),if_neg (h7),if_neg (h9),if_neg (kF),if_pos nD,if_neg (ne_true_of_eq_false nL)]) rfl))
        (fun nD A=>N9 7 A rfl rfl fun A=>AN 106 A rfl
         (fun nS A=>N9 7 A rfl rfl fun A=>R9 A rfl h0 rfl (by simp only [AX,nb,BY,BR,BN,if_neg (h1),if_neg (h2),if_neg (h4),if_neg (h7),if_neg (h9),if_neg (kF),if_neg (nD),if_pos nS]) rfl)
         (fun nS A=>N9 7 A rfl rfl fun A=>AN 108 A rfl
          (fun oT A=>N9 5 A rfl rfl fun A=>C9 [] (ED ra) A rfl fun A=>N9 4 A rfl rfl fun A=>R9 A rfl h0 rfl (by simp only [AX,nb,BY,BR,BN,if_neg (h1),if_neg (h2),if_neg (h4),if_neg (h7),if_neg (h9),if_neg (kF),if_neg (nD),if_neg (nS),if_pos oT]) rfl)
          (fun oT A=>N9 10 A rfl rfl fun A=>R9 A rfl h0 rfl (by simp only [AX,nb,BY,BR,BN,if_neg (h1),if_neg (h2),if_neg (h4),if_neg (h7),if_neg (h9),if_neg (kF),if_neg (nD),if_neg (nS),if_neg (oT)]) rfl)))))))))
def Ek (op dst ra rb imm loc off ix sz fn:Int)(acq weak rel:Bool)(pred succ to_:Int)(zero:Bool)(at_ nn_:Int):Int:=if((!(((op==op)&&((dst==(Bu op dst ra rb imm loc off ix sz fn acq weak rel pred succ to_ zero))&&((ra==(Bv op dst ra rb imm loc off ix sz fn acq weak rel pred succ to_ zero))&&((rb==(Bw op dst ra rb imm loc off ix sz fn acq weak rel pred succ to_ zero))&&((imm==(Bx op dst ra rb imm loc off ix sz fn acq weak rel pred succ to_ zero))&&((loc==(By op dst ra rb imm loc off ix sz fn acq weak rel pred succ to_ zero))&&((off==(Bz op dst ra rb imm loc off ix sz fn acq weak rel pred succ to_ zero))&&((ix==(B4 op dst ra rb imm loc off ix sz fn acq weak rel pred succ to_ zero))&&((sz==(B5 op dst ra rb imm loc off ix sz fn acq weak rel pred succ to_ zero))&&((fn==(plain8 op dst ra rb imm loc off ix sz fn acq weak rel pred succ to_ zero))&&((acq==(B6 op dst ra rb imm loc off ix sz fn acq weak rel pred succ to_ zero))&&((weak==(BZ op dst ra rb imm loc off ix sz fn acq weak rel pred succ to_ zero))&&((rel==(Ba op dst ra rb imm loc off ix sz fn acq weak rel pred succ to_ zero))&&((pred==(Bb op dst ra rb imm loc off ix sz fn acq weak rel pred succ to_ zero))&&((succ==(Bc op dst ra rb imm loc off ix sz fn acq weak rel pred succ to_ zero))&&((to_==(Bd op dst ra rb imm loc off ix sz fn acq weak rel pred succ to_ zero))&&(zero==(Be op dst ra rb imm loc off ix sz fn acq weak rel pred succ to_ zero))))))))))))))))))))||(!(BN op dst ra rb imm loc off ix sz fn acq weak rel pred succ to_ zero)))=true then 34 else if((op==9)&&((decide (to_≤at_))||(decide (to_>nn_))))=true then 35 else 0
theorem Qi (op dst ra rb imm loc off ix sz fn:Int)(acq weak rel:Bool)(pred succ to_:Int)(zero:Bool)(at_ nn_:Int):Fn Tryz.prog 82 [.agg [.int .i64 op,.int .i64 dst,.int .i64 ra,.int .i64 rb,.int .i64 imm,.int .i64 loc,.int .i64 off,.int .i64 ix,.int .i64 sz,.int .i64 fn,.bool acq,.bool weak,.bool rel,.int .i64 pred,.int .i64 succ,.int .i64 to_,.bool zero],.int .i64 at_,.int .i64 nn_] [] (Rt (.int .i64 (Ek op dst ra rb imm loc off ix sz fn acq weak rel pred succ to_ zero at_ nn_)) []):=
 AG (n:=30) (by kernel_rfl) Tryz.func82 rfl rfl rfl fun G w a h0 A=>N9 8 A rfl rfl fun A=>Aq hX BK [(2,.agg [.int .i64 op,.int .i64 (Bu op dst ra rb imm loc off ix sz fn acq weak rel pred succ to_ zero),.int .i64 (Bv op dst ra rb imm loc off ix sz fn acq weak rel pred succ to_ zero),.int .i64 (Bw op dst ra rb imm loc off ix sz fn acq weak rel pred succ to_ zero),.int .i64 (Bx op dst ra rb imm loc off ix sz fn acq weak rel pred succ to_ zero),.int .i64 (By op dst ra rb imm loc off ix sz fn acq weak rel pred succ to_ zero),.int .i64 (Bz op dst ra rb imm loc off ix sz fn acq weak rel pred succ to_ zero),.int .i64 (B4 op dst ra rb imm loc off ix sz fn acq weak rel pred succ to_ zero),.int .i64 (B5 op dst ra rb imm loc off ix sz fn acq weak rel pred succ to_ zero),.int .i64 (plain8 op dst ra rb imm loc off ix sz fn acq weak rel pred succ to_ zero),.bool (B6 op dst ra rb imm loc off ix sz fn acq weak rel pred succ to_ zero),.bool (BZ op dst ra rb imm loc off ix sz fn acq weak rel pred succ to_ zero),.bool (Ba op dst ra rb imm loc off ix sz fn acq weak rel pred succ to_ zero),.int .i64 (Bb op dst ra rb imm loc off ix sz fn acq weak rel pred succ to_ zero),.int .i64 (Bc op dst ra rb imm loc off ix sz fn acq weak rel pred succ to_ zero),.int .i64 (Bd op dst ra rb imm loc off ix sz fn acq weak rel pred succ to_ zero),.bool (Be op dst ra rb imm loc off ix sz fn acq weak rel pred succ to_ zero)]),(6,.opt (!(!(((op==op)&&((dst==(Bu op dst ra rb imm loc off ix sz fn acq weak rel pred succ to_ zero))&&((ra==(Bv op dst ra rb imm loc off ix sz fn acq weak rel pred succ to_ zero))&&((rb==(Bw op dst ra rb imm loc off ix sz fn acq weak rel pred succ to_ zero))&&((imm==(Bx op dst ra rb imm loc off ix sz fn acq weak rel pred succ to_ zero))&&((loc==(By op dst ra rb imm loc off ix sz fn acq weak rel pred succ to_ zero))&&((off==(Bz op dst ra rb imm loc off ix sz fn acq weak rel pred succ to_ zero))&&((ix==(B4 op dst ra rb imm loc off ix sz fn acq weak rel pred succ to_ zero))&&((sz==(B5 op dst ra rb imm loc off ix sz fn acq weak rel pred succ to_ zero))&&((fn==(plain8 op dst ra rb imm loc off ix sz fn acq weak rel pred succ to_ zero))&&((acq==(B6 op dst ra rb imm loc off ix sz fn acq weak rel pred succ to_ zero))&&((weak==(BZ op dst ra rb imm loc off ix sz fn acq weak rel pred succ to_ zero))&&((rel==(Ba op dst ra rb imm loc off ix sz fn acq weak rel pred succ to_ zero))&&((pred==(Bb op dst ra rb imm loc off ix sz fn acq weak rel pred succ to_ zero))&&((succ==(Bc op dst ra rb imm loc off ix sz fn acq weak rel pred succ to_ zero))&&((to_==(Bd op dst ra rb imm loc off ix sz fn acq weak rel pred succ to_ zero))&&(zero==(Be op dst ra rb imm loc off ix sz fn acq weak rel pred succ to_ zero))))))))))))))))))))) (.bool (BN op dst ra rb imm loc off ix sz fn acq weak rel pred succ to_ zero)))] [] A rfl rfl rfl rfl (by kernel_rfl) (AV _ _) ⟨.inl ⟨_,_,rfl,rfl,WZ op dst ra rb imm loc off ix sz fn acq weak rel pred succ to_ zero⟩,⟨.inr ⟨_,_,_,_,_,_,rfl,rfl,rfl,rfl,rfl,fun hg=>Wa op dst ra rb imm loc off ix sz fn acq weak rel pred succ to_ zero⟩,trivial⟩⟩ fun A=>N9 1 A rfl rfl fun A=>fork 15 A rfl
  (fun h1 A=>N9 7 A rfl rfl fun A=>R9 A rfl h0 rfl (by simp only [AX,nb,BY,BR,Ek,if_pos h1]) rfl)
  (fun h1 A=>N9 7 A rfl rfl fun A=>C9 [] (J1 op dst ra rb imm loc off ix sz fn acq weak rel pred succ to_ zero) A rfl fun A=>N9 14 A rfl rfl fun A=>fork 29 A rfl
   (fun h2 A=>N9 7 A rfl rfl fun A=>R9 A rfl h0 rfl (by simp only [AX,nb,BY,BR,Ek,if_neg (ne_true_of_eq_false h1),if_pos h2]) rfl)
   (fun h2 A=>N9 9 A rfl rfl fun A=>R9 A rfl h0 rfl (by simp only [AX,nb,BY,BR,Ek,if_neg (ne_true_of_eq_false h1),if_neg (ne_true_of_eq_false h2)]) rfl))
theorem Qj (op dst ra rb imm loc off ix sz fn:Int)(acq weak rel:Bool)(pred succ to_:Int)(zero:Bool):Fn Tryz.prog 188 [.agg [.int .i64 op,.int .i64 dst,.int .i64 ra,.int .i64 rb,.int .i64 imm,.int .i64 loc,.int .i64 off,.int .i64 ix,.int .i64 sz,.int .i64 fn,.bool acq,.bool weak,.bool rel,.int .i64 pred,.int .i64 succ,.int .i64 to_,.bool zero]] [] (Rt (.bool ((Ek op dst ra rb imm loc off ix sz fn acq weak rel pred succ to_ zero 0 0)==34)) []):=
 AG (n:=6) (by kernel_rfl) Tryz.func188 rfl rfl rfl fun G w a h0 A=>N9 9 A rfl rfl fun A=>C9 [] (Qi op dst ra rb imm loc off ix sz fn acq weak rel pred succ to_ zero 0 0) A rfl fun A=>N9 5 A rfl rfl fun A=>R9 A rfl h0 rfl rfl rfl
structure In where (op dst ra rb imm loc off ix sz fn:Int) (acq weak rel:Bool) (pred succ to_:Int) (zero:Bool)
abbrev AS (i:In):List SV:=[.int .i64 i.op,.int .i64 i.dst,.int .i64 i.ra,.int .i64 i.rb,.int .i64 i.imm,.int .i64 i.loc,.int .i64 i.off,.int .i64 i.ix,.int .i64 i.sz,.int .i64 i.fn,.bool i.acq,.bool i.weak,.bool i.rel,.int .i64 i.pred,.int .i64 i.succ,.int .i64 i.to_,.bool i.zero]
def DA (i J:In)(p:Int):In:=
 if p=1 then({J with dst:=i.dst}:In)else
 if p=2 then({J with ra:=i.ra}:In)else
 if p=3 then({J with rb:=i.rb}:In)else
 if p=4 then({J with dst:=i.dst,ra:=i.dst}:In)else
 if p=5 then({J with imm:=i.imm}:In)else
 if p=6 then({J with loc:=i.loc,off:=i.off,ix:=i.ix,sz:=i.sz}:In)else
 if p=7 then({J with to_:=i.to_}:In)else
 if p=8 then({J with pred:=i.pred}:In)else
 if p=9 then({J with succ:=i.succ}:In)else
 J
def bare (i:In):In:={i with dst:= -1,ra:= -1,rb:= -1,ix:= -1}
def El (p:Int)(i:In):Int×Bool:=if p=1 then(i.dst,true)else if p=4 then(i.dst,true)else if p=2 then(i.ra,true)else if p=3 then(i.rb,true)else(-1,false)
def FM (ps:List Int)(i:In):Bool:=ps.all fun p=> !((El p i).2&&((El p i).1== -1))
theorem U6 (p:Int)(i:In):Fn Tryz.prog 227 [.int .i64 p,.agg (AS i)] [] (Rt (.tup [.int .i64 ((El p i).1),.bool ((El p i).2)]) []):=
 AG (n:=20) (by kernel_rfl) Tryz.func227 rfl rfl rfl fun G w a h0 A=>N9 21 A rfl rfl fun A=>AN 7 A rfl
  (fun h1 A=>N9 13 A rfl rfl fun A=>R9 A rfl h0 rfl (by unfold El;rw [if_pos h1];rfl) rfl)
  (fun h1 A=>N9 6 A rfl rfl fun A=>AN 7 A rfl
   (fun h2 A=>N9 10 A rfl rfl fun A=>R9 A rfl h0 rfl (by unfold El;rw [if_neg h1,if_pos h2];rfl) rfl)
   (fun h2 A=>N9 7 A rfl rfl fun A=>AN 12 A rfl
    (fun h3 A=>N9 10 A rfl rfl fun A=>R9 A rfl h0 rfl (by unfold El;rw [if_neg h1,if_neg h2,if_pos h3];rfl) rfl)
    (fun h3 A=>N9 7 A rfl rfl fun A=>AN 16 A rfl
     (fun h4 A=>N9 10 A rfl rfl fun A=>R9 A rfl h0 rfl (by unfold El;rw [if_neg h1,if_neg h2,if_neg h3,if_pos h4];rfl) rfl)
     (fun h4 A=>N9 11 A rfl rfl fun A=>R9 A rfl h0 rfl (by unfold El;rw [if_neg h1,if_neg h2,if_neg h3,if_neg h4];rfl) rfl))))
structure WI (i:In)(ps:List Int)(J0 J:In)(k:Nat):Prop where
 le:k≤ps.length
 eq:(ps.drop k).foldl (DA i) J=ps.foldl (DA i) J0
section
variable {i:In}{ps:List Int}{J0 J J2:In}{k:Nat}
theorem WI.i0:WI i ps J0 J0 0:=⟨Nat.zero_le _,by simp⟩
theorem WI.nx (hI:WI i ps J0 J k)(h1:(k:Int)<((ps.length:Nat):Int))(h:DA i J (ps.getD ((k:Int)).toNat 0)=J2):WI i ps J0 J2 (k+1):=by
 have hk:k<ps.length:=by omega
 refine⟨hk,?_⟩
 have e:ps.getD ((k:Int)).toNat 0=ps[k]:=by simp [List.getD,hk]
 rw [←hI.eq,List.drop_eq_getElem_cons hk,List.foldl_cons,←e,h]
theorem WI.fi (hI:WI i ps J0 J k)(h1:¬(k:Int)<((ps.length:Nat):Int)):J=ps.foldl (DA i) J0:=by
 rw [←hI.eq,List.drop_eq_nil_of_le (by omega)];rfl
end
theorem Y8 (nm wd:List UInt8) (r:In) (ps:List Int) (c:Nat) (i:In) (hn:ps.length≤1000000):Fn Tryz.prog 222 [.agg [.str nm,.str wd,.int .i64 r.op,.int .i64 r.dst,.int .i64 r.ra,.int .i64 r.rb,.int .i64 r.imm,.int .i64 r.loc,.int .i64 r.off,.int .i64 r.ix,.int .i64 r.sz,.int .i64 r.fn,.bool r.acq,.bool r.weak,.bool r.rel,.int .i64 r.pred,.int .i64 r.succ,.int .i64 r.to_,.bool r.zero,.sl 0 ps.length c],.agg (AS i)] [some (.lst 1 ps.length (fun j=>[.int .i64 (ps.getD j 0)]))] (Rt (.agg (AS (ps.foldl (DA i) (bare r)))) [some (.lst 1 ps.length (fun j=>[.int .i64 (ps.getD j 0)]))]):=
 AG (n :=81) (by kernel_rfl) Tryz.func222 rfl rfl rfl fun G w a h0 A=>N9 37 A rfl rfl fun A=>Lk (fun(J:In) (k:Nat)=>[(3,.ptr 2 0),(4,.ptr 3 0),(5,.ptr 4 0),(15,.sl 0 ps.length c),(16,.int .i64 ((ps.length:Nat):Int)),(17,.int .i64 (k:Int))]) (fun(J:In) (k:Nat)=>[some (.lst 1 ps.length (fun j=>[.int .i64 (ps.getD j 0)])),some (.blk [.str nm,.str wd,.int .i64 r.op,.int .i64 r.dst,.int .i64 r.ra,.int .i64 r.rb,.int .i64 r.imm,.int .i64 r.loc,.int .i64 r.off,.int .i64 r.ix,.int .i64 r.sz,.int .i64 r.fn,.bool r.acq,.bool r.weak,.bool r.rel,.int .i64 r.pred,.int .i64 r.succ,.int .i64 r.to_,.bool r.zero,.sl 0 ps.length c]),some (.blk (AS i)),some (.blk [.z9,.z9,.z9,.z9,.z9,.z9,.z9,.z9,.z9,.z9,.ff,.ff,.ff,.z9,.z9,.z9,.ff]),some (.blk (AS J))]) (fun(J:In) (k:Nat)=>WI i ps (bare r) J k) (fun(J:In) (k:Nat)=>ps.length - k) (bare r) 0 WI.i0 ((A.cut [3,4,5,15,16,17] rfl).trunc 5 rfl rfl rfl (iR h0 rfl)) fun J k hI {G a w} A=>N9 6 A rfl rfl fun A=>AL 18 A rfl
   (fun h1 A=>N9 13 A rfl (iU (by have:=hI.le;omega)<|iU (by have:=hI.le;omega)<|iT) fun A=>N9 11 A rfl rfl fun A=>AN 22 A rfl
    (fun h2 A=>N9 14 A rfl (iU (by have:=hI.le;omega)<|iT) fun A=>⟨({J with dst:=i.dst}:In),k+1,_,(by omega),(hI.nx h1 (by unfold DA;rw [if_pos h2])),((A.cut [3,4,5,15,16,17] rfl).trunc 5 rfl rfl rfl (iR h0 rfl))⟩)
    (fun h2 A=>N9 7 A rfl rfl fun A=>AN 27 A rfl
     (fun h3 A=>N9 14 A rfl (iU (by have:=hI.le;omega)<|iT) fun A=>⟨({J with ra:=i.ra}:In),k+1,_,(by omega),(hI.nx h1 (by unfold DA;rw [if_neg h2,if_pos h3])),((A.cut [3,4,5,15,16,17] rfl).trunc 5 rfl rfl rfl (iR h0 rfl))⟩)
     (fun h3 A=>N9 7 A rfl rfl fun A=>AN 32 A rfl
      (fun h4 A=>N9 14 A rfl (iU (by have:=hI.le;omega)<|iT) fun A=>⟨({J with rb:=i.rb}:In),k+1,_,(by omega),(hI.nx h1 (by unfold DA;rw [if_neg h2,if_neg h3,if_pos h4])),((A.cut [3,4,5,15,16,17] rfl).trunc 5 rfl rfl rfl (iR h0 rfl))⟩)
      (fun h4 A=>N9 7 A rfl rfl fun A=>AN 37 A rfl
       (fun h5 A=>N9 1 A rfl rfl fun A=>Aq hX BK [] [] A rfl rfl rfl rfl (by kernel_rfl) (AV _ _) trivial fun A=>N9 7 A rfl (iU (by have:=hI.le;omega)<|iT) fun A=>⟨({J with dst:=i.dst,ra:=i.dst}:In),k+1,_,(by omega),(hI.nx h1 (by unfold DA;rw [if_neg h2,if_neg h3,if_neg h4,if_pos h5])),((A.cut [3,4,5,15,16,17] rfl).trunc 5 rfl rfl rfl (iR h0 rfl))⟩)
       (fun h5 A=>N9 7 A rfl rfl fun A=>AN 45 A rfl
        (fun h6 A=>N9 14 A rfl (iU (by have:=hI.le;omega)<|iT) fun A=>⟨({J with imm:=i.imm}:In),k+1,_,(by omega),(hI.nx h1 (by unfold DA;rw [if_neg h2,if_neg h3,if_neg h4,if_neg h5,if_pos h6])),((A.cut [3,4,5,15,16,17] rfl).trunc 5 rfl rfl rfl (iR h0 rfl))⟩)
        (fun h6 A=>N9 7 A rfl rfl fun A=>AN 50 A rfl
         (fun h7 A=>N9 1 A rfl rfl fun A=>Aq hX BK [] [] A rfl rfl rfl rfl (by kernel_rfl) (AV _ _) trivial fun A=>N9 7 A rfl (iU (by have:=hI.le;omega)<|iT) fun A=>⟨({J with loc:=i.loc,off:=i.off,ix:=i.ix,sz:=i.sz}:In),k+1,_,(by omega),(hI.nx h1 (by unfold DA;rw [if_neg h2,if_neg h3,if_neg h4,if_neg h5,if_neg h6,if_pos h7])),((A.cut [3,4,5,15,16,17] rfl).trunc 5 rfl rfl rfl (iR h0 rfl))⟩)
         (fun h7 A=>N9 7 A rfl rfl fun A=>AN 64 A rfl
          (fun h8 A=>N9 14 A rfl (iU (by have:=hI.le;omega)<|iT) fun A=>⟨({J with to_:=i.to_}:In),k+1,_,(by omega),(hI.nx h1 (by unfold DA;rw [if_neg h2,if_neg h3,if_neg h4,if_neg h5,if_neg h6,if_neg h7,if_pos h8])),((A.cut [3,4,5,15,16,17] rfl).trunc 5 rfl rfl rfl (iR h0 rfl))⟩)
          (fun h8 A=>N9 7 A rfl rfl fun A=>AN 69 A rfl
           (fun h9 A=>N9 14 A rfl (iU (by have:=hI.le;omega)<|iT) fun A=>⟨({J with pred:=i.pred}:In),k+1,_,(by omega),(hI.nx h1 (by unfold DA;rw [if_neg h2,if_neg h3,if_neg h4,if_neg h5,if_neg h6,if_neg h7,if_neg h8,if_pos h9])),((A.cut [3,4,5,15,16,17] rfl).trunc 5 rfl rfl rfl (iR h0 rfl))⟩)
           (fun h9 A=>N9 7 A rfl rfl fun A=>AN 74 A rfl
            (fun kH A=>N9 14 A rfl (iU (by have:=hI.le;omega)<|iT) fun A=>⟨({J with succ:=i.succ}:In),k+1,_,(by omega),(hI.nx h1 (by unfold DA;rw [if_neg h2,if_neg h3,if_neg h4,if_neg h5,if_neg h6,if_neg h7,if_neg h8,if_neg h9,if_pos kH])),((A.cut [3,4,5,15,16,17] rfl).trunc 5 rfl rfl rfl (iR h0 rfl))⟩)
            (fun kH A=>N9 9 A rfl (iU (by have:=hI.le;omega)<|iT) fun A=>⟨J,k+1,_,(by omega),(hI.nx h1 (by unfold DA;rw [if_neg h2,if_neg h3,if_neg h4,if_neg h5,if_neg h6,if_neg h7,if_neg h8,if_neg h9,if_neg kH])),((A.cut [3,4,5,15,16,17] rfl).trunc 5 rfl rfl rfl (iR h0 rfl))⟩))))))))))
   (fun h1 A=>N9 10 A rfl rfl fun A=>R9 A rfl h0 rfl (by rw [←hI.fi h1];rfl) rfl)
structure SI (i:In)(ps:List Int)(k:Nat):Prop where
 le:k≤ps.length
 eq:FM ps i=FM (ps.drop k) i
section
variable {i:In}{ps:List Int}{k:Nat}
theorem SI.i0:SI i ps 0:=⟨Nat.zero_le _,by simp⟩
theorem SI.at (hI:SI i ps k)(h1:(k:Int)<((ps.length:Nat):Int)):FM ps i=(!((El (ps.getD ((k:Int)).toNat 0) i).2&&((El (ps.getD ((k:Int)).toNat 0) i).1== -1))&&FM (ps.drop (k+1)) i):=by
 have hk:k<ps.length:=by omega
 have e:ps.getD ((k:Int)).toNat 0=ps[k]:=by simp [List.getD,hk]
 rw [hI.eq,List.drop_eq_getElem_cons hk,e];rfl
theorem SI.no (hI:SI i ps k)(h1:(k:Int)<((ps.length:Nat):Int))(h:((El (ps.getD ((k:Int)).toNat 0) i).2&&((El (ps.getD ((k:Int)).toNat 0) i).1== -1))=true):FM ps i=false:=by rw [hI.at h1,h];rfl
theorem SI.nx (hI:SI i ps k)(h1:(k:Int)<((ps.length:Nat):Int))(h:((El (ps.getD ((k:Int)).toNat 0) i).2&&((El (ps.getD ((k:Int)).toNat 0) i).1== -1))=false):SI i ps (k+1):=⟨by omega,by rw [hI.at h1,h];simp⟩
theorem SI.fi (hI:SI i ps k)(h1:¬(k:Int)<((ps.length:Nat):Int)):FM ps i=true:=by rw [hI.eq,List.drop_eq_nil_of_le (by omega)];rfl
end
theorem Wb (nm wd:List UInt8)(r:In)(ps:List Int)(c:Nat)(i:In)(hn:ps.length≤1000000):Fn Tryz.prog 225 [.agg [.str nm,.str wd,.int .i64 r.op,.int .i64 r.dst,.int .i64 r.ra,.int .i64 r.rb,.int .i64 r.imm,.int .i64 r.loc,.int .i64 r.off,.int .i64 r.ix,.int .i64 r.sz,.int .i64 r.fn,.bool r.acq,.bool r.weak,.bool r.rel,.int .i64 r.pred,.int .i64 r.succ,.int .i64 r.to_,.bool r.zero,.sl 0 ps.length c],.agg (AS i)] [some (.lst 1 ps.length (fun j=>[.int .i64 (ps.getD j 0)]))] (Rt (.bool (FM ps i)) [some (.lst 1 ps.length (fun j=>[.int .i64 (ps.getD j 0)]))]):=
 AG (n:=28) (by kernel_rfl) Tryz.func225 rfl rfl rfl fun G w a h0 A=>N9 17 A rfl rfl fun A=>Bk (fun(k:Nat)=>[(3,.ptr 2 0),(4,.ff),(10,.sl 0 ps.length c),(11,.int .i64 ((ps.length:Nat):Int)),(12,.int .i64 (k:Int))]) (fun(k:Nat)=>[some (.lst 1 ps.length (fun j=>[.int .i64 (ps.getD j 0)])),some (.blk [.str nm,.str wd,.int .i64 r.op,.int .i64 r.dst,.int .i64 r.ra,.int .i64 r.rb,.int .i64 r.imm,.int .i64 r.loc,.int .i64 r.off,.int .i64 r.ix,.int .i64 r.sz,.int .i64 r.fn,.bool r.acq,.bool r.weak,.bool r.rel,.int .i64 r.pred,.int .i64 r.succ,.int .i64 r.to_,.bool r.zero,.sl 0 ps.length c]),some (.blk (AS i))]) (fun(k:Nat)=>SI i ps k) (fun(k:Nat)=>ps.length - k) 0 SI.i0 ((A.cut [3,4,10,11,12] rfl).trunc 3 rfl rfl rfl (iR h0 rfl)) fun k hI {G a w} A=>N9 6 A rfl rfl fun A=>AL 13 A rfl
   (fun h1 A=>N9 13 A rfl (iU (by have:=hI.le;omega)<|iU (by have:=hI.le;omega)<|iT) fun A=>N9 3 A rfl rfl fun A=>C9 [] (U6 (ps.getD (((k:Int)).toNat) 0) i) A rfl fun A=>N9 16 A rfl rfl fun A=>fork 26 A rfl
    (fun h2 A=>N9 7 A rfl rfl fun A=>R9 A rfl h0 rfl (by rw [hI.no h1 h2];rfl) rfl)
    (fun h2 A=>N9 8 A rfl (iU (by have:=hI.le;omega)<|iT) fun A=>⟨k+1,_,(by omega),(hI.nx h1 h2),((A.cut [3,4,10,11,12] rfl).trunc 3 rfl rfl rfl (iR h0 rfl))⟩))
   (fun h1 A=>N9 9 A rfl rfl fun A=>R9 A rfl h0 rfl (by rw [hI.fi h1];rfl) rfl)
end Go.Proofs.YtbbdanhpphlbpaaGreatDoor
namespace Go.Proofs.YtbbdanhpphlbpaaGreatDoor
open Go.RowKit
abbrev BO:=Option (Nat×Nat)
def Hw (bo:BO):Option Addr:=bo.map fun x=>⟨x.1,x.2,none⟩
def DZ (bo:BO):Option Loc:=bo.map fun x=>⟨x.1,List.replicate x.2 undef,[],0⟩
mutual
theorem IU {G:Gr}{i:Nat}{bo:BO}(hG:G[i]?=some (DZ bo)):∀(x:SV),(∀z∈Ge x,z=Hw bo)→den G (O6 i x)=den G x
 | .sla a m c,h=>by
  have h1:a=Hw bo:=h a (by unfold Ge;exact List.mem_singleton.2 rfl)
  subst h1
  unfold O6 den
  rw [hG]
  cases bo with
  |none=>rfl
  |some x=>simp [DZ,Hw,rm]
 | .agg l,h=>by unfold O6 den;rw [Lp hG l (by unfold Ge at h;exact h)]
 | .int _ _,_=>rfl
 | .bool _,_=>rfl
 | .tt,_=>rfl
 | .ff,_=>rfl
 | .str _,_=>rfl
 | .ptr _ _,_=>rfl
 | .el _ _ _ _,_=>rfl
 | .ix _ _ _ _ _,_=>rfl
 | .sl _ _ _,_=>rfl
 | .sp _ _ _,_=>rfl
 | .st _ _ _ _ _,_=>rfl
 | .tup _,_=>rfl
 | .fn _ _,_=>rfl
 | .opt _ _,_=>rfl
 | .v _,_=>rfl
theorem Lp {G:Gr}{i:Nat}{bo:BO}(hG:G[i]?=some (DZ bo)):∀(l:List SV),(∀z∈Mm l,z=Hw bo)→AE G (WU i l)=AE G l
 | [],_=>rfl
 |x::l,h=>by
  unfold Mm at h
  unfold WU AE
  rw [IU hG x (fun z hz=>h z (List.mem_append_left _ hz)),Lp hG l (fun z hz=>h z (List.mem_append_right _ hz))]
end
def AK (ao:Option Addr)(s n:Nat)(f:Nat→List SV):Dd:=fun w ks=>
 (∀k,∃vs,AE [] (f k)=some vs)∧(n=0∨∃b o,ao=Hw (some (b,o))∧b<w.heap.size∧ks.contains b=false∧∀k,k<n→∃vs,AE [] (f k)=some vs∧w.rangeAt b (o+k*s) vs)
theorem AK.ok {ao:Option Addr}{s n:Nat}{f:Nat→List SV}:Dd.OK (AK ao s n f):=fun w ks w' ks' h m hk=>by
 refine⟨h.1,?_⟩
 rcases h.2 with h|⟨b,o,h1,h2,h3,h4⟩
 ·exact .inl h
 ·refine .inr ⟨b,o,h1,Nat.lt_of_lt_of_le h2 m.size,?_,fun k jQ=>?_⟩
  ·cases hc:ks'.contains b with
   |false=>rfl
   |true=>
    rcases hk b hc with h5|h5
    ·rw [h5]at h3;cases h3
    ·omega
  ·obtain⟨vs,v1,v2⟩:=h4 k jQ
   exact⟨vs,v1,FY v2 m h2 h3⟩
section
variable {P:Program}{n:Nat}{ks:List Nat}{G0:Gr}{w0:World}{T:List (Nat×SV)}{H:Hp}{G:Gr}{a:Act}{w:World}{Q:Exit→Act→World→Prop}{K:List Fr}{pos:Pos}
theorem Sy.adoptB (A:Sy n T H ks G0 w0 G a w){bo:BO}{s m:Nat}{f:Nat→List SV}(h0:AK (Hw bo) s m f w0 ks)(yU:m≠0)(t:Nat){x:SV}(hx:look T t=some x)(hs:∀z∈Ge x,z=Hw bo):Sy n ((t,O6 H.length x)::T) (H++[some (.lst s m f)]) ks G0 w0 (G++[DZ bo]) a w:=by
 have hl:=AK.ok _ _ _ _ h0 A.mix (fun b hb=>.inl hb:∀b,ks.contains b=true→ks.contains b=true∨w0.heap.size≤b)
 have hlen:=A.mem.len
 have hG:(G++[DZ bo])[H.length]?=some (DZ bo):=by rw [List.getElem?_append_right (by omega),hlen];simp
 have hold:∀(i:Nat) (e:A6),(H++[some (.lst s m f)])[i]?=some (some e)→(H[i]?=some (some e)∧i<H.length)∨(i=H.length∧e=.lst s m f):=by
  intro i e h
  by_cases hi:i<H.length
  ·rw [List.getElem?_append_left hi]at h;exact .inl ⟨h,hi⟩
  ·rw [List.getElem?_append_right (by omega)]at h
   have:i - H.length=0:=by
    cases hq:i - H.length with
    |zero=>rfl
    |succ k=>rw [hq]at h;simp at h
   rw [this]at h
   simp at h
   exact .inr ⟨by omega,h.symm⟩
 have lI:∀i,i<H.length→(G++[DZ bo])[i]?=G[i]?:=fun i hi=>List.getElem?_append_left (by omega)
 refine⟨A.size,A.defers,fun q z hz=>?_,⟨by simp [hlen],?_,?_⟩,?_,?_,A.mix⟩
 ·unfold look at hz
  cases hc:Nat.beq t q with
  |true=>
   rw [hc]at hz;cases hz
   have:=Nat.eq_of_beq_eq_true hc
   subst this
   rw [IU hG x hs]
   exact AP _ x (A.get t x hx)
  |false=>rw [hc]at hz;exact AP _ z (A.get q z hz)
 ·intro i e h
  rcases hold i e h with⟨h1,h2⟩|⟨rfl,rfl⟩
  ·rw [lI i h2];exact(A.mem.ent i e h1).more _
  ·rw [hG]
   refine⟨hl.1,?_⟩
   rcases hl.2 with h2|⟨b,o,h1,h2,_,h4⟩
   ·exact .inl h2
   ·right
    have e:bo=some (b,o):=by
     cases bo with
     |none=>cases h1
     |some z=>obtain⟨z1,z2⟩:=z;simp [Hw]at h1;rw [h1.1,h1.2]
    subst e
    refine⟨_,rfl,h2,fun k hk=>?_⟩
    obtain⟨vs,v1,v2⟩:=h4 k hk
    exact⟨vs,v1,by simpa using v2⟩
 ·intro i j e g L M jV h1 h2 h3 h4 h5 h6
  rcases hold i e h1 with⟨k1,k2⟩|⟨rfl,rfl⟩
  ·rw [lI i k2]at h4
   rcases hold j g h2 with⟨k3,k4⟩|⟨rfl,rfl⟩
   ·rw [lI j k4]at h5;exact A.mem.sep i j e g L M jV k1 k3 h3 h4 h5 h6
   ·rw [hG]at h5
    rcases h0.2 with q|⟨b,o,q1,q2,q3,_⟩
    ·exact absurd q h6
    ·have e:bo=some (b,o):=by
      cases bo with
      |none=>cases q1
      |some z=>obtain⟨z1,z2⟩:=z;simp [Hw]at q1;rw [q1.1,q1.2]
     subst e
     cases h5
     intro lX
     rcases A.own i e L k1 h3 h4 with h7|h7
     ·rw [lX]at h7;simp only at h7;rw [q3]at h7;cases h7
     ·rw [lX]at h7;simp only at h7;omega
  ·cases h3
 ·obtain⟨F,hF⟩:=A.pre;exact⟨F++[DZ bo],by rw [hF,List.append_assoc]⟩
 ·intro i e L h1 h2 h3
  rcases hold i e h1 with⟨k1,k2⟩|⟨rfl,rfl⟩
  ·rw [lI i k2]at h3;exact A.own i e L k1 h2 h3
  ·cases h2
def Wc (ao:Option Addr):Option Loc:=ao.map fun a=>⟨a.block,List.replicate a.off undef,[],0⟩
theorem Mp {ao:Option Addr}{s m:Nat}{f:Nat→List SV}(t:Nat)(h0:AK ao s m f w0 ks)(hm:m≠0)(A:Sy n T H ks G0 w0 G a w){x y:SV}{H':Hp}(hx:look T t=some x)(hs:Ge x=[ao])(hy:O6 H.length x=y)(hH:H++[some (.lst s m f)]=H')(hk:den (G++[Wc ao]) y=den (G++[Wc ao]) x→Sy n ((t,y)::T) H' ks G0 w0 (G++[Wc ao]) a w→Goal P Q K pos a w):Goal P Q K pos a w:=by
 subst hy;subst hH
 rcases h0.2 with q|⟨b,o,e,_⟩
 ·exact absurd q hm
 ·subst e
  have hz:∀z∈Ge x,z=Hw (some (b,o)):=fun z hz=>by rw [hs]at hz;exact List.mem_singleton.1 hz
  have hlen:=A.mem.len
  have hG:(G++[DZ (some (b,o))])[H.length]?=some (DZ (some (b,o))):=by rw [List.getElem?_append_right (by omega),hlen];simp
  exact hk (IU hG x hz) (A.adoptB h0 hm t hx hz)
theorem Sy.undo {d t:Nat}{e x y:SV}(A:Sy n ((d,e)::(t,y)::T) H ks G0 w0 G a w)(hd:den G y=den G x)(hx:look T t=some x)(tU:Nat.beq d t=false):Sy n ((d,e)::T) H ks G0 w0 G a w:=
 ⟨A.size,A.defers,fun s z hz=>by
  unfold look at hz
  cases hc:Nat.beq d s with
  |true=>rw [hc]at hz;cases hz;have:=Nat.eq_of_beq_eq_true hc;subst this;exact A.get d e (by unfold look;rw [hc];rfl)
  | false=>
   rw [hc]at hz
   cases hq:Nat.beq t s with
   |true=>
    have:=Nat.eq_of_beq_eq_true hq
    subst this
    rw [hx]at hz
    cases hz
    rw [←hd]
    exact A.get t y (by unfold look;rw [tU];show look _ _=_;unfold look;rw [hq];rfl)
   |false=>exact A.get s z (by unfold look;rw [hc];show look _ _=_;unfold look;rw [hq];exact hz),A.mem,A.pre,A.own,A.mix⟩
theorem Mq {Y:Tb}{pos':Pos}{K':List Fr}{E:Ob}{ao:Option Addr}{s m:Nat}{f:Nat→List SV}(hX:Y.ok P=true)(d t:Nat)(h0:AK ao s m f w0 ks)(hm:m≠0)(A:Sy n T H ks G0 w0 G a w){x y e:SV}{H':Hp}(hx:look T t=some x)(hs:Ge x=[ao])(hy:O6 H.length x=y)(hH:H++[some (.lst s m f)]=H')(tU:Nat.beq d t=false)(h:WL ⟨Y,true⟩ n 1 ((t,y)::T) H' K pos=⟨(d,e)::(t,y)::T,H',K',pos',E⟩)(hE:Cz E)(hk:∀{G a w},Sy n ((d,e)::T) H' ks G0 w0 G a w→Goal P Q K' pos' a w):Goal P Q K pos a w:=by
 subst hy;subst hH
 rcases h0.2 with q|⟨b,o,eo,_⟩
 ·exact absurd q hm
 ·subst eo
  have hz:∀z∈Ge x,z=Hw (some (b,o)):=fun z hz=>by rw [hs]at hz;exact List.mem_singleton.1 hz
  have hlen:=A.mem.len
  have B:=A.adoptB h0 hm t hx hz
  obtain⟨F0,rJ⟩:=A.pre
  have C:Sy n ((t,O6 H.length x)::T) (H++[some (.lst s m f)]) ks (G++[DZ (some (b,o))]) w0 (G++[DZ (some (b,o))]) a w:=⟨B.size,B.defers,B.get,B.mem,⟨[],by rw [List.append_nil]⟩,B.own,B.mix⟩
  refine N hX 1 C h hE fun{G' a' w'} D=>?_
  obtain⟨F,hF⟩:=D.pre
  have hG:G'[H.length]?=some (DZ (some (b,o))):=by rw [hF,List.getElem?_append_left (by rw [List.length_append,List.length_singleton];omega),List.getElem?_append_right (by omega),hlen];simp
  have D':=D.undo (IU hG x hz) hx tU
  exact hk ⟨D'.size,D'.defers,D'.get,D'.mem,⟨F0++[DZ (some (b,o))]++F,by rw [hF,rJ];simp only [List.append_assoc]⟩,D'.own,D'.mix⟩
end
end Go.Proofs.YtbbdanhpphlbpaaGreatDoor
namespace Go.Proofs.YtbbdanhpphlbpaaGreatDoor
open Go.RowKit
set_option simprocs false
def In.z:In:=⟨0,0,0,0,0,0,0,0,0,0,false,false,false,0,0,0,false⟩
abbrev CD (i:In):List SV:=(AS i)
structure AD where (ao:Option Addr) (l:List In) (cp:Nat)
def AD.z:AD:=⟨none,[],0⟩
abbrev He (c:AD):List SV:=[.sla c.ao c.l.length c.cp]
abbrev AD.lies (c:AD):Dd:=AK c.ao 17 c.l.length (fun zz=>CD (c.l.getD zz In.z))
def AH (cs:List AD):Dd:=fun w ks=>∀c∈cs,c.lies w ks
theorem AH.ok {cs:List AD}:Dd.OK (AH cs):=fun w ks w' ks' h m hk c hc=>AK.ok _ _ _ _ (h c hc) m hk
theorem AH.at {cs:List AD}{w:World}{ks:List Nat}(h:AH cs w ks){k:Nat}(hk:k<cs.length):(cs.getD k AD.z).lies w ks:=h _ (by rw [List.getD_eq_getElem?_getD,List.getElem?_eq_getElem hk];exact List.getElem_mem hk)
def U7 (i:In)(a n:Int):Int:=Ek i.op i.dst i.ra i.rb i.imm i.loc i.off i.ix i.sz i.fn i.acq i.weak i.rel i.pred i.succ i.to_ i.zero a n
def Gk (cs:List AD):Option Nat:=(List.range cs.length).find? fun k=>decide (8<(cs.getD k AD.z).l.length)
def E5 (c:AD):Option Nat:=(List.range c.l.length).find? fun k=> !(U7 (c.l.getD k In.z) (k:Int) ((c.l.length:Nat):Int)==0)
def Hf (cs:List AD):Option Nat:=(List.range cs.length).find? fun k=>(E5 (cs.getD k AD.z)).isSome
structure B1 (cs:List AD)(i:Nat):Prop where
 le:i≤cs.length
 ok:∀j,j<i→(cs.getD j AD.z).l.length≤8
structure B2 (cs:List AD)(i:Nat):Prop where
 le:i≤cs.length
 ok:∀j,j<i→E5 (cs.getD j AD.z)=none
structure B3 (c:AD)(k:Nat):Prop where
 le:k≤c.l.length
 ok:∀j,j<k→U7 (c.l.getD j In.z) (j:Int) ((c.l.length:Nat):Int)=0
section
variable {cs:List AD}{c:AD}{i k:Nat}
theorem B1.i0:B1 cs 0:=⟨Nat.zero_le _,fun j hj=>by omega⟩
theorem B1.nx (h:B1 cs i)(h1:(i:Int)<((cs.length:Nat):Int))(h2:¬((((cs.getD ((i:Int)).toNat AD.z).l.length:Nat):Int)>8)):B1 cs (i+1):=⟨by omega,fun j hj=>by
 by_cases e:j=i
 ·subst e;rw [Int.toNat_natCast]at h2;omega
 ·exact h.ok j (by omega)⟩
theorem B1.bad (h:B1 cs i)(h1:(i:Int)<((cs.length:Nat):Int))(h2:(((cs.getD ((i:Int)).toNat AD.z).l.length:Nat):Int)>8):Gk cs=some i:=by
 unfold Gk
 rw [List.find?_range_eq_some]
 rw [Int.toNat_natCast]at h2
 refine⟨by simp only [decide_eq_true_eq];omega,by simp only [List.mem_range];omega,fun j hj=>?_⟩
 have:=h.ok j hj
 simp only [Bool.not_eq_true',decide_eq_false_iff_not];omega
theorem B1.good (h:B1 cs i)(h1:¬(i:Int)<((cs.length:Nat):Int)):Gk cs=none:=by
 unfold Gk
 rw [List.find?_eq_none]
 intro j hj
 simp only [List.mem_range]at hj
 have:=h.ok j (by omega)
 simp only [decide_eq_true_eq];omega
theorem B3.i0:B3 c 0:=⟨Nat.zero_le _,fun j hj=>by omega⟩
theorem B3.nx (h:B3 c k)(h1:(k:Int)<((c.l.length:Nat):Int))(h2:U7 (c.l.getD ((k:Int)).toNat In.z) (k:Int) ((c.l.length:Nat):Int)=0):B3 c (k+1):=⟨by omega,fun j hj=>by
 by_cases e:j=k
 ·subst e;rw [Int.toNat_natCast]at h2;exact h2
 ·exact h.ok j (by omega)⟩
theorem B3.bad (h:B3 c k)(h1:(k:Int)<((c.l.length:Nat):Int))(h2:U7 (c.l.getD ((k:Int)).toNat In.z) (k:Int) ((c.l.length:Nat):Int)≠0):E5 c=some k:=by
 unfold E5
 rw [List.find?_range_eq_some]
 rw [Int.toNat_natCast]at h2
 refine⟨by rw [beq_eq_false_iff_ne.2 h2];rfl,by simp only [List.mem_range];omega,fun j hj=>?_⟩
 rw [h.ok j hj];rfl
theorem B3.good (h:B3 c k)(h1:¬(k:Int)<((c.l.length:Nat):Int)):E5 c=none:=by
 unfold E5
 rw [List.find?_eq_none]
 intro j hj
 simp only [List.mem_range]at hj
 rw [h.ok j (by omega)];decide
theorem B2.i0:B2 cs 0:=⟨Nat.zero_le _,fun j hj=>by omega⟩
theorem B2.nx (h:B2 cs i)(h1:(i:Int)<((cs.length:Nat):Int))(h2:E5 (cs.getD ((i:Int)).toNat AD.z)=none):B2 cs (i+1):=⟨by omega,fun j hj=>by
 by_cases e:j=i
 ·subst e;rw [Int.toNat_natCast]at h2;exact h2
 ·exact h.ok j (by omega)⟩
theorem B2.bad (h:B2 cs i)(h1:(i:Int)<((cs.length:Nat):Int)){k:Nat}(h2:E5 (cs.getD ((i:Int)).toNat AD.z)=some k):Hf cs=some i:=by
 unfold Hf
 rw [List.find?_range_eq_some]
 rw [Int.toNat_natCast]at h2
 refine⟨by rw [h2];rfl,by simp only [List.mem_range];omega,fun j hj=>?_⟩
 rw [h.ok j hj];rfl
theorem B2.good (h:B2 cs i)(h1:¬(i:Int)<((cs.length:Nat):Int)):Hf cs=none:=by
 unfold Hf
 rw [List.find?_eq_none]
 intro j hj
 simp only [List.mem_range]at hj
 rw [h.ok j (by omega)];decide
end
theorem B7 {cs:List AD}{B:Nat}(hs:∀c∈cs,c.l.length≤B)(k:Nat):(cs.getD k AD.z).l.length≤B:=by
 rw [List.getD_eq_getElem?_getD]
 cases hh:cs[k]? with
 |none=>exact Nat.zero_le _
 |some y=>exact hs y (List.mem_of_getElem? hh)
theorem Gm {cs:List AD}(h:Gk cs=none):∀c∈cs,c.l.length≤8:=fun c hc=>by
 obtain⟨j,hj⟩:=List.getElem?_of_mem hc
 have hl:=(List.getElem?_eq_some_iff.1 hj).1
 unfold Gk at h
 rw [List.find?_eq_none]at h
 have h2:=h j (List.mem_range.2 hl)
 rw [List.getD_eq_getElem?_getD,hj]at h2
 simp only [Option.getD_some,decide_eq_true_eq]at h2
 omega
theorem Fy {p q:Prop}[Decidable p][Decidable q](h:(decide p||decide q)=false):¬p∧¬q:=by simpa using h
def D6 (i:In):Bool:=BM i.op i.dst i.ra i.rb i.imm i.loc i.off i.ix i.sz i.fn i.acq i.weak i.rel i.pred i.succ i.to_ i.zero
def ET (p:In→Bool)(l:List In):Nat:=(l.filter p).length
def Gn (p:In→Bool)(cs:List AD):Nat:=(cs.map fun c=>ET p c.l).sum
def D7 (i:In):Bool:=i.op==9
def Gq (cs:List AD):Int:=if((Gn D6 cs:Nat):Int)>6 then 32 else if((Gn D7 cs:Nat):Int)>3 then 33 else 0
def Y9 (cs:List AD):Int:=if(decide (((cs.length:Nat):Int)<1)||decide (((cs.length:Nat):Int)>3))=true then 0 else match Gk cs with
 |some k=>(k:Int)
 |none=>match Hf cs with
  |some k=>(k:Int)
  |none=>0
def ZA (cs:List AD):Int:=if(decide (((cs.length:Nat):Int)<1)||decide (((cs.length:Nat):Int)>3))=true then 0 else match Gk cs with
 |some k=>0
 |none=>match Hf cs with
  |some k=>(((E5 (cs.getD k AD.z)).getD 0:Nat):Int)
  |none=>0
def Km (cs:List AD):Int:=if(decide (((cs.length:Nat):Int)<1)||decide (((cs.length:Nat):Int)>3))=true then 30 else match Gk cs with
 |some k=>31
 |none=>match Hf cs with
  |some k=>U7 ((cs.getD k AD.z).l.getD ((E5 (cs.getD k AD.z)).getD 0) In.z) (((E5 (cs.getD k AD.z)).getD 0:Nat):Int) (((cs.getD k AD.z).l.length:Nat):Int)
  |none=>Gq cs
abbrev _root_.Go.Proofs.YtbbdanhpphlbpaaGreatDoor.Am (cs:List AD):A6:=.lst 1 cs.length (fun zz=>He (cs.getD zz AD.z))
theorem IV (cs:List AD) (cx:Nat) (hs:∀c∈cs,c.l.length≤9223372036854775807) (qQ:Gk cs=none→cs.length≤3→Bi (AH cs) Tryz.prog 83 [.sl 0 cs.length cx] [some (Am cs)] (Rt (.int .i64 (Gq cs)) [some (Am cs)])):Bi (AH cs) Tryz.prog 48 [.sl 0 cs.length cx] [some (Am cs)] (Rt (.tup [.int .i64 (Y9 cs),.int .i64 (ZA cs),.int .i64 (Km cs)]) [some (Am cs)]):=
 Ab (n:=60) (by kernel_rfl) Tryz.func48 rfl rfl rfl fun G w a h0 hI A=>N9 20 A rfl rfl fun A=>fork 19 A rfl
  (fun h1 A=>N9 9 A rfl rfl fun A=>R9 A rfl h0 rfl (by unfold Y9 ZA Km;rw [if_pos h1,if_pos h1,if_pos h1];rfl) rfl)
  (fun h1 A=>N9 12 A rfl rfl fun A=>Bk (fun(i:Nat)=>[(0,.sl 0 cs.length cx),(2,.int .i64 0),(3,.int .i64 0),(4,.int .i64 0),(20,.sl 0 cs.length cx),(21,.int .i64 ((cs.length:Nat):Int)),(22,.int .i64 (i:Int))]) (fun(i:Nat)=>[some (Am cs)]) (fun(i:Nat)=>B1 cs i) (fun(i:Nat)=>cs.length - i) 0 B1.i0 ((A.cut [0,2,3,4,20,21,22] rfl).trunc 1 rfl rfl rfl (iR h0 rfl)) fun i hJ {G a w} A=>N9 6 A rfl rfl fun A=>AL 23 A rfl
    (fun h2 A=>N9 15 A rfl (iU (by(try have hz:=Fy h1);(try have hy:=B7 hs ((i:Int)).toNat);(try have:=hL.le);(try have:=hK.le);(try have:=hJ.le);omega)<|iU (by(try have hz:=Fy h1);(try have hy:=B7 hs ((i:Int)).toNat);(try have:=hL.le);(try have:=hK.le);(try have:=hJ.le);omega)<|iT) fun A=>N9 6 A rfl rfl fun A=>AL 29 A rfl
     (fun h3 A=>N9 10 A rfl rfl fun A=>R9 A rfl h0 rfl (by unfold Y9 ZA Km;rw [if_neg (ne_true_of_eq_false h1),if_neg (ne_true_of_eq_false h1),if_neg (ne_true_of_eq_false h1)];rw [hJ.bad h2 h3];rfl) rfl)
     (fun h3 A=>N9 8 A rfl (iU (by(try have hz:=Fy h1);(try have hy:=B7 hs ((i:Int)).toNat);(try have:=hL.le);(try have:=hK.le);(try have:=hJ.le);omega)<|iT) fun A=>⟨i+1,_,(by omega),(hJ.nx h2 h3),((A.cut [0,2,3,4,20,21,22] rfl).trunc 1 rfl rfl rfl (iR h0 rfl))⟩))
    (fun h2 A=>N9 12 A rfl rfl fun A=>have hG:=hJ.good h2;Bk (fun(i:Nat)=>[(0,.sl 0 cs.length cx),(2,.int .i64 0),(3,.int .i64 0),(4,.int .i64 0),(32,.sl 0 cs.length cx),(33,.int .i64 ((cs.length:Nat):Int)),(34,.int .i64 (i:Int))]) (fun(i:Nat)=>[some (Am cs)]) (fun(i:Nat)=>B2 cs i) (fun(i:Nat)=>cs.length - i) 0 B2.i0 ((A.cut [0,2,3,4,32,33,34] rfl).trunc 1 rfl rfl rfl (iR h0 rfl)) fun i hK {G a w} A=>N9 6 A rfl rfl fun A=>AL 35 A rfl
      (fun h4 A=>N9 15 A rfl (iU (by(try have hz:=Fy h1);(try have hy:=B7 hs ((i:Int)).toNat);(try have:=hL.le);(try have:=hK.le);(try have:=hJ.le);omega)<|iU (by(try have hz:=Fy h1);(try have hy:=B7 hs ((i:Int)).toNat);(try have:=hL.le);(try have:=hK.le);(try have:=hJ.le);omega)<|iT) fun A=>N9 7 A rfl rfl fun A=>Bk (fun(k:Nat)=>[(0,.sl 0 cs.length cx),(2,.int .i64 0),(3,.int .i64 0),(4,.int .i64 0),(7,.int .i64 (i:Int)),(8,.sla ((cs.getD (((i:Int)).toNat) AD.z).ao) ((cs.getD (((i:Int)).toNat) AD.z).l.length) ((cs.getD (((i:Int)).toNat) AD.z).cp)),(32,.sl 0 cs.length cx),(33,.int .i64 ((cs.length:Nat):Int)),(34,.int .i64 (i:Int)),(39,.sla ((cs.getD (((i:Int)).toNat) AD.z).ao) ((cs.getD (((i:Int)).toNat) AD.z).l.length) ((cs.getD (((i:Int)).toNat) AD.z).cp)),(40,.int .i64 (((cs.getD (((i:Int)).toNat) AD.z).l.length:Nat):Int)),(41,.int .i64 (k:Int))]) (fun(k:Nat)=>[some (Am cs)]) (fun(k:Nat)=>B3 (cs.getD ((i:Int)).toNat AD.z) k) (fun(k:Nat)=>(cs.getD ((i:Int)).toNat AD.z).l.length - k) 0 B3.i0 ((A.cut [0,2,3,4,7,8,32,33,34,39,40,41] rfl).trunc 1 rfl rfl rfl (iR h0 rfl)) fun k hL {G a w} A=>N9 6 A rfl rfl fun A=>AL 42 A rfl
        (fun h5 A=>N9 8 A rfl rfl fun A=>Mq (ao:=(cs.getD (((i:Int)).toNat) AD.z).ao) (s:=17) (m:=(cs.getD (((i:Int)).toNat) AD.z).l.length) (f:=fun zz=>CD ((cs.getD (((i:Int)).toNat) AD.z).l.getD zz In.z)) hX 44 39 (hI.at (by omega)) (by omega) A rfl rfl rfl rfl rfl rfl (iU (by(try have hz:=Fy h1);(try have hy:=B7 hs ((i:Int)).toNat);(try have:=hL.le);(try have:=hK.le);(try have:=hJ.le);omega)<|iT) fun A=>N9 7 A rfl (iU (by(try have hz:=Fy h1);(try have hy:=B7 hs ((i:Int)).toNat);(try have:=hL.le);(try have:=hK.le);(try have:=hJ.le);omega)<|iT) fun A=>N9 5 A rfl rfl fun A=>C9 [] (Qi ((cs.getD (((i:Int)).toNat) AD.z).l.getD (((k:Int)).toNat) In.z).op ((cs.getD (((i:Int)).toNat) AD.z).l.getD (((k:Int)).toNat) In.z).dst ((cs.getD (((i:Int)).toNat) AD.z).l.getD (((k:Int)).toNat) In.z).ra ((cs.getD (((i:Int)).toNat) AD.z).l.getD (((k:Int)).toNat) In.z).rb ((cs.getD (((i:Int)).toNat) AD.z).l.getD (((k:Int)).toNat) In.z).imm ((cs.getD (((i:Int)).toNat) AD.z).l.getD (((k:Int)).toNat) In.z).loc ((cs.getD (((i:Int)).toNat) AD.z).l.getD (((k:Int)).toNat) In.z).off ((cs.getD (((i:Int)).toNat) AD.z).l.getD (((k:Int)).toNat) In.z).ix ((cs.getD (((i:Int)).toNat) AD.z).l.getD (((k:Int)).toNat) In.z).sz ((cs.getD (((i:Int)).toNat) AD.z).l.getD (((k:Int)).toNat) In.z).fn ((cs.getD (((i:Int)).toNat) AD.z).l.getD (((k:Int)).toNat) In.z).acq ((cs.getD (((i:Int)).toNat) AD.z).l.getD (((k:Int)).toNat) In.z).weak ((cs.getD (((i:Int)).toNat) AD.z).l.getD (((k:Int)).toNat) In.z).rel ((cs.getD (((i:Int)).toNat) AD.z).l.getD (((k:Int)).toNat) In.z).pred ((cs.getD (((i:Int)).toNat) AD.z).l.getD (((k:Int)).toNat) In.z).succ ((cs.getD (((i:Int)).toNat) AD.z).l.getD (((k:Int)).toNat) In.z).to_ ((cs.getD (((i:Int)).toNat) AD.z).l.getD (((k:Int)).toNat) In.z).zero (k:Int) (((cs.getD (((i:Int)).toNat) AD.z).l.length:Nat):Int)) A rfl fun A=>N9 9 A rfl rfl fun A=>Dc 52 A rfl
         (fun h6 A=>N9 12 A rfl rfl fun A=>R9 A rfl h0 rfl (by unfold Y9 ZA Km;rw [if_neg (ne_true_of_eq_false h1),if_neg (ne_true_of_eq_false h1),if_neg (ne_true_of_eq_false h1)];have hb:=hL.bad h5 h6;have n5:=hK.bad h4 hb;rw [Int.toNat_natCast]at hb;simp only [hG,n5,hb,Option.getD_some,Int.toNat_natCast];rfl) rfl)
         (fun h6 A=>N9 8 A rfl (iU (by(try have hz:=Fy h1);(try have hy:=B7 hs ((i:Int)).toNat);(try have:=hL.le);(try have:=hK.le);(try have:=hJ.le);omega)<|iT) fun A=>⟨k+1,_,(by omega),(hL.nx h5 h6),((A.cut [0,2,3,4,7,8,32,33,34,39,40,41] rfl).trunc 1 rfl rfl rfl (iR h0 rfl))⟩))
        (fun h5 A=>N9 8 A rfl (iU (by(try have hz:=Fy h1);(try have hy:=B7 hs ((i:Int)).toNat);(try have:=hL.le);(try have:=hK.le);(try have:=hJ.le);omega)<|iT) fun A=>⟨i+1,_,(by omega),(hK.nx h4 (hL.good h5)),((A.cut [0,2,3,4,32,33,34] rfl).trunc 1 rfl rfl rfl (iR h0 rfl))⟩))
      (fun h4 A=>N9 6 A rfl rfl fun A=>I9 [0] AH.ok hI (qQ hG (by have hz:=Fy h1;omega)) A rfl fun A=>N9 6 A rfl rfl fun A=>R9 A rfl h0 rfl (by unfold Y9 ZA Km;rw [if_neg (ne_true_of_eq_false h1),if_neg (ne_true_of_eq_false h1),if_neg (ne_true_of_eq_false h1)];simp only [hG,hK.good h4];rfl) rfl)))
structure Mr (p:In→Bool)(l:List In)(m k:Nat):Prop where
 le:k≤l.length
 ml:m≤k
 eq:m+ET p (l.drop k)=ET p l
theorem DB (p:In→Bool)(l:List In):ET p l≤l.length:=List.length_filter_le _ _
section
variable {p:In→Bool}{l:List In}{m k:Nat}
theorem Mr.i0:Mr p l 0 0:=⟨Nat.zero_le _,Nat.le_refl _,by rw [List.drop_zero,Nat.zero_add]⟩
theorem Mr.at (h1:(k:Int)<((l.length:Nat):Int)):ET p (l.drop k)=(if p (l.getD ((k:Int)).toNat In.z)=true then 1 else 0)+ET p (l.drop (k+1)):=by
 have hk:k<l.length:=by omega
 have e:l.getD ((k:Int)).toNat In.z=l[k]:=by rw [Int.toNat_natCast,List.getD_eq_getElem?_getD,List.getElem?_eq_getElem hk];rfl
 rw [List.drop_eq_getElem_cons hk,e]
 unfold ET
 rw [List.filter_cons]
 split
 ·rw [List.length_cons];omega
 ·omega
theorem Mr.y (hI:Mr p l m k)(h1:(k:Int)<((l.length:Nat):Int))(h:p (l.getD ((k:Int)).toNat In.z)=true):Mr p l (m+1) (k+1):=⟨by omega,by have:=hI.ml;omega,by rw [←hI.eq,Mr.at h1,if_pos h];omega⟩
theorem Mr.n (hI:Mr p l m k)(h1:(k:Int)<((l.length:Nat):Int))(h:p (l.getD ((k:Int)).toNat In.z)=false):Mr p l m (k+1):=⟨by omega,by have:=hI.ml;omega,by rw [←hI.eq,Mr.at h1,if_neg (by rw [h];decide)];omega⟩
theorem Mr.fi (hI:Mr p l m k)(h1:¬(k:Int)<((l.length:Nat):Int)):(m:Int)=((ET p l:Nat):Int):=by
 have:=hI.eq
 rw [List.drop_eq_nil_of_le (by omega)]at this
 have e:ET p []=0:=rfl
 omega
end
structure Qk (cs:List AD)(x y i:Nat):Prop where
 le:i≤cs.length
 x1:x=Gn D6 (cs.take i)
 y1:y=Gn D7 (cs.take i)
theorem OA {cs:List AD}{p:In→Bool}{i:Nat}(h:(i:Int)<((cs.length:Nat):Int)):Gn p (cs.take (i+1))=Gn p (cs.take i)+ET p (cs.getD ((i:Int)).toNat AD.z).l:=by
 have hi:i<cs.length:=by omega
 have e:cs.getD ((i:Int)).toNat AD.z=cs[i]:=by rw [Int.toNat_natCast,List.getD_eq_getElem?_getD,List.getElem?_eq_getElem hi];rfl
 rw [e,List.take_succ_eq_append_getElem hi]
 unfold Gn
 rw [List.map_append,List.sum_append]
 rfl
theorem Kn {p:In→Bool}:∀(cs:List AD),(∀c∈cs,c.l.length≤1000000)→Gn p cs≤1000000*cs.length
 | [],_=>Nat.le_refl _
 |c::cs,h=>by
  have h1:=Kn (p:=p) cs fun x hx=>h x (List.mem_cons_of_mem _ hx)
  have h2:=DB p c.l
  have h3:=h c (List.mem_cons_self ..)
  show ET p c.l+Gn p cs≤_
  rw [List.length_cons];omega
theorem Qk.i0 {cs:List AD}:Qk cs 0 0 0:=⟨Nat.zero_le _,rfl,rfl⟩
theorem Qk.nx {cs:List AD}{x y i:Nat}(h:Qk cs x y i)(h1:(i:Int)<((cs.length:Nat):Int)):Qk cs (x+ET D6 (cs.getD ((i:Int)).toNat AD.z).l) (y+ET D7 (cs.getD ((i:Int)).toNat AD.z).l) (i+1):=⟨by omega,by rw [OA h1,h.x1],by rw [OA h1,h.y1]⟩
theorem Qk.fi {cs:List AD}{x y i:Nat}(h:Qk cs x y i)(h1:¬(i:Int)<((cs.length:Nat):Int)):x=Gn D6 cs∧y=Gn D7 cs:=by
 have hx:=h.x1;have hy:=h.y1
 rw [List.take_of_length_le (by omega)]at hx hy
 exact⟨hx,hy⟩
theorem Qk.bd {cs:List AD}{x y i:Nat}(h:Qk cs x y i)(hs:∀c∈cs,c.l.length≤1000000)(hn:cs.length≤1000000):x≤1000000000000∧y≤1000000000000:=by
 have h1:=Kn (p:=D6) (cs.take i) fun c hc=>hs c (List.mem_of_mem_take hc)
 have h2:=Kn (p:=D7) (cs.take i) fun c hc=>hs c (List.mem_of_mem_take hc)
 have h3:(cs.take i).length≤1000000:=by rw [List.length_take];omega
 rw [h.x1,h.y1]
 constructor
 ·exact Nat.le_trans h1 (by omega)
 ·exact Nat.le_trans h2 (by omega)
theorem OB (l:List In)(ao:Option Addr)(c f:Nat)(p:In→Bool)(hf:∀i:In,Fn Tryz.prog f [.agg (CD i)] [] (Rt (.bool (p i)) []))(hn:l.length≤1000000):Bi (AK ao 17 l.length (fun zz=>CD (l.getD zz In.z))) Tryz.prog 166 [.sla ao l.length c,.fn f []] [] (Rt (.int .i64 ((ET p l:Nat):Int)) []):=
 Ab (n:=21) (by kernel_rfl) Tryz.func166 rfl rfl rfl fun G w a h0 hI A=>N9 19 A rfl rfl fun A=>Lk (fun(m:Nat) (k:Nat)=>[(1,.fn f []),(4,.int .i64 0),(5,.int .i64 (m:Int)),(8,.sla ao l.length c),(9,.int .i64 ((l.length:Nat):Int)),(10,.int .i64 (k:Int))]) (fun(m:Nat) (k:Nat)=>[]) (fun(m:Nat) (k:Nat)=>Mr p l m k) (fun(m:Nat) (k:Nat)=>l.length - k) 0 0 Mr.i0 ((A.cut [1,4,5,8,9,10] rfl).trunc 0 rfl rfl rfl (iR h0 rfl)) fun m k hJ {G a w} A=>N9 6 A rfl rfl fun A=>AL 11 A rfl
   (fun h1 A=>N9 7 A rfl rfl fun A=>Mq (ao:=ao) (s:=17) (m:=l.length) (f:=fun zz=>CD (l.getD zz In.z)) hX 12 8 (hI) (by omega) A rfl rfl rfl rfl rfl rfl (iU (by have:=hJ.le;have:=hJ.ml;omega)<|iT) fun A=>N9 6 A rfl (iU (by have:=hJ.le;have:=hJ.ml;omega)<|iT) fun A=>N9 3 A rfl rfl fun A=>C9 [] (hf (l.getD (((k:Int)).toNat) In.z)) A rfl fun A=>N9 2 A rfl rfl fun A=>fork 16 A rfl
    (fun h2 A=>N9 8 A rfl (iU (by have:=hJ.le;have:=hJ.ml;omega)<|iT) fun A=>N9 4 A rfl (iU (by have:=hJ.le;have:=hJ.ml;omega)<|iT) fun A=>⟨m+1,k+1,_,(by omega),(hJ.y h1 h2),((A.cut [1,4,5,8,9,10] rfl).trunc 0 rfl rfl rfl (iR h0 rfl))⟩)
    (fun h2 A=>N9 8 A rfl (iU (by have:=hJ.le;have:=hJ.ml;omega)<|iT) fun A=>⟨m,k+1,_,(by omega),(hJ.n h1 h2),((A.cut [1,4,5,8,9,10] rfl).trunc 0 rfl rfl rfl (iR h0 rfl))⟩))
   (fun h1 A=>N9 10 A rfl rfl fun A=>R9 A rfl h0 rfl (congrArg (SV.int IntKind.i64) (hJ.fi h1)) rfl)
theorem ZB (i:In):Fn Tryz.prog 161 [.agg (CD i)] [] (Rt (.bool (D6 i)) []):=Fx i.op i.dst i.ra i.rb i.imm i.loc i.off i.ix i.sz i.fn i.acq i.weak i.rel i.pred i.succ i.to_ i.zero
theorem ZC (i:In):Fn Tryz.prog 122 [.agg (CD i)] [] (Rt (.bool (D7 i)) []):=J1 i.op i.dst i.ra i.rb i.imm i.loc i.off i.ix i.sz i.fn i.acq i.weak i.rel i.pred i.succ i.to_ i.zero
theorem ZD (l:List In)(ao:Option Addr)(c:Nat)(hn:l.length≤1000000):Bi (AK ao 17 l.length (fun zz=>CD (l.getD zz In.z))) Tryz.prog 123 [.sla ao l.length c] [] (Rt (.int .i64 ((ET D6 l:Nat):Int)) []):=
 Ab (n:=5) (by kernel_rfl) Tryz.func123 rfl rfl rfl fun G w a h0 hI A=>N9 8 A rfl rfl fun A=>I9 [] AK.ok hI (OB l ao c 161 D6 ZB hn) A rfl fun A=>N9 4 A rfl rfl fun A=>R9 A rfl h0 rfl rfl rfl
theorem ZE (l:List In)(ao:Option Addr)(c:Nat)(hn:l.length≤1000000):Bi (AK ao 17 l.length (fun zz=>CD (l.getD zz In.z))) Tryz.prog 124 [.sla ao l.length c] [] (Rt (.int .i64 ((ET D7 l:Nat):Int)) []):=
 Ab (n:=5) (by kernel_rfl) Tryz.func124 rfl rfl rfl fun G w a h0 hI A=>N9 8 A rfl rfl fun A=>I9 [] AK.ok hI (OB l ao c 122 D7 ZC hn) A rfl fun A=>N9 4 A rfl rfl fun A=>R9 A rfl h0 rfl rfl rfl
theorem TY (cs:List AD)(cx:Nat)(hs:∀c∈cs,c.l.length≤1000000)(hn:cs.length≤1000000):Bi (AH cs) Tryz.prog 83 [.sl 0 cs.length cx] [some (Am cs)] (Rt (.int .i64 (Gq cs)) [some (Am cs)]):=
 Ab (n:=26) (by kernel_rfl) Tryz.func83 rfl rfl rfl fun G w a h0 hI A=>N9 20 A rfl rfl fun A=>Y3 (fun(x:Nat) (y:Nat) (i:Nat)=>[(2,.int .i64 0),(3,.int .i64 (x:Int)),(4,.int .i64 (y:Int)),(7,.sl 0 cs.length cx),(8,.int .i64 ((cs.length:Nat):Int)),(9,.int .i64 (i:Int))]) (fun(x:Nat) (y:Nat) (i:Nat)=>[some (Am cs)]) (fun(x:Nat) (y:Nat) (i:Nat)=>Qk cs x y i) (fun(x:Nat) (y:Nat) (i:Nat)=>cs.length - i) 0 0 0 Qk.i0 ((A.cut [2,3,4,7,8,9] rfl).trunc 1 rfl rfl rfl (iR h0 rfl)) fun x y i hJ {G a w} A=>N9 6 A rfl rfl fun A=>AL 10 A rfl
   (fun h1 A=>N9 13 A rfl (iU (by have hb:=hJ.bd hs hn;have h7:=B7 hs ((i:Int)).toNat;have h8:=DB D6 (cs.getD ((i:Int)).toNat AD.z).l;have h9:=DB D7 (cs.getD ((i:Int)).toNat AD.z).l;have:=hJ.le;omega)<|iU (by have hb:=hJ.bd hs hn;have h7:=B7 hs ((i:Int)).toNat;have h8:=DB D6 (cs.getD ((i:Int)).toNat AD.z).l;have h9:=DB D7 (cs.getD ((i:Int)).toNat AD.z).l;have:=hJ.le;omega)<|iT) fun A=>N9 3 A rfl rfl fun A=>I9 [] AK.ok (hI.at (by omega)) (ZD (cs.getD (((i:Int)).toNat) AD.z).l (cs.getD (((i:Int)).toNat) AD.z).ao (cs.getD (((i:Int)).toNat) AD.z).cp (B7 hs _)) A rfl fun A=>N9 4 A rfl (iU (by have hb:=hJ.bd hs hn;have h7:=B7 hs ((i:Int)).toNat;have h8:=DB D6 (cs.getD ((i:Int)).toNat AD.z).l;have h9:=DB D7 (cs.getD ((i:Int)).toNat AD.z).l;have:=hJ.le;omega)<|iT) fun A=>N9 3 A rfl rfl fun A=>I9 [] AK.ok (hI.at (by omega)) (ZE (cs.getD (((i:Int)).toNat) AD.z).l (cs.getD (((i:Int)).toNat) AD.z).ao (cs.getD (((i:Int)).toNat) AD.z).cp (B7 hs _)) A rfl fun A=>N9 5 A rfl (iU (by have hb:=hJ.bd hs hn;have h7:=B7 hs ((i:Int)).toNat;have h8:=DB D6 (cs.getD ((i:Int)).toNat AD.z).l;have h9:=DB D7 (cs.getD ((i:Int)).toNat AD.z).l;have:=hJ.le;omega)<|iT) fun A=>N9 4 A rfl (iU (by have hb:=hJ.bd hs hn;have h7:=B7 hs ((i:Int)).toNat;have h8:=DB D6 (cs.getD ((i:Int)).toNat AD.z).l;have h9:=DB D7 (cs.getD ((i:Int)).toNat AD.z).l;have:=hJ.le;omega)<|iT) fun A=>⟨x+ET D6 (cs.getD ((i:Int)).toNat AD.z).l,y+ET D7 (cs.getD ((i:Int)).toNat AD.z).l,i+1,_,(by omega),(hJ.nx h1),((A.cut [2,3,4,7,8,9] rfl).trunc 1 rfl rfl rfl (iR h0 rfl)).sayT (by rfl)⟩)
   (fun h1 A=>N9 10 A rfl rfl fun A=>AL 23 A rfl
    (fun h2 A=>N9 7 A rfl rfl fun A=>R9 A rfl h0 rfl (by have hf:=hJ.fi h1;unfold Gq;rw [←hf.1,←hf.2];rw [if_pos h2];rfl) rfl)
    (fun h2 A=>N9 10 A rfl rfl fun A=>AL 25 A rfl
     (fun h3 A=>N9 7 A rfl rfl fun A=>R9 A rfl h0 rfl (by have hf:=hJ.fi h1;unfold Gq;rw [←hf.1,←hf.2];rw [if_neg h2];rw [if_pos h3];rfl) rfl)
     (fun h3 A=>N9 9 A rfl rfl fun A=>R9 A rfl h0 rfl (by have hf:=hJ.fi h1;unfold Gq;rw [←hf.1,←hf.2];rw [if_neg h2];rw [if_neg h3];rfl) rfl)))
end Go.Proofs.YtbbdanhpphlbpaaGreatDoor
namespace Go.Proofs.YtbbdanhpphlbpaaGreatDoor
open Go.RowKit
def Ql (P:Program)(t:TypeId):Bool:=match P.underlying t with|some (.interface _)=>false|some _=>true|none=>false
section
variable {P:Program}{ops:Array Oper}{a:Act}{w:World}{K:Value→World→Prop}{d:Option Tmp}{ty:TypeId}{pos:String}{af:Array Edge}{gd:Option (Nat×Bool)}{v:Value}
theorem TZ {x:Operand} {t:Nat} {v:Value} (hw:Region.wanted {dst:=d,op:=.makeInterface t x,type:=ty,pos:=pos,after:=af,guard:=gd} (yielded ops a.tmps)=true) (hx:a.eval x=v) (ht:Ql P t=true)
  (h:K (.iface t v) w):BG P ops {dst:=d,op:=.makeInterface t x,type:=ty,pos:=pos,after:=af,guard:=gd} a w K:=
 AR hw (by
  unfold execOp
  simp only [hx,Sem.run_bind]
  unfold Ql at ht
  cases hd:P.underlying t with
  |none=>simp [hd]at ht
  |some u=>cases u<;>first|(simp [hd]at ht;done)|simp [Instr.makeInterface,run_underlying hd]) h
end
section
variable {P:Program}{w:World}{t:TypeId}{x y:Operand}{k:IntKind}{a b:Int}
theorem Ta {c:Value}(ht:P.underlying t=some (.interface (P.methodsAt t))):(eqGuard .neq t x (.const c) .nilIface .nilIface).run P w=.ok () w∧(binOp .neq t .nilIface .nilIface).run P w=.ok (.bool false) w:=
 ⟨by rw [eqGuard_nil_constR];rfl,run_neq_nil_nil w t ht⟩
theorem Tc {tt:TypeId}{v:Value}(ht:P.underlying t=some (.interface (P.methodsAt t))):(eqGuard .neq t x y (.iface tt v) .nilIface).run P w=.ok () w∧(binOp .neq t (.iface tt v) .nilIface).run P w=.ok (.bool true) w:=
 ⟨rfl,run_neq_held_nil w t tt v ht⟩
end
theorem I0 {n:Int}(h1:0≤n)(h2:n≤255):IntKind.wrap .u8 n=n:=by simp only [IntKind.wrap,IntKind.signed,IntKind.bits];simp;omega
theorem wrap64 {n:Int}(h1:0≤n)(h2:n≤18446744073709551615):IntKind.wrap .u64 n=n:=by simp only [IntKind.wrap,IntKind.signed,IntKind.bits];simp;omega
end Go.Proofs.YtbbdanhpphlbpaaGreatDoor
namespace Go.Proofs.YtbbdanhpphlbpaaGreatDoor
open Go.RowKit
section
variable {P:Program}{n:Nat}{ks:List Nat}{G0:Gr}{w0:World}{T:List (Nat×SV)}{H:Hp}{G:Gr}{w:World}{ops:Array Oper}{o:Oper}
theorem Ji {x:Operand}{t:Nat}{y:SV}{v:Value}(hg:iY ops T o.guard=some .run)(jG:o.op=.makeInterface t x)(hx:jR T x=some y)(hy:den [] y=some v)(ht:Ql P t=true):Aw P n ops ks G0 w0 T H o (.v (.iface t v)) H:=fun G a w A=>by
 have hw:=An (gd:=none) A hg
 obtain⟨d,op,ty,ps,af,gd⟩:=o
 simp only at jG
 subst jG
 have h1:=A.ev hx
 have h2:den G y=some v:=by simpa using AP G y hy
 rw [h2]at h1
 exact TZ hw (Option.some.inj h1).symm ht ⟨[],rfl,by rw [List.append_nil];exact A.ms⟩
theorem OC {x y:Operand}{t t2 tt:Nat}{v:Value}(hg:iY ops T o.guard=some .run)(jG:o.op=.binOp .neq t x y t2)(hx:jR T x=some (.v (.iface tt v)))(hy:jR T y=some (.v .nilIface))(ht:P.underlying t=some (.interface (P.methodsAt t))):Aw P n ops ks G0 w0 T H o .tt H:=fun G a w A=>by
 have hw:=An (gd:=none) A hg
 obtain⟨d,op,ty,ps,af,gd⟩:=o
 simp only at jG
 subst jG
 have h1:=A.ev hx
 have h2:=A.ev hy
 simp only [den,Option.some.injEq]at h1 h2
 exact Jr hw h1.symm h2.symm (Tc ht) ⟨[],rfl,by rw [List.append_nil];exact A.ms⟩
theorem Ko {x:Operand}{c:Value}{t t2:Nat}(hg:iY ops T o.guard=some .run)(jG:o.op=.binOp .neq t x (.const c) t2)(hx:jR T x=some (.v .nilIface))(hy:jR T (.const c)=some (.v .nilIface))(ht:P.underlying t=some (.interface (P.methodsAt t))):Aw P n ops ks G0 w0 T H o .ff H:=fun G a w A=>by
 have hw:=An (gd:=none) A hg
 obtain⟨d,op,ty,ps,af,gd⟩:=o
 simp only at jG
 subst jG
 have h1:=A.ev hx
 have h2:=A.ev hy
 simp only [den,Option.some.injEq]at h1 h2
 exact Jr hw h1.symm h2.symm (Ta ht) ⟨[],rfl,by rw [List.append_nil];exact A.ms⟩
theorem Ms.addLst (h:Ms H ks G0 w0 G w)(p:Option Loc)(e:A6)(he:e.mut=false)(jJ:Ae (G++[p]) w p e)(jM:∀(i:Nat) (e':A6) (L' L:Loc),H[i]?=some (some e')→e'.mut=true→G[i]?=some (some L')→p=some L→L'.b≠L.b):Ms (H++[some e]) ks G0 w0 (G++[p]) w:=by
 have hlen:=h.mem.len
 have hold:∀(i:Nat) (e':A6),(H++[some e])[i]?=some (some e')→(H[i]?=some (some e')∧i<H.length)∨(i=H.length∧e'=e):=by
  intro i e' hh
  by_cases hi:i<H.length
  ·rw [List.getElem?_append_left hi]at hh;exact .inl ⟨hh,hi⟩
  ·rw [List.getElem?_append_right (by omega)]at hh
   have:i - H.length=0:=by
    cases hq:i - H.length with
    |zero=>rfl
    |succ k=>rw [hq]at hh;simp at hh
   rw [this]at hh
   simp at hh
   exact .inr ⟨by omega,hh.symm⟩
 have hG:(G++[p])[H.length]?=some p:=by rw [List.getElem?_append_right (by omega),hlen];simp
 have lI:∀i,i<H.length→(G++[p])[i]?=G[i]?:=fun i hi=>List.getElem?_append_left (by omega)
 refine⟨⟨by simp [hlen],?_,?_⟩,?_,?_,h.mix⟩
 ·intro i e' hh
  rcases hold i e' hh with⟨h1,h2⟩|⟨rfl,rfl⟩
  ·rw [lI i h2];exact(h.mem.ent i e' h1).more _
  ·rw [hG];exact jJ
 ·intro i j e1 f L M jV h1 h2 h3 h4 h5 h6
  rcases hold i e1 h1 with⟨k1,k2⟩|⟨rfl,rfl⟩
  ·rw [lI i k2]at h4
   rcases hold j f h2 with⟨k3,k4⟩|⟨rfl,rfl⟩
   ·rw [lI j k4]at h5;exact h.mem.sep i j e1 f L M jV k1 k3 h3 h4 h5 h6
   ·rw [hG]at h5;cases h5;exact jM i e1 L M k1 h3 h4 rfl
  ·rw [he]at h3;cases h3
 ·obtain⟨F,hF⟩:=h.pre;exact⟨F++[p],by rw [hF,List.append_assoc]⟩
 ·intro i e1 L h1 h2 h3
  rcases hold i e1 h1 with⟨k1,k2⟩|⟨rfl,rfl⟩
  ·rw [lI i k2]at h3;exact h.own i e1 L k1 h2 h3
  ·rw [he]at h2;cases h2
abbrev gY (l:List UInt8):A6:=.lst 1 l.length fun k=>[.int .u8 (((l.getD k 0).toNat:Nat):Int)]
theorem Qm {x:Operand}{s t e i:Nat}{l:List UInt8}(hg:iY ops T o.guard=some .run)(jG:o.op=.convert s t x)(hx:jR T x=some (.str l))(hs:P.underlying s=some .string)(ht:P.underlying t=some (.slice e))(he:P.underlying e=some (.int .u8))(hi:H.length=i):Aw P n ops ks G0 w0 T H o (.sl i l.length 0) (H++[some (gY l)]):=fun G a w A=>by
 have hw:=An (gd:=none) A hg
 obtain⟨d,op,ty,ps,af,gd⟩:=o
 simp only at jG
 subst jG
 subst hi
 have h1:=A.ev hx
 simp only [den,Option.some.injEq]at h1
 have nR:BW w (Lib.bytesWorld w e (S l)):=⟨rfl,rfl,rfl,by rw [Lib.bytesWorld_size];omega,fun k hk=>Lib.bytesWorld_at_old w e (S l) k hk⟩
 refine AR (w':=Lib.bytesWorld w e (S l)) (v:=.slice (some ⟨w.heap.size,0,none⟩) (S l).size (grownCap w (S l).size 0 e)) hw ?_ ⟨[some ⟨w.heap.size,[],List.replicate (grownCap w (S l).size 0 e) undef,0⟩],?_,?_⟩
 ·unfold execOp
  simp only [h1.symm,Sem.run_bind,Lib.run_convert_string_bytes w s t e (S l) hs ht he,Sem.run_pure,Result.andThen_ok]
 ·unfold den
  rw [List.getElem?_append_right (by rw [A.mem.len];exact Nat.le_refl _),A.mem.len]
  simp [rm,Cf]
 ·refine(A.ms.grow nR).addLst _ _ rfl ⟨fun k=>⟨_,rfl⟩,.inr ⟨_,rfl,by rw [Lib.bytesWorld_size];exact Nat.lt_succ_self _,fun k hk=>⟨_,rfl,fun j z hz=>?_⟩⟩⟩ fun j e' L' L h2 h3 h4 h5=>?_
  ·have hj:j=0:=by
    cases j with
    |zero=>rfl
    |succ j=>simp at hz
   subst hj
   have h2:=Lib.bytesWorld_cell w e (S l) k (by rw [Cf];exact hk)
   rw [EC]at h2
   simp at hz
   subst hz
   simpa [List.getD,hk]using h2
  ·cases h5
   have:=A.mem.ent j e' h2
   rw [h4]at this
   have:=Ae.lt this (At h3)
   simp only;omega
theorem AB {a:Act}(A:Sy n T H ks G0 w0 G a w)(t:Nat)(y:SV){x:SV}(h:look T t=some x)(e:∀G,den G x=den G y):Sy n ((t,y)::T) H ks G0 w0 G a w:=
 ⟨A.size,A.defers,fun s z hz=>by
  simp only [look]at hz
  cases hc:Nat.beq t s with
  |true=>rw [hc]at hz;cases hz;have:=Nat.eq_of_beq_eq_true hc;subst this;rw [←e];exact A.get t _ h
  |false=>rw [hc]at hz;exact A.get s z hz,A.mem,A.pre,A.own,A.mix⟩
theorem ZF {α:Type}{R:Prop}(o:Option α)(h1:o=none→R)(h2:∀x,o=some x→R):R:=by
 cases h:o with
 |none=>exact h1 h
 |some x=>exact h2 x h
end
def YU (I:Dd)(P:Program)(f:Nat)(args:List SV)(J:SV→Prop):Prop:=
 Fo P f=some (false,false)∧∀w ks vs,AE [] args=some vs→I w ks→Calls P f vs.toArray w fun e w'=>∃x v,J x∧den [] x=some v∧e=.returned v∧BW w w'
section
variable {P:Program}{n:Nat}{ks:List Nat}{G0:Gr}{w0:World}{T:List (Nat×SV)}{H:Hp}{G:Gr}{a:Act}{w:World}{Q:Exit→Act→World→Prop}{K:List Fr}{ops:Array Oper}{o:Oper}{rest:List Oper}{I:Dd}
theorem ZG {f:Nat} {az:List SV} {vs:List Value} {J:SV→Prop} (jJ:I.OK) (h0:I w0 ks) (hf:YU I P f az J) (A:Sy n T H ks G0 w0 G a w) (h1:BS n ops T o=some (f,az)) (h2:AE [] az=some vs)
  (hk:∀x,J x→∀{a' w'},Sy n (Ay T o.dst x) H ks G0 w0 G a' w'→Goal P Q K (.ops ops rest) a' w'):Goal P Q K (.ops ops (o::rest)) a w:=by
 obtain⟨hd,us,hu,lK⟩:=Cb (P:=P) (ops:=ops) A h1 hf.1
 have h3:AE G az=some vs:=by simpa using Al G az h2
 rw [h3]at hu
 cases hu
 refine CJ (Q:=Fa P Q K) (lK (hf.2 w ks vs h2 (jJ _ _ _ _ h0 A.mix fun b hb=>.inl hb)) fun e w' he=>?_)
 obtain⟨x,v,hJ,e1,rfl,hg⟩:=he
 exact⟨v,rfl,hk x hJ (Sy.put ⟨A.size,A.defers,A.get,⟨A.mem.len,fun i e hi=>(A.mem.ent i e hi).mix hg.mix (fun _ _ _=>rfl),A.mem.sep⟩,A.pre,A.own,A.mix.grow hg⟩ hd (by simpa using AP G x e1))⟩
theorem Qn (jJ:I.OK) {f:Nat} {fn:Func} {c:Code} {args:List SV} {J:SV→Prop} (jH:Fo P f=some (false,false)) (hf:P.funcs[f]?=some fn) (hb:fn.body=some c) (hn:fn.ntmps=n) (hl:Nat.ble args.length n=true)
  (h:∀w a,I w []→Sy n (La args 0) [] [] [] w [] a w→Goal P (bodyPost P fn fun e w'=>∃x v,J x∧den [] x=some v∧e=.returned v∧BW w w') [] (.code c) a w):YU I P f args J:=by
 refine⟨jH,fun w ks vs hv hI=>?_⟩
 refine calls_of_wp hf hb (h w _ ?_ ⟨?_,rfl,fun t x hx=>?_,⟨rfl,fun i e he=>by simp at he,fun i j e f L M _ he=>by simp at he⟩,⟨[],by simp⟩,fun i e L h1=>by simp at h1,CR.refl _ _⟩)
 ·exact jJ _ _ _ _ hI (CR.refl ks w) fun b hb=>by simp at hb
 ·have:=Av hv
  have:=Nat.le_of_ble_eq_true hl
  simp [hn];omega
 ·obtain⟨_,h2⟩:=Dm hx
  simp only [Nat.sub_zero]at h2
  obtain⟨v,h3,h4⟩:=CL hv h2
  have i7:t<vs.length:=(List.getElem?_eq_some_iff.1 h3).1
  rw [h4]
  simp [Array.getD_eq_getD_getElem?,Array.getElem?_append,i7]at h3⊢
  exact h3.symm
theorem ZH {Y:Tb}{fn:Func}{J:SV→Prop}(hX:Y.ok P=true){y:SV}{r:List SV}{rv:List ResultVar}{v':Value}(A:Sy n T H [] [] w0 G a w)(hr:fn.results.toList=rv)(hv:IF ⟨Y,false⟩ T H rv=some r)(hy:AX r=y)(hc:den [] y=some v')(hJ:J y):bodyPost P fn (fun e w'=>∃x v,J x∧den [] x=some v∧e=.returned v∧BW w0 w') .ret a w:=by
 obtain⟨v,h1,h2⟩:=GZ (X:=⟨Y,false⟩) (fn:=fn) hX A hr hv hy
 have h3:den G y=some v':=by simpa using AP G y hc
 rw [h3]at h1
 cases h1
 have hm:=A.mix
 exact⟨A.defers,v',h2,y,v',hJ,hc,rfl,⟨hm.os,hm.tape,hm.output,hm.size,fun k jQ=>hm.block k jQ (by simp)⟩⟩
theorem OD (mk:Nat→SV) {f:Nat} {az:List SV} {vs:List Value} (jJ:I.OK) (h0:I w0 ks) (hf:YU I P f az (fun x=>∃N,x=mk N)) (A:Sy n T H ks G0 w0 G a w) (h1:BS n ops T o=some (f,az)) (h2:AE [] az=some vs)
  (hk:∀N,∀{a' w'},Sy n (Ay T o.dst (mk N)) H ks G0 w0 G a' w'→Goal P Q K (.ops ops rest) a' w'):Goal P Q K (.ops ops (o::rest)) a w:=
 ZG jJ h0 hf A h1 h2 fun x hx=>by obtain⟨N,rfl⟩:=hx;exact hk N
end
theorem Qo (n:Nat):Bt (fun _=>[.str []]) n=some (List.replicate n (.string (S []))):=by
 induction n with
 |zero=>rfl
 |succ n ih=>
  unfold Bt
  rw [ih]
  show some (List.replicate n (Value.string (S []))++[Value.string (S [])])=_
  rw [List.replicate_succ',]
section
variable {P:Program}{n:Nat}{ks:List Nat}{G0:Gr}{w0:World}{T:List (Nat×SV)}{H:Hp}{ops:Array Oper}{o:Oper}
theorem gZ {x y:Operand}{t e m i:Nat}{ti:TypeInfo}(hg:iY ops T o.guard=some .run)(jG:o.op=.makeSlice t x y)(hx:jR T x=some (.int .i64 ((m:Nat):Int)))(hy:jR T y=some (.int .i64 ((m:Nat):Int)))(ht:P.underlying t=some (.slice e))(kO:P.info? e=some ti)(hz:ti.zero=some (.string (S [])))(hs:ti.size=1)(hb:ti.bytes≤1000)(hm:m≤1000000)(hi:H.length=i):Aw P n ops ks G0 w0 T H o (.sl i m m) (H++[some (.row e 1 m m fun _=>[.str []])]):=fun G a w A=>by
 have hw:=An (gd:=none) A hg
 obtain⟨d,op,ty,ps,af,gd⟩:=o
 simp only at jG
 subst jG
 subst hi
 have h1:=A.ev hx
 have h2:=A.ev hy
 simp only [den,Option.some.injEq]at h1 h2
 have hmul:ti.bytes*m≤1000*1000000:=Nat.mul_le_mul hb hm
 obtain⟨w',hr,ho,rR⟩:=run_makeSlice_full (P:=P) w 0 t e ti _ 1 ht kO hz hs .i64 .i64 m (by omega) (by omega) (by unfold maxLen;omega) (Nat.zero_le _)
 have nR:BW w w':=⟨rR.os,rR.tape,rR.output,rR.size,fun k hk=>rR.block k hk (by simp)⟩
 refine AR (v:=.slice (some ⟨w.heap.size,0,none⟩) m m) (w':=w') hw ?_ ⟨[some ⟨w.heap.size,[],[],e⟩],?_,?_⟩
 ·unfold execOp
  simp only [h1.symm,h2.symm,Sem.run_bind,hr,Sem.run_pure,Result.andThen_ok]
 ·unfold den
  rw [List.getElem?_append_right (by rw [A.mem.len];exact Nat.le_refl _),A.mem.len]
  simp [rm]
 ·refine(A.newBlk (g:=w.heap.size) (t:=e) (en:=.row e 1 m m fun _=>[.str []]) rfl nR ⟨fun k=>⟨_,rfl,rfl⟩,fun L hL=>by cases hL;rfl,_,Qo m,?_⟩ rfl).ms
  have hc:(madeCells (Value.cells (.string (S []))) (m*1)).toList=List.replicate m (.string (S [])):=by
   unfold madeCells
   apply List.ext_getElem
   ·simp
   ·intro k h1 h2
    simp [Value.cells,Nat.mod_one]
  rw [hc]at ho
  simpa [rm]using ho
theorem ZI {x y:Operand}{t e m i:Nat}(f:Nat→List SV)(hf:∀j,f j=[.str []])(hg:iY ops T o.guard=some .run)(jG:o.op=.makeSlice t x y)(hx:jR T x=some (.int .i64 ((m:Nat):Int)))(hy:jR T y=some (.int .i64 ((m:Nat):Int)))(ht:P.underlying t=some (.slice e))(lQ:∃ti,P.info? e=some ti∧ti.zero=some (.string (S []))∧ti.size=1∧ti.bytes≤1000)(hm:m≤1000000)(hi:H.length=i):Aw P n ops ks G0 w0 T H o (.sl i m m) (H++[some (.row e 1 m m f)]):=by
 have:f=fun _=>[.str []]:=funext hf
 subst this
 obtain⟨ti,kO,hz,hs,hb⟩:=lQ
 exact gZ hg jG hx hy ht kO hz hs hb hm hi
end
def Acc (lo:Nat)(l:List (Nat×List SV))(w:World)(ks:List Nat):Prop:=∀p∈l,lo≤p.1∧∃vs,AE [] p.2=some vs∧Iv p.1 0 vs w ks
theorem Acc.nil {lo:Nat}{w:World}{ks:List Nat}:Acc lo [] w ks:=fun p hp=>by cases hp
theorem Acc.go {lo:Nat}{l:List (Nat×List SV)}{w w':World}{ks ks':List Nat}(h:Acc lo l w ks)(m:CR ks w w')(hk:∀b,ks'.contains b=true→ks.contains b=true∨w.heap.size≤b):Acc lo l w' ks':=fun p hp=>by
 obtain⟨h1,vs,h2,h3⟩:=h p hp
 exact⟨h1,vs,h2,h3.go m hk⟩
theorem Acc.bare {lo:Nat}{l:List (Nat×List SV)}{w:World}{ks:List Nat}(h:Acc lo l w ks):Acc lo l w []:=fun p hp=>by
 obtain⟨h1,vs,h2,h3,h4,h5⟩:=h p hp
 exact⟨h1,vs,h2,h3,rfl,h5⟩
section
variable {P:Program}{X:Tx}{n:Nat}{ks:List Nat}{G0:Gr}{w0:World}{T:List (Nat×SV)}{H:Hp}{G:Gr}{a:Act}{w w':World}{ops:Array Oper}{o:Oper}{rest:List Oper}{Q:Exit→Act→World→Prop}{K:List Fr}
theorem Sy.grew (A:Sy n T H ks G0 w0 G a w)(nR:BW w w'):Sy n T H ks G0 w0 G a w':=
 ⟨A.size,A.defers,A.get,⟨A.mem.len,fun i e h=>(A.mem.ent i e h).mix nR.mix (fun _ L _=>rfl),A.mem.sep⟩,A.pre,A.own,A.mix.grow nR⟩
theorem Acc.now {lo:Nat}{l:List (Nat×List SV)}(h:Acc lo l w0 ks)(A:Sy n T H ks G0 w0 G a w):Acc lo l w (keys H G):=h.go A.mix A.keys_own
theorem gH {t m:Nat} (cs:List SV) {vs:List Value} (hX:X.ok P=true) (A:Sy n T H ks G0 w0 G a w) (h:QO X T H none o.op=some (.new t (.blk cs) (.sl H.length m m))) (hc:AE [] cs=some vs) (hg:iY ops T o.guard=some .run) (hd:Ci n o.dst=true)
  (k:∀{a w} b,w0.heap.size≤b→Sy n (Ay T o.dst (.sla (some ⟨b,0,none⟩) m m)) H ks G0 w0 G a w→Iv b 0 vs w (keys H G)→Goal P Q K (.ops ops rest) a w):Goal P Q K (.ops ops (o::rest)) a w:=by
 refine CJ (Q:=Fa P Q K) ?_
 refine IQ hX A h (An (gd:=none) A hg) fun g w' v wY nR nG pI hv=>?_
 have mH:(G++[some (⟨g,[],[],t⟩:Loc)])[H.length]?=some (some ⟨g,[],[],t⟩):=by rw [List.getElem?_append_right (by rw [A.mem.len];exact Nat.le_refl _),A.mem.len];simp
 have mJ:v=.slice (some ⟨g,0,none⟩) m m:=by
  unfold den at hv
  rw [mH]at hv
  simp [rm]at hv
  exact hv.symm
 subst mJ
 obtain⟨L,us,e1,e2,e3⟩:=nG.range
 cases e1
 have h4:AE G cs=some vs:=by simpa using Al G cs hc
 rw [h4]at e2
 cases e2
 have i7:g<w'.heap.size:=Ae.lt nG (At pI)
 refine k g (by rw [wY];exact A.mix.size) (Sy.put (A.grew nR) hd (by rfl)) ⟨i7,?_,e3⟩
 cases hc:(keys H G).contains g with
 |false=>rfl
 |true=>
  obtain⟨i,e',M,q1,q2,q3,q4⟩:=mem_keys.1 hc
  have:=A.mem.ent i e' q1
  rw [q3]at this
  have:=Ae.lt this (At q2)
  omega
theorem C0 {nB:Nat} {TB:List (Nat×SV)} {HB:Hp} {ks00:List Nat} {G00:Gr} {w00:World} {aB:Act} {l:List (Nat×List SV)} {t m:Nat} (cs:List SV) {vs:List Value} (hX:X.ok P=true) (B:Sy nB TB HB ks00 G00 w00 G0 aB w0) (hA:Acc w00.heap.size l w0 (keys HB G0)) (A:Sy n T H (keys HB G0) G0 w0 G a w)
  (h:QO X T H none o.op=some (.new t (.blk cs) (.sl H.length m m))) (hc:AE [] cs=some vs) (hg:iY ops T o.guard=some .run) (hd:Ci n o.dst=true)
  (k:∀{G a w} b,Sy n (Ay T o.dst (.sla (some ⟨b,0,none⟩) m m)) H ks00 G00 w00 G a w→Acc w00.heap.size ((b,cs)::l) w (keys H G)→Sy n (Ay T o.dst (.sla (some ⟨b,0,none⟩) m m)) H (keys H G) G w G a w→Goal P Q K (.ops ops rest) a w):Goal P Q K (.ops ops (o::rest)) a w:=by
 refine gH cs hX A h hc hg hd fun b hb A' hL=>?_
 refine k b (B.trans A') (fun p hp=>?_) A'.base
 rcases List.mem_cons.1 hp with rfl|hp
 ·exact⟨Nat.le_trans B.mix.size hb,vs,hc,hL⟩
 ·exact(hA.now A') p hp
theorem lZ {I:Dd} {nB:Nat} {TB:List (Nat×SV)} {HB:Hp} {ks00:List Nat} {G00:Gr} {w00:World} {aB:Act} {l:List (Nat×List SV)} {t m:Nat} (cs:List SV) {vs:List Value} (hX:X.ok P=true) (jJ:I.OK) (B:Sy nB TB HB ks00 G00 w00 G0 aB w0) (hA:Acc w00.heap.size l w0 (keys HB G0)) (hI:I w0 (keys HB G0)) (A:Sy n T H (keys HB G0) G0 w0 G a w)
  (h:QO X T H none o.op=some (.new t (.blk cs) (.sl H.length m m))) (hc:AE [] cs=some vs) (hg:iY ops T o.guard=some .run) (hd:Ci n o.dst=true)
  (k:∀{G a w} b,Sy n (Ay T o.dst (.sla (some ⟨b,0,none⟩) m m)) H ks00 G00 w00 G a w→Acc w00.heap.size ((b,cs)::l) w (keys H G)→I w (keys H G)→Sy n (Ay T o.dst (.sla (some ⟨b,0,none⟩) m m)) H (keys H G) G w G a w→Goal P Q K (.ops ops rest) a w):Goal P Q K (.ops ops (o::rest)) a w:=by
 refine gH cs hX A h hc hg hd fun b hb A' hL=>?_
 refine k b (B.trans A') (fun p hp=>?_) (jJ _ _ _ _ hI A'.mix A'.keys_own) A'.base
 rcases List.mem_cons.1 hp with rfl|hp
 ·exact⟨Nat.le_trans B.mix.size hb,vs,hc,hL⟩
 ·exact(hA.now A') p hp
end
end Go.Proofs.YtbbdanhpphlbpaaGreatDoor
