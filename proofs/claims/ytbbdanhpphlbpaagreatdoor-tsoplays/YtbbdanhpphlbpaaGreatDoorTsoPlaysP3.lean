/- TsoPlays, part 3: the engine, contracts, theory. -/
import Derived.Test.YtbbdanhpphlbpaaGreatDoorTsoPlaysP2
import Derived.Laws.Pointers
import Derived.Lib.LaidTab
set_option linter.unusedVariables false
set_option linter.unusedSimpArgs false
set_option linter.unusedSectionVars false
set_option maxRecDepth 100000
set_option maxHeartbeats 2000000
namespace Go.Proofs.YtbbdanhpphlbpaaGreatDoor
section
open Go.RowKit
theorem JZ {H:Hp}{G:Gr}{r:Nat}(h:H.length=G.length)(hb:Nat.ble H.length r=true):G.length≤r:=by rw [←h];exact δ8 hb
mutual
def Ra (r:Nat):SV→Bool
 | .ptr i _=> !Nat.beq i r
 | .el i _ _ _=> !Nat.beq i r
 | .sl i _ _=> !Nat.beq i r
 | .agg l=>XK r l
 | .tup l=>XK r l
 | .fn _ l=>XK r l
 | .opt _ x=>Ra r x
 | .ix p _ _ _ _=>Ra r p
 | .sp p _ _=>Ra r p
 | .st i _ _ _ _=> !Nat.beq i r
 |_=>true
def XK (r:Nat):List SV→Bool
 | []=>true
 |x::l=>Ra r x&&XK r l
end
theorem NY {D:ae}{i:Nat}(h:∀r∈D,(!Nat.beq i r)=true):i∉D:=fun hi=>by
 have:=h i hi
 rw [show Nat.beq i i=true from η8 i]at this
 cases this
mutual
theorem HJ {G G':Gr}{D:ae}(e:∀i,i∉D→G'[i]?=G[i]?):∀(x:SV),(∀r∈D,Ra r x=true)→den G' x=den G x
 | .ptr i _,h=>by unfold den;rw [e i (NY h)]
 | .el i _ _ _,h=>by unfold den;rw [e i (NY h)]
 | .sl i _ _,h=>by unfold den;rw [e i (NY h)]
 | .agg l,h=>by unfold den;rw [Fa e l h]
 | .tup l,h=>by unfold den;rw [Fa e l h]
 | .fn _ l,h=>by unfold den;rw [Fa e l h]
 | .opt _ x,h=>by unfold den;rw [HJ e x h]
 | .ix p _ _ _ _,h=>by unfold den;rw [HJ e p h]
 | .sp p _ _,h=>by unfold den;rw [HJ e p h]
 | .st i _ _ _ _,h=>by unfold den;rw [e i (NY h)]
 | .int _ _,_=>rfl
 | .bool _,_=>rfl
 | .tt,_=>rfl
 | .ff,_=>rfl
 | .str _,_=>rfl
 | .sla _ _ _,_=>rfl
 | .v _,_=>rfl
theorem Fa {G G':Gr}{D:ae}(e:∀i,i∉D→G'[i]?=G[i]?):∀(l:List SV),(∀r∈D,XK r l=true)→AO G' l=AO G l
 | [],_=>rfl
 |x::l,h=>by
  unfold AO
  rw [HJ e x fun r hr=>by have:=h r hr;simp only [XK,α3]at this;exact this.1,Fa e l fun r hr=>by have:=h r hr;simp only [XK,α3]at this;exact this.2]
end
def X0 (r:Nat):Option BZ→Bool
 |some (.blk cs)=>XK r cs
 |_=>true
def Zi (r:Nat):Hp→Bool
 | []=>true
 |e::H=>X0 r e&&Zi r H
theorem P3 {r:Nat}:∀{H:Hp},Zi r H=true→∀(i:Nat) (e:Option BZ),H[i]?=some e→X0 r e=true
 | [],_,i,e,h=>by cases h
 |f::H,hb,i,e,h=>by
  simp only [Zi,α3]at hb
  cases i with
  |zero=>cases h;exact hb.1
  |succ i=>exact P3 hb.2 i e (by simpa using h)
theorem Ag.off {G G':Gr}{r:Nat}{w:World}{p:Option Loc}{e:BZ}(h:Ag G w p e)(hG:∀i,i∉[r]→G'[i]?=G[i]?)(ha:X0 r (some e)=true):Ag G' w p e:=by
 cases e with
 |blk cs=>obtain⟨M,vs,h1,h2,h3⟩:=h;exact⟨M,vs,h1,by rw [Fa hG cs (fun q hq=>by simp at hq;subst hq;exact ha)];exact h2,h3⟩
 |lst s n f=>exact h
 |fac b o=>exact h
 |row e s n c f=>exact h
 |buf e s n f=>exact h
section
variable {P:Program}{X:Tx}{n:Nat}{ks:ae}{G0:Gr}{w0:World}{T:List (Nat×SV)}{H:Hp}{G:Gr}{a:Act}{w w':World}{ops:ah}{o:Oper}
theorem KW {r:Nat}{y:Option Loc}:∀i,i∉[r]→(G.set r y)[i]?=G[i]?:=fun i hi=>by
 simp at hi
 rw [γ0 (fun h=>hi h.symm)]
theorem Sy.place (A:Sy n T H ks G0 w0 G a w){r g:Nat}{t:TypeId}{en:BZ}(hr:H[r]?=some none)(aK:G0.length≤r)(SS:Zi r H=true)(hg:g=w.heap.size)(T9:By w w')(SO:Ag G w' (some ⟨g,[],[],t⟩) en)(aI:en.mut=true)(hae:X0 r (some en)=true):
  Ms (CE H r (some en)) ks G0 w0 (G.set r (some ⟨g,[],[],t⟩)) w':=by
 have hlen:=A.mem.len
 have M8:r<H.length:=(α0.1 hr).1
 have B:=A.ms.grow T9
 have hold:∀(i:Nat) (e:BZ),(CE H r (some en))[i]?=some (some e)→(i≠r∧H[i]?=some (some e))∨(i=r∧e=en):=by
  intro i e h
  rw [Aw]at h
  by_cases hi:i=r
  ·subst hi;rw [γ7 M8]at h;cases h;exact .inr ⟨rfl,rfl⟩
  ·rw [γ0 (ε9 hi)]at h;exact .inl ⟨hi,h⟩
 have SU:(G.set r (some (⟨g,[],[],t⟩:Loc)))[r]?=some (some ⟨g,[],[],t⟩):=γ7 (by omega)
 have Bw:∀{i:Nat},i≠r→(G.set r (some (⟨g,[],[],t⟩:Loc)))[i]?=G[i]?:=fun hi=>by rw [γ0 (ε9 hi)]
 refine⟨⟨by rw [Aw];simpa using hlen,fun i e h=>?_,fun i j e f L M Ge h1 h2 h3 h4 h5 h6=>?_⟩,?_,fun i e L h1 h2 h3=>?_,B.mix⟩
 ·rcases hold i e h with⟨h1,h2⟩|⟨rfl,rfl⟩
  ·rw [Bw h1];exact(B.mem.ent i e h2).off KW (P3 SS i _ h2)
  ·rw [SU];exact SO.off KW hae
 ·rcases hold i e h1 with⟨a1,a2⟩|⟨rfl,rfl⟩
  ·rw [Bw a1]at h4
   rcases hold j f h2 with⟨b1,b2⟩|⟨rfl,rfl⟩
   ·rw [Bw b1]at h5;exact B.mem.sep i j e f L M Ge a2 b2 h3 h4 h5 h6
   ·rw [SU]at h5;cases h5
    have:=A.mem.ent i e a2
    rw [h4]at this
    have:=Ag.lt this (BI h3)
    show L.b≠g;omega
  ·rw [SU]at h4;cases h4
   rcases hold j f h2 with⟨b1,b2⟩|⟨rfl,rfl⟩
   ·rw [Bw b1]at h5
    have:=A.mem.ent j f b2
    rw [h5]at this
    have:=Ag.lt this h6
    show g≠M.b;omega
   ·exact absurd U Ge
 ·obtain⟨F,hF⟩:=A.pre
  refine⟨F.set (r - G0.length) (some ⟨g,[],[],t⟩),?_⟩
  rw [hF,List.set_append_right _ _ aK]
 ·rcases hold i e h1 with⟨a1,a2⟩|⟨rfl,rfl⟩
  ·rw [Bw a1]at h3;exact B.own i e L a2 h2 h3
  ·rw [SU]at h3;cases h3
   have:=A.mix.size
   exact .inr (by show w0.heap.size≤g;omega)
def Rb (P:Program)(n:Nat)(ops:ah)(ks:ae)(G0:Gr)(w0:World)(Tw:List (Nat×SV))(H:Hp)(o:Oper)(x:SV)(H':Hp)(rs:ae):Prop:=
 ∀G a w,Sy n Tw H ks G0 w0 G a w→BY P ops o a w fun v w'=>∃G',(∀i,i∉rs→G'[i]?=G[i]?)∧den G' x=some v∧Ms H' ks G0 w0 G' w'
theorem Us {Tw:List (Nat×SV)}{x:SV}{H':Hp}{rs:ae}(h:BG P n ops ks G0 w0 Tw H o x H')(hl:H'.length=H.length):Rb P n ops ks G0 w0 Tw H o x H' rs:=by
 intro G a w A
 refine JD (h G a w A) fun v w' ⟨F,h1,h2⟩=>⟨G,fun _ _=>rfl,?_⟩
 have e1:=h2.mem.len
 have e2:=A.mem.len
 have:F=[]:=γ9 (by rw [α4]at e1;omega)
 subst this
 rw [ε0]at h1 h2
 exact⟨h1,h2⟩
theorem C7 (r:Nat){Tw:List (Nat×SV)}{x x0:SV}{H':Hp}{rs:ae}{t:TypeId}{en:BZ}(hX:X.ok P=true)(h:DY X n ops Tw H o=some (.new t en x0))(hr:lg H r=some none)(aK:G0.length≤r)(SS:(Zi r H&&X0 r (some en))=true)(W5:D4 (CE (BT 0 H.length) r H.length) x=some x0)(hH:CE H r (some en)=H')(SK:rs.contains r=true):Rb P n ops ks G0 w0 Tw H o x H' rs:=by
 intro G a w A
 rw [α3]at SS
 rw [At]at hr
 have M8:r<H.length:=(α0.1 hr).1
 unfold DY at h
 split at h
 ·next hd=>
  split at h
  ·next hg=>
   refine KQ (P:=P) (ops:=ops) hX A h (A7 (gd:=none) A hg) fun g w' v a1 a2 a3 a4 a5=>⟨G.set r (some ⟨g,[],[],t⟩),fun i hi=>KW i (fun hq=>?_),?_,?_⟩
   ·simp at hq;subst hq;exact hi (by simpa using SK)
   ·have hm:∀j∈(BT 0 H.length).set r H.length,j<(G++[some (⟨g,[],[],t⟩:Loc)]).length:=fun j hj=>by
     have hle:j∈BT 0 H.length∨j=H.length:=by
      rcases List.mem_or_eq_of_mem_set hj with h|h
      ·exact .inl h
      ·exact .inr h
     have:=A.mem.len
     rcases hle with h|h
     ·obtain⟨k,hk,he⟩:=ρ7 h
      rw [Cs]at hk
      have:=EH H.length 0 k hk
      rw [β4 (by rw [Cs];exact hk),he]at this
      cases this
      simp;omega
     ·simp;omega
    rw [Aw]at W5
    rw [←a5,←Eu hm x W5]
    congr 1
    have hlen:=A.mem.len
    apply θ9
    intro i
    by_cases hi:i<H.length
    ·by_cases hir:i=r
     ·subst hir
      have h1:((BT 0 H.length).set i H.length)[i]?=some H.length:=γ7 (by rw [Cs];exact hi)
      rw [Bp hm h1,γ7 (by omega),α1 (by omega),hlen];simp
     ·have h1:((BT 0 H.length).set r H.length)[i]?=some i:=by rw [γ0 (ε9 hir),EH _ _ _ hi,δ1]
      rw [Bp hm h1,γ0 (ε9 hir),α2 (by omega)]
    ·rw [γ5 (by simp;omega),γ5 (by simp [BE,Cs];omega)]
   ·rw [←hH];exact A.place hr aK SS.1 a1 a2 a3 a4 SS.2
  ·cases h
  ·split at h<;>cases h
  ·cases h
 ·cases h
end
section
variable {P:Program}{n:Nat}{ks:ae}{G0:Gr}{w0:World}{H:Hp}{G:Gr}{w w':World}{ops:ah}{o:Oper}
theorem Ag.offL {G G':Gr}{D:ae}{w:World}{p:Option Loc}{e:BZ}(h:Ag G w p e)(hG:∀i,i∉D→G'[i]?=G[i]?)(ha:∀r∈D,X0 r (some e)=true):Ag G' w p e:=by
 cases e with
 |blk cs=>obtain⟨M,vs,h1,h2,h3⟩:=h;exact⟨M,vs,h1,by rw [Fa hG cs ha];exact h2,h3⟩
 |lst s n f=>exact h
 |fac b o=>exact h
 |row e s n c f=>exact h
 |buf e s n f=>exact h
theorem Ms.put {r:Nat}{en:BZ}{p:Option Loc}(M:Ms (H++[some en]) ks G0 w0 (G++[p]) w')(hr:H[r]?=some none)(aK:G0.length≤r)(SS:∀q∈[r,H.length],Zi q H=true∧X0 q (some en)=true):Ms (CE H r (some en)) ks G0 w0 (G.set r p) w':=by
 have hlen:H.length=G.length:=by have:=M.mem.len;simpa using this
 have M8:r<H.length:=(α0.1 hr).1
 have hold:∀(i:Nat) (e:BZ),(CE H r (some en))[i]?=some (some e)→∃j,(H++[some en])[j]?=some (some e)∧(G.set r p)[i]?=(G++[p])[j]?∧((i≠r∧j=i∧H[i]?=some (some e))∨(i=r∧j=H.length∧e=en)):=by
  intro i e h
  rw [Aw]at h
  by_cases hi:i=r
  ·subst hi;rw [γ7 M8]at h;cases h
   refine⟨H.length,by simp,?_,.inr ⟨rfl,rfl,rfl⟩⟩
   rw [γ7 (by omega),hlen];simp
  ·rw [γ0 (ε9 hi)]at h
   have hl:=(α0.1 h).1
   refine⟨i,by rw [α2 hl];exact h,?_,.inl ⟨hi,rfl,h⟩⟩
   rw [γ0 (ε9 hi),α2 (by omega)]
 have Cy:∀i,i∉[r,H.length]→(G.set r p)[i]?=(G++[p])[i]?:=fun i hi=>by
  simp at hi
  rw [γ0 (fun h=>hi.1 h.symm)]
  by_cases hg:i<G.length
  ·rw [α2 hg]
  ·rw [γ5 (by omega),γ5 (by simp;omega)]
 refine⟨⟨by rw [Aw];simpa using hlen,fun i e h=>?_,fun i j e f L N Ge h1 h2 h3 h4 h5 h6=>?_⟩,?_,fun i e L h1 h2 h3=>?_,M.mix⟩
 ·obtain⟨j,g1,g2,g3⟩:=hold i e h
  rw [g2]
  refine(M.mem.ent j e g1).offL Cy fun q hq=>?_
  rcases g3 with⟨_,_,g⟩|⟨_,_,rfl⟩
  ·exact P3 (SS q hq).1 i _ g
  ·exact(SS q hq).2
 ·obtain⟨i',g1,g2,g3⟩:=hold i e h1
  obtain⟨j',k1,k2,k3⟩:=hold j f h2
  rw [g2]at h4
  rw [k2]at h5
  refine M.mem.sep i' j' e f L N ?_ g1 k1 h3 h4 h5 h6
  have hi:∀{i:Nat} {e:BZ},H[i]?=some (some e)→i<H.length:=fun h=>(α0.1 h).1
  rcases g3 with⟨a1,a2,a3⟩|⟨a1,a2,a3⟩<;>rcases k3 with⟨b1,b2,b3⟩|⟨b1,b2,b3⟩
  ·omega
  ·have:=hi a3;omega
  ·have:=hi b3;omega
  ·omega
 ·obtain⟨F,hF⟩:=M.pre
  refine⟨(G.set r p).drop G0.length,?_⟩
  have e:(G.set r p).take G0.length=G0:=by
   have h1:(G++[p]).take G0.length=G0:=by rw [hF];simp
   rw [κ5 (by omega)]at h1
   rw [List.take_set_of_le (by omega)];exact h1
  have:=(θ7 G0.length (G.set r p)).symm
  rw [e]at this;exact this
 ·obtain⟨i',g1,g2,g3⟩:=hold i e h1
  rw [g2]at h3
  exact M.own i' e L g1 h2 h3
theorem F3 (r:Nat){Tw:List (Nat×SV)}{x x0:SV}{H1 H':Hp}{rs:ae}{en:BZ}(h:BG P n ops ks G0 w0 Tw H o x0 (H1++[some en]))(hl:H1.length=H.length)(hr:lg H1 r=some none)(aK:G0.length≤r)(SS:(Zi r H1&&X0 r (some en)&&Zi H1.length H1&&X0 H1.length (some en))=true)(W5:D4 (CE (BT 0 H1.length) r H1.length) x=some x0)(hH:CE H1 r (some en)=H')(SK:rs.contains r=true):Rb P n ops ks G0 w0 Tw H o x H' rs:=by
 intro G a w A
 rw [At]at hr
 have M8:r<H1.length:=(α0.1 hr).1
 simp only [α3]at SS
 refine JD (h G a w A) fun v w' ⟨F,h1,h2⟩=>?_
 have e1:=h2.mem.len
 have e2:=A.mem.len
 have hF1:F.length=1:=by simp at e1;omega
 obtain⟨p,rfl⟩:=List.length_eq_one_iff.1 hF1
 refine⟨G.set r p,fun i hi=>KW i (fun hq=>?_),?_,?_⟩
 ·simp at hq;subst hq;exact hi (by simpa using SK)
 ·have hm:∀j∈(BT 0 H1.length).set r H1.length,j<(G++[p]).length:=fun j hj=>by
   rcases List.mem_or_eq_of_mem_set hj with h|h
   ·obtain⟨k,hk,he⟩:=ρ7 h
    rw [Cs]at hk
    have:=EH H1.length 0 k hk
    rw [β4 (by rw [Cs];exact hk),he]at this
    cases this
    simp;omega
   ·simp;omega
  rw [Aw]at W5
  rw [←h1,←Eu hm x W5]
  congr 1
  apply θ9
  intro i
  by_cases hi:i<H1.length
  ·by_cases hir:i=r
   ·subst hir
    have h1:((BT 0 H1.length).set i H1.length)[i]?=some H1.length:=γ7 (by rw [Cs];exact hi)
    rw [Bp hm h1,γ7 (by omega),α1 (by omega),hl,e2];simp
   ·have h1:((BT 0 H1.length).set r H1.length)[i]?=some i:=by rw [γ0 (ε9 hir),EH _ _ _ hi,δ1]
    rw [Bp hm h1,γ0 (ε9 hir),α2 (by omega)]
  ·rw [γ5 (by simp;omega),γ5 (by simp [BE,Cs];omega)]
 ·rw [←hH]
  refine h2.put hr aK fun q hq=>?_
  simp at hq
  rcases hq with rfl|rfl
  ·exact⟨SS.1.1.1,SS.1.1.2⟩
  ·exact⟨SS.1.2,SS.2⟩
end
def P4 (ops:ah)(ef c:ae)(i:Nat)(o:Oper):Bool:=
 !c.contains i&&ef.all (fun p=> !wt ops o p||c.contains p)&&c.all (fun p=>match ops[p]? with|some q=> !waits q i|none=>true)
section
variable {P:Program}{X:Tx}{n:Nat}{ks:ae}{G0:Gr}{w0:World}{T:List (Nat×SV)}{l:ai}{xs:List SV}{Q:ab}{ef rs0:ae}{tb:List (List Nat×List Nat×Hp)}
structure bY (n:Nat)(ks:ae)(G0:Gr)(w0:World)(T:List (Nat×SV))(l:ai)(xs:List SV)(ef rs0:ae)(c rs:ae)(H:Hp)(listed:Array Bool)(G:Gr)(a:Act)(w:World):Prop where
 size:a.tmps.size=n
 defers:a.defers=[]
 base:∀t x,look T t=some x→(∀(j:Nat) (o:Oper),l[j]?=some o→o.dst=some t→listed.getD j false=false)→den G x=some (a.tmps.getD t undef)
 done:∀(j:Nat) (o:Oper) (x:SV),l[j]?=some o→listed.getD j false=true→xs[j]?=some x→(∀r∈rs,Ra r x=true)∧∀d,o.dst=some d→den G x=some (a.tmps.getD d undef)
 ms:Ms H ks G0 w0 G w
 eff:∀p∈ef,(listed.getD p false=true↔p∈c)
 sub:∀p∈c,p∈ef
 rsub:∀r∈rs,r∈rs0
 closed:∀(j:Nat) (o:Oper) (p:Nat),l[j]?=some o→listed.getD j false=true→waits o p=true→listed.getD p false=true
theorem Ot {o:Oper}{T:List (Nat×SV)}{t:Nat}{x:SV}:∀{l:ai} {xs:List SV} {k:Nat},xs.length=l.length→look (Kv o l xs k T) t=some x→(∃i p,l[i]?=some p∧xs[i]?=some x∧waits o (k+i)=true∧p.dst=some t)∨(look T t=some x∧∀(i:Nat) (p:Oper),l[i]?=some p→p.dst=some t→waits o (k+i)=false)
 | [],_,_,_,h=>.inr ⟨h,fun i p hi=>by cases hi⟩
 |_::_,[],_,hl,h=>by cases hl
 | p ::l,y::xs,k,hl,h=>by
  have rest:(p.dst=some t→waits o k=false)→look (Kv o l xs (k+1) T) t=some x→(∃i q,(p::l)[i]?=some q∧(y::xs)[i]?=some x∧waits o (k+i)=true∧q.dst=some t)∨(look T t=some x∧∀(i:Nat) (q:Oper),(p::l)[i]?=some q→q.dst=some t→waits o (k+i)=false):=fun h0 h=>by
   rcases Ot (by simpa using hl) h with⟨i,q,h1,h2,h3,h4⟩|⟨h,hn⟩
   ·exact .inl ⟨i+1,q,by simpa using h1,by simpa using h2,by rw [show k+(i+1)=k+1+i by omega];exact h3,h4⟩
   ·refine .inr ⟨h,fun i q hi hd=>?_⟩
    cases i with
    |zero=>cases hi;simpa using h0 hd
    |succ i=>rw [show k+(i+1)=k+1+i by omega];exact hn i q (by simpa using hi) hd
  unfold Kv at h
  cases hb:waits o k with
  |false=>rw [hb]at h;exact rest (fun _=>hb) h
  | true=>
   rw [hb]at h
   simp only [θ5]at h
   cases hd:p.dst with
   |none=>rw [hd]at h;exact rest (fun e=>by rw [hd]at e;cases e) h
   | some d=>
    rw [hd]at h
    simp only [BN,look]at h
    cases hk:Nat.beq d t with
    |false=>rw [hk]at h;exact rest (fun e=>by rw [hd]at e;cases e;rw [η8]at hk;cases hk) h
    |true=>
     rw [hk]at h
     cases h
     have:=α5 hk
     subst this
     exact .inl ⟨0,p,rfl,rfl,by simpa using hb,hd⟩
def Ja (P:Program)(n:Nat)(ks:ae)(G0:Gr)(w0:World)(T:List (Nat×SV))(l:ai)(xs:List SV)(ef:ae)(tb:List (List Nat×List Nat×Hp))(c rs:ae)(H:Hp)(i:Nat)(o:Oper):Prop:=
 ∃(x:SV) (c' rs':ae) (H':Hp) (k':Nat),xs[i]?=some x∧tb[k']?=some (c',rs',H')∧((ef.all fun p=>c'.contains p==(Nat.beq p i||c.contains p))&&c'.all ef.contains)=true∧(rs'.all fun r=>rs.contains r&&Ra r x)=true∧Rb P n l.toArray ks G0 w0 (Kv o l xs 0 T) H o x H' rs
theorem Rc (m:Nat) (pJ:m≤l.length) (vS:∀S:Nat→Bool,(∀(j:Nat) (o:Oper) (p:Nat),l[j]?=some o→S j=true→waits o p=true→S p=true)→∀(i:Nat) (o:Oper),m≤i→l[i]?=some o→(∀p,waits o p=true→S p=true)→∀j,j<m→S j=true) (FQ:Kj l.toArray n []=true) (hT:∀t x,look T t=some x→∀(j:Nat) (o:Oper),l[j]?=some o→o.dst=some t→j<m→∀(i:Nat) (q:Oper),l[i]?=some q→i<m→i≠j→waits o i=true∨waits q j=true) (vT:∀t x,look T t=some x→∀r∈rs0,Ra r x=true) (hl:xs.length=l.length)
  (ZI:∀(k:Nat) (c rs:ae) (H:Hp),tb[k]?=some (c,rs,H)→∀(i:Nat) (o:Oper),i<m→l[i]?=some o→P4 l.toArray ef c i o=true→Ja P n ks G0 w0 T l xs ef tb c rs H i o)
  (Wz:∀(k:Nat) (c rs:ae) (H:Hp),tb[k]?=some (c,rs,H)→(∀p∈ef,p<m→p∈c)→∀(fuel:Nat) (listed:Array Bool) (G:Gr) (a:Act) (w:World),listed.size=l.length→(∀i,listed.getD i false=decide (i<m))→l.length - m≤fuel→Sy n (JN (l.take m) (xs.take m) T) H ks G0 w0 G a w→wpAny P .any l.toArray Q fuel listed a w):
  ∀(fuel:Nat) (listed:Array Bool) (a:Act) (w:World) (k:Nat) (c rs:ae) (H:Hp) (G:Gr),listed.size=l.length→((List.range l.length).filter fun i=> !listed.getD i true).length≤fuel→tb[k]?=some (c,rs,H)→bY n ks G0 w0 T l xs ef rs0 c rs H listed G a w→(∀i,m≤i→listed.getD i false=false)→wpAny P .any l.toArray Q fuel listed a w:=by
 have all0:∀(listed:Array Bool),listed.size=l.length→Region.ready .any l.toArray listed=[]→∀i,i<l.length→listed.getD i false=true:=by
  intro listed Kh hr i
  induction i using Nat.strongRecOn with
  | _ i ih=>
   intro hi
   cases hq:listed.getD i false with
   |true=>rfl
   | false=>
    exfalso
    have:i∈Region.ready .any l.toArray listed:=by
     rw [mem_ready]
     have vE:i<listed.size:=by omega
     have OF:l.toArray[i]?=some l[i]:=by simp [hi]
     refine⟨by simpa [vE]using hq,l[i],OF,fun e he hb=>?_⟩
     have BU:=(IH FQ OF).2 e he hb
     exact ih e.on BU (by omega)
    rw [hr]at this;cases this
 have fin:∀(fuel:Nat) (listed:Array Bool) (a:Act) (w:World) (k:Nat) (c rs:ae) (H:Hp) (G:Gr),listed.size=l.length→((List.range l.length).filter fun i=> !listed.getD i true).length≤fuel→tb[k]?=some (c,rs,H)→bY n ks G0 w0 T l xs ef rs0 c rs H listed G a w→(∀i,m≤i→listed.getD i false=false)→(∀i,i<m→listed.getD i false=true)→wpAny P .any l.toArray Q fuel listed a w:=by
  intro fuel listed a w k c rs H G Kh hf hk I aL iL
  have ZK:∀i,listed.getD i false=decide (i<m):=fun i=>by
   by_cases hi:i<m
   ·rw [iL i hi,η3 hi]
   ·rw [aL i (by omega),η9 hi]
  refine Wz k c rs H hk (fun p hp I4=>(I.eff p hp).1 (iL p I4)) fuel listed G a w Kh ZK ?_ (I.ms.sy I.size I.defers fun t x hx=>?_)
  ·refine β3 ?_ hf
   have HD:((List.range l.length).filter fun i=> !listed.getD i true)=(List.range l.length).filter fun i=>decide (m≤i):=by
    apply σ9
    intro i hi
    have XO:i<listed.size:=by rw [Kh];simpa using hi
    have h2:=ZK i
    have h3:listed.getD i true=listed.getD i false:=by simp [Array.getD,XO]
    rw [h3,h2]
    by_cases q:i<m
    ·rw [η3 q,η9 (by omega)];rfl
    ·rw [η9 q,η3 (by omega)];rfl
   rw [HD]
   have iM:∀N,(List.filter (fun i=>decide (m≤i)) (List.range N)).length=N - m:=by
    intro N
    induction N with
    |zero=>simp
    |succ N ih=>
     rw [List.range_succ,List.filter_append,α4,ih]
     by_cases q:m≤N
     ·rw [List.filter_cons_of_pos (by simpa using q)];simp;omega
     ·rw [List.filter_cons_of_neg (by simpa using q)];simp;omega
   rw [iM]
   exact β8 _
  ·have BU:(xs.take m).length=(l.take m).length:=by rw [δ6,δ6,hl]
   rcases Kz BU hx with⟨i,p,q1,q2,q3⟩|⟨hx,ZG⟩
   ·have pW:i<m:=by have:=(α0.1 q1).1;rw [δ6]at this;omega
    rw [γ1 pW]at q1 q2
    exact(I.done i p x q1 (iL i pW) q2).2 t q3
   ·refine I.base t x hx fun j o h1 h2=>?_
    by_cases hj:j<m
    ·exact absurd h2 (ZG j o (by rw [γ1 hj];exact h1))
    ·exact aL j (by omega)
 intro fuel
 induction fuel with
 |zero=>
  intro listed a w k c rs H G Kh hf hk I aL
  refine fin 0 listed a w k c rs H G Kh hf hk I aL fun i hi=>?_
  have W0:((List.range l.length).filter fun i=> !listed.getD i true)=[]:=γ9 (by omega)
  rw [μ9]at W0
  have:=W0 i (by simp;omega)
  simp only [τ5,σ3]at this
  have XO:i<listed.size:=by omega
  simp [Array.getD,XO]at this⊢
  exact this
 | succ fuel ih=>
  intro listed a w k c rs H G Kh hf yP I aL
  by_cases iL:∀i,i<m→listed.getD i false=true
  ·exact fin (fuel+1) listed a w k c rs H G Kh hf yP I aL iL
  refine⟨fun hr=>absurd (fun i hi=>all0 listed Kh hr i (by omega)) iL,fun i hi=>?_⟩
  obtain⟨pS,o,OF,GZ⟩:=mem_ready.1 hi
  have XO:i<l.length:=by have:=(ε1.1 OF).1;simpa using this
  have KL:l[i]?=some o:=by simpa using OF
  obtain⟨pT,uI⟩:=IH FQ OF
  have Lf:listed.getD i false=false:=by
   have BU:i<listed.size:=by omega
   simpa [BU]using pS
  have hw:∀p,waits o p=true→listed.getD p false=true:=fun p hp=>by
   unfold waits at hp
   rw [κ9]at hp
   obtain⟨e,iE,hb⟩:=hp
   have he:e∈o.after:=by simpa using iE
   simp only [α3,ε5]at hb
   rw [←hb.2]
   exact GZ e he hb.1
  have pW:i<m:=by
   by_cases q:i<m
   ·exact q
   ·exact absurd (vS (fun j=>listed.getD j false) (fun j o p h1 h2 h3=>I.closed j o p h1 h2 h3) i o (by omega) KL hw) iL
  have A:Sy n (Kv o l xs 0 T) H ks G0 w0 G a w:=I.ms.sy I.size I.defers fun t x hx=>by
   rcases Ot hl hx with⟨j,p,q1,q2,q3,q4⟩|⟨hx,hnw⟩
   ·exact(I.done j p x q1 (hw j (by simpa using q3)) q2).2 t q4
   ·refine I.base t x hx fun j p h1 h2=>?_
    by_cases Gf:j=i
    ·subst Gf;exact Lf
    ·cases hlj:listed.getD j false with
     |false=>rfl
     | true=>
      have hjm:j<m:=by
       by_cases q:j<m
       ·exact q
       ·rw [aL j (by omega)]at hlj;cases hlj
      rcases hT t x hx j p h1 h2 hjm i o KL pW (ε9 Gf)with Hr|Hr
      ·have:=I.closed j p i h1 hlj Hr
       rw [Lf]at this;cases this
      ·have:=hnw j p h1 h2
       rw [δ1]at this
       rw [Hr]at this;cases this
  have iI:P4 l.toArray ef c i o=true:=by
   unfold P4
   simp only [α3,κ0,δ3,β9]
   refine⟨⟨?_,fun p hp=>?_⟩,fun p hp=>?_⟩
   ·cases hc:c.contains i with
    |false=>rfl
    |true=>
     have h1:i∈c:=by simpa using hc
     have:=(I.eff i (I.sub i h1)).2 h1
     rw [Lf]at this;cases this
   ·cases hq:wt l.toArray o p with
    |false=>exact .inl U
    | true=>
     refine .inr ?_
     have hlp:listed.getD p false=true:=by
      unfold wt at hq
      cases hd:waits o p with
      |true=>exact hw p hd
      |false=>
       rw [hd]at hq
       exact Fv (ops:=l.toArray) (fun j o' p' h1 h2 h3=>I.closed j o' p' (by simpa using h1) h2 h3) 2 o.after.toList (fun e he hb=>GZ e (by simpa using he) hb) hq
     have:=(I.eff p hp).1 hlp
     simpa using this
   ·split
    ·next q hq=>
     cases hd:waits q i with
     |false=>rfl
     |true=>
      have h1:=(I.eff p (I.sub p hp)).2 hp
      have:=I.closed p q i (by simpa using hq) h1 hd
      rw [Lf]at this;cases this
    ·rfl
  obtain⟨x,c',rs',H',k',hx,Dz,vU,pX,he⟩:=ZI k c rs H yP i o pW KL iI
  rw [α3,δ3,δ3]at vU
  rw [δ3]at pX
  have vV:∀r∈rs',r∈rs∧Ra r x=true:=fun r hr=>by
   have:=pX r hr
   rw [α3]at this
   exact⟨by simpa using this.1,this.2⟩
  have next:∀(v:Value) (w':World) (G':Gr),(∀i,i∉rs→G'[i]?=G[i]?)→den G' x=some v→Ms H' ks G0 w0 G' w'→wpAny P .any l.toArray Q fuel (listed.setIfInBounds i true) (a.put o.dst v) w':=by
   intro v w' G' hG hv jF
   have BU:i<listed.size:=by omega
   have Jk:∀j,(listed.setIfInBounds i true).getD j false=true↔(j=i∨listed.getD j false=true):=by
    intro j
    by_cases Gf:j=i
    ·subst Gf;simp [BU]
    ·rw [Kk false (ε9 Gf)];simp [Gf]
   refine ih _ _ _ k' c' rs' H' G' (by simpa using Kh) ?_ Dz ⟨?_,?_,fun t y hy ZG=>?_,fun j p y q1 q2 q3=>?_,jF,fun p hp=>?_,fun p hp=>?_,fun r hr=>I.rsub r (vV r hr).1,fun j p r q1 q2 q3=>?_⟩ (fun j hj=>by rw [Kk false (show i≠j by omega)];exact aL j hj)
   ·have:((List.range l.length).filter fun k=> !(listed.setIfInBounds i true).getD k true).length<((List.range l.length).filter fun k=> !listed.getD k true).length:=by
     have HD:((List.range l.length).filter fun k=> !(listed.setIfInBounds i true).getD k true)=((List.range l.length).filter fun k=> !listed.getD k true).filter (fun k=>k !=i):=by
      rw [List.filter_filter]
      apply σ9
      intro k _
      by_cases hk:k=i
      ·subst hk;simp [BU]
      ·rw [Kk true (ε9 hk)];simp [hk]
     rw [HD]
     refine ν4.2 ⟨i,?_,by simp⟩
     simp only [ν0,ζ8]
     exact⟨XO,by rw [pS];rfl⟩
    omega
   ·cases hd:o.dst<;>simp [Act.put,I.size]
   ·cases hd:o.dst<;>simp [Act.put,I.defers]
   ·have iH:∀(j:Nat) (q:Oper),l[j]?=some q→q.dst=some t→listed.getD j false=false:=fun j q h1 h2=>by
     have h3:=ZG j q h1 h2
     cases hlj:listed.getD j false with
     |false=>rfl
     |true=>rw [(Jk j).2 (.inr hlj)]at h3;cases h3
    have h1:den G' y=some (a.tmps.getD t undef):=by rw [HJ hG y fun r hr=>vT t y hy r (I.rsub r hr)];exact I.base t y hy iH
    cases hd:o.dst with
    |none=>exact h1
    | some d=>
     have Bw:d≠t:=fun e=>by
      have h3:=ZG i o KL (by rw [hd,e])
      rw [(Jk i).2 (.inl U)]at h3;cases h3
     simp only [Act.put,β5]
     rw [η7 Bw,←β5]
     exact h1
   ·by_cases Gf:j=i
    ·subst Gf
     rw [KL]at q1;cases q1
     rw [hx]at q3;cases q3
     refine⟨fun r hr=>(vV r hr).2,fun d q4=>?_⟩
     have vG:d<a.tmps.size:=by rw [I.size];exact(pT d q4).1
     rw [q4]
     simp [Act.put,vG,hv]
    ·have h2:listed.getD j false=true:=by
      rcases(Jk j).1 q2 with h|h
      ·exact absurd h Gf
      ·exact h
     obtain⟨g1,g2⟩:=I.done j p y q1 h2 q3
     refine⟨fun r hr=>g1 r (vV r hr).1,fun d q4=>?_⟩
     have h1:den G' y=some (a.tmps.getD d undef):=by rw [HJ hG y g1];exact g2 d q4
     cases hd:o.dst with
     |none=>exact h1
     | some d'=>
      have Bw:d'≠d:=fun e=>by
       subst e
       exact Gf ((pT d' hd).2.1 j (by simpa using (α0.1 q1).1) (by simp [Ki,q1,q4]))
      simp only [Act.put,β5]
      rw [η7 Bw,←β5]
      exact h1
   ·rw [Jk p,I.eff p hp]
    have:=vU.1 p hp
    have hb:(p=i∨p∈c)↔(Nat.beq p i||c.contains p)=true:=by
     rw [β9]
     refine or_congr ⟨fun h=>by subst h;exact η8 p,α5⟩ (by simp)
    rw [hb]
    rw [ε5]at this
    rw [←this];simp
   ·have:=vU.2 p hp;simpa using this
   ·rw [Jk r]
    by_cases Gf:j=i
    ·subst Gf;rw [KL]at q1;cases q1;exact .inr (hw r q3)
    ·rcases(Jk j).1 q2 with h|h
     ·exact absurd h Gf
     ·exact .inr (I.closed j p r q1 h q3)
  unfold wpOp
  rcases he G a w A with⟨W2,h⟩|⟨W2,G',h1,h2,h3⟩
  ·simp only [OF,W2,if_true]
   refine .inl (κ4 (fun a2 w2 h=>?_) (h Q))
   obtain⟨v,rfl,G',h1,h2,h3⟩:=h
   exact next v w2 G' h1 h2 h3
  ·simp only [OF,W2,θ3,ξ6]
   exact next undef w G' h1 h2 h3
theorem Ut (FQ:Kj l.toArray n []=true) (hT:∀t x,look T t=some x→∀(j:Nat) (o:Oper),l[j]?=some o→o.dst=some t→∀(i:Nat) (q:Oper),l[i]?=some q→i≠j→waits o i=true∨waits q j=true) (vT:∀t x,look T t=some x→∀r∈rs0,Ra r x=true) (hl:xs.length=l.length)
  (ZI:∀(k:Nat) (c rs:ae) (H:Hp),tb[k]?=some (c,rs,H)→∀(i:Nat) (o:Oper),l[i]?=some o→P4 l.toArray ef c i o=true→Ja P n ks G0 w0 T l xs ef tb c rs H i o)
  (Wz:∀(k:Nat) (c rs:ae) (H:Hp),tb[k]?=some (c,rs,H)→(∀p∈ef,p<l.length→p∈c)→∀G a w,Sy n (JN l xs T) H ks G0 w0 G a w→Q .normal a w):
  ∀(fuel:Nat) (listed:Array Bool) (a:Act) (w:World) (k:Nat) (c rs:ae) (H:Hp) (G:Gr),listed.size=l.length→((List.range l.length).filter fun i=> !listed.getD i true).length≤fuel→tb[k]?=some (c,rs,H)→bY n ks G0 w0 T l xs ef rs0 c rs H listed G a w→wpAny P .any l.toArray Q fuel listed a w:=
 fun fuel listed a w k c rs H G Kh hf hk I=>Rc l.length (β8 _) (fun S _ i o hi h=>by have:=(α0.1 h).1;omega) FQ (fun t x hx j o h1 h2 _ i q h3 _=>hT t x hx j o h1 h2 i q h3) vT hl (fun k c rs H hk i o _=>ZI k c rs H hk i o) (fun k c rs H hk hp fuel listed G a w Kh hd _ A=>by
  have hr:Region.ready .any l.toArray listed=[]:=by
   unfold Region.ready
   rw [μ9]
   intro i hi
   have hi':i<l.length:=by simpa using hi
   have:=hd i
   have OG:i<listed.size:=by omega
   simp [Array.getD,OG,hi']at this⊢
   simp [this]
  rw [τ4,←hl,τ4]at A
  have hq:=Wz k c rs H hk hp G a w A
  cases fuel with
  |zero=>exact⟨hr,hq⟩
  |succ fuel=>exact⟨fun _=>hq,fun i hi=>by rw [hr]at hi;cases hi⟩) fuel listed a w k c rs H G Kh hf hk I fun i hi=>by
   have:¬i<listed.size:=by omega
   simp [Array.getD,this]
def K7 (ops:ah)(ef c:ae):List Oper→Nat→List Bool
 | [],_=>[]
 |o::l,i=>P4 ops ef c i o::K7 ops ef c l (i+1)
def Zj (P:Program)(n:Nat)(ks:ae)(G0:Gr)(w0:World)(T:List (Nat×SV))(L:ai)(xs:List SV)(ef:ae)(tb:List (List Nat×List Nat×Hp))(c rs:ae)(H:Hp):List Bool→List Oper→Nat→Prop
 |true::bs,o::l,i=>Ja P n ks G0 w0 T L xs ef tb c rs H i o∧Zj P n ks G0 w0 T L xs ef tb c rs H bs l (i+1)
 |false::bs,o::l,i=>Zj P n ks G0 w0 T L xs ef tb c rs H bs l (i+1)
 |_,_,_=>True
def kX (P:Program)(n:Nat)(ks:ae)(G0:Gr)(w0:World)(T:List (Nat×SV))(L:ai)(xs:List SV)(ef:ae)(tb:List (List Nat×List Nat×Hp)):List (List Bool)→List (List Nat×List Nat×Hp)→Prop
 |bs::B,(c,rs,H)::ss=>Zj P n ks G0 w0 T L xs ef tb c rs H bs L 0∧kX P n ks G0 w0 T L xs ef tb B ss
 |_,_=>True
theorem NZ {c rs:ae}{H:Hp}{L:ai}:∀{m:ai} {j:Nat},Zj P n ks G0 w0 T L xs ef tb c rs H (K7 L.toArray ef c m j) m j→∀(i:Nat) (o:Oper),m[i]?=some o→P4 L.toArray ef c (j+i) o=true→Ja P n ks G0 w0 T L xs ef tb c rs H (j+i) o
 | [],j,_,i,o,h,_=>by cases h
 | p::m,j,hO,i,o,h,hm=>by
  unfold K7 at hO
  cases i with
  |zero=>
   cases h
   rw [ι6]at hm⊢
   rw [hm]at hO
   exact hO.1
  | succ i=>
   have hO':Zj P n ks G0 w0 T L xs ef tb c rs H (K7 L.toArray ef c m (j+1)) m (j+1):=by
    cases hb:P4 L.toArray ef c j p with
    |true=>rw [hb]at hO;exact hO.2
    |false=>rw [hb]at hO;exact hO
   have:=NZ hO' i o (by simpa using h) (by rw [show j+1+i=j+(i+1) by omega];exact hm)
   rwa [show j+1+i=j+(i+1) by omega]at this
theorem P5:∀{ss:List (List Nat×List Nat×Hp)},kX P n ks G0 w0 T l xs ef tb (ss.map fun s=>K7 l.toArray ef s.1 l 0) ss→∀(k:Nat) (c rs:ae) (H:Hp),ss[k]?=some (c,rs,H)→Zj P n ks G0 w0 T l xs ef tb c rs H (K7 l.toArray ef c l 0) l 0
 | [],_,k,c,rs,H,h=>by cases h
 |(c1,r1,H1)::ss,hO,k,c,rs,H,h=>by
  simp only [ζ0,kX]at hO
  cases k with
  |zero=>cases h;exact hO.1
  |succ k=>exact P5 hO.2 k c rs H (by simpa using h)
theorem Sy.pad {H:Hp}{G:Gr}{a:Act}{w:World}(A:Ms H ks G0 w0 G w)(m:Nat):Ms (H++List.replicate m none) ks G0 w0 (G++List.replicate m none) w:=by
 have hlen:=A.mem.len
 have hold:∀(i:Nat) (e:BZ),(H++List.replicate m none)[i]?=some (some e)→H[i]?=some (some e):=by
  intro i e h
  by_cases hi:i<H.length
  ·rwa [α2 hi]at h
  ·rw [α1 (by omega),List.getElem?_replicate]at h
   split at h<;>cases h
 have hg:∀(i:Nat) (e:BZ),H[i]?=some (some e)→(G++List.replicate m none)[i]?=G[i]?:=fun i e h=>by
  have:=(α0.1 h).1
  rw [α2 (by omega)]
 refine⟨⟨by simp [hlen],fun i e h=>?_,fun i j e f L M Ge h1 h2 h3 h4 h5 h6=>?_⟩,?_,fun i e L h1 h2 h3=>?_,A.mix⟩
 ·rw [hg i e (hold i e h)];exact(A.mem.ent i e (hold i e h)).more _
 ·rw [hg i e (hold i e h1)]at h4
  rw [hg j f (hold j f h2)]at h5
  exact A.mem.sep i j e f L M Ge (hold i e h1) (hold j f h2) h3 h4 h5 h6
 ·obtain⟨F,rfl⟩:=A.pre;exact⟨F++List.replicate m none,by simp⟩
 ·rw [hg i e (hold i e h1)]at h3;exact A.own i e L (hold i e h1) h2 h3
mutual
theorem Ou {G : Gr} {r :Nat} (key:∀i,(∃p,G[i]?=some p)→(!Nat.beq i r)=true):∀(x:SV) {v:Value},den G x=some v→Ra r x=true
  | .ptr i _, v, hx => by unfold den at hx;split at hx;·next L hL=>exact key i ⟨_,hL⟩
                          ·cases hx
  | .el i _ _ _, v, hx => by unfold den at hx;split at hx;·next L hL=>exact key i ⟨_,hL⟩
                             ·cases hx
  | .sl i _ _, v, hx => by unfold den at hx;split at hx;·next L hL=>exact key i ⟨_,hL⟩
                           ·cases hx
  | .st i _ _ _ _, v, hx => by unfold den at hx;split at hx;·next L hL=>exact key i ⟨_,hL⟩
                               ·cases hx
  | .agg l,v,hx=>by unfold den at hx;obtain⟨vs,h1,_⟩:=γ8.1 hx;exact Na key l h1
  | .tup l,v,hx=>by unfold den at hx;obtain⟨vs,h1,_⟩:=γ8.1 hx;exact Na key l h1
  | .fn _ l,v,hx=>by unfold den at hx;obtain⟨vs,h1,_⟩:=γ8.1 hx;exact Na key l h1
  | .opt _ x,v,hx=>by unfold den at hx;obtain⟨vs,h1,_⟩:=γ8.1 hx;exact Ou key x h1
  | .ix p _ _ _ _,v,hx=>by
    unfold den at hx
    cases hq:den G p with
    |none=>rw [hq]at hx;cases hx
    |some u=>exact Ou key p hq
  | .sp p _ _,v,hx=>by
    unfold den at hx
    cases hq:den G p with
    |none=>rw [hq]at hx;cases hx
    |some u=>exact Ou key p hq
  | .int _ _,_,_=>rfl
  | .bool _,_,_=>rfl
  | .tt,_,_=>rfl
  | .ff,_,_=>rfl
  | .str _,_,_=>rfl
  | .sla _ _ _,_,_=>rfl
  | .v _,_,_=>rfl
theorem Na {G:Gr}{r:Nat}(key:∀i,(∃p,G[i]?=some p)→(!Nat.beq i r)=true):∀(l:List SV) {vs:aj},AO G l=some vs→XK r l=true
 | [],_,_=>rfl
 |x::l,vs,hx=>by
  obtain⟨v,ws,h1,h2,_⟩:=BH hx
  unfold XK
  rw [Ou key x h1,Na key l h2];rfl
end
theorem P6 {G:Gr}{r:Nat}(h:G.length≤r)(x:SV){v:Value}(hx:den G x=some v):Ra r x=true:=
 Ou (fun i ⟨p,hp⟩=>by
  have:=(α0.1 hp).1
  cases hb:Nat.beq i r with
  |false=>rfl
  |true=>have:=α5 hb;omega) x hx
def So (ef:ae):List (List Nat×List Nat×Hp)→Option Hp
 | []=>none
 | [(_,_,H)]=>some H
 |(c,_,_)::s=>bif ef.all c.contains then none else So ef s
theorem HK {HE:Hp}:∀{tb:List (List Nat×List Nat×Hp)},So ef tb=some HE→∀(k:Nat) (c rs:ae) (H:Hp),tb[k]?=some (c,rs,H)→ef.all c.contains=true→H=HE
 | [],h,k,c,rs,H,hk,_=>by cases hk
 | [(c1,r1,H1)],h,k,c,rs,H,hk,_=>by
  cases h
  cases k with
  |zero=>cases hk;rfl
  |succ k=>simp at hk
 | (c1,r1,H1)::s1::ss,h,k,c,rs,H,hk,hc=>by
  unfold So at h
  cases hb:ef.all c1.contains with
  |true=>rw [hb]at h;cases h
  |false=>
   rw [hb]at h
   cases k with
   |zero=>cases hk;rw [hc]at hb;cases hb
   |succ k=>exact HK (tb:=s1::ss) h k c rs H (by simpa using hk) hc
theorem GL {id:Nat} {H HE:Hp} {G:Gr} {a:Act} {w:World} {K:List Fr} (BW:P.follows .mixedOrders=true) (xs:List SV) (ef rs0:ae) (m:Nat) (tb:List (List Nat×List Nat×Hp)) (B:List (List Bool)) (A:Sy n T H ks G0 w0 G a w)
  (h0:tb[0]?=some ([],rs0,H++List.replicate m none)) (hE:So ef tb=some HE) (SK:(rs0.all fun r=>Nat.ble H.length r)=true) (aM:(ef.all fun p=>Nat.blt p l.length)=true) (hB:(tb.map fun s=>K7 l.toArray ef s.1 l 0)=B) (hl:xs.length=l.length) (FQ:Kj l.toArray n []=true)
  (hO:kX P n ks G0 w0 (Dk l T) l xs ef tb B tb) (hk:∀{G a w},Sy n (JN l xs (Dk l T)) HE ks G0 w0 G a w→Goal P Q K .norm a w):Goal P Q K (.code (.region id l.toArray true)) a w:=by
 refine π7 BW ?_
 have iN:Ms H ks G0 w0 G w.drew:=A.ms.grow (By.refl w).drew
 rw [δ3]at SK aM
 refine Ut (P:=P) (xs:=xs) (T:=Dk l T) (ef:=ef) (rs0:=rs0) (tb:=tb) FQ (fun t x hx j o h3 h4 i q hq Bw=>.inl<|NP (by have:=Hu (D9 hx).2 j o h3 h4;rwa [δ1]at this) i (α0.1 hq).1 Bw) (fun t x hx r hr=>?_) hl (fun k c rs H hk i o hi hm=>?_) (fun k c rs H' Dz GZ G a w A'=>?_) _ _ _ _ 0 [] rs0 _ (G++List.replicate m none) (by simp) (by
  refine β3 (μ4 _ _) (by simp)) h0 ⟨A.size,A.defers,fun t x hx _=>Ax _ x (A.get t x (D9 hx).1),fun j o x _ hj=>?_,Sy.pad (a:=a) iN m,fun p hp=>?_,fun p hp=>absurd hp (by simp),fun r hr=>hr,fun j o p _ hj=>?_⟩
 ·have:=SK r hr
  rw [A.mem.len]at this
  exact P6 (G:=G) (δ8 this) x (A.get t x (D9 hx).1)
 ·have:=NZ (P5 (by rw [hB];exact hO) k c rs H hk) i o hi (by rw [δ1];exact hm)
  rwa [δ1]at this
 ·have h2:(ef.all c.contains)=true:=by
   rw [δ3]
   intro p hp
   have:=GZ p hp (by have:=aM p hp;simpa [μ7]using this)
   simpa using this
  cases HK hE k c rs H' Dz h2
  exact hk A'
 ·exfalso;simp [β5,ε6]at hj;split at hj<;>simp at hj
 ·constructor
  ·intro hj;exfalso;simp [β5,ε6]at hj;split at hj<;>simp at hj
  ·intro hj;cases hj
 ·exfalso;simp [β5,ε6]at hj;split at hj<;>simp at hj
theorem HM {α:Type}(d:α)(cf:α→List SV)(s:Nat)(hs:∀x,(cf x).length=s)(JB:∀x,HH 0 (cf x)=true):∀(L:List α) (k:Nat),k<L.length→tk s (dp (k*s) (L.flatMap cf))=some (cf (L.getD k d))∧HH 0 (cf (L.getD k d))=true
 | [],k,h=>by simp at h
 | x::L,0,_=>by
  refine⟨?_,JB _⟩
  have tkl:∀(a b:List SV),tk a.length (a++b)=some a:=by
   intro a b
   induction a with
   |nil=>rfl
   |cons y a ih=>simp [tk,ih]
  rw [Nat.zero_mul,←hs x]
  exact tkl _ _
 |x::L,k+1,h=>by
  have:=HM d cf s hs JB L k (by simpa using h)
  rw [Hd]at this⊢
  have e:(k+1)*s=(cf x).length+k*s:=by rw [hs,θ6];omega
  rw [List.flatMap_cons,e,←μ1,List.drop_left]
  exact this
theorem Sy.asT {H:Hp}{G:Gr}{a:Act}{w:World}(A:Sy n T H ks G0 w0 G a w){α:Type}(d:α)(cf:α→List SV)(s:Nat)(hs:∀x,(cf x).length=s)(JB:∀x,HH 0 (cf x)=true)(Be:∀x,∃vs,AO [] (cf x)=some vs)(L:List α)(i:Nat)(hi:lg H i=some (some (.blk (L.flatMap cf)))):Sy n T (CE H i (some (.lst s L.length fun zz=>cf (L.getD zz d)))) ks G0 w0 G a w:=
 A.asList i (f:=fun zz=>cf (L.getD zz d)) (by rw [At]at hi;exact hi) (.inr ⟨_,rfl,HM d cf s hs JB L⟩) (fun _ _=>rfl) (fun k=>Be _)
end
section
variable {n:Nat}{ks:ae}{G0:Gr}{w0:World}{T T':List (Nat×SV)}{H H':Hp}{G:Gr}{a:Act}{w:World}{Q:ab}{K K':List Fr}{pos pos':Pos}{E:Ob}
theorem AJ {l:ai}{xs:List SV}{ef:ae}{tb:List (List Nat×List Nat×Hp)}{c rs:ae}{i:Nat}{o:Oper}{x:SV}{c' rs':ae}(k':Nat)(h:(xs[i]?,tb[k']?,((ef.all fun p=>c'.contains p==(Nat.beq p i||c.contains p))&&c'.all ef.contains),(rs'.all fun r=>rs.contains r&&Ra r x),DY ⟨X,true⟩ n l.toArray (Kv o l xs 0 T) H o)=(some x,some (c',rs',H),true,true,some (.val x E)))(hE:Dc E):Ja Tryz.prog n ks G0 w0 T l xs ef tb c rs H i o:=by
 simp only [κ8]at h
 exact⟨x,c',rs',H,k',h.1,h.2.1,h.2.2.1,h.2.2.2.1,Us (AT (X:=⟨X,true⟩) (out:=.val x E) hX h.2.2.2.2 hE) U⟩
theorem BB {l:ai}{xs:List SV}{ef:ae}{tb:List (List Nat×List Nat×Hp)}{c rs:ae}{i:Nat}{o:Oper}{x:SV}{c' rs':ae}(k':Nat)(h:(xs[i]?,tb[k']?,((ef.all fun p=>c'.contains p==(Nat.beq p i||c.contains p))&&c'.all ef.contains),(rs'.all fun r=>rs.contains r&&Ra r x),H'.length)=(some x,some (c',rs',H'),true,true,H.length))(e:BG Tryz.prog n l.toArray ks G0 w0 (Kv o l xs 0 T) H o x H'):Ja Tryz.prog n ks G0 w0 T l xs ef tb c rs H i o:=by
 simp only [κ8]at h
 exact⟨x,c',rs',H',k',h.1,h.2.1,h.2.2.1,h.2.2.2.1,Us e h.2.2.2.2⟩
end
def CI (e s m:Nat)(f:Nat→List SV)(b cp:Nat)(w:World):Prop:=(∀k,∃vs,AO [] (f k)=some vs∧vs.length=s)∧∃xs,CD f m=some xs∧w.ownsRow 0 e s (.slice (some ⟨b,0,none⟩) m cp) m xs
section
variable {P:Program}{n:Nat}{ks:ae}{G0:Gr}{w0:World}{T:List (Nat×SV)}{H:Hp}{G:Gr}{a:Act}{w w':World}
theorem Sy.giveRow (A:Sy n T H ks G0 w0 G a w)(i t:Nat){e s m c:Nat}{f:Nat→List SV}{H':Hp}(hm:0<m)(hi:lg H i=some (some (.row e s m c f)))(ht:look T t=some (.sl i m c))(hH:CE H i none=H'):
  ∃b cp,Sy n ((t,.sla (some ⟨b,0,none⟩) m cp)::T) H' ks G0 w0 G a w∧CI e s m f b cp w∧(ks.contains b=true∨w0.heap.size≤b)∧(keys H' G).contains b=false:=by
 subst hH
 rw [At]at hi
 obtain⟨h1,h2,xs,h3,h4⟩:=A.mem.ent i _ hi
 have h5:∃L,G[i]?=some (some L):=by
  cases hq:G[i]? with
  |none=>
   rw [hq]at h4
   rcases h4.2 with⟨_,h⟩|⟨g,cap,cur,h,_⟩
   ·omega
   ·cases h
  | some p=>
   cases p with
   |none=>
    rw [hq]at h4
    rcases h4.2 with⟨_,h⟩|⟨g,cap,cur,h,_⟩
    ·omega
    ·cases h
   |some L=>exact⟨L,rfl⟩
 obtain⟨L,Eo⟩:=h5
 rw [Eo]at h2 h4
 have D0:L.pre=[]:=h2 L U
 have ZL:w.ownsRow 0 e s (.slice (some ⟨L.b,0,none⟩) m (c+rm (some L))) m xs:=by
  have:(Option.map (fun L:Loc=>(⟨L.b,L.pre.length,none⟩:Addr)) (some L))=some ⟨L.b,0,none⟩:=by simp [D0]
  rw [←this];exact h4
 have hold:∀(j:Nat) (e:BZ),(CE H i none)[j]?=some (some e)→j≠i∧H[j]?=some (some e):=by
  intro j e h
  rw [Aw]at h
  by_cases hj:j=i
  ·subst hj;rw [γ7 (α0.1 hi).1]at h;cases h
  ·rw [γ0 (ε9 hj)]at h;exact⟨hj,h⟩
 refine⟨L.b,c+rm (some L),⟨A.size,A.defers,fun q x hx=>?_,⟨by rw [Aw];simpa using A.mem.len,fun j e he=>A.mem.ent j e (hold j e he).2,fun j k e f L' M Eb g1 g2 g3 g4 g5 g6=>A.mem.sep j k e f L' M Eb (hold j e g1).2 (hold k f g2).2 g3 g4 g5 g6⟩,A.pre,fun j e L' g1 g2 g3=>A.own j e L' (hold j e g1).2 g2 g3,A.mix⟩,⟨h1,xs,h3,ZL⟩,A.own i _ L hi U Eo,?_⟩
 ·unfold look at hx
  cases hb:Nat.beq t q with
  |true=>
   rw [hb]at hx;cases hx
   have:=α5 hb
   subst this
   have:=A.get t _ ht
   unfold den at this
   rw [Eo]at this
   rw [←this]
   simp [den,D0]
  |false=>rw [hb]at hx;exact A.get q x hx
 ·cases hq:(keys (CE H i none) G).contains L.b with
  |false=>rfl
  |true=>
   obtain⟨j,e,L',g1,g2,g3,g4⟩:=mem_keys.1 hq
   obtain⟨k1,k2⟩:=hold j e g1
   exact absurd g4.symm (A.mem.sep i j _ e L L' (ε9 k1) hi k2 U Eo g3 (BI g2))
theorem Sy.takeRowG (A:Sy n T H ks G0 w0 G a w)(t:Nat){e s m b cp:Nat}{f:Nat→List SV}{x y:SV}(hg:CI e s m f b cp w)(hn:∀(i:Nat) (e:BZ) (L:Loc),H[i]?=some (some e)→G[i]?=some (some L)→¬e.empty→L.b≠b)(ho:w0.heap.size≤b)(ht:look T t=some x)(hy:den (G++[some ⟨b,[],List.replicate cp undef,e⟩]) y=den (G++[some ⟨b,[],List.replicate cp undef,e⟩]) x):
  Sy n ((t,y)::T) (H++[some (.row e s m 0 f)]) ks G0 w0 (G++[some ⟨b,[],List.replicate cp undef,e⟩]) a w:=by
 obtain⟨p1,xs,p2,p3⟩:=hg
 refine(A.addE (p:=some ⟨b,[],List.replicate cp undef,e⟩) (en:=.row e s m 0 f) ⟨p1,fun L hL=>by cases hL;rfl,xs,p2,by simpa [rm]using p3⟩ (fun i e M N h1 h2 h3 h=>by cases h3;exact hn i e M h1 h2 (h.elim (·.1) fun q=>BI q.1)) fun _ M h=>by cases h;exact .inr ho).slotEq t ht hy
theorem Sy.takeRow (A:Sy n T H ks G0 w0 G a w)(t:Nat){e s m b cp:Nat}{f:Nat→List SV}(hg:CI e s m f b cp w)(hn:∀(i:Nat) (e:BZ) (L:Loc),H[i]?=some (some e)→G[i]?=some (some L)→¬e.empty→L.b≠b)(ho:w0.heap.size≤b)(ht:look T t=some (.sla (some ⟨b,0,none⟩) m cp)):
  Sy n ((t,.sl H.length m 0)::T) (H++[some (.row e s m 0 f)]) ks G0 w0 (G++[some ⟨b,[],List.replicate cp undef,e⟩]) a w:=A.takeRowG t hg hn ho ht (by
  unfold den
  rw [α1 (by rw [A.mem.len];exact β8 _),A.mem.len];simp [rm])
theorem Sy.adoptL (A:Sy n T H ks G0 w0 G a w){α:Type}(d:α)(cf:α→List SV)(s:Nat)(hs:∀x,(cf x).length=s)(JB:∀x,HH 0 (cf x)=true)(Be:∀x,∃vs,AO [] (cf x)=some vs)(R:List α){b cp:Nat}{vs:aj}(h0:K2 b 0 vs w0 ks)(hv:AO [] (R.flatMap cf)=some vs)(t:Nat)(hx:look T t=some (.sla (some ⟨b,0,none⟩) R.length cp)):
  Sy n ((t,.sl H.length R.length cp)::T) (H++[some (.lst s R.length fun zz=>cf (R.getD zz d))]) ks G0 w0 (G++[some ⟨b,[],[],0⟩]) a w:=by
 have hl:=h0.go A.mix (ks':=ks) fun b hb=>.inl hb
 refine(A.addE (p:=some ⟨b,[],[],0⟩) (en:=.lst s R.length fun zz=>cf (R.getD zz d)) ⟨fun k=>Be _,.inr ⟨_,rfl,hl.1,fun k hk=>?_⟩⟩ (fun i e L M h1 h2 h3 h=>by cases h3;exact A.apart h0.1 h0.2.1 h1 h2 (h.elim (fun z=>by cases z.2) (·.1))) fun h=>by cases h).slotEq t hx (by
  unfold den
  rw [α1 (by rw [A.mem.len];exact β8 _),A.mem.len];simp [rm])
 obtain⟨r1,r2⟩:=HM d cf s hs JB R k hk
 obtain⟨r3,r4⟩:=IL r1
 rw [Hd]at r3 r4
 have hd:AO [] (cf (R.getD k d))=some ((vs.drop (k*s)).take s):=by rw [r3];exact CO s (CP _ hv)
 refine⟨_,hd,fun q v hq=>?_⟩
 have Pc:vs[k*s+q]?=some v:=by
  rw [σ4]at hq
  split at hq
  ·rw [η0]at hq;exact hq
  ·cases hq
 simpa using hl.2.2 (k*s+q) v Pc
end
section
variable {P:Program}{n:Nat}{ks:ae}{G0:Gr}{w0:World}{T:List (Nat×SV)}{H:Hp}{G:Gr}{a:Act}{w w':World}{Q:ab}{K:List Fr}{ops:ah}{o:Oper}{rest:ai}
theorem K8 {β:Type} {e s m t f:Nat} {az:List SV} {F:β→Nat→List SV} {R:β→Nat→World→World→Prop} (hf:Ly P f az [] (fun x w w'=>∃(L:β) (b cp:Nat),x=.sla (some ⟨b,0,none⟩) m cp∧R L b w w'∧w.heap.size≤b∧CI e s m (F L) b cp w')) (A:Sy n T H ks G0 w0 G a w) (hd:o.dst=some t) (h1:Bi n ops T o=some (f,az)) (h2:D8 [] az=some az)
  (k:∀L b cp a' w' G',R L b w w'→w.heap.size≤b→(∀k,(keys (H++[some (.row e s m 0 (F L))]) G').contains k=true→k<w.heap.size∨k=b)→Sy n ((t,.sl H.length m 0)::BN T o.dst (.sla (some ⟨b,0,none⟩) m cp)) (H++[some (.row e s m 0 (F L))]) ks G0 w0 G' a' w'→Goal P Q K (.ops ops rest) a' w'):Goal P Q K (.ops ops (o::rest)) a w:=by
 refine Om [] hf A h1 h2 U U U fun x a' w' hJ hk A'=>?_
 obtain⟨L,b,cp,rfl,hR,D2,hg⟩:=hJ
 have hl:look (BN T o.dst (.sla (some ⟨b,0,none⟩) m cp)) t=some (.sla (some ⟨b,0,none⟩) m cp):=by rw [hd];simp [BN,look,η8]
 have A2:=A'.takeRow t hg (fun i e L q1 q2 q3=>by
  have:=A.mem.ent i e q1
  rw [q2]at this
  have:=Ag.lt this q3
  omega) (β3 A.mix.size D2) hl
 refine k L b cp a' w' _ hR D2 (fun k Dz=>?_) A2
 obtain⟨i,e',M,q1,q2,q3,q4⟩:=mem_keys.1 Dz
 have hlen:=A.mem.len
 by_cases hi:i<H.length
 ·rw [α2 hi]at q1
  rw [α2 (by omega)]at q3
  exact .inl (hk k (mem_keys.2 ⟨i,e',M,q1,q2,q3,q4⟩))
 ·right
  have PT:i=G.length:=by
   have:=(α0.1 q3).1
   simp at this
   omega
  subst PT
  rw [α1 (β8 _)]at q3
  simp at q3
  rw [←q4,←q3]
theorem HN {β:Type} {e s m t f:Nat} {F:β→Nat→List SV} {R:β→Nat→World→World→Prop} (hf:Ly P f [] [] (fun x w w'=>∃(L:β) (b cp:Nat),x=.sla (some ⟨b,0,none⟩) m cp∧R L b w w'∧w.heap.size≤b∧CI e s m (F L) b cp w')) (A:Sy n T H ks G0 w0 G a w) (hd:o.dst=some t) (h1:Bi n ops T o=some (f,[]))
  (k:∀L b cp a' w' G',R L b w w'→w.heap.size≤b→(∀k,(keys (H++[some (.row e s m 0 (F L))]) G').contains k=true→k<w.heap.size∨k=b)→Sy n ((t,.sl H.length m 0)::BN T o.dst (.sla (some ⟨b,0,none⟩) m cp)) (H++[some (.row e s m 0 (F L))]) ks G0 w0 G' a' w'→Goal P Q K (.ops ops rest) a' w'):Goal P Q K (.ops ops (o::rest)) a w:=
 K8 hf A hd h1 U k
end
def bl:Option Addr→List Nat
 |some a=>[a.block]
 |none=>[]
abbrev Ro (e:Nat)(w:World)(ao:ak)(n cp:Nat)(xs:aj):Prop:=w.ownsRow 0 e 1 (.slice ao n cp) n xs
theorem bZ {ao:ak}{n cp k:Nat}:(bl ao).contains k=true↔(Value.slice ao n cp).ownBlock=some k:=by
 cases ao with
 |none=>simp [bl,Value.ownBlock]
 |some a=>simp [bl,Value.ownBlock];exact⟨fun h=>h.symm,fun h=>h.symm⟩
theorem Ro.lt {e:Nat}{w:World}{ao:ak}{n cp:Nat}{xs:aj}(h:Ro e w ao n cp xs){k:Nat}(hk:(bl ao).contains k=true):k<w.heap.size:=(Hs h k (bZ.1 hk)).2
theorem Ro.cell {e:Nat}{w:World}{b n cp:Nat}{xs:aj}(h:Ro e w (some ⟨b,0,none⟩) n cp xs):∀j u,xs[j]?=some u→w.cell? ((⟨b,0,none⟩:Addr).add j)=some u:=h.cells (g:=b) U
theorem Ro.range {e:Nat}{w:World}{b n cp:Nat}{xs:aj}(h:Ro e w (some ⟨b,0,none⟩) n cp xs):w.rangeAt b 0 xs:=fun j u hu=>by
 have:=h.cell j u hu
 rw [ζ3,δ1]at this;simpa using this
section
variable {P:Program}{X:Tx}{n:Nat}{ks:ae}{G0:Gr}{w0:World}{T:List (Nat×SV)}{H:Hp}{G:Gr}{a:Act}{w w':World}{ops:ah}{o:Oper}{rest:ai}{Q:ab}{K:List Fr}
def IC (H:Hp)(G:Gr)(ks:ae):Prop:=∀(i:Nat) (e:BZ) (L:Loc),H[i]?=some (some e)→G[i]?=some (some L)→¬e.empty→ks.contains L.b=false
theorem Sy.mixed (A:Sy n T H ks G0 w0 G a w){ks':ae}(m:CQ ks' w w')(Cy:IC H G ks')(hk:∀b,ks'.contains b=true→ks.contains b=true∨w0.heap.size≤b):Sy n T H ks G0 w0 G a w':=by
 refine⟨A.size,A.defers,A.get,⟨A.mem.len,fun i e h=>(A.mem.ent i e h).mix m (fun Bw L hL=>Cy i e L h ?_ Bw),A.mem.sep⟩,A.pre,A.own,A.mix.mix m fun k hl hc=>?_⟩
 ·cases hq:G[i]? with
  |none=>rw [hq]at hL;cases hL
  |some p=>rw [hq]at hL;simp at hL;rw [hL]
 ·cases hz:ks'.contains k with
  |false=>rfl
  |true=>
   rcases hk k hz with h|h
   ·rw [h]at hc;cases hc
   ·omega
theorem cA {x y:Operand} {t rt:Nat} {ao:ak} {nn cp:Nat} (A:Sy n T H ks G0 w0 G a w) (hg:Av ops T o.guard=some .run) (hd:DF n o.dst=true) (BM:o.op=.binOp .eql t x y rt) (hx:DA T x=some (.sla ao nn cp)) (hy:DA T y=some (.sla none 0 0)) {e:Nat} (ht:P.underlying t=some (.slice e)) {r:SV} (hr:den [] r=some (.bool ao.isNone))
  (k:∀{a},Sy n (BN T o.dst r) H ks G0 w0 G a w→Goal P Q K (.ops ops rest) a w):Goal P Q K (.ops ops (o::rest)) a w:=by
 have hw:=A7 (gd:=none) A hg
 obtain⟨d,op,ty,pos,af,gd⟩:=o
 simp only at BM
 subst BM
 have Bb:=A.ev hx
 have C8:=A.ev hy
 unfold den at Bb C8
 simp only [β1]at Bb C8
 exact DN (Q:=He P Q K) (MR (u:=.slice ao nn cp) (v:=.slice none 0 0) hw Bb.symm C8.symm ⟨by simp [eqGuard],Lib.run_eql_slice_nil w t e ao nn cp 0 0 ht⟩ (k (Sy.put A hd (by simpa using Ax G r hr))))
end
def Mf (P:Program)(f:Nat)(args:List SV)(H:Hp)(ks:ae)(pre:World→Prop)(J:SV→World→World→Prop):Prop:=
 HT P f=some (false,false)∧(∀(i:Nat) (e:BZ),H[i]?=some (some e)→e.mut=false)∧∀G w vs,Mem H G w→IC H G ks→pre w→AO G args=some vs→Calls P f vs.toArray w fun e w'=>∃x v,den [] x=some v∧e=.returned v∧CQ ks w w'∧J x w w'
section
variable {P:Program}{n:Nat}{ks:ae}{G0:Gr}{w0:World}{T:List (Nat×SV)}{H:Hp}{G:Gr}{a:Act}{w:World}{Q:ab}{K:List Fr}{pos:Pos}{ops:ah}{o:Oper}{rest:ai}{pre:World→Prop}
theorem Eg {f:Nat} {fn:Func} {c:Code} {args:List SV} {J:SV→World→World→Prop} (CG:HT P f=some (false,false)) (hf:P.funcs[f]?=some fn) (hb:fn.body=some c) (hn:fn.ntmps=n) (hl:Nat.ble args.length n=true) (SQ:∀(i:Nat) (e:BZ),H[i]?=some (some e)→e.mut=false)
  (h:∀G w a,H.length=G.length→IC H G ks→pre w→Sy n (OZ args 0) H ks G w G a w→Goal P (bodyPost P fn fun e w'=>∃x v,den [] x=some v∧e=.returned v∧CQ ks w w'∧J x w w') [] (.code c) a w):Mf P f args H ks pre J:=by
 refine⟨CG,SQ,fun G w vs hM ho hp hv=>?_⟩
 refine π8 hf hb (h G w _ hM.len ho hp ⟨?_,rfl,fun t x hx=>?_,hM,⟨[],by simp⟩,fun i e L h1 h2 h3=>(by rw [SQ i e h1]at h2;cases h2),CQ.refl _ _⟩)
 ·have:=BF hv
  have:=δ8 hl
  simp [hn];omega
 ·obtain⟨_,h2⟩:=EX hx
  simp only [ξ7]at h2
  obtain⟨v,h3,h4⟩:=C0 hv h2
  have BU:t<vs.length:=(α0.1 h3).1
  rw [h4]
  simp [β5,κ1,BU]at h3⊢
  exact h3.symm
theorem GS {Y:Tb}{fn:Func}{J:SV→World→World→Prop}(hX:Y.ok P=true){y:SV}{r:List SV}{rv:List ResultVar}{v':Value}(A:Sy n T H ks G0 w0 G a w)(hr:fn.results.toList=rv)(hv:KB ⟨Y,false⟩ T H rv=some r)(hy:Am r=y)(hc:den [] y=some v')(hJ:J y w0 w):bodyPost P fn (fun e w'=>∃x v,den [] x=some v∧e=.returned v∧CQ ks w0 w'∧J x w0 w') .ret a w:=by
 obtain⟨v,h1,h2⟩:=IT (X:=⟨Y,false⟩) (fn:=fn) hX A hr hv hy
 have h3:den G y=some v':=by simpa using Ax G y hc
 rw [h3]at h1
 cases h1
 exact⟨A.defers,v',h2,y,v',hc,rfl,A.mix,hJ⟩
theorem Jp {f:Nat} {args az:List SV} {H' l:Hp} {ks':ae} {J:SV→World→World→Prop} (m:ae) (hf:Mf P f args H' ks' pre J) (A:Sy n T H ks G0 w0 G a w) (hp:pre w) (Cy:IC H G ks') (hk:∀b,ks'.contains b=true→ks.contains b=true∨w0.heap.size≤b) (h1:Bi n ops T o=some (f,az)) (h2:D8 m args=some az) (h3:DR m H'=some l) (h4:DC H m=some l) (h5:Ks m=true)
  (k:∀{x a' w'},CQ ks' w w'→J x w w'→Sy n (BN T o.dst x) H ks G0 w0 G a' w'→Goal P Q K (.ops ops rest) a' w'):Goal P Q K (.ops ops (o::rest)) a w:=by
 obtain⟨hd,us,hu,Lp⟩:=DO (P:=P) (ops:=ops) A h1 hf.1
 obtain⟨p1,p2,p3⟩:=Du h4
 obtain⟨r1,r2⟩:=EG h3
 have hm:∀j∈m,j<G.length:=fun j hj=>by rw [←A.mem.len];exact p2 j hj
 have hM:=A.mem.sub h4 h3 h5
 have Qp:AO (BE m G) args=some us:=by rw [Dt hm args h2];exact hu
 have vW:IC H' (BE m G) ks':=fun i e L q1 q2 q3=>by
  obtain⟨f,s1,s2⟩:=r2 i _ q1
  obtain⟨f',rfl⟩:=Dj s2
  have hi:i<m.length:=by rw [←p1];exact(α0.1 s1).1
  have hj:m[i]?=some m[i]:=by simp [hi]
  rw [Bp hm hj]at q2
  rw [p3 i _ hj]at s1
  exact Cy _ f' L s1 q2 fun h=>q3 ((Ck s2).2.1 h)
 refine DN (Q:=He P Q K) (Lp (hf.2.2 _ w us hM vW hp Qp) fun e w' he=>?_)
 obtain⟨x,v,e1,rfl,hg,hJ⟩:=he
 exact⟨v,rfl,k hg hJ (Sy.put (A.mixed hg Cy hk) hd (by simpa using Ax G x e1))⟩
theorem cB {ks':ae}(A:Sy n T H ks G0 w0 G a w)(h1:∀b,ks'.contains b=true→(keys H G).contains b=false)(h2:∀(i:Nat) (e:BZ) (L:Loc),H[i]?=some (some e)→e.mut=false→G[i]?=some (some L)→¬e.empty→ks'.contains L.b=false):IC H G ks':=fun i e L q1 q2 q3=>by
 cases hm:e.mut with
 |false=>exact h2 i e L q1 hm q2 q3
 | true=>
  cases hz:ks'.contains L.b with
  |false=>rfl
  |true=>
   have:=h1 _ hz
   rw [mem_keys.2 ⟨i,e,L,q1,hm,q2,rfl⟩]at this;cases this
theorem IC.nil:IC H G []:=fun _ _ _ _ _ _=>rfl
end
section
variable {P:Program}{n:Nat}{ks:ae}{G0:Gr}{w0:World}{T:List (Nat×SV)}{H:Hp}{G:Gr}{a:Act}{w:World}{Q:ab}{K:List Fr}
end
theorem Al {i o s m k:Nat}(j:Nat){q:Nat}(hq:o+j*s+k=q):∀G,den G (.ix (.ptr i o) s m (j:Int) k)=den G (.ptr i q):=fun G=>by
 subst hq
 unfold den
 cases hG:G[i]? with
 |none=>unfold den;rw [hG]
 |some p=>cases p with
  |none=>unfold den;rw [hG]
  |some L=>unfold den;rw [hG];simp [η4]
section
variable {P:Program}{Y:Tb}{n:Nat}{ks:ae}{G0:Gr}{w0:World}{T:List (Nat×SV)}{H:Hp}{G:Gr}{a:Act}{w w':World}{Q:ab}{K:List Fr}{ops:ah}{o:Oper}{rest:ai}
end
abbrev Fl:=Nat→Int×Bool
def AQ (f:Fl)(k:Nat)(x:Int×Bool):Fl:=fun j=>if j=k then x else f j
theorem kY {j:Int}(h:0≤j∧j<8):j=0∨j=1∨j=2∨j=3∨j=4∨j=5∨j=6∨j=7:=by omega
section
variable {P:Program}{Y:Tb}{n:Nat}{ks:ae}{G0:Gr}{w0:World}{T:List (Nat×SV)}{H:Hp}{ops:ah}{o:Oper}{rest:ai}{Q:ab}{K:List Fr}
end
abbrev Rg:=Nat→Int
def AX (r:Rg)(k:Nat)(x:Int):Rg:=fun j=>if j=k then x else r j
section
variable {P:Program}{Y:Tb}{n:Nat}{ks:ae}{G0:Gr}{w0:World}{T:List (Nat×SV)}{H:Hp}{ops:ah}{o:Oper}{rest:ai}{Q:ab}{K:List Fr}
end
abbrev Zk (x:SV)(at_:Int)(r:Rg):List SV:=[x,.int .i64 at_,.int .i64 (r 0),.int .i64 (r 1),.int .i64 (r 2),.int .i64 (r 3),.int .i64 (r 4),.int .i64 (r 5),.int .i64 (r 6),.int .i64 (r 7)]
section
variable {P:Program}{Y:Tb}{n:Nat}{ks:ae}{G0:Gr}{w0:World}{T:List (Nat×SV)}{H:Hp}{ops:ah}{o:Oper}{rest:ai}{Q:ab}{K:List Fr}
theorem X1 {x y:Operand}{ty i:Nat}{j v at_:Int}{r:Rg}{s1:SV}{ti:TI}(hX:Y.ok P=true)(BM:o.op=.store ty x y)(hg:Av ops T o.guard=some .run)(hx:DA T x=some (.ix (.ptr i 2) 1 8 j 0))(hy:DA T y=some (.int .i64 v))(hH:lg H i=some (some (.blk (Zk s1 at_ r))))(Fm:Y.get ty=some ti)(DV:ti.row=none)(Bc:ti.one=true)(hj:0≤j∧j<8):
  BG P n ops ks G0 w0 T H o (.tup []) (CE H i (some (.blk (Zk s1 at_ (AX r j.toNat v))))):=fun G a w A=>by
 have hw:=A7 (gd:=none) A hg
 obtain⟨d,op,ty',pos,af,gd⟩:=o
 simp only at BM
 subst BM
 have Bb:=A.ev hx
 have C8:=A.ev hy
 have key:∀k:Nat,j=(k:Int)→(∀q:List SV,sp (2+k) (Zk s1 at_ r) [.int .i64 v]=some q→q=Zk s1 at_ (AX r j.toNat v)→BY P ops {dst:=d,op:=.store ty x y,type:=ty',pos:=pos,after:=af,guard:=gd} a w fun v' w'=>∃F,den (G++F) (.tup [])=some v'∧Ms (CE H i (some (.blk (Zk s1 at_ (AX r j.toNat v))))) ks G0 w0 (G++F) w'):=by
  intro k hk q hr e
  rw [hk,Al (q:=2+k) k (by omega)]at Bb
  have hs:DM ⟨Y,true⟩ H ty (.ptr i (2+k)) (.int .i64 v)=some (i,q,[]):=by
   have ht:Tx.get ⟨Y,true⟩ ty=some ti:=Fm
   simp only [DM,hH,ht,DV,Bc,hr]
   rfl
  refine Di (X:=⟨Y,true⟩) hX A hs AB Bb C8 U U hw fun cs L vs' w' a1 a2 a3 a4 a5=>⟨[],rfl,?_⟩
  subst e
  simpa using (A.turn a1 a2 a3 a4 a5).ms
 rcases kY hj with rfl|rfl|rfl|rfl|rfl|rfl|rfl|rfl
 ·exact key 0 U _ U U
 ·exact key 1 U _ U U
 ·exact key 2 U _ U U
 ·exact key 3 U _ U U
 ·exact key 4 U _ U U
 ·exact key 5 U _ U U
 ·exact key 6 U _ U U
 ·exact key 7 U _ U U
theorem Sp {x:Operand}{ty i:Nat}{j at_:Int}{r:Rg}{s1:SV}{ti:TI}(hX:Y.ok P=true)(BM:o.op=.load ty x)(hg:Av ops T o.guard=some .run)(hx:DA T x=some (.ix (.ptr i 2) 1 8 j 0))(hH:lg H i=some (some (.blk (Zk s1 at_ r))))(Fm:Y.get ty=some ti)(DV:ti.row=none)(Bc:ti.one=true)(hj:0≤j∧j<8):
  BG P n ops ks G0 w0 T H o (.int .i64 (r j.toNat)) H:=fun G a w A=>by
 have hw:=A7 (gd:=none) A hg
 obtain⟨d,op,ty',pos,af,gd⟩:=o
 simp only at BM
 subst BM
 have Bb:=A.ev hx
 have key:∀k:Nat,j=(k:Int)→(lg (Zk s1 at_ r) (2+k)=some (.int .i64 (r j.toNat)))→BY P ops {dst:=d,op:=.load ty x,type:=ty',pos:=pos,after:=af,guard:=gd} a w fun v' w'=>∃F,den (G++F) (.int .i64 (r j.toNat))=some v'∧Ms H ks G0 w0 (G++F) w':=by
  intro k hk hr
  rw [hk,Al (q:=2+k) k (by omega)]at Bb
  have hs:Ec ⟨Y,true⟩ H ty (.ptr i (2+k))=some (.int .i64 (r j.toNat),[]):=by
   have ht:Tx.get ⟨Y,true⟩ ty=some ti:=Fm
   simp only [Ec,Gk,hH,Lu,DK,ht,DV,Bc,hr,θ5]
  obtain⟨z,hz,h3⟩:=FV (X:=⟨Y,true⟩) (P:=P) (ops:=ops) (d:=d) (ty:=ty') (pos:=pos) (af:=af) (gd:=gd) (x:=x) hX A hs Bb
  exact h3 (fun p hp=>by cases hp) rfl hw _ ⟨[],by simpa using hz,by simpa using A.ms⟩
 rcases kY hj with rfl|rfl|rfl|rfl|rfl|rfl|rfl|rfl
 ·exact key 0 U U
 ·exact key 1 U U
 ·exact key 2 U U
 ·exact key 3 U U
 ·exact key 4 U U
 ·exact key 5 U U
 ·exact key 6 U U
 ·exact key 7 U U
def Sq (ao:ak)(s:Nat)(j:Int):Option Addr:=ao.map fun a=>⟨a.block,a.off+j.toNat*s,none⟩
theorem Fb {x y:Operand}{t e nn cp s:Nat}{j:Int}{ao:ak}{f:Nat→List SV}(BM:o.op=.indexAddr t x y)(hg:Av ops T o.guard=some .run)(hx:DA T x=some (.sla ao nn cp))(hy:DA T y=some (.int .i64 j))(h0:AP ao s nn f w0 ks)(ht:sliceB P t e s=true)(hj:0≤j∧j<((nn:Nat):Int)):
  BG P n ops ks G0 w0 T H o (.v (.pointer (Sq ao s j))) H:=fun G a w A=>by
 rcases h0.2 with q|⟨b,q,rfl,_⟩
 ·omega
 have hw:=A7 (gd:=none) A hg
 obtain⟨d,op,ty,pos,af,gd⟩:=o
 simp only at BM
 subst BM
 have Bb:=A.ev hx
 have C8:=A.ev hy
 unfold den at Bb C8
 simp only [β1]at Bb C8
 exact FT (n:=nn) (s:=s) (b:=b) (o:=q+j.toNat*s) (j:=j.toNat) hw Bb.symm (by rw [←C8];congr 1;omega) ht ⟨q,cp,rfl,rfl⟩ (by omega) ⟨[],rfl,by simpa using A.ms⟩
theorem K9 {x:Operand}{ty s nn:Nat}{j:Int}{ao:ak}{f:Nat→List SV}(r:List SV)(hX:Y.ok P=true)(BM:o.op=.load ty x)(hg:Av ops T o.guard=some .run)(hx:DA T x=some (.v (.pointer (Sq ao s j))))(h0:AP ao s nn f w0 ks)(hj:0≤j∧j<((nn:Nat):Int))(hr:f j.toNat=r)(hc:DK ⟨Y,true⟩ ty r 0=some (.agg r)):
  BG P n ops ks G0 w0 T H o (.agg r) H:=fun G a w A=>by
 have h1:=AP.ok w0 ks w ks h0 A.mix (fun b hb=>.inl hb)
 rcases h1.2 with q|⟨b,q,rfl,_,_,h4⟩
 ·omega
 have hw:=A7 (gd:=none) A hg
 obtain⟨d,op,ty,pos,af,gd⟩:=o
 simp only at BM
 subst BM
 have Bb:=A.ev hx
 unfold den at Bb
 simp only [β1]at Bb
 obtain⟨vs,v1,v2⟩:=h4 j.toNat (by omega)
 rw [hr]at v1
 have v3:AO G r=some vs:=by simpa using A6 G r v1
 exact Ft (X:=⟨Y,true⟩) hX hc v3 (by show(AO G r).map _=_;rw [v3];rfl) v2 hw Bb.symm ⟨[],by simp only [ε0];show(AO G r).map _=_;rw [v3];rfl,by simpa using A.ms⟩
end
theorem P7 {I:Dl} {P:Program} {f:Nat} {args:List SV} {x:SV} {e s m c:Nat} {F F':Nat→List SV} {j:Int} (k:Nat) (Eb:j.toNat=k) (hj:k<m)
  (h:BQ I P f (.ptr 0 0::args) [O (F k)] (Rt x [O (F' k)])) (JB:HH 0 args=true) (pY:Lm 0 x=true) (Bw:∀q,q≠k→F' q=F q) (Tv:∃vs,AO [] (F' k)=some vs∧vs.length=s):
  BQ I P f (.el 0 s j 0::args) [some (.row e s m c F)] (Rt x [some (.row e s m c F')]):=by
 refine⟨h.1,fun G w vs hM hI hv=>?_⟩
 have J7:G.length=1:=hM.len.symm
 obtain⟨p,rfl⟩:∃p,G=[p]:=by
  cases G with
  |nil=>cases J7
  |cons p G=>cases G with
   |nil=>exact⟨p,rfl⟩
   |cons _ _=>simp at J7
 obtain⟨Be,D0,xs,rM,Do⟩:=hM.ent 0 _ U
 obtain⟨us,ZA,Aaa⟩:=Be k
 have Tt:=DG Be rM
 have rJ:(k+1)*s≤m*s:=θ2 s (by omega)
 have Lr:(k+1)*s=k*s+s:=by rw [θ6,υ6]
 rcases Do.2 with⟨_,h0⟩|⟨g,cap,cur,UB,hb,hg,aN,jG,Ld,yQ⟩
 ·omega
 obtain⟨L,rfl⟩:∃L,p=some L:=by
  cases p with
  |none=>simp at UB
  |some L=>exact⟨L,rfl⟩
 have yR:=D0 L U
 simp only [ξ5,δ2,δ0,θ8,β1,μ6,true_and]at UB
 have yS:L.b=g:=UB.1.1
 have jE:m*s≤cap*s:=θ2 s aN
 have Aab:cur.toList.length=cap*s:=by simpa using Ld
 have vX:(cur.toList.drop (k*s)).take s=us:=by
  obtain⟨us2,e1,e2⟩:=IK Be rM k hj
  rw [ZA]at e1;cases e1
  apply θ9
  intro q
  by_cases hq:q<s
  ·rw [γ1 hq,η0]
   have rN:q<us.length:=by omega
   have:=e2 q us[q] (β4 rN)
   rw [←yQ,γ1 (by omega)]at this
   rw [this,β4 rN]
  ·rw [γ5 (by rw [δ6];omega),γ5 (by omega)]
 have GH:cur.toList.take (k*s)++us++cur.toList.drop ((k+1)*s)=cur.toList:=by
  rw [←vX,Lr,←μ1,γ2,θ7,θ7]
 have I4:(cur.toList.take (k*s)).length=k*s:=by rw [δ6];omega
 let L':Loc:=⟨g,cur.toList.take (k*s),cur.toList.drop ((k+1)*s),e⟩
 have IB:∀{l:List SV} {vs:aj} {G:Gr},AO [] l=some vs→AO G l=some vs:=fun{l vs G} h=>by simpa using A6 G l h
 have Tz:Mem [O (F k)] [some L'] w:=by
  refine⟨rfl,fun i e' he=>?_,fun i q e1 e2 L1 L2 iO h1 h2=>?_⟩
  ·cases i with
   |succ i=>cases he
   |zero=>
    cases he
    refine⟨L',us,rfl,IB ZA,?_⟩
    show D3 w g (cur.toList.take (k*s)++us++cur.toList.drop ((k+1)*s)).toArray e
    rw [GH]
    exact hg
  ·cases i with
   |succ i=>cases h1
   |zero=>cases q with
    |zero=>exact absurd U iO
    |succ q=>cases h2
 have PU:keys [some (.row e s m c F)] [some L]=keys [O (F k)] [some L']:=by
  show [L.b]=[g]
  rw [yS]
 have FD:AO [some L'] (.ptr 0 0::args)=some vs:=by
  obtain⟨v,ws,e1,e2,rfl⟩:=BH hv
  refine BK ?_ ?_
  ·rw [←e1]
   show some (Value.pointer (some ⟨g,(cur.toList.take (k*s)).length+0,none⟩))=some (Value.pointer (some ⟨L.b,L.pre.length+j.toNat*s+0,none⟩))
   rw [I4,yS,yR,Eb]
   simp
  ·have a1:=BS (G:=[some L]) (k:=0) args JB
   have a2:=BS (G:=[some L']) (k:=0) args JB
   rw [θ4]at a1 a2
   rw [←a2,a1,e2]
 refine π3 (h.2 [some L'] w vs Tz (PU▸hI) FD) ?_
 rintro en w' ⟨y,H',Fr,v,⟨rfl,rfl⟩,d1,rfl,I5,DE,_,_,_⟩
 have hF:Fr=[]:=by
  have:=I5.len
  cases Fr with
  |nil=>rfl
  |cons _ _=>simp at this
 subst hF
 obtain⟨L2,vs',q1,q2,q3⟩:=I5.ent 0 _ U
 cases q1
 obtain⟨vs2,r1,r2⟩:=Tv
 have r3:=IB (G:=[some L']++[]) r1
 rw [r3]at q2
 cases q2
 have pZ:∀k,∃vs,AO [] (F' k)=some vs∧vs.length=s:=fun q=>by
  by_cases hq:q=k
  ·subst hq;exact⟨vs',r1,r2⟩
  ·rw [Bw q hq];exact Be q
 have vY:=K0 Be Bw r1 r2 rM hj
 rw [←PU]at DE
 refine⟨y,_,[],v,⟨rfl,rfl⟩,?_,rfl,⟨rfl,fun i e' he=>?_,fun i q e1 e2 L1 L2 iO h1 h2=>?_⟩,DE,β8 _,fun i e' he hm=>?_,fun i e' he hm L1 hL1=>?_⟩
 ·have a1:=Ds (G:=[some L]++[]) (k:=0) y pY
  have a2:=Ds (G:=[some L']++[]) (k:=0) y pY
  rw [θ4]at a1 a2
  rw [←a1,a2];exact d1
 ·cases i with
  |succ i=>cases he
  | zero=>
   cases he
   refine⟨pZ,fun M hM=>by cases hM;exact yR,_,vY,?_,.inr ⟨g,cap,(cur.toList.take (k*s)++vs'++cur.toList.drop ((k+1)*s)).toArray,?_,hb,q3,aN,jG,?_,?_⟩⟩
   ·simp only [α4,δ6,γ3];omega
   ·simp only [ε0,ξ5,δ2,δ0,θ8,β1,μ6,true_and]
    exact UB
   ·simp only [μ5,α4,δ6,γ3];omega
   ·have e1:(cur.toList.take (k*s)++vs').length=(k+1)*s:=by rw [α4,I4,r2,Lr]
    show(cur.toList.take (k*s)++vs'++cur.toList.drop ((k+1)*s)).take (m*s)=_
    rw [List.take_append,ε4 (l:=cur.toList.take (k*s)++vs') (by omega),e1,←yQ,List.take_take,Nat.min_eq_left (by omega),List.drop_take]
 ·cases i with
  |succ i=>cases h1
  |zero=>cases q with
   |zero=>exact absurd U iO
   |succ q=>cases h2
 ·cases i with
  |succ i=>cases he
  |zero=>cases he;cases hm
 ·cases i with
  |succ i=>cases he
  |zero=>
   cases he
   cases hL1
   exact .inl (by show [L.b].contains L.b=true;simp)
section
variable {P:Program}{n:Nat}{ks:ae}{G0:Gr}{w0:World}{H:Hp}{G:Gr}{w w':World}{ops:ah}{o:Oper}
end
theorem Mg {G:Gr}{x y:SV}(h:den G x=den G y):∀{l:List SV},AO G (l++[x])=AO G (l++[y])
 | []=>by
  show AO G [x]=AO G [y]
  unfold AO
  rw [h]
 |z::l=>by
  show AO G (z::(l++[x]))=AO G (z::(l++[y]))
  unfold AO
  rw [Mg h]
section
variable {P:Program}{n:Nat}{ks:ae}{G0:Gr}{w0:World}{T:List (Nat×SV)}{H:Hp}{G:Gr}{a:Act}{w w':World}{Q:ab}{K:List Fr}{ops:ah}{o:Oper}{rest:ai}
end
section
variable {P:Program}{Y:Tb}{n:Nat}{ks:ae}{G0:Gr}{w0:World}{T:List (Nat×SV)}{H:Hp}{G:Gr}{a:Act}{w:World}{Q:ab}{K:List Fr}{ops:ah}{o:Oper}{rest:ai}
theorem BP {x y:SV}{H':Hp}(e:∀G,den G x=den G y)(h:BG P n ops ks G0 w0 T H o x H'):BG P n ops ks G0 w0 T H o y H':=fun G a w A=>
 JD (h G a w A) fun v w' ⟨F,h1,h2⟩=>⟨F,by rw [←e];exact h1,h2⟩
theorem HV {i e s m c nn cc mm mb mc:Nat} {f g:Nat→List SV} (hY:Y.ok P=true) (m':Nat) (f':Nat→List SV) (h:Xs Y n ops T H o=some ((i,e,s,m,c),f,(mm,mb,mc),g,(nn,cc))) (h1:nn=m) (h2:cc=c) (vZ:c=0) (yT:mm≤mb) (hb:m≤1000000) (UA:mm≤1000000) (PR:m'=m+mm)
  (hf:∀k,k<m→f' k=f k) (hn:∀k,k<mm→f' (m+k)=g k) (Be:∀k,∃vs,AO [] (f' k)=some vs∧vs.length=s) (Bc:∀k,k<mm→∃E,FU (g k)=some E∧Dc E):
  BG P n ops ks G0 w0 T H o (.sl H.length m' 0) (CE H i none++[some (.row e s m' 0 f')]):=by
 subst PR
 intro G a w A
 obtain⟨d,op,ty,pos,af,gd⟩:=o
 unfold Xs at h
 split at h
 ·next hd =>
  split at h
  ·next ZJ =>
   have hw:=A7 (gd:=none) A ZJ
   split at h
   ·next ca aJ=>
    simp only at aJ
    subst aJ
    obtain⟨callee,args,ats⟩:=ca
    simp only at h
    split at h
    ·next x y t t' ha ht=>
     split at h
     ·next i' nn' cc' j mm' mc' hx hy SL=>
      split at h
      ·next e' s' m' c1 f1 s2 mb' g' ti hi hj Fm=>
       split at h
       ·next e2 s3 b MK=>
        split at h
        ·next En=>
         cases h
         subst h1;subst h2
         simp only [α3]at En
         obtain⟨⟨⟨c1,c2⟩,c3⟩,c4⟩:=En
         have e1:=α5 c1
         have e2':=α5 c2
         have e3:=α5 c3
         have e4:=α5 SL
         have PS:=δ8 c4
         subst e1;subst e2';subst e3;subst e4
         rw [At]at hi
         have FD:args= #[x,y]:=by have:=congrArg List.toArray ha;simpa using this
         have W3:ats= #[t,t]:=by have:=congrArg List.toArray ht;simpa using this
         subst FD;subst W3
         obtain⟨r1,r2,xs,r3,r4⟩:=A.mem.ent i _ hi
         obtain⟨g1,g2⟩:=Gm A.mem hj
         obtain⟨ie,z,f1',f2',f3',f4',f5',f6',f7'⟩:=Cp (DJ (Tb.at hY Fm) MK)
         have Bb:=A.ev hx
         have C8:=A.ev hy
         obtain⟨q,hq⟩:∃q,G[i]?=some q:=by
          have:i<G.length:=by rw [←A.mem.len];exact(α0.1 hi).1
          exact⟨G[i],by simp [this]⟩
         rw [hq]at r2 r4
         simp only [δ2]at r2 r4
         unfold den at Bb C8
         rw [hq]at Bb
         simp only [β1]at Bb
         have htg:∀k,k<mm→∃vs,AO [] (g k)=some vs∧vs.length=s:=fun k hk=>by rw [←hn k hk];exact Be _
         obtain⟨ys,W6⟩:=IJ (f:=fun k=>f' (nn+k)) (fun k=>Be _) mm
         have iB:=DG (f:=fun k=>f' (nn+k)) (fun k=>Be _) W6
         have Li:CD f' (nn+mm)=some (xs++ys):=JR mm nn (by rw [Dd hf];exact r3) W6
         have ZI:Value.ownBlock (.slice (q.map fun L=>⟨L.b,L.pre.length,none⟩) nn (cc+rm q))=q.map (·.b):=by cases q<;>rfl
         by_cases h0:mm=0
         ·subst h0
          cases W6
          have W7:Src P ie.size t (a.eval y) 0 [] w:=by
           split at C8
           ·next p hp=>
            rw [←β6 C8]
            cases p with
            |none=>exact Src.ofNil w f1' mc
            |some L=>exact ρ1 w f1' _ 0 _ [] (by simp) (fun j u hj=>by simp at hj) (fun u hu=>by cases hu)
           ·cases C8
          have aN:nn≤cc+rm q:=by
           rcases r4.2 with⟨q1,q2⟩|⟨g,cap,cur,q1,_,_,q4,_⟩
           ·omega
           ·cases q<;>simp at q1;omega
          have hr:=σ5 (P:=P) w t t ty e ie f1' f2' (q.map fun L=>⟨L.b,L.pre.length,none⟩) nn (cc+rm q) aN _ W7
          refine Ad (v:=.slice (q.map fun L=>⟨L.b,L.pre.length,none⟩) nn (cc+rm q)) (w':=w) hw ?_ ?_
          ·unfold execOp
           simp only [resolve,invoke,builtin,γ4,γ6,α9,θ0,ζ0,ι7,←Bb,hr]
          ·have A2:=A.rowMove (w':=w) (p':=q) (m':=nn+0) (c':=cc) (xs':=xs++[]) hi ⟨rfl,rfl,rfl,β8 _,fun _ _ _=>rfl⟩ (by simpa using r4) r2 (.inl (by rw [hq];rfl)) Li Be
           subst vZ
           refine⟨_,?_,A2.ms⟩
           unfold den
           rw [α1 (by rw [A.mem.len];exact β8 _),A.mem.len]
           simp
         ·obtain⟨L,vs0,b1,_⟩:=g2 0 (by omega)
          rw [DB b1]at C8
          simp only [δ0,β1]at C8
          have hmul:(nn+mm)*b≤2000000*10000:=μ2 (by omega) PS
          obtain⟨v',w',hr,k1,k2,_,k4⟩:=τ0 (P:=P) w 0 t ty e ie z s b f1' f2' f3' f4' f5' f6' f7' _ nn xs r4 ⟨L.b,L.pre.length,none⟩ mm (mc+rm (some L)) ys iB
           (fun j u hj=>by
            obtain⟨k,r,us,d1,d2,d3,d4⟩:=Gt (f:=fun k=>f' (nn+k)) (fun k=>Be _) W6 j u hj
            obtain⟨L',us',b1',b2',b3'⟩:=g2 k (by omega)
            rw [b1]at b1';cases b1'
            rw [hn k d1,b2']at d2
            cases d2
            have:=b3' r u d3
            rw [ζ3,d4,←η4]
            exact this)
           (fun u hu=>by
            obtain⟨j,hj⟩:=κ2.1 hu
            obtain⟨k,r,us,d1,d2,d3,d4⟩:=Gt (f:=fun k=>f' (nn+k)) (fun k=>Be _) W6 j u hj
            rw [hn k d1]at d2
            obtain⟨E,o1,o2⟩:=Bc k d1
            exact δ3.1 (Cq o1 o2 d2) u (θ1 d3))
           (by simp only [maxLen];omega) (by omega) (β7 _)
          obtain⟨p',o1,o2,o3⟩:=JQ k1
          rw [ZI]at k2 k4
          rw [o3]at k4
          rw [o1]at k1
          refine Ad (v:=v') (w':=w') hw ?_ ?_
          ·unfold execOp
           simp only [resolve,invoke,builtin,γ4,γ6,α9,θ0,ζ0,ι7,←Bb,←C8,hr]
          ·have A2:=A.rowMove (p':=p') hi (by rw [hq];exact k2) k1 o2 (by rw [hq];exact k4) Li Be
           refine⟨_,?_,A2.ms⟩
           unfold den
           rw [α1 (by rw [A.mem.len];exact β8 _),A.mem.len]
           simp [o1]
        ·cases h
       ·cases h
      ·cases h
     ·cases h
    ·cases h
   ·cases h
  ·cases h
 ·cases h
theorem cC {i e s m c nn cc mm mb mc:Nat} {f g:Nat→List SV} (hY:Y.ok P=true) (m':Nat) (f':Nat→List SV) (A:Sy n T H ks G0 w0 G a w) (h:Xs Y n ops T H o=some ((i,e,s,m,c),f,(mm,mb,mc),g,(nn,cc))) (h1:nn=m) (h2:cc=c) (vZ:c=0) (yT:mm≤mb) (hb:m≤1000000) (UA:mm≤1000000) (PR:m'=m+mm)
  (hf:∀k,k<m→f' k=f k) (hn:∀k,k<mm→f' (m+k)=g k) (Be:∀k,∃vs,AO [] (f' k)=some vs∧vs.length=s) (Bc:∀k,k<mm→∃E,FU (g k)=some E∧Dc E)
  (hk:∀{G a w},Sy n (BN T o.dst (.sl H.length m' 0)) (CE H i none++[some (.row e s m' 0 f')]) ks G0 w0 G a w→Goal P Q K (.ops ops rest) a w):Goal P Q K (.ops ops (o::rest)) a w:=
 Af A (by unfold Xs at h;split at h<;>first|assumption|cases h) (HV hY m' f' h h1 h2 vZ yT hb UA PR hf hn Be Bc) hk
end
end
section
open Go.RowKit
section
variable {n:Nat}{T:List (Nat×SV)}{H:Hp}{ks:ae}{G0:Gr}{w0:World}{G:Gr}{a:Act}{w:World}
end
section
variable {n:Nat}{T:List (Nat×SV)}{H:Hp}{ks:ae}{G0:Gr}{w0:World}{G:Gr}{a:Act}{w:World}
theorem KX {G:Gr}{x y:SV}(h:den G x=den G y):∀(l r:List SV),AO G (l++x::r)=AO G (l++y::r)
 | [],r=>by
  show AO G (x::r)=AO G (y::r)
  unfold AO;rw [h]
 |z::l,r=>by
  show AO G (z::(l++x::r))=AO G (z::(l++y::r))
  unfold AO;rw [KX h l r]
end
end
namespace Mc
open Go.RowKit
set_option simprocs false
abbrev Fc (x:SV)(a:Int)(r:Nat→Int):List SV:=[x,.int .i64 a,.int .i64 (r 0),.int .i64 (r 1),.int .i64 (r 2),.int .i64 (r 3),.int .i64 (r 4),.int .i64 (r 5),.int .i64 (r 6),.int .i64 (r 7)]
theorem xT {a b:Bool}{o1:Int}{c:Bool}(h:(!(((a&&(decide (o1≥0)))&&b)&&c))=false):0≤o1:=by
 simp at h;exact h.1.1.2
theorem Uu (s1:Int)(hs:s1=1∨s1=2∨s1=4∨s1=8):Fn Tryz.prog 172 [.n9 s1] [] (Rt (.int .i64 (IntKind.wrap .i64 ((IntKind.wrap .i64 (1*2^min ((IntKind.wrap .i64 (8*s1))).toNat (IntKind.bits .i64))) - 1))) []):=
 AR (n:=7) (by kernel_rfl) Tryz.func172 U U U fun G w a h0 A=>M hX 15 A U (AE (by first|omega|(rcases hs with rfl|rfl|rfl|rfl<;>decide))<|AB) fun A=>R9 A U h0 U U U
def Ah (o1 x1 s1:Int):Int:=if(!((((s1==1)||(s1==2))||(s1==4))||(s1==8)))=true then(-1)else IntKind.wrap .i64 ((((BitVec.ofInt (IntKind.bits .i64) (IntKind.wrap .i64 ((((BitVec.ofInt (IntKind.bits .i64) (IntKind.wrap .i64 (o1+x1)))&&&(BitVec.ofInt (IntKind.bits .i64) 7)).toNat:Nat):Int)))&&& ~~~ (BitVec.ofInt (IntKind.bits .i64) (IntKind.wrap .i64 (s1 - 1)))).toNat:Nat):Int)
theorem Nb (o1 x1 s1:Int):Fn Tryz.prog 173 [.n9 o1,.n9 x1,.n9 s1] [] (Rt (.int .i64 (Ah o1 x1 s1)) []):=
 AR (n:=19) (by kernel_rfl) Tryz.func173 U U U fun G w a h0 A=>M hX 9 A U U fun A=>C9 [] (NV s1) A U fun A=>M hX 3 A U U fun A=>fork 10 A U
  (fun h1 A=>M hX 7 A U U fun A=>R9 A U h0 U (by simp only [Am,nb,B5,Bx,Ah,if_pos h1]) U)
  (fun h1 A=>M hX 22 A U U fun A=>R9 A U h0 U (by simp only [Am,nb,B5,Bx,Ah,if_neg (α7 h1)]) U)
def BX (o1 s1:Int):Int:=if(!(((((((s1==1)||(s1==2))||(s1==4))||(s1==8))&&(decide (o1≥0)))&&(decide (o1≤(IntKind.wrap .i64 (8 - s1)))))&&((Int.tmod o1 s1)==0)))=true then 0 else IntKind.wrap .i64 ((IntKind.wrap .i64 ((IntKind.wrap .i64 (1*2^min s1.toNat (IntKind.bits .i64))) - 1))*2^min o1.toNat (IntKind.bits .i64))
theorem P8 (o1 s1:Int)(hs:s1=1∨s1=2∨s1=4∨s1=8):Fn Tryz.prog 174 [.n9 o1,.n9 s1] [] (Rt (.int .i64 (BX o1 s1)) []):=
 AR (n:=14) (by kernel_rfl) Tryz.func174 U U U fun G w a h0 A=>M hX 10 A U U fun A=>C9 [] (JV o1 s1) A U fun A=>M hX 3 A U U fun A=>fork 8 A U
  (fun h1 A=>M hX 7 A U U fun A=>R9 A U h0 U (by simp only [Am,nb,B5,Bx,BX,if_pos h1]) U)
  (fun h1 A=>M hX 14 A U (AE (by have:=xT h1;omega)<|AE (by have:=xT h1;omega)<|AB) fun A=>R9 A U h0 U (by simp only [Am,nb,B5,Bx,BX,if_neg (α7 h1)]) U)
def Bm (v1 s1:Int):Int:=if(!(((((((s1==1)||(s1==2))||(s1==4))||(s1==8))&&(decide ((0:Int)≥0)))&&(decide (0≤(IntKind.wrap .i64 (8 - s1)))))&&((Int.tmod 0 s1)==0)))=true then 0 else IntKind.wrap .i64 ((((BitVec.ofInt (IntKind.bits .i64) (Int.fdiv v1 (2^min ((IntKind.wrap .i64 (8*0))).toNat (IntKind.bits .i64))))&&&(BitVec.ofInt (IntKind.bits .i64) (IntKind.wrap .i64 ((IntKind.wrap .i64 (1*2^min ((IntKind.wrap .i64 (8*s1))).toNat (IntKind.bits .i64))) - 1)))).toNat:Nat):Int)
theorem Rd (v1 s1:Int)(hs:s1=1∨s1=2∨s1=4∨s1=8):Fn Tryz.prog 130 [.n9 v1,.z9,.n9 s1] [] (Rt (.int .i64 (Bm v1 s1)) []):=
 AR (n:=18) (by kernel_rfl) Tryz.func130 U U U fun G w a h0 A=>M hX 10 A U U fun A=>C9 [] (JV 0 s1) A U fun A=>M hX 3 A U U fun A=>fork 10 A U
  (fun h1 A=>M hX 7 A U U fun A=>R9 A U h0 U (by simp only [Am,nb,B5,Bx,Bm,if_pos h1]) U)
  (fun h1 A=>M hX 4 A U U fun A=>bM hX BW [(5,.n9 (IntKind.wrap .i64 ((IntKind.wrap .i64 (1*2^min ((IntKind.wrap .i64 (8*s1))).toNat (IntKind.bits .i64))) - 1)))] [] A U (AE (by first|decide|omega)<|AB) U U (by kernel_rfl) (An _ _) ⟨.inl ⟨_,_,rfl,rfl,Uu s1 hs⟩,trivial⟩ fun A=>M hX 2 A U U fun A=>R9 A U h0 U (by simp only [Am,nb,B5,Bx,Bm,if_neg (α7 h1)]) U)
def Hh (fn a1 b1:Int):Int:=if fn=1 then IntKind.wrap .i64 (a1+b1)else if fn=2 then IntKind.wrap .i64 (a1 - b1)else if fn=3 then IntKind.wrap .i64 ((((BitVec.ofInt (IntKind.bits .i64) a1)^^^(BitVec.ofInt (IntKind.bits .i64) b1)).toNat:Nat):Int)else if fn=4 then IntKind.wrap .i64 ((((BitVec.ofInt (IntKind.bits .i64) a1)&&&(BitVec.ofInt (IntKind.bits .i64) b1)).toNat:Nat):Int)else if fn=5 then IntKind.wrap .i64 ((((BitVec.ofInt (IntKind.bits .i64) a1)|||(BitVec.ofInt (IntKind.bits .i64) b1)).toNat:Nat):Int)else 0
theorem kZ (fn a1 b1:Int):Fn Tryz.prog 169 [.n9 fn,.n9 a1,.n9 b1] [] (Rt (.int .i64 (Hh fn a1 b1)) []):=
 AR (n:=33) (by kernel_rfl) Tryz.func169 U U U fun G w a h0 A=>M hX 18 A U U fun A=>AV 8 A U
  (fun h1 A=>M hX 10 A U U fun A=>R9 A U h0 U (by simp only [Am,nb,B5,Bx,Hh,if_pos h1]) U)
  (fun h1 A=>M hX 7 A U U fun A=>AV 13 A U
   (fun h2 A=>M hX 10 A U U fun A=>R9 A U h0 U (by simp only [Am,nb,B5,Bx,Hh,if_neg (h1),if_pos h2]) U)
   (fun h2 A=>M hX 7 A U U fun A=>AV 18 A U
    (fun h3 A=>M hX 10 A U U fun A=>R9 A U h0 U (by simp only [Am,nb,B5,Bx,Hh,if_neg (h1),if_neg (h2),if_pos h3]) U)
    (fun h3 A=>M hX 7 A U U fun A=>AV 23 A U
     (fun h4 A=>M hX 10 A U U fun A=>R9 A U h0 U (by simp only [Am,nb,B5,Bx,Hh,if_neg (h1),if_neg (h2),if_neg (h3),if_pos h4]) U)
     (fun h4 A=>M hX 7 A U U fun A=>AV 28 A U
      (fun h5 A=>M hX 10 A U U fun A=>R9 A U h0 U (by simp only [Am,nb,B5,Bx,Hh,if_neg (h1),if_neg (h2),if_neg (h3),if_neg (h4),if_pos h5]) U)
      (fun h5 A=>M hX 10 A U U fun A=>R9 A U h0 U (by simp only [Am,nb,B5,Bx,Hh,if_neg (h1),if_neg (h2),if_neg (h3),if_neg (h4),if_neg (h5)]) U)))))
abbrev Fe (ao:ak)(l:List In):Dl:=AP ao 17 l.length (fun zz=>Ce (l.getD zz In.z))
def DD (r:Rg)(g o1:Int):Int:=if g= -1 then o1 else r g.toNat
theorem LA (l:List In)(ao:ak)(cp:Nat)(at_:Int)(r:Rg)(g o1:Int)(hg: -1≤g∧g<8):Fn Tryz.prog 170 [.ptr 0 0,.n9 g,.n9 o1] [O (Fc (.sla ao l.length cp) at_ r)] (Rt (.int .i64 (DD r g o1)) [O (Fc (.sla ao l.length cp) at_ r)]):=
 AR (n:=16) (by kernel_rfl) Tryz.func170 U U U fun G w a h0 A=>N9 12 A U U fun A=>AV 8 A U
  (fun h1 A=>N9 8 A U U fun A=>R9 A U h0 U (by unfold DD;rw [if_pos h1]<;>rfl) U)
  (fun h1 A=>N9 10 A U (AE (by omega)<|AB) fun A=>Af A U (Sp (r:=r) hX U U U U U U U (by omega)) fun A=>N9 4 A U U fun A=>R9 A U h0 U (by unfold DD;rw [if_neg h1]<;>rfl) U)
theorem LB (l:List In)(ao:ak)(cp:Nat)(at_:Int)(r:Rg)(D6:0≤at_∧at_≤((l.length:Nat):Int)):BQ (Fe ao l) Tryz.prog 104 [.ptr 0 0] [O (Fc (.sla ao l.length cp) at_ r)] (Rt (.tup [.agg (AZ (l.getD at_.toNat In.z)),.bool (!(at_==((l.length:Nat):Int)))]) [O (Fc (.sla ao l.length cp) at_ r)]):=
 Aa (n:=25) (by kernel_rfl) Tryz.func104 U U U fun G w a h0 hI A=>N9 8 A U U fun A=>A9 hX BW [] [] A U U U U (by kernel_rfl) (An _ _) trivial fun A=>N9 1 A U U fun A=>AV 13 A U
  (fun h1 A=>N9 9 A U U fun A=>R9 A U h0 U (by rw [h1,α6,α8,γ5 (β8 _),beq_self_eq_true];rfl) U)
  (fun h1 A=>N9 4 A U U fun A=>GL BW [.ptr 0 0,.ptr 0 0,.ptr 0 0,.sla ao l.length cp,.ptr 0 0,.ptr 0 0,.ptr 0 1,.n9 at_,.v (.pointer (Sq ao 17 at_)),.agg (AZ (l.getD at_.toNat In.z)),.tup [],.tt] [10] [] 0 [([],[],[O (Fc (.sla ao l.length cp) at_ r),O [.z9,.z9,.z9,.z9,.z9,.z9,.z9,.z9,.z9,.z9,.ff,.ff,.ff,.z9,.z9,.z9,.ff]]),([10],[],[O (Fc (.sla ao l.length cp) at_ r),O (AZ (l.getD at_.toNat In.z))])] [[true,true,true,true,true,true,true,true,true,true,true,false],[false,false,false,false,false,false,false,false,false,false,false,true]] A U U U U (by kernel_rfl) U (by kernel_rfl) ⟨⟨AJ 0 U U,⟨AJ 0 U U,⟨AJ 0 U U,⟨AJ 0 U U,⟨AJ 0 U U,⟨AJ 0 U U,⟨AJ 0 U U,⟨AJ 0 U U,⟨BB 0 U (Fb (e:=63) U U U U hI (by kernel_rfl) (by omega)),⟨BB 0 U (K9 (Ce (l.getD at_.toNat In.z)) hX U U U hI (by omega) U U),⟨BB 1 U (AT (X:=⟨_,true⟩) (out:=.upd 1 (AZ (l.getD at_.toNat In.z)) _) hX U U),trivial⟩⟩⟩⟩⟩⟩⟩⟩⟩⟩⟩,⟨⟨AJ 1 U U,trivial⟩,trivial⟩⟩ fun A=>N9 2 A U U fun A=>R9 A U h0 U (by rw [δ7.2 h1];rfl) U)
end Mc
namespace Mc
open Go.RowKit
def Nc (i:In):Bool:=Bs i.op i.dst i.ra i.rb i.imm i.loc i.off i.ix i.sz i.fn i.acq i.weak i.rel i.pred i.succ i.to_ i.zero
def Sr (i:In):Bool:=CH i.op i.dst i.ra i.rb i.imm i.loc i.off i.ix i.sz i.fn i.acq i.weak i.rel i.pred i.succ i.to_ i.zero
theorem E3 {i:In}{a n:Int}(h:Zh i a n=0):Nc i=true∧(i.op=9→a<i.to_∧i.to_≤n):=by
 unfold Zh Fy at h
 split at h
 ·omega
 ·next h1=>
  split at h
  ·omega
  ·next h2=>
   refine⟨?_,fun h9=>?_⟩
   ·cases hs:Nc i with
    |true=>rfl
    |false=>unfold Nc at hs;rw [hs]at h1;simp at h1
   ·rw [h9]at h2
    simp at h2
    omega
structure Uv (i:In):Prop where
 op:1≤i.op∧i.op≤9
 d:(i.op=1∨i.op=2∨i.op=3∨i.op=4∨i.op=6)→0≤i.dst∧i.dst<8
 a:(i.op=2∨i.op=3∨i.op=6∨i.op=9)→0≤i.ra∧i.ra<8
 a5:i.op=5→ -1≤i.ra∧i.ra<8
 b:i.op=3→ -1≤i.rb∧i.rb<8
 x:(i.op=4∨i.op=5∨i.op=6)→ -1≤i.ix∧i.ix<8
theorem Uw {r:Int}(h:Cm r=true): -1≤r∧r<8:=by
 unfold Cm at h
 split at h
 ·omega
 ·simp at h;omega
theorem P9 {i:In}(h:Sr i=true): -1≤i.ix∧i.ix<8:=by
 unfold Sr CH at h
 split at h
 ·split at h
  ·split at h
   ·next h1=>exact Uw h1
   ·cases h
  ·cases h
 ·cases h
theorem cD {i:In}(h:Nc i=true):Uv i:=by
 unfold Nc Bs at h
 by_cases h1:i.op=1
 ·rw [if_pos h1]at h;simp at h
  exact⟨by omega,fun _=>by omega,fun h=>by omega,fun h=>by omega,fun h=>by omega,fun h=>by omega⟩
 rw [if_neg h1]at h
 by_cases h2:i.op=2
 ·rw [if_pos h2]at h
  split at h
  ·next q=>simp at h q;exact⟨by omega,fun _=>by omega,fun _=>by omega,fun h=>by omega,fun h=>by omega,fun h=>by omega⟩
  ·cases h
 rw [if_neg h2]at h
 by_cases h3:i.op=3
 ·rw [if_pos h3]at h
  split at h
  ·next q=>
   split at h
   ·next q2=>simp at h q q2;have:=Uw h.1.1;exact⟨by omega,fun _=>by omega,fun _=>by omega,fun h=>by omega,fun _=>by omega,fun h=>by omega⟩
   ·cases h
  ·cases h
 rw [if_neg h3]at h
 by_cases h4:i.op=4
 ·rw [if_pos h4]at h
  split at h
  ·next q=>rw [α3]at h;simp at q;have:=P9 h.1;exact⟨by omega,fun _=>by omega,fun h=>by omega,fun h=>by omega,fun h=>by omega,fun _=>by omega⟩
  ·cases h
 rw [if_neg h4]at h
 by_cases h5:i.op=5
 ·rw [if_pos h5]at h
  split at h
  ·next q=>have:=Uw q;have:=P9 h;exact⟨by omega,fun h=>by omega,fun h=>by omega,fun _=>by omega,fun h=>by omega,fun _=>by omega⟩
  ·cases h
 rw [if_neg h5]at h
 by_cases h6:i.op=6
 ·rw [if_pos h6]at h
  split at h
  ·next q=>
   split at h
   ·next q2=>rw [α3]at h;simp at q q2;have:=P9 h.1;exact⟨by omega,fun _=>by omega,fun _=>by omega,fun h=>by omega,fun h=>by omega,fun _=>by omega⟩
   ·cases h
  ·cases h
 rw [if_neg h6]at h
 by_cases h7:i.op=7
 ·exact⟨by omega,fun h=>by omega,fun h=>by omega,fun h=>by omega,fun h=>by omega,fun h=>by omega⟩
 rw [if_neg h7]at h
 by_cases h8:i.op=8
 ·exact⟨by omega,fun h=>by omega,fun h=>by omega,fun h=>by omega,fun h=>by omega,fun h=>by omega⟩
 rw [if_neg h8]at h
 by_cases h9:i.op=9
 ·rw [if_pos h9]at h;simp at h
  exact⟨by omega,fun h=>by omega,fun _=>by omega,fun h=>by omega,fun h=>by omega,fun h=>by omega⟩
 rw [if_neg h9]at h
 cases h
theorem Ux {i:In}(h:Sr i=true):i.sz=1∨i.sz=2∨i.sz=4∨i.sz=8:=by
 unfold Sr CH at h
 split at h
 ·split at h
  ·split at h
   ·unfold K5 at h
    split at h
    ·cases h
    ·next h1=>
     rw [τ5,σ3,α3,α3,α3,β9,β9,β9]at h1
     simp only [ε5]at h1
     rcases h1.1.1.1 with((h|h)|h)|h
     ·exact .inl h
     ·exact .inr (.inl h)
     ·exact .inr (.inr (.inl h))
     ·exact .inr (.inr (.inr h))
   ·cases h
  ·cases h
 ·cases h
theorem cE {i:In}(h:Nc i=true)(ho:i.op=4∨i.op=5∨i.op=6):i.sz=1∨i.sz=2∨i.sz=4∨i.sz=8:=by
 unfold Nc Bs at h
 rw [if_neg (by omega),if_neg (by omega),if_neg (by omega)]at h
 rcases ho with ho|ho|ho
 ·rw [if_pos ho]at h
  split at h
  ·rw [α3]at h;exact Ux h.1
  ·cases h
 ·rw [if_neg (by omega),if_pos ho]at h
  split at h
  ·exact Ux h
  ·cases h
 ·rw [if_neg (by omega),if_neg (by omega),if_pos ho]at h
  split at h
  ·split at h
   ·rw [α3]at h;exact Ux h.1
   ·cases h
  ·cases h
structure Fo (l:List In):Prop where
 n:l.length≤8
 r:∀k,k<l.length→Zh (l.getD k In.z) (k:Int) ((l.length:Nat):Int)=0
theorem Fo.snd {l:List In}(h:Fo l){k:Nat}(hk:k<l.length):Uv (l.getD k In.z):=cD (E3 (h.r k hk)).1
theorem Fo.brs {l:List In}(h:Fo l){k:Nat}(hk:k<l.length)(h9:(l.getD k In.z).op=9):(k:Int)<(l.getD k In.z).to_∧(l.getD k In.z).to_≤((l.length:Nat):Int):=(E3 (h.r k hk)).2 h9
theorem Fo.szs {l:List In}(h:Fo l){k:Nat}(hk:k<l.length)(ho:(l.getD k In.z).op=4∨(l.getD k In.z).op=5∨(l.getD k In.z).op=6):(l.getD k In.z).sz=1∨(l.getD k In.z).sz=2∨(l.getD k In.z).sz=4∨(l.getD k In.z).sz=8:=cE (E3 (h.r k hk)).1 ho
theorem FJ {cs:List AD}(h:Me cs=0):(1≤cs.length∧cs.length≤3)∧∀c∈cs,Fo c.l:=by
 unfold Me at h
 split at h
 ·omega
 ·next h0=>
  simp at h0
  refine⟨by omega,?_⟩
  cases h1:Ia cs with
  |some k=>rw [h1]at h;simp at h
  | none=>
   rw [h1]at h
   have hb1:=Ib h1
   cases h2:JY cs with
   | some k=>
    rw [h2]at h
    exfalso
    unfold JY at h2
    have h3:=υ3 h2
    cases h4:GR (cs.getD k AD.z)with
    |none=>rw [h4]at h3;cases h3
    |some q=>
     simp only [h4,δ2]at h
     unfold GR at h4
     have h5:=υ3 h4
     rw [h]at h5
     cases h5
   | none=>
    intro c hc
    refine⟨hb1 c hc,fun k hk=>?_⟩
    obtain⟨j,hj⟩:=List.getElem?_of_mem hc
    have hl:=(α0.1 hj).1
    unfold JY at h2
    rw [μ3]at h2
    have h3:=h2 j (ζ8.2 hl)
    rw [α8,hj]at h3
    simp only [δ2]at h3
    cases h4:GR c with
    |some q=>rw [h4]at h3;exact absurd U h3
    |none=>
     unfold GR at h4
     rw [μ3]at h4
     have h5:=h4 k (ζ8.2 hk)
     simpa using h5
def Fp (at_:Int)(r:Rg)(i:In):Int:=if i.op=9 then(if(r i.ra.toNat==0)=i.zero then i.to_ else at_+1)else at_+1
def ID (r:Rg)(i:In):Rg:=if i.op=1 then AX r i.dst.toNat i.imm else if i.op=2 then AX r i.dst.toNat (r i.ra.toNat)else if i.op=3 then AX r i.dst.toNat (Hh i.fn (r i.ra.toNat) (DD r i.rb i.imm))else r
def H4 (i:In):Bool:=(i.op==4)||(i.op==5)||(i.op==6)||(i.op==7)||(i.op==8)
structure Th where (at_:Nat) (r:Rg)
def LC (l:List In):Nat→Th→Th
 |0,s=>s
 |f+1,s=>if s.at_<l.length∧H4 (l.getD s.at_ In.z)=false then LC l f ⟨(Fp (s.at_:Int) s.r (l.getD s.at_ In.z)).toNat,ID s.r (l.getD s.at_ In.z)⟩else s
def FK (l:List In)(s:Th):Th:=LC l l.length s
def Gb (l:List In)(z:Th):Th:=⟨(Fp ((z.at_:Nat):Int) z.r (l.getD ((z.at_:Nat):Int).toNat In.z)).toNat,ID z.r (l.getD ((z.at_:Nat):Int).toNat In.z)⟩
theorem KY {l:List In}{z:Th}(hc:Fo l)(h1:z.at_<l.length):(z.at_:Int)<Fp ((z.at_:Nat):Int) z.r (l.getD z.at_ In.z)∧Fp ((z.at_:Nat):Int) z.r (l.getD z.at_ In.z)≤((l.length:Nat):Int):=by
 unfold Fp
 split
 ·next h9=>
  have:=hc.brs h1 h9
  split<;>omega
 ·omega
structure SI (l:List In)(s z:Th):Prop where
 le:z.at_≤l.length
 eq:∃f,l.length - z.at_≤f∧LC l f z=FK l s
theorem SI.i0 {l:List In}{s:Th}(h:s.at_≤l.length):SI l s s:=⟨h,l.length,Nat.sub_le _ _,rfl⟩
theorem SI.nx {l:List In}{s z:Th}(h:SI l s z)(hc:Fo l)(h1:((z.at_:Nat):Int)≠((l.length:Nat):Int))(h2:(!(H4 (l.getD ((z.at_:Nat):Int).toNat In.z)))=true):SI l s (Gb l z)∧l.length - (Gb l z).at_<l.length - z.at_:=by
 have BU:z.at_<l.length:=by have:=h.le;omega
 have hr:=KY (z:=z) hc BU
 have e:(Gb l z).at_=(Fp ((z.at_:Nat):Int) z.r (l.getD z.at_ In.z)).toNat:=rfl
 have hb:z.at_<(Gb l z).at_∧(Gb l z).at_≤l.length:=by rw [e];omega
 have GX:H4 (l.getD z.at_ In.z)=false:=by
  have:H4 (l.getD ((z.at_:Nat):Int).toNat In.z)=false:=by simpa using h2
  exact this
 obtain⟨f,hf,he⟩:=h.eq
 refine⟨⟨hb.2,?_⟩,by omega⟩
 cases f with
 |zero=>omega
 |succ f=>
  refine⟨f,by omega,?_⟩
  rw [←he]
  show _=LC l (f+1) z
  rw [LC,if_pos ⟨BU,GX⟩]
  rfl
theorem Ss {l:List In}{z:Th}(h:¬(z.at_<l.length∧H4 (l.getD z.at_ In.z)=false)):∀f,LC l f z=z
 |0=>rfl
 |f+1=>by rw [LC,if_neg h]
theorem SI.fin {l:List In}{s z:Th}(h:SI l s z)(hn:¬(z.at_<l.length∧H4 (l.getD z.at_ In.z)=false)):FK l s=z:=by
 obtain⟨f,_,he⟩:=h.eq
 rw [←he,Ss hn]
theorem SI.f1 {l:List In}{s z:Th}(h:SI l s z)(h1:((z.at_:Nat):Int)=((l.length:Nat):Int)):FK l s=z:=h.fin (by omega)
theorem SI.f2 {l:List In}{s z:Th}(h:SI l s z)(h2:(!(H4 (l.getD ((z.at_:Nat):Int).toNat In.z)))=false):FK l s=z:=h.fin (fun q=>by
 have e:H4 (l.getD ((z.at_:Nat):Int).toNat In.z)=false:=q.2
 rw [e]at h2;cases h2)
theorem Re {l:List In}(hc:Fo l):∀f s,s.at_≤l.length→(LC l f s).at_≤l.length
 |0,s,h=>h
 | f+1,s,h=>by
  rw [LC]
  split
  ·next q=>
   have hr:=KY (z:=s) hc q.1
   exact Re hc f _ (by show(Fp _ _ _).toNat≤_;omega)
  ·exact h
theorem Rf {l:List In}(hc:Fo l){s:Th}(h:s.at_≤l.length):(FK l s).at_≤l.length:=Re hc _ s h
def Jb (r:Rg)(i:In)(old:Int):Rg:=if((i.op==4)||(i.op==6))=true then AX r i.dst.toNat (Bm old i.sz)else r
def Uy (l:List In)(s:Th)(old:Int):Th:=if s.at_=l.length then s else FK l ⟨s.at_+1,Jb s.r (l.getD s.at_ In.z) old⟩
theorem cF {l:List In}(hc:Fo l){s:Th}(h:s.at_≤l.length)(old:Int):(Uy l s old).at_≤l.length:=by
 unfold Uy
 split
 ·exact h
 ·exact Rf hc (by show s.at_+1≤_;omega)
def CK (i:In):Bool:=(i.op==4)||(i.op==5)||(i.op==6)
def Jq (i:In):Int:=if CK i=true then i.loc else 0
def Jr (r:Rg)(i:In):Int:=if CK i=true then BX (Ah i.off (DD r i.ix 0) i.sz) i.sz else 0
def BR (r:Rg)(i:In):Int:=if CK i=true then(if i.op=5 then Bm (DD r i.ra i.imm) i.sz else if i.op=6 then r i.ra.toNat else 0)else 0
end Mc
namespace Mc
open Go.RowKit
set_option simprocs false
theorem k7 (i:In):Fn Tryz.prog 168 [.agg (AZ i)] [] (Rt (.bool (CK i)) []):=
 AR (n:=9) (by kernel_rfl) Tryz.func168 U U U fun G w a h0 A=>N9 9 A U U fun A=>C9 [] (NU i.op i.dst i.ra i.rb i.imm i.loc i.off i.ix i.sz i.fn i.acq i.weak i.rel i.pred i.succ i.to_ i.zero) A U fun A=>N9 1 A U U fun A=>fork 5 A U
  (fun h1 A=>N9 7 A U U fun A=>R9 A U h0 U (by rw [show CK i=true from(by revert h1;simp only [CK,H4]<;>(cases(i.op==4)<;>cases(i.op==5)<;>cases(i.op==6)<;>cases(i.op==7)<;>cases(i.op==8)<;>first|rfl|simp))];rfl) U)
  (fun h1 A=>N9 1 A U U fun A=>C9 [] (KT i.op i.dst i.ra i.rb i.imm i.loc i.off i.ix i.sz i.fn i.acq i.weak i.rel i.pred i.succ i.to_ i.zero) A U fun A=>N9 5 A U U fun A=>R9 A U h0 U (congrArg SV.bool (by revert h1;simp only [CK,H4]<;>(cases(i.op==4)<;>cases(i.op==5)<;>cases(i.op==6)<;>cases(i.op==7)<;>cases(i.op==8)<;>first|rfl|simp))) U)
theorem cG (i:In):Fn Tryz.prog 127 [.agg (AZ i)] [] (Rt (.bool (H4 i)) []):=
 AR (n:=15) (by kernel_rfl) Tryz.func127 U U U fun G w a h0 A=>N9 9 A U U fun A=>C9 [] (k7 i) A U fun A=>N9 14 A U U fun A=>R9 A U h0 U (congrArg SV.bool (by simp only [CK,H4]<;>(cases(i.op==4)<;>cases(i.op==5)<;>cases(i.op==6)<;>cases(i.op==7)<;>cases(i.op==8)<;>first|rfl|simp))) U
theorem Uz (l:List In)(ao:ak)(cp:Nat)(at_:Int)(r:Rg)(i:In)(D6:0≤at_∧at_≤1000)(hd:i.op=1∨i.op=2∨i.op=3→0≤i.dst∧i.dst<8)(ha:i.op=2∨i.op=3∨i.op=9→0≤i.ra∧i.ra<8)(hb:i.op=3→ -1≤i.rb∧i.rb<8):Fn Tryz.prog 128 [.ptr 0 0,.agg (AZ i)] [O (Fc (.sla ao l.length cp) at_ r)] (Rt (.tup []) [O (Fc (.sla ao l.length cp) (Fp at_ r i) (ID r i))]):=
 AR (n:=80) (by kernel_rfl) Tryz.func128 U U U fun G w a h0 A=>N9 18 A U (AE (by omega)<|AB) fun A=>N9 12 A U U fun A=>AV 13 A U
  (fun h1 A=>N9 1 A U U fun A=>A9 hX BW [] [(8,.tup [],[O (Fc (.sla ao l.length cp) (at_+1) (AX r (i.dst).toNat i.imm)),O (AZ i)])] A U (AE (by omega)<|AB) U U (by kernel_rfl) ⟨X1 (i:=0) (r:=r) hX U U U U U U U U (by first|exact hd (by omega)|exact ha (by omega)|exact hb (by omega)),trivial⟩ trivial fun A=>N9 1 A U U fun A=>GP (R9 A U h0 U U (by have e1:Fp at_ r i=_:=(by unfold Fp;rw [if_neg (by omega)]<;>rfl);have e2:ID r i=_:=(by unfold ID;rw [if_pos h1]<;>rfl);rw [e1,e2]<;>rfl)))
  (fun h1 A=>N9 7 A U U fun A=>AV 23 A U
   (fun h2 A=>N9 1 A U U fun A=>GL BW [.ptr 0 0,.ptr 1 1,.n9 i.dst,.ptr 0 0,.ptr 1 2,.n9 i.ra,.ptr 0 0,.ptr 0 2,.ix (.ptr 0 2) 1 8 i.ra 0,.n9 (r (i.ra).toNat),.ptr 0 0,.ptr 0 2,.ix (.ptr 0 2) 1 8 i.dst 0,.tup []] [13] [] 0 [([],[],[O (Fc (.sla ao l.length cp) (at_+1) r),O (AZ i)]),([13],[],[O (Fc (.sla ao l.length cp) (at_+1) (AX r (i.dst).toNat (r (i.ra).toNat))),O (AZ i)])] [[true,true,true,true,true,true,true,true,true,true,true,true,true,true],[false,false,false,false,false,false,false,false,false,false,true,true,false,false]] A U U U U (by kernel_rfl) U (by kernel_rfl) ⟨⟨AJ 0 U U,⟨AJ 0 U U,⟨AJ 0 U U,⟨AJ 0 U U,⟨AJ 0 U U,⟨AJ 0 U U,⟨AJ 0 U U,⟨AJ 0 U U,⟨AJ 0 U (AE (by omega)<|AB),⟨BB 0 U (Sp (r:=r) hX U U U U U U U (by first|exact hd (by omega)|exact ha (by omega)|exact hb (by omega))),⟨AJ 0 U U,⟨AJ 0 U U,⟨AJ 0 U (AE (by omega)<|AB),⟨BB 1 U (X1 (i:=0) (r:=r) hX U U U U U U U U (by first|exact hd (by omega)|exact ha (by omega)|exact hb (by omega))),trivial⟩⟩⟩⟩⟩⟩⟩⟩⟩⟩⟩⟩⟩⟩,⟨⟨AJ 1 U U,⟨AJ 1 U U,trivial⟩⟩,trivial⟩⟩ fun A=>N9 1 A U U fun A=>GP (R9 A U h0 U U (by have e1:Fp at_ r i=_:=(by unfold Fp;rw [if_neg (by omega)]<;>rfl);have e2:ID r i=_:=(by unfold ID;rw [if_neg (by omega),if_pos h2]<;>rfl);rw [e1,e2]<;>rfl)))
   (fun h2 A=>N9 7 A U U fun A=>AV 38 A U
    (fun h3 A=>N9 1 A U U fun A=>GL BW [.ptr 0 0,.ptr 1 1,.n9 i.dst,.ptr 1 9,.n9 i.fn,.ptr 0 0,.ptr 1 2,.n9 i.ra,.ptr 0 0,.ptr 0 2,.ix (.ptr 0 2) 1 8 i.ra 0,.n9 (r (i.ra).toNat),.ptr 0 0,.ptr 1 3,.n9 i.rb,.ptr 1 4,.n9 i.imm,.n9 (DD r i.rb i.imm),.n9 (Hh i.fn (r (i.ra).toNat) (DD r i.rb i.imm)),.ptr 0 0,.ptr 0 2,.ix (.ptr 0 2) 1 8 i.dst 0,.tup []] [17,22] [] 0 [([],[],[O (Fc (.sla ao l.length cp) (at_+1) r),O (AZ i)]),([17],[],[O (Fc (.sla ao l.length cp) (at_+1) r),O (AZ i)]),([17,22],[],[O (Fc (.sla ao l.length cp) (at_+1) (AX r (i.dst).toNat (Hh i.fn (r (i.ra).toNat) (DD r i.rb i.imm)))),O (AZ i)])] [[true,true,true,true,true,true,true,true,true,true,true,true,true,true,true,true,true,true,false,true,true,false,false],[true,true,true,true,true,true,true,true,true,true,true,true,false,true,false,true,false,false,true,true,true,true,true],[false,false,false,false,false,false,false,false,false,false,false,false,false,false,false,false,false,false,false,true,true,false,false]] A U U U U (by kernel_rfl) U (by kernel_rfl) ⟨⟨AJ 0 U U,⟨AJ 0 U U,⟨AJ 0 U U,⟨AJ 0 U U,⟨AJ 0 U U,⟨AJ 0 U U,⟨AJ 0 U U,⟨AJ 0 U U,⟨AJ 0 U U,⟨AJ 0 U U,⟨AJ 0 U (AE (by omega)<|AB),⟨BB 0 U (Sp (r:=r) hX U U U U U U U (by first|exact hd (by omega)|exact ha (by omega)|exact hb (by omega))),⟨AJ 0 U U,⟨AJ 0 U U,⟨AJ 0 U U,⟨AJ 0 U U,⟨AJ 0 U U,⟨BB 1 U (Ef [0] (LA l ao cp (at_+1) r i.rb i.imm (by first|exact hd (by omega)|exact ha (by omega)|exact hb (by omega))) U U U U U U U),⟨AJ 0 U U,⟨AJ 0 U U,trivial⟩⟩⟩⟩⟩⟩⟩⟩⟩⟩⟩⟩⟩⟩⟩⟩⟩⟩⟩⟩,⟨⟨AJ 1 U U,⟨AJ 1 U U,⟨AJ 1 U U,⟨AJ 1 U U,⟨AJ 1 U U,⟨AJ 1 U U,⟨AJ 1 U U,⟨AJ 1 U U,⟨AJ 1 U U,⟨AJ 1 U U,⟨AJ 1 U (AE (by omega)<|AB),⟨BB 1 U (Sp (r:=r) hX U U U U U U U (by first|exact hd (by omega)|exact ha (by omega)|exact hb (by omega))),⟨AJ 1 U U,⟨AJ 1 U U,⟨BB 1 U (Ct U U (kZ i.fn (r (i.ra).toNat) (DD r i.rb i.imm))),⟨AJ 1 U U,⟨AJ 1 U U,⟨AJ 1 U (AE (by omega)<|AB),⟨BB 2 U (X1 (i:=0) (r:=r) hX U U U U U U U U (by first|exact hd (by omega)|exact ha (by omega)|exact hb (by omega))),trivial⟩⟩⟩⟩⟩⟩⟩⟩⟩⟩⟩⟩⟩⟩⟩⟩⟩⟩⟩,⟨⟨AJ 2 U U,⟨AJ 2 U U,trivial⟩⟩,trivial⟩⟩⟩ fun A=>N9 1 A U U fun A=>GP (R9 A U h0 U U (by have e1:Fp at_ r i=_:=(by unfold Fp;rw [if_neg (by omega)]<;>rfl);have e2:ID r i=_:=(by unfold ID;rw [if_neg (by omega),if_neg (by omega),if_pos h3]<;>rfl);rw [e1,e2]<;>rfl)))
    (fun h3 A=>N9 7 A U U fun A=>AV 62 A U
     (fun h4 A=>N9 2 A U U fun A=>GL BW [.ptr 0 0,.ptr 1 2,.n9 i.ra,.ptr 0 0,.ptr 0 2,.ix (.ptr 0 2) 1 8 i.ra 0,.n9 (r (i.ra).toNat),.bool ((r (i.ra).toNat)==0),.ptr 1 16,.bool i.zero,.bool (((r (i.ra).toNat)==0)==i.zero)] [] [] 0 [([],[],[O (Fc (.sla ao l.length cp) (at_+1) r),O (AZ i)])] [[true,true,true,true,true,true,true,true,true,true,true]] A U U U U (by kernel_rfl) U (by kernel_rfl) ⟨⟨AJ 0 U U,⟨AJ 0 U U,⟨AJ 0 U U,⟨AJ 0 U U,⟨AJ 0 U U,⟨AJ 0 U (AE (by omega)<|AB),⟨BB 0 U (Sp (r:=r) hX U U U U U U U (by first|exact hd (by omega)|exact ha (by omega)|exact hb (by omega))),⟨AJ 0 U U,⟨AJ 0 U U,⟨AJ 0 U U,⟨AJ 0 U U,trivial⟩⟩⟩⟩⟩⟩⟩⟩⟩⟩⟩,trivial⟩ fun A=>N9 1 A U U fun A=>AV 74 A U
      (fun h5 A=>N9 10 A U U fun A=>GP (R9 A U h0 U U (by have e1:Fp at_ r i=_:=(by unfold Fp;rw [if_pos h4,if_pos h5]<;>rfl);have e2:ID r i=_:=(by unfold ID;rw [if_neg (by omega),if_neg (by omega),if_neg (by omega)]<;>rfl);rw [e1,e2]<;>rfl)))
      (fun h5 A=>N9 3 A U U fun A=>GP (R9 A U h0 U U (by have e1:Fp at_ r i=_:=(by unfold Fp;rw [if_pos h4,if_neg h5]<;>rfl);have e2:ID r i=_:=(by unfold ID;rw [if_neg (by omega),if_neg (by omega),if_neg (by omega)]<;>rfl);rw [e1,e2]<;>rfl))))
     (fun h4 A=>N9 3 A U U fun A=>GP (R9 A U h0 U U (by have e1:Fp at_ r i=_:=(by unfold Fp;rw [if_neg (by omega)]<;>rfl);have e2:ID r i=_:=(by unfold ID;rw [if_neg (by omega),if_neg (by omega),if_neg (by omega)]<;>rfl);rw [e1,e2]<;>rfl))))))
end Mc
section
open Go.RowKit
def k8 (o:Oper)(j:Nat):List Oper→Nat→Bool
 | [],_=>true
 |q::r,i=>(Nat.beq i j||waits o i||waits q j)&&k8 o j r (i+1)
def k9 (l:ai)(t:Nat):List Oper→Nat→Bool
 | [],_=>true
 |o::r,j=>(match o.dst with|some d=> !Nat.beq d t||k8 o j l 0|none=>true)&&k9 l t r (j+1)
def i7 (l:ai):List (Nat×SV)→Bool
 | []=>true
 |p::T=>k9 l p.1 l 0&&i7 l T
theorem Ov {o:Oper}{j:Nat}:∀{r:ai} {k:Nat},k8 o j r k=true→∀(i:Nat) (q:Oper),r[i]?=some q→k+i≠j→waits o (k+i)=true∨waits q j=true
 | [],_,_,_,_,h,_=>by cases h
 | p::r,k,h,i,q,hi,Bw=>by
  simp only [k8,α3,β9]at h
  cases i with
  |zero=>
   cases hi
   rcases h.1 with(h1|h1)|h1
   ·exact absurd (α5 h1) (by simpa using Bw)
   ·exact .inl (by simpa using h1)
   ·exact .inr h1
  |succ i=>rw [show k+(i+1)=k+1+i by omega]at Bw⊢;exact Ov h.2 i q (by simpa using hi) Bw
theorem Ow {l:ai}{t:Nat}:∀{r:ai} {k:Nat},k9 l t r k=true→∀(j:Nat) (o:Oper),r[j]?=some o→o.dst=some t→k8 o (k+j) l 0=true
 | [],_,_,_,_,h,_=>by cases h
 |p::r,k,h,j,o,hj,hd=>by
  simp only [k9,α3]at h
  cases j with
  |zero=>cases hj;have:=h.1;rw [hd]at this;simpa using this
  |succ j=>rw [show k+(j+1)=k+1+j by omega];exact Ow h.2 j o (by simpa using hj) hd
theorem Ox {l:ai}:∀{T:List (Nat×SV)} {t:Nat} {x:SV},i7 l T=true→look T t=some x→k9 l t l 0=true
 | [],_,_,_,h=>by cases h
 |(k,y)::T,t,x,hT,h=>by
  simp only [i7,α3]at hT
  unfold look at h
  cases hk:Nat.beq k t with
  |true=>have:=α5 hk;subst this;exact hT.1
  |false=>rw [hk]at h;exact Ox hT.2 h
theorem Rh {l:ai}{T:List (Nat×SV)}{t:Nat}{x:SV}{j i:Nat}{o q:Oper}(ZE:i7 l T=true)(hx:look T t=some x)(h3:l[j]?=some o)(h4:o.dst=some t)(hq:l[i]?=some q)(Bw:i≠j):waits o i=true∨waits q j=true:=by
 have:=Ov (Ow (Ox ZE hx) j o h3 h4) i q hq (by simpa using Bw)
 simpa using this
section
variable {P:Program}{X:Tx}{n:Nat}{ks:ae}{G0:Gr}{w0:World}{T:List (Nat×SV)}{l:ai}{xs:List SV}{Q:ab}{ef rs0:ae}{tb:List (List Nat×List Nat×Hp)}
theorem cH {id:Nat} {H HE:Hp} {G:Gr} {a:Act} {w:World} {K:List Fr} (BW:P.follows .mixedOrders=true) (xs:List SV) (ef rs0:ae) (m:Nat) (tb:List (List Nat×List Nat×Hp)) (B:List (List Bool)) (A:Sy n T H ks G0 w0 G a w)
  (h0:tb[0]?=some ([],rs0,H++List.replicate m none)) (hE:So ef tb=some HE) (SK:(rs0.all fun r=>Nat.ble H.length r)=true) (aM:(ef.all fun p=>Nat.blt p l.length)=true) (hB:(tb.map fun s=>K7 l.toArray ef s.1 l 0)=B) (hl:xs.length=l.length) (FQ:Kj l.toArray n []=true)
  (ZE:i7 l T=true) (hO:kX P n ks G0 w0 T l xs ef tb B tb) (hk:∀{G a w},Sy n (JN l xs T) HE ks G0 w0 G a w→Goal P Q K .norm a w):Goal P Q K (.code (.region id l.toArray true)) a w:=by
 refine π7 BW ?_
 have iN:Ms H ks G0 w0 G w.drew:=A.ms.grow (By.refl w).drew
 rw [δ3]at SK aM
 refine Ut (P:=P) (xs:=xs) (T:=T) (ef:=ef) (rs0:=rs0) (tb:=tb) FQ (fun t x hx j o h3 h4 i q hq Bw=>Rh ZE hx h3 h4 hq Bw) (fun t x hx r hr=>?_) hl (fun k c rs H hk i o hi hm=>?_) (fun k c rs H' Dz GZ G a w A'=>?_) _ _ _ _ 0 [] rs0 _ (G++List.replicate m none) (by simp) (by
  refine β3 (μ4 _ _) (by simp)) h0 ⟨A.size,A.defers,fun t x hx _=>Ax _ x (A.get t x hx),fun j o x _ hj=>?_,Sy.pad (a:=a) iN m,fun p hp=>?_,fun p hp=>absurd hp (by simp),fun r hr=>hr,fun j o p _ hj=>?_⟩
 ·have:=SK r hr
  rw [A.mem.len]at this
  exact P6 (G:=G) (δ8 this) x (A.get t x hx)
 ·have:=NZ (P5 (by rw [hB];exact hO) k c rs H hk) i o hi (by rw [δ1];exact hm)
  rwa [δ1]at this
 ·have h2:(ef.all c.contains)=true:=by
   rw [δ3]
   intro p hp
   have:=GZ p hp (by have:=aM p hp;simpa [μ7]using this)
   simpa using this
  cases HK hE k c rs H' Dz h2
  exact hk A'
 ·exfalso;simp [β5,ε6]at hj;split at hj<;>simp at hj
 ·constructor
  ·intro hj;exfalso;simp [β5,ε6]at hj;split at hj<;>simp at hj
  ·intro hj;cases hj
 ·exfalso;simp [β5,ε6]at hj;split at hj<;>simp at hj
end
end
namespace Mc
open Go.RowKit
set_option simprocs false
theorem Su (l:List In)(ao:ak)(cp:Nat)(z:Th)(hc:Fo l)(hle:z.at_≤l.length)(h1:((z.at_:Nat):Int)≠((l.length:Nat):Int))(h2:(!(H4 (l.getD ((z.at_:Nat):Int).toNat In.z)))=true):Fn Tryz.prog 128 [.ptr 0 0,.agg (Ce (l.getD ((z.at_:Nat):Int).toNat In.z))] [O (Fc (.sla ao l.length cp) ((z.at_:Nat):Int) z.r)] (Rt (.tup []) [O (Fc (.sla ao l.length cp) (((Gb l z).at_:Nat):Int) ((Gb l z).r))]):=by
 have BU:z.at_<l.length:=by omega
 have hr:=KY (z:=z) hc BU
 have hs:=hc.snd BU
 have hn:=hc.n
 have e:Fp ((z.at_:Nat):Int) z.r (l.getD ((z.at_:Nat):Int).toNat In.z)=(((Gb l z).at_:Nat):Int):=by
  show Fp ((z.at_:Nat):Int) z.r (l.getD z.at_ In.z)=(((Fp ((z.at_:Nat):Int) z.r (l.getD z.at_ In.z)).toNat:Nat):Int)
  omega
 have h:=Uz l ao cp ((z.at_:Nat):Int) z.r (l.getD ((z.at_:Nat):Int).toNat In.z) (by omega) (fun q=>hs.d (by show _∨_;have q':(l.getD z.at_ In.z).op=1∨(l.getD z.at_ In.z).op=2∨(l.getD z.at_ In.z).op=3:=q;omega)) (fun q=>hs.a (by show _∨_;have q':(l.getD z.at_ In.z).op=2∨(l.getD z.at_ In.z).op=3∨(l.getD z.at_ In.z).op=9:=q;omega)) (fun q=>hs.b q)
 rw [e]at h
 exact h
abbrev AW (l:List In)(s:Th):In:=l.getD (((s.at_:Nat):Int)).toNat In.z
theorem U0 (l:List In)(ao:ak)(cp:Nat)(s:Th)(hc:Fo l)(D6:s.at_≤l.length):BQ (Fe ao l) Tryz.prog 88 [.ptr 0 0] [O (Fc (.sla ao l.length cp) ((s.at_:Nat):Int) s.r)] (Rt (.tup []) [O (Fc (.sla ao l.length cp) (((FK l s).at_:Nat):Int) ((FK l s).r))]):=
 Aa (n:=24) (by kernel_rfl) Tryz.func88 U U U fun G w a h0 hI A=>N9 3 A U U fun A=>I9 [0] AP.ok hI (LB l ao cp ((s.at_:Nat):Int) s.r (by omega)) A U fun A=>N9 9 A U U fun A=>Bq (fun(z:Th)=>[(0,.ptr 0 0),(2,.ptr 1 0),(3,.bool (!(((z.at_:Nat):Int)==((l.length:Nat):Int))))]) (fun(z:Th)=>[O (Fc (.sla ao l.length cp) ((z.at_:Nat):Int) z.r),O (AZ (l.getD (((z.at_:Nat):Int)).toNat In.z))]) (fun(z:Th)=>SI l s z) (fun(z:Th)=>l.length - z.at_) s (SI.i0 D6) ((A.cut [0,2,3] U).trunc 2 U U U (by simp only [β0,β2]at h0;omega)) fun z hJ {G a w} A=>N9 5 A U U fun A=>FY 10 A U
   (fun h1 A=>N9 1 A U U fun A=>C9 [] (cG (l.getD (((z.at_:Nat):Int)).toNat In.z)) A U fun A=>N9 4 A U U fun A=>fork 14 A U
    (fun h2 A=>N9 8 A U U fun A=>C9 [0] (Su l ao cp z hc hJ.le h1 h2) A U fun A=>N9 16 A U U fun A=>I9 [0] AP.ok hI (LB l ao cp (((Gb l z).at_:Nat):Int) ((Gb l z).r) (by have hq:=(hJ.nx hc h1 h2).1.le;omega)) A U fun A=>N9 6 A U U fun A=>⟨Gb l z,_,(hJ.nx hc h1 h2).2,(hJ.nx hc h1 h2).1,((A.cut [0,2,3] U).mv 1 [2] U U U U (by simp only [β0,β2]at h0;omega))⟩)
    (fun h2 A=>N9 2 A U U fun A=>GP (R9 A U h0 U U (by rw [hJ.f2 h2]<;>rfl))))
   (fun h1 A=>N9 8 A U U fun A=>GP (R9 A U h0 U U (by rw [hJ.f1 h1]<;>rfl)))
theorem Nd (l:List In)(ao:ak)(cp:Nat)(at_:Int)(r:Rg)(hc:Fo l)(D6:0≤at_∧at_≤((l.length:Nat):Int)):BQ (Fe ao l) Tryz.prog 88 [.ptr 0 0] [O (Fc (.sla ao l.length cp) at_ r)] (Rt (.tup []) [O (Fc (.sla ao l.length cp) (((FK l ⟨at_.toNat,r⟩).at_:Nat):Int) ((FK l ⟨at_.toNat,r⟩).r))]):=by
 obtain⟨k,rfl⟩:=Int.eq_ofNat_of_zero_le D6.1
 exact U0 l ao cp ⟨k,r⟩ hc (by show k≤_;omega)
theorem sF {a b:Int}(h:(!(!(a==b)))=true):a=b:=by simpa using h
theorem L9 {a b:Int}(h:(!(!(a==b)))=false):a≠b:=by simpa using h
theorem X2 {i:In}(h:(!(CK i))=false):CK i=true:=by simpa using h
theorem U1 {i:In}(h:(!(CK i))=false):i.op=4∨i.op=5∨i.op=6:=by
 have h:=X2 h
 unfold CK at h
 simp at h
 omega
theorem zJ {l:List In}{s:Th}(h:((s.at_:Nat):Int)=((l.length:Nat):Int)):(SV.tup [.agg [.n9 (Jq (l.getD ((s.at_:Nat):Int).toNat In.z)),.n9 (Jr s.r (l.getD ((s.at_:Nat):Int).toNat In.z))],.n9 (BR s.r (l.getD ((s.at_:Nat):Int).toNat In.z)),.bool (CK (l.getD ((s.at_:Nat):Int).toNat In.z))])=.tup [.agg [.z9,.z9],.z9,.bool false]:=by
 have e:l.getD ((s.at_:Nat):Int).toNat In.z=In.z:=by rw [α8,γ5 (by omega)];rfl
 rw [e];rfl
theorem zK {i:In}{r:Rg}(h:(!(CK i))=true):(SV.tup [.agg [.n9 (Jq i),.n9 (Jr r i)],.n9 (BR r i),.bool (CK i)])=.tup [.agg [.z9,.z9],.z9,.bool false]:=by
 have e:CK i=false:=by simpa using h
 unfold Jq Jr BR
 rw [e];rfl
theorem sG {l:List In}{s:Th}(hc:Fo l)(D6:s.at_≤l.length)(h1:((s.at_:Nat):Int)≠((l.length:Nat):Int))(h2:(!(CK (l.getD ((s.at_:Nat):Int).toNat In.z)))=false):((l.getD ((s.at_:Nat):Int).toNat In.z).sz=1∨(l.getD ((s.at_:Nat):Int).toNat In.z).sz=2∨(l.getD ((s.at_:Nat):Int).toNat In.z).sz=4∨(l.getD ((s.at_:Nat):Int).toNat In.z).sz=8)∧(-1≤(l.getD ((s.at_:Nat):Int).toNat In.z).ix∧(l.getD ((s.at_:Nat):Int).toNat In.z).ix<8)∧((l.getD ((s.at_:Nat):Int).toNat In.z).op=5→ -1≤(l.getD ((s.at_:Nat):Int).toNat In.z).ra∧(l.getD ((s.at_:Nat):Int).toNat In.z).ra<8)∧((l.getD ((s.at_:Nat):Int).toNat In.z).op=6→0≤(l.getD ((s.at_:Nat):Int).toNat In.z).ra∧(l.getD ((s.at_:Nat):Int).toNat In.z).ra<8):=by
 have BU:s.at_<l.length:=by omega
 have ho:=U1 h2
 have hs:=hc.snd BU
 exact⟨hc.szs BU ho,hs.x ho,fun q=>hs.a5 q,fun q=>hs.a (.inr (.inr (.inl q)))⟩
theorem Hi {l:List In}{s:Th}(hc:Fo l)(D6:s.at_≤l.length)(h1:((s.at_:Nat):Int)≠((l.length:Nat):Int))(h2:(!(CK (AW l s)))=false):((AW l s).sz=1∨(AW l s).sz=2∨(AW l s).sz=4∨(AW l s).sz=8)∧(-1≤(AW l s).ix∧(AW l s).ix<8)∧((AW l s).op=5→ -1≤(AW l s).ra∧(AW l s).ra<8)∧((AW l s).op=6→0≤(AW l s).ra∧(AW l s).ra<8):=sG hc D6 h1 h2
theorem lA (l:List In)(ao:ak)(cp:Nat)(s:Th)(hc:Fo l)(D6:s.at_≤l.length):BQ (Fe ao l) Tryz.prog 131 [.ptr 0 0] [O (Fc (.sla ao l.length cp) ((s.at_:Nat):Int) s.r)] (Rt (.tup [.agg [.n9 (Jq (AW l s)),.n9 (Jr s.r (AW l s))],.n9 (BR s.r (AW l s)),.bool (CK (AW l s))]) [O (Fc (.sla ao l.length cp) ((s.at_:Nat):Int) s.r)]):=
 Aa (n:=59) (by kernel_rfl) Tryz.func131 U U U fun G w a h0 hI A=>N9 10 A U U fun A=>I9 [0] AP.ok hI (LB l ao cp ((s.at_:Nat):Int) s.r (by omega)) A U fun A=>N9 14 A U U fun A=>fork 14 A U
  (fun h1 A=>N9 16 A U U fun A=>R9 A U h0 U (by rw [zJ (sF h1)]<;>rfl) U)
  (fun h1 A=>N9 1 A U U fun A=>C9 [] (k7 (AW l s)) A U fun A=>N9 4 A U U fun A=>fork 18 A U
   (fun h2 A=>N9 10 A U U fun A=>R9 A U h0 U (by rw [zK h2]<;>rfl) U)
   (fun h2 A=>N9 17 A U U fun A=>AV 22 A U
    (fun h3 A=>N9 1 A U U fun A=>A9 hX BW [(8,.n9 (Bm (DD s.r ((AW l s).ra) ((AW l s).imm)) ((AW l s).sz)))] [(5,.n9 (DD s.r ((AW l s).ra) ((AW l s).imm)),[O (Fc (.sla ao l.length cp) ((s.at_:Nat):Int) s.r),O [.z9,.z9],O (AZ (AW l s))])] A U U U U (by kernel_rfl) ⟨Ef [0] (LA l ao cp ((s.at_:Nat):Int) s.r ((AW l s).ra) ((AW l s).imm) (by have q:=Hi hc D6 (L9 h1) h2;have o:=U1 h2;first|exact q.1|exact q.2.1|exact q.2.2.1 (by assumption)|exact q.2.2.2 (by omega)|omega)) U U U U U U U,trivial⟩ ⟨.inl ⟨_,_,rfl,rfl,Rd (DD s.r ((AW l s).ra) ((AW l s).imm)) ((AW l s).sz) (by have q:=Hi hc D6 (L9 h1) h2;have o:=U1 h2;first|exact q.1|exact q.2.1|exact q.2.2.1 (by assumption)|exact q.2.2.2 (by omega)|omega)⟩,trivial⟩ fun A=>N9 3 A U U fun A=>A9 hX BW [(8,.n9 (Ah ((AW l s).off) (DD s.r ((AW l s).ix) 0) ((AW l s).sz)))] [(5,.n9 (DD s.r ((AW l s).ix) 0),[O (Fc (.sla ao l.length cp) ((s.at_:Nat):Int) s.r),O [.z9,.z9],O (AZ (AW l s))])] A U U U U (by kernel_rfl) ⟨Ef [0] (LA l ao cp ((s.at_:Nat):Int) s.r ((AW l s).ix) 0 (by have q:=Hi hc D6 (L9 h1) h2;have o:=U1 h2;first|exact q.1|exact q.2.1|exact q.2.2.1 (by assumption)|exact q.2.2.2 (by omega)|omega)) U U U U U U U,trivial⟩ ⟨.inl ⟨_,_,rfl,rfl,Nb ((AW l s).off) (DD s.r ((AW l s).ix) 0) ((AW l s).sz)⟩,trivial⟩ fun A=>N9 2 A U U fun A=>have A:=A.cut [0,2,3,4,5,6,7,8,9,10,11,12,13,14,15,16,17,18,20,21,22,23,24,25,26,27,28,29,30,31,32,42,43,44,45,46,47,48,49,50] U;cH BW [.ptr 2 5,.n9 ((AW l s).loc),.n9 (Ah ((AW l s).off) (DD s.r ((AW l s).ix) 0) ((AW l s).sz)),.ptr 2 8,.n9 ((AW l s).sz),.n9 (BX (Ah ((AW l s).off) (DD s.r ((AW l s).ix) 0) ((AW l s).sz)) ((AW l s).sz)),.agg [.n9 ((AW l s).loc),.n9 (BX (Ah ((AW l s).off) (DD s.r ((AW l s).ix) 0) ((AW l s).sz)) ((AW l s).sz))],.n9 (Bm (DD s.r ((AW l s).ra) ((AW l s).imm)) ((AW l s).sz)),.tup [],.n9 (Bm (DD s.r ((AW l s).ra) ((AW l s).imm)) ((AW l s).sz)),.tt] [8] [] 0 [([],[],[O (Fc (.sla ao l.length cp) ((s.at_:Nat):Int) s.r),O [.z9,.z9],O (AZ (AW l s))]),([8],[],[O (Fc (.sla ao l.length cp) ((s.at_:Nat):Int) s.r),O [.n9 ((AW l s).loc),.n9 (BX (Ah ((AW l s).off) (DD s.r ((AW l s).ix) 0) ((AW l s).sz)) ((AW l s).sz))],O (AZ (AW l s))])] [[true,true,true,true,true,true,true,true,true,false,false],[false,false,false,false,false,false,false,true,false,true,true]] A U U U U (by kernel_rfl) U (by kernel_rfl) (by kernel_rfl) ⟨⟨AJ 0 U U,⟨AJ 0 U U,⟨AJ 0 U U,⟨AJ 0 U U,⟨AJ 0 U U,⟨BB 0 U (Ct U U (P8 (Ah ((AW l s).off) (DD s.r ((AW l s).ix) 0) ((AW l s).sz)) ((AW l s).sz) (by have q:=Hi hc D6 (L9 h1) h2;have o:=U1 h2;first|exact q.1|exact q.2.1|exact q.2.2.1 (by assumption)|exact q.2.2.2 (by omega)|omega))),⟨AJ 0 U U,⟨AJ 0 U U,⟨BB 1 U (AT (X:=⟨_,true⟩) (out:=.upd 1 [.n9 ((AW l s).loc),.n9 (BX (Ah ((AW l s).off) (DD s.r ((AW l s).ix) 0) ((AW l s).sz)) ((AW l s).sz))] _) hX U U),trivial⟩⟩⟩⟩⟩⟩⟩⟩⟩,⟨⟨AJ 1 U U,⟨AJ 1 U U,⟨AJ 1 U U,trivial⟩⟩⟩,trivial⟩⟩ fun A=>N9 2 A U U fun A=>R9 A U h0 U (by have hm:=X2 h2;unfold Jq Jr BR;rw [hm,if_pos U,if_pos U,if_pos U,if_pos h3]<;>rfl) U)
    (fun h3 A=>N9 7 A U U fun A=>AV 33 A U
     (fun h4 A=>N9 1 A U U fun A=>GL BW [.ptr 0 0,.ptr 2 2,.n9 ((AW l s).ra),.ptr 0 0,.ptr 0 2,.ix (.ptr 0 2) 1 8 ((AW l s).ra) 0,.n9 (s.r ((AW l s).ra).toNat),.n9 (s.r ((AW l s).ra).toNat)] [] [] 0 [([],[],[O (Fc (.sla ao l.length cp) ((s.at_:Nat):Int) s.r),O [.z9,.z9],O (AZ (AW l s))])] [[true,true,true,true,true,true,true,true]] A U U U U (by kernel_rfl) U (by kernel_rfl) ⟨⟨AJ 0 U U,⟨AJ 0 U U,⟨AJ 0 U U,⟨AJ 0 U U,⟨AJ 0 U U,⟨AJ 0 U (AE (by have q:=Hi hc D6 (L9 h1) h2;have o:=U1 h2;first|exact q.1|exact q.2.1|exact q.2.2.1 (by assumption)|exact q.2.2.2 (by omega)|omega)<|AB),⟨BB 0 U (Sp (r:=s.r) hX U U U U U U U (by have q:=Hi hc D6 (L9 h1) h2;have o:=U1 h2;first|exact q.1|exact q.2.1|exact q.2.2.1 (by assumption)|exact q.2.2.2 (by omega)|omega)),⟨AJ 0 U U,trivial⟩⟩⟩⟩⟩⟩⟩⟩,trivial⟩ fun A=>N9 3 A U U fun A=>A9 hX BW [(8,.n9 (Ah ((AW l s).off) (DD s.r ((AW l s).ix) 0) ((AW l s).sz)))] [(5,.n9 (DD s.r ((AW l s).ix) 0),[O (Fc (.sla ao l.length cp) ((s.at_:Nat):Int) s.r),O [.z9,.z9],O (AZ (AW l s))])] A U U U U (by kernel_rfl) ⟨Ef [0] (LA l ao cp ((s.at_:Nat):Int) s.r ((AW l s).ix) 0 (by have q:=Hi hc D6 (L9 h1) h2;have o:=U1 h2;first|exact q.1|exact q.2.1|exact q.2.2.1 (by assumption)|exact q.2.2.2 (by omega)|omega)) U U U U U U U,trivial⟩ ⟨.inl ⟨_,_,rfl,rfl,Nb ((AW l s).off) (DD s.r ((AW l s).ix) 0) ((AW l s).sz)⟩,trivial⟩ fun A=>N9 2 A U U fun A=>have A:=A.cut [0,2,3,4,5,6,7,8,9,10,11,12,13,14,15,16,17,18,20,21,22,23,33,34,35,36,37,38,39,40,41,42,43,44,45,46,47,48,49,50] U;cH BW [.ptr 2 5,.n9 ((AW l s).loc),.n9 (Ah ((AW l s).off) (DD s.r ((AW l s).ix) 0) ((AW l s).sz)),.ptr 2 8,.n9 ((AW l s).sz),.n9 (BX (Ah ((AW l s).off) (DD s.r ((AW l s).ix) 0) ((AW l s).sz)) ((AW l s).sz)),.agg [.n9 ((AW l s).loc),.n9 (BX (Ah ((AW l s).off) (DD s.r ((AW l s).ix) 0) ((AW l s).sz)) ((AW l s).sz))],.n9 (s.r ((AW l s).ra).toNat),.tup [],.n9 (s.r ((AW l s).ra).toNat),.tt] [8] [] 0 [([],[],[O (Fc (.sla ao l.length cp) ((s.at_:Nat):Int) s.r),O [.z9,.z9],O (AZ (AW l s))]),([8],[],[O (Fc (.sla ao l.length cp) ((s.at_:Nat):Int) s.r),O [.n9 ((AW l s).loc),.n9 (BX (Ah ((AW l s).off) (DD s.r ((AW l s).ix) 0) ((AW l s).sz)) ((AW l s).sz))],O (AZ (AW l s))])] [[true,true,true,true,true,true,true,true,true,false,false],[false,false,false,false,false,false,false,true,false,true,true]] A U U U U (by kernel_rfl) U (by kernel_rfl) (by kernel_rfl) ⟨⟨AJ 0 U U,⟨AJ 0 U U,⟨AJ 0 U U,⟨AJ 0 U U,⟨AJ 0 U U,⟨BB 0 U (Ct U U (P8 (Ah ((AW l s).off) (DD s.r ((AW l s).ix) 0) ((AW l s).sz)) ((AW l s).sz) (by have q:=Hi hc D6 (L9 h1) h2;have o:=U1 h2;first|exact q.1|exact q.2.1|exact q.2.2.1 (by assumption)|exact q.2.2.2 (by omega)|omega))),⟨AJ 0 U U,⟨AJ 0 U U,⟨BB 1 U (AT (X:=⟨_,true⟩) (out:=.upd 1 [.n9 ((AW l s).loc),.n9 (BX (Ah ((AW l s).off) (DD s.r ((AW l s).ix) 0) ((AW l s).sz)) ((AW l s).sz))] _) hX U U),trivial⟩⟩⟩⟩⟩⟩⟩⟩⟩,⟨⟨AJ 1 U U,⟨AJ 1 U U,⟨AJ 1 U U,trivial⟩⟩⟩,trivial⟩⟩ fun A=>N9 2 A U U fun A=>R9 A U h0 U (by have hm:=X2 h2;unfold Jq Jr BR;rw [hm,if_pos U,if_pos U,if_pos U,if_neg h3,if_pos h4]<;>rfl) U)
     (fun h4 A=>N9 5 A U U fun A=>A9 hX BW [(8,.n9 (Ah ((AW l s).off) (DD s.r ((AW l s).ix) 0) ((AW l s).sz)))] [(5,.n9 (DD s.r ((AW l s).ix) 0),[O (Fc (.sla ao l.length cp) ((s.at_:Nat):Int) s.r),O [.z9,.z9],O (AZ (AW l s))])] A U U U U (by kernel_rfl) ⟨Ef [0] (LA l ao cp ((s.at_:Nat):Int) s.r ((AW l s).ix) 0 (by have q:=Hi hc D6 (L9 h1) h2;have o:=U1 h2;first|exact q.1|exact q.2.1|exact q.2.2.1 (by assumption)|exact q.2.2.2 (by omega)|omega)) U U U U U U U,trivial⟩ ⟨.inl ⟨_,_,rfl,rfl,Nb ((AW l s).off) (DD s.r ((AW l s).ix) 0) ((AW l s).sz)⟩,trivial⟩ fun A=>N9 2 A U U fun A=>have A:=A.cut [0,2,3,4,5,6,7,8,9,10,11,12,13,14,15,16,17,18,20,21,22,23,33,34,42,43,44,45,46,47,48,49,50] U;cH BW [.ptr 2 5,.n9 ((AW l s).loc),.n9 (Ah ((AW l s).off) (DD s.r ((AW l s).ix) 0) ((AW l s).sz)),.ptr 2 8,.n9 ((AW l s).sz),.n9 (BX (Ah ((AW l s).off) (DD s.r ((AW l s).ix) 0) ((AW l s).sz)) ((AW l s).sz)),.agg [.n9 ((AW l s).loc),.n9 (BX (Ah ((AW l s).off) (DD s.r ((AW l s).ix) 0) ((AW l s).sz)) ((AW l s).sz))],.z9,.tup [],.z9,.tt] [8] [] 0 [([],[],[O (Fc (.sla ao l.length cp) ((s.at_:Nat):Int) s.r),O [.z9,.z9],O (AZ (AW l s))]),([8],[],[O (Fc (.sla ao l.length cp) ((s.at_:Nat):Int) s.r),O [.n9 ((AW l s).loc),.n9 (BX (Ah ((AW l s).off) (DD s.r ((AW l s).ix) 0) ((AW l s).sz)) ((AW l s).sz))],O (AZ (AW l s))])] [[true,true,true,true,true,true,true,true,true,false,false],[false,false,false,false,false,false,false,true,false,true,true]] A U U U U (by kernel_rfl) U (by kernel_rfl) (by kernel_rfl) ⟨⟨AJ 0 U U,⟨AJ 0 U U,⟨AJ 0 U U,⟨AJ 0 U U,⟨AJ 0 U U,⟨BB 0 U (Ct U U (P8 (Ah ((AW l s).off) (DD s.r ((AW l s).ix) 0) ((AW l s).sz)) ((AW l s).sz) (by have q:=Hi hc D6 (L9 h1) h2;have o:=U1 h2;first|exact q.1|exact q.2.1|exact q.2.2.1 (by assumption)|exact q.2.2.2 (by omega)|omega))),⟨AJ 0 U U,⟨AJ 0 U U,⟨BB 1 U (AT (X:=⟨_,true⟩) (out:=.upd 1 [.n9 ((AW l s).loc),.n9 (BX (Ah ((AW l s).off) (DD s.r ((AW l s).ix) 0) ((AW l s).sz)) ((AW l s).sz))] _) hX U U),trivial⟩⟩⟩⟩⟩⟩⟩⟩⟩,⟨⟨AJ 1 U U,⟨AJ 1 U U,⟨AJ 1 U U,trivial⟩⟩⟩,trivial⟩⟩ fun A=>N9 2 A U U fun A=>R9 A U h0 U (by have hm:=X2 h2;unfold Jq Jr BR;rw [hm,if_pos U,if_pos U,if_pos U,if_neg h3,if_neg h4]<;>rfl) U))))
theorem U2 {l:List In}{s:Th}(hc:Fo l)(D6:s.at_≤l.length)(h1:((s.at_:Nat):Int)≠((l.length:Nat):Int))(h2:(((l.getD ((s.at_:Nat):Int).toNat In.z).op==4)||((l.getD ((s.at_:Nat):Int).toNat In.z).op==6))=true):((l.getD ((s.at_:Nat):Int).toNat In.z).sz=1∨(l.getD ((s.at_:Nat):Int).toNat In.z).sz=2∨(l.getD ((s.at_:Nat):Int).toNat In.z).sz=4∨(l.getD ((s.at_:Nat):Int).toNat In.z).sz=8)∧(0≤(l.getD ((s.at_:Nat):Int).toNat In.z).dst∧(l.getD ((s.at_:Nat):Int).toNat In.z).dst<8):=by
 have BU:s.at_<l.length:=by omega
 have ho:(l.getD s.at_ In.z).op=4∨(l.getD s.at_ In.z).op=6:=by
  have h3:(((l.getD s.at_ In.z).op==4)||((l.getD s.at_ In.z).op==6))=true:=h2
  simp at h3
  exact h3
 have hs:=hc.snd BU
 exact⟨hc.szs BU (by rcases ho with h|h;exact .inl h;exact .inr (.inr h)),hs.d (by rcases ho with h|h;exact .inr (.inr (.inr (.inl h)));exact .inr (.inr (.inr (.inr h))))⟩
theorem lB (l:List In)(ao:ak)(cp:Nat)(s:Th)(old:Int)(hc:Fo l)(D6:s.at_≤l.length):BQ (Fe ao l) Tryz.prog 91 [.ptr 0 0,.n9 old] [O (Fc (.sla ao l.length cp) ((s.at_:Nat):Int) s.r)] (Rt (.bool (!(((s.at_:Nat):Int)==((l.length:Nat):Int)))) [O (Fc (.sla ao l.length cp) (((Uy l s old).at_:Nat):Int) ((Uy l s old).r))]):=
 Aa (n:=35) (by kernel_rfl) Tryz.func91 U U U fun G w a h0 hI A=>N9 8 A U U fun A=>I9 [0] AP.ok hI (LB l ao cp ((s.at_:Nat):Int) s.r (by omega)) A U fun A=>N9 15 A U U fun A=>fork 13 A U
  (fun h1 A=>N9 7 A U U fun A=>R9 A U h0 U (by rw [ε5.2 (sF h1)];rfl) (by unfold Uy;rw [if_pos (show s.at_=l.length from(by have e:=(sF h1);omega))]<;>rfl))
  (fun h1 A=>N9 7 A U U fun A=>C9 [] (NU ((AW l s).op) ((AW l s).dst) ((AW l s).ra) ((AW l s).rb) ((AW l s).imm) ((AW l s).loc) ((AW l s).off) ((AW l s).ix) ((AW l s).sz) ((AW l s).fn) ((AW l s).acq) ((AW l s).weak) ((AW l s).rel) ((AW l s).pred) ((AW l s).succ) ((AW l s).to_) ((AW l s).zero)) A U fun A=>N9 2 A U U fun A=>fork 15 A U
   (fun h2 A=>N9 1 A U U fun A=>A9 hX BW [(6,.n9 (Bm old ((AW l s).sz)))] [(10,.tup [],[O (Fc (.sla ao l.length cp) ((s.at_:Nat):Int) (AX s.r ((AW l s).dst).toNat (Bm old ((AW l s).sz)))),O (AZ (AW l s))])] A U (AE (by have hn:=hc.n;(try have q:=U2 hc D6 (L9 h1) h2);first|exact q.1|exact q.2|omega)<|AB) U U (by kernel_rfl) ⟨X1 (i:=0) (r:=s.r) hX U U U U U U U U (by have hn:=hc.n;(try have q:=U2 hc D6 (L9 h1) h2);first|exact q.1|exact q.2|omega),trivial⟩ ⟨.inl ⟨_,_,rfl,rfl,Rd old ((AW l s).sz) (by have hn:=hc.n;(try have q:=U2 hc D6 (L9 h1) h2);first|exact q.1|exact q.2|omega)⟩,trivial⟩ fun A=>N9 14 A U (AE (by have hn:=hc.n;(try have q:=U2 hc D6 (L9 h1) h2);first|exact q.1|exact q.2|omega)<|AB) fun A=>N9 2 A U U fun A=>I9 [0] AP.ok hI (Nd l ao cp (((s.at_:Nat):Int)+1) (AX s.r ((AW l s).dst).toNat (Bm old ((AW l s).sz))) hc (by have e:=(L9 h1);omega)) A U fun A=>N9 8 A U U fun A=>R9 A U h0 U (by rw [δ7.2 (L9 h1)];rfl) (by rw [show Uy l s old=FK l ⟨s.at_+1,Jb s.r (AW l s) old⟩from if_neg (show s.at_≠l.length from(by have e:=(L9 h1);omega))];unfold Jb;rw [if_pos h2]<;>rfl))
   (fun h2 A=>N9 16 A U (AE (by have hn:=hc.n;(try have q:=U2 hc D6 (L9 h1) h2);first|exact q.1|exact q.2|omega)<|AB) fun A=>N9 2 A U U fun A=>I9 [0] AP.ok hI (Nd l ao cp (((s.at_:Nat):Int)+1) s.r hc (by have e:=(L9 h1);omega)) A U fun A=>N9 8 A U U fun A=>R9 A U h0 U (by rw [δ7.2 (L9 h1)];rfl) (by rw [show Uy l s old=FK l ⟨s.at_+1,Jb s.r (AW l s) old⟩from if_neg (show s.at_≠l.length from(by have e:=(L9 h1);omega))];unfold Jb;rw [if_neg (α7 h2)]<;>rfl)))
end Mc
section
open Go.RowKit
section
variable {P:Program}{Y:Tb}{n:Nat}{ks:ae}{G0:Gr}{w0:World}{T:List (Nat×SV)}{H:Hp}{G:Gr}{a:Act}{w:World}{Q:ab}{K:List Fr}{pos:Pos}{ops:ah}{o:Oper}{rest:ai}
theorem sH {x y:Operand} {t e s i m c cp:Nat} {ao:ak} {f:Nat→List SV} (A:Sy n T H ks G0 w0 G a w) (hg:Av ops T o.guard=some .run) (hd:DF n o.dst=true) (BM:o.op=.call {callee:=.builtin .append,args:= #[x,y],argTypes:= #[t,t]}) (hx:DA T x=some (.sl i m c)) (hi:lg H i=some (some (.row e s m c f))) (hy:DA T y=some (.sla ao 0 cp)) (ht:sliceB P t e s=true)
  (hk:∀{G a w},Sy n (BN T o.dst (.sl i m c)) H ks G0 w0 G a w→Goal P Q K (.ops ops rest) a w):Goal P Q K (.ops ops (o::rest)) a w:=by
 have hw:=A7 (gd:=none) A hg
 obtain⟨d,op,ty,pos,af,gd⟩:=o
 simp only at BM
 subst BM
 obtain⟨hu,hs⟩:=EM ht
 obtain⟨ie,yE,_⟩:=γ8.1 hs
 rw [At]at hi
 obtain⟨p,hp⟩:∃p,G[i]?=some p:=by
  have:i<G.length:=by rw [←A.mem.len];exact(α0.1 hi).1
  exact⟨G[i],by simp [this]⟩
 obtain⟨_,D0,xs,rM,Do⟩:=A.mem.ent i _ hi
 rw [hp]at Do
 simp only [δ2]at Do
 have Bb:=A.ev hx
 have C8:=A.ev hy
 have IB:den G (.sl i m c)=some (.slice (p.map fun L=>⟨L.b,L.pre.length,none⟩) m (c+rm p)):=by unfold den;rw [hp]
 rw [IB]at Bb
 unfold den at C8
 simp only [β1]at Bb C8
 have W7:Src P ie.size t (.slice ao 0 cp) 0 [] w:=by
  cases ao with
  |none=>exact Src.ofNil w hu cp
  |some x0=>exact ρ1 w hu x0 0 cp [] (by simp) (fun j u hj=>by simp at hj) (fun u hu=>by cases hu)
 have hle:m≤c+rm p:=by
  rcases Do.2 with⟨q1,q2⟩|⟨g,cap,cur,q1,_,_,q4,_⟩
  ·omega
  ·cases p<;>simp at q1;omega
 have hr:=σ5 (P:=P) w t t ty e ie hu yE (p.map fun L=>⟨L.b,L.pre.length,none⟩) m (c+rm p) hle _ W7
 refine DN (Q:=He P Q K) (Ad (v:=.slice (p.map fun L=>⟨L.b,L.pre.length,none⟩) m (c+rm p)) (w':=w) hw ?_ ?_)
 ·unfold execOp
  simp only [resolve,invoke,builtin,γ4,γ6,α9,θ0,ζ0,ι7,←Bb,←C8,hr]
 ·exact hk (Sy.put A hd IB)
theorem Sy.hide (A:Sy n T H ks G0 w0 G a w)(i:Nat):Sy n T (CE H i none) ks G0 w0 G a w:=by
 have hold:∀(j:Nat) (e:BZ),(CE H i none)[j]?=some (some e)→H[j]?=some (some e):=by
  intro j e h
  rw [Aw]at h
  by_cases hj:j=i
  ·subst hj
   by_cases hl:j<H.length
   ·rw [γ7 hl]at h;cases h
   ·rw [γ5 (by simp;omega)]at h;cases h
  ·rw [γ0 (ε9 hj)]at h;exact h
 exact⟨A.size,A.defers,A.get,⟨by rw [Aw];simpa using A.mem.len,fun j e he=>A.mem.ent j e (hold j e he),fun j k e f L' M Eb g1 g2 g3 g4 g5 g6=>A.mem.sep j k e f L' M Eb (hold j e g1) (hold k f g2) g3 g4 g5 g6⟩,A.pre,fun j e L' g1 g2 g3=>A.own j e L' (hold j e g1) g2 g3,A.mix⟩
theorem Sy.layAt (A:Sy n T H ks G0 w0 G a w)(i:Nat){e s m c:Nat}{f:Nat→List SV}{H':Hp}(hi:lg H i=some (some (.row e s m c f)))(hH:CE H i none=H'):
  ∃ao cp,(den G (.sl i m c)=some (.slice ao m cp))∧Sy n T H' ks G0 w0 G a w∧AP ao s m f w (keys H' G)∧(∀q:Addr,ao=some q→ks.contains q.block=true∨w0.heap.size≤q.block):=by
 subst hH
 rw [At]at hi
 obtain⟨p,hp⟩:∃p,G[i]?=some p:=by
  have:i<G.length:=by rw [←A.mem.len];exact(α0.1 hi).1
  exact⟨G[i],by simp [this]⟩
 have CG:=A.mem.ent i _ hi
 have Be:=CG.1
 refine⟨p.map fun L=>⟨L.b,L.pre.length,none⟩,c+rm p,by unfold den;rw [hp],A.hide i,⟨fun k=>?_,?_⟩,fun q hq=>?_⟩
 ·obtain⟨vs,h,_⟩:=Be k;exact⟨vs,h⟩
 ·by_cases h0:m=0
  ·exact .inl h0
  ·right
   obtain⟨L,_,q1,_⟩:=DQ CG (k:=0) (by omega)
   rw [hp]at q1
   simp only [δ2]at q1
   subst q1
   have BU:L.b<w.heap.size:=by rw [hp]at CG;exact Ag.lt CG (fun h=>h)
   refine⟨L.b,L.pre.length,rfl,BU,?_,fun k hk=>?_⟩
   ·cases hq:(keys (CE H i none) G).contains L.b with
    |false=>rfl
    | true=>
     obtain⟨j,e',L',g1,g2,g3,g4⟩:=mem_keys.1 hq
     have Gf:j≠i:=by
      intro e;subst e
      rw [Aw,γ7 (α0.1 hi).1]at g1;cases g1
     have g1':H[j]?=some (some e'):=by rw [Aw,γ0 (ε9 Gf)]at g1;exact g1
     exact absurd g4.symm (A.mem.sep i j _ e' L L' (ε9 Gf) hi g1' U hp g3 (BI g2))
   ·obtain⟨L',vs,r1,r2,_,r4⟩:=DQ CG hk
    rw [hp]at r1
    simp only [δ2,β1]at r1
    subst r1
    exact⟨vs,r2,r4⟩
 ·cases p with
  |none=>cases hq
  |some L=>cases hq;exact A.own i _ L hi U hp
theorem Sy.cellEq (A:Sy n T H ks G0 w0 G a w)(i:Nat){cs cs':List SV}{H':Hp}(hi:lg H i=some (some (.blk cs)))(hd:AO G cs'=AO G cs)(hH:CE H i (some (.blk cs'))=H'):Sy n T H' ks G0 w0 G a w:=by
 subst hH
 rw [At]at hi
 have IA:=(α0.1 hi).1
 have hold:∀(j:Nat) (e:BZ),(CE H i (some (.blk cs')))[j]?=some (some e)→(j≠i∧H[j]?=some (some e))∨(j=i∧e=.blk cs'):=by
  intro j e h
  rw [Aw]at h
  by_cases hj:j=i
  ·subst hj;rw [γ7 IA]at h;cases h;exact .inr ⟨rfl,rfl⟩
  ·rw [γ0 (ε9 hj)]at h;exact .inl ⟨hj,h⟩
 refine⟨A.size,A.defers,A.get,⟨by rw [Aw];simpa using A.mem.len,fun j e he=>?_,fun j k e f L M Eb g1 g2 g3 g4 g5 g6=>?_⟩,A.pre,fun j e L g1 g2 g3=>?_,A.mix⟩
 ·rcases hold j e he with⟨_,h⟩|⟨rfl,rfl⟩
  ·exact A.mem.ent j e h
  ·obtain⟨L,vs,h1,h2,h3⟩:=A.mem.ent j _ hi
   exact⟨L,vs,h1,by rw [hd];exact h2,h3⟩
 ·rcases hold j e g1 with⟨_,h1⟩|⟨rfl,rfl⟩
  ·rcases hold k f g2 with⟨_,h2⟩|⟨rfl,rfl⟩
   ·exact A.mem.sep j k e f L M Eb h1 h2 g3 g4 g5 g6
   ·exact A.mem.sep j k e _ L M Eb h1 hi g3 g4 g5 (fun h=>h)
  ·rcases hold k f g2 with⟨_,h2⟩|⟨rfl,rfl⟩
   ·exact A.mem.sep j k _ f L M Eb hi h2 U g4 g5 g6
   ·exact absurd U Eb
 ·rcases hold j e g1 with⟨_,h1⟩|⟨rfl,rfl⟩
  ·exact A.own j e L h1 g2 g3
  ·exact A.own j _ L hi U g3
theorem Sy.takeEnt (A:Sy n T H ks G0 w0 G a w){L:Loc}{en:BZ}(SO:Ag G w (some L) en)(aI:en.mut=true)(hn:∀(i:Nat) (e:BZ) (M:Loc),H[i]?=some (some e)→G[i]?=some (some M)→¬e.empty→M.b≠L.b)(ho:w0.heap.size≤L.b):
  Sy n T (H++[some en]) ks G0 w0 (G++[some L]) a w:=A.addE SO (fun i e M N h1 h2 h3 h=>by cases h3;exact hn i e M h1 h2 (h.elim (·.1) fun q=>BI q.1)) fun _ M h=>by cases h;exact .inr ho
theorem Mh {x:Operand}{ty i q s m k:Nat}{cs r:List SV}(hX:Y.ok P=true)(BM:o.op=.load ty x)(hg:Av ops T o.guard=some .run)(hx:DA T x=some (.ix (.ptr i q) s m (k:Int) 0))(hH:lg H i=some (some (.blk cs)))(hc:DK ⟨Y,true⟩ ty cs (q+k*s)=some (.agg r)):
  BG P n ops ks G0 w0 T H o (.agg r) H:=fun G a w A=>by
 have hw:=A7 (gd:=none) A hg
 obtain⟨d,op,ty',pos,af,gd⟩:=o
 simp only at BM
 subst BM
 have Bb:=A.ev hx
 rw [Al (q:=q+k*s) k (by omega)]at Bb
 have hs:Ec ⟨Y,true⟩ H ty (.ptr i (q+k*s))=some (.agg r,[]):=by
  simp only [Ec,Gk,hH,Lu,hc]
 obtain⟨z,hz,h3⟩:=FV (X:=⟨Y,true⟩) (P:=P) (ops:=ops) (d:=d) (ty:=ty') (pos:=pos) (af:=af) (gd:=gd) (x:=x) hX A hs Bb
 exact h3 (fun p hp=>by cases hp) rfl hw _ ⟨[],by simpa using hz,by simpa using A.ms⟩
theorem Zl {x y:Operand}{t rt i q:Nat}{en:BZ}(BM:o.op=.binOp .eql t x y rt)(hg:Av ops T o.guard=some .run)(hx:DA T x=some (.ptr i q))(hy:DA T y=some (.v (.pointer none)))(hi:lg H i=some (some en))(ht:P.underlying t=some (.pointer (P.pointee t))):BG P n ops ks G0 w0 T H o .ff H:=fun G a w A=>by
 have hw:=A7 (gd:=none) A hg
 obtain⟨d,op,ty,pos,af,gd⟩:=o
 simp only at BM
 subst BM
 have Bb:=A.ev hx
 have C8:=A.ev hy
 unfold den at Bb C8
 split at Bb
 ·next L hL=>
  simp only [β1]at Bb C8
  exact MR hw Bb.symm C8.symm ⟨by simp [eqGuard],run_eql_pointer_nil w t _ ht⟩ ⟨[],rfl,by simpa using A.ms⟩
 ·cases Bb
theorem lC {x:Operand}{i s m e c q:Nat}{j:Int}{f:Nat→List SV}(BM:o.op=.nilCheck x)(hg:Av ops T o.guard=some .run)(hx:DA T x=some (.el i s j q))(hi:lg H i=some (some (.row e s m c f)))(hj:j.toNat<m):BG P n ops ks G0 w0 T H o (.el i s j q) H:=fun G a w A=>by
 have hw:=A7 (gd:=none) A hg
 obtain⟨d,op,ty,pos,af,gd⟩:=o
 simp only at BM
 subst BM
 have Bb:=A.ev hx
 rw [At]at hi
 obtain⟨L,vs,q1,_⟩:=DQ (A.mem.ent i _ hi) hj
 have hp:G[i]?=some (some L):=by
  cases hq:G[i]? with
  |none=>rw [hq]at q1;cases q1
  |some p=>rw [hq]at q1;simp only [δ2]at q1;rw [q1]
 have IB:den G (.el i s j q)=some (.pointer (some ⟨L.b,L.pre.length+j.toNat*s+q,none⟩)):=by unfold den;rw [hp];rfl
 rw [IB]at Bb
 exact Fs hw (by rw [←β6 Bb]) ⟨[],by simpa using IB,by simpa using A.ms⟩
theorem Sy.nilPlace (A:Sy n T H ks G0 w0 G a w)(e s:Nat)(f:Nat→List SV)(Be:∀k,∃vs,AO [] (f k)=some vs∧vs.length=s):Sy n T (H++[some (.row e s 0 0 f)]) ks G0 w0 (G++[none]) a w:=A.noRow e s f Be
theorem Sy.nilCel1 (A:Sy n T H ks G0 w0 G a w)(i e s:Nat)(f:Nat→List SV){H':Hp}(hi:lg H i=some (some (.blk [.sla none 0 0])))(Be:∀k,∃vs,AO [] (f k)=some vs∧vs.length=s)(hH:CE (H++[some (.row e s 0 0 f)]) i (some (.blk [.sl H.length 0 0]))=H'):∃G',Sy n T H' ks G0 w0 G' a w:=by
 have B:=A.nilPlace e s f Be
 rw [At]at hi
 refine⟨_,B.cellEq i (cs:=[.sla none 0 0]) (by rw [At,α2 (α0.1 hi).1];exact hi) ?_ hH⟩
 have:den (G++[none]) (.sl H.length 0 0)=some (.slice none 0 0):=by
  unfold den
  rw [α1 (by rw [A.mem.len];exact β8 _),A.mem.len]
  simp [rm]
 unfold AO
 rw [this]
 rfl
theorem Sy.layCell (A:Sy n T H ks G0 w0 G a w)(i j:Nat){e s m c:Nat}{f:Nat→List SV}{cs:List SV}{H':Option Addr→Nat→Hp}(hi:lg H i=some (some (.row e s m c f)))(hj:lg H j=some (some (.blk (.sl i m c::cs))))(Ge:Nat.beq i j=false)(hH:∀ao cp,CE (CE H i none) j (some (.blk (.sla ao m cp::cs)))=H' ao cp):
  ∃ao cp,Sy n T (H' ao cp) ks G0 w0 G a w∧AP ao s m f w (keys (H' ao cp) G)∧(∀q:Addr,ao=some q→ks.contains q.block=true∨w0.heap.size≤q.block):=by
 obtain⟨ao,cp,hd,A1,hl,Qq⟩:=A.layAt i hi U
 have Bw:i≠j:=fun e=>by subst e;rw [η8]at Ge;cases Ge
 have Jj:lg (CE H i none) j=some (some (.blk (.sl i m c::cs))):=by
  rw [At]at hj⊢
  rw [Aw,γ0 Bw];exact hj
 have A2:=A1.cellEq j (cs':=.sla ao m cp::cs) Jj (by
  unfold AO
  rw [hd]
  rfl) (hH ao cp)
 refine⟨ao,cp,A2,AP.ok w _ w _ hl (CQ.refl _ _) (fun b hb=>.inl ?_),Qq⟩
 obtain⟨k,en,L,g1,g2,g3,g4⟩:=mem_keys.1 hb
 rw [←hH ao cp,Aw]at g1
 by_cases hk:k=j
 ·subst hk
  rw [At]at Jj
  exact mem_keys.2 ⟨k,_,L,Jj,rfl,g3,g4⟩
 ·rw [γ0 (ε9 hk)]at g1
  exact mem_keys.2 ⟨k,en,L,g1,g2,g3,g4⟩
theorem sI (i e s:Nat)(f:Nat→List SV){H':Hp}(A:Sy n T H ks G0 w0 G a w)(hi:lg H i=some (some (.blk [.sla none 0 0])))(Be:∀k,∃vs,AO [] (f k)=some vs∧vs.length=s)(hH:CE (H++[some (.row e s 0 0 f)]) i (some (.blk [.sl H.length 0 0]))=H')(k:∀{G},Sy n T H' ks G0 w0 G a w→Goal P Q K pos a w):Goal P Q K pos a w:=by
 obtain⟨G',h⟩:=A.nilCel1 i e s f hi Be hH
 exact k h
theorem sJ (i j:Nat) {e s m c:Nat} {f:Nat→List SV} {cs:List SV} (H':Option Addr→Nat→Hp) (A:Sy n T H ks G0 w0 G a w) (hi:lg H i=some (some (.row e s m c f))) (hj:lg H j=some (some (.blk (.sl i m c::cs)))) (Ge:Nat.beq i j=false) (hH:∀ao cp,CE (CE H i none) j (some (.blk (.sla ao m cp::cs)))=H' ao cp)
  (k:∀ao cp,Sy n T (H' ao cp) ks G0 w0 G a w→AP ao s m f w (keys (H' ao cp) G)→(∀q:Addr,ao=some q→ks.contains q.block=true∨w0.heap.size≤q.block)→Goal P Q K pos a w):Goal P Q K pos a w:=by
 obtain⟨ao,cp,h1,h2,h3⟩:=A.layCell i j hi hj Ge hH
 exact k ao cp h1 h2 h3
structure Oy (e s m:Nat)(f:Nat→List SV)(L:Loc)(bt cp N:Nat)(w:World):Prop where
 blk:D3 w L.b (L.pre++[Value.slice (some ⟨bt,0,none⟩) m cp]++L.post).toArray L.t
 row:CI e s m f bt cp w
 ne:L.b≠bt
 lo:N≤L.b
 lt:N≤bt
theorem Sy.giveCore (A:Sy n T H [] G0 w0 G a w)(i q t:Nat){e s m c:Nat}{f:Nat→List SV}(hm:0<m)(hi:lg H i=some (some (.blk [.sl q m c])))(hq:lg H q=some (some (.row e s m c f)))(SW:Nat.beq i q=false)(ht:look T t=some (.ptr i 0)):
  ∃L bt cp,Sy n ((t,EZ L.b L.pre.length)::T) H [] G0 w0 G a w∧Oy e s m f L bt cp w0.heap.size w∧(keys H G).contains L.b=true∧(keys H G).contains bt=true:=by
 have Bw:i≠q:=fun e=>by subst e;rw [η8]at SW;cases SW
 rw [At]at hi hq
 obtain⟨L,vs,p1,p2,p3⟩:=A.mem.ent i _ hi
 have Eo:G[i]?=some (some L):=by
  cases hz:G[i]? with
  |none=>rw [hz]at p1;cases p1
  |some p=>rw [hz]at p1;simp only [δ2]at p1;rw [p1]
 obtain⟨h1,h2,xs,h3,h4⟩:=A.mem.ent q _ hq
 obtain⟨M,_,q1,_⟩:=DQ (A.mem.ent q _ hq) (k:=0) hm
 have J8:G[q]?=some (some M):=by
  cases hz:G[q]? with
  |none=>rw [hz]at q1;cases q1
  |some p=>rw [hz]at q1;simp only [δ2]at q1;rw [q1]
 rw [J8]at h2 h4
 have D0:M.pre=[]:=h2 M U
 have ZL:w.ownsRow 0 e s (.slice (some ⟨M.b,0,none⟩) m (c+rm (some M))) m xs:=by
  have:(Option.map (fun L:Loc=>(⟨L.b,L.pre.length,none⟩:Addr)) (some M))=some ⟨M.b,0,none⟩:=by simp [D0]
  rw [←this];exact h4
 have T8:vs=[.slice (some ⟨M.b,0,none⟩) m (c+rm (some M))]:=by
  have:AO G [.sl q m c]=some [.slice (some ⟨M.b,0,none⟩) m (c+rm (some M))]:=by
   unfold AO den
   rw [J8]
   simp [D0,AO]
  rw [this]at p2;exact(β6 p2).symm
 subst T8
 have own:∀{k:Nat} {en:BZ} {L:Loc},H[k]?=some (some en)→en.mut=true→G[k]?=some (some L)→w0.heap.size≤L.b:=fun h1 h2 h3=>(A.own _ _ _ h1 h2 h3).elim (fun h=>by cases h) id
 refine⟨L,M.b,c+rm (some M),A.slotEq t ht (by unfold den;rw [Eo];rfl),⟨p3,⟨h1,xs,h3,ZL⟩,A.mem.sep i q _ _ L M Bw hi hq U Eo J8 (fun h=>h),own hi U Eo,own hq U J8⟩,mem_keys.2 ⟨i,_,L,hi,rfl,Eo,rfl⟩,mem_keys.2 ⟨q,_,M,hq,rfl,J8,rfl⟩⟩
theorem Sy.takeCore (A:Sy n T H ks G0 w0 G a w)(t:Nat){e s m bt cp N:Nat}{f:Nat→List SV}{L:Loc}{H':Hp}(ho:Oy e s m f L bt cp N w)(hN:w0.heap.size≤N)(hold:∀(i:Nat) (e:BZ) (M:Loc),H[i]?=some (some e)→G[i]?=some (some M)→¬e.empty→M.b<N)(ht:look T t=some (EZ L.b L.pre.length))(hH:H++[some (.row e s m 0 f)]++[O [.sl H.length m 0]]=H'):
  ∃G',Sy n ((t,.ptr (H.length+1) 0)::T) H' ks G0 w0 G' a w∧∀b,(keys H' G').contains b=true→b<N∨b=L.b∨b=bt:=by
 subst hH
 have hlen:=A.mem.len
 obtain⟨p1,xs,p2,p3⟩:=ho.row
 have A1:=A.takeEnt (L:=⟨bt,[],List.replicate cp undef,e⟩) (en:=.row e s m 0 f) ⟨p1,fun L hL=>by cases hL;rfl,xs,p2,by simpa [rm]using p3⟩ U (fun i e M h1 h2 h3=>by have:=hold i e M h1 h2 h3;have:=ho.lt;show M.b≠bt;omega) (β3 hN ho.lt)
 have PV:(G++[some (⟨bt,[],List.replicate cp undef,e⟩:Loc)])[H.length]?=some (some ⟨bt,[],List.replicate cp undef,e⟩):=by rw [α1 (by omega),hlen];simp
 have hd:AO (G++[some (⟨bt,[],List.replicate cp undef,e⟩:Loc)]) [.sl H.length m 0]=some [.slice (some ⟨bt,0,none⟩) m cp]:=by
  unfold AO den
  rw [PV]
  simp [rm,AO]
 have A2:=A1.takeEnt (L:=L) (en:=.blk [.sl H.length m 0]) ⟨L,_,rfl,hd,ho.blk⟩ U (fun i e' M h1 h2 h3=>by
  by_cases hi:i<H.length
  ·rw [α2 hi]at h1
   rw [α2 (by omega)]at h2
   have:=hold i e' M h1 h2 h3;have:=ho.lo;omega
  ·have PT:i=H.length:=by
    have:=(α0.1 h1).1
    simp at this;omega
   subst PT
   rw [PV]at h2
   cases h2
   exact fun z=>ho.ne z.symm) (β3 hN ho.lo)
 refine⟨_,A2.slotEq t ht ?_,fun b hb=>?_⟩
 ·unfold den
  rw [α1 (by simp;omega)]
  simp [hlen]
 ·obtain⟨i,en,M,g1,g2,g3,g4⟩:=mem_keys.1 hb
  by_cases hi:i<H.length
  ·rw [γ2,α2 hi]at g1
   rw [γ2,α2 (by omega)]at g3
   exact .inl (by rw [←g4];exact hold i en M g1 g3 (BI g2))
  ·by_cases PT:i=H.length
   ·subst PT
    rw [α2 (by simp;omega),PV]at g3
    cases g3
    exact .inr (.inr g4.symm)
   ·have ZM:i=H.length+1:=by
     have:=(α0.1 g1).1
     simp at this;omega
    subst ZM
    rw [α1 (by simp;omega)]at g3
    simp [hlen]at g3
    subst g3
    exact .inr (.inl g4.symm)
end
end
namespace Mc
open Go.RowKit
set_option simprocs false
def Th.z:Th:=⟨0,fun _=>0⟩
abbrev If (c:AD)(s:Th):List SV:=Zk (.sla c.ao c.l.length c.cp) ((s.at_:Nat):Int) s.r
structure Ac (cs:List AD)(ts:List Th)(nn:Nat):Prop where
 n:ts.length=cs.length
 m:cs.length=nn
 r:∀k,k<cs.length→Fo (cs.getD k AD.z).l
 a:∀k,k<cs.length→(ts.getD k Th.z).at_≤(cs.getD k AD.z).l.length
def Ak (cs:List AD)(ts:List Th)(j old:Int):List Th:=ts.set j.toNat (Uy (cs.getD j.toNat AD.z).l (ts.getD j.toNat Th.z) old)
theorem Sv {cs:List AD}{ts:List Th}{j old:Int}:(Ak cs ts j old).length=ts.length:=by unfold Ak;simp
theorem Js {α:Type}{l:List α}{k:Nat}{x d:α}(h:k<l.length):(l.set k x).getD k d=x:=by simp [List.getD,h]
theorem U3 {α:Type}{l:List α}{j k:Nat}{x d:α}(h:j≠k):(l.set k x).getD j d=l.getD j d:=by simp [List.getD,γ0 (ε9 h)]
theorem Ac.set {cs:List AD}{ts:List Th}{nn:Nat}(h:Ac cs ts nn){j:Int}(hj:0≤j∧j<((nn:Nat):Int))(old:Int):Ac cs (Ak cs ts j old) nn:=by
 have hn:=h.n
 have hm:=h.m
 refine⟨by rw [Sv];exact h.n,h.m,h.r,fun k hk=>?_⟩
 unfold Ak
 by_cases e:k=j.toNat
 ·subst e;rw [Js (by omega)];exact cF (h.r _ hk) (h.a _ hk) old
 ·rw [U3 e];exact h.a k hk
abbrev _root_.Go.Proofs.YtbbdanhpphlbpaaGreatDoor.AL (cs:List AD)(ts:List Th)(nn:Nat):BZ:=.row 125 10 nn 0 (fun zz=>If (cs.getD zz AD.z) (ts.getD zz Th.z))
abbrev _root_.Go.Proofs.YtbbdanhpphlbpaaGreatDoor.aq(cs:List AD)(ts:List Th)(nn:Nat):Option BZ:=some (AL cs ts nn)
theorem cI (cs:List AD)(ts:List Th)(nn:Nat)(hC:Ac cs ts nn)(j:Int)(hj:0≤j∧j<((nn:Nat):Int)):BQ (AH cs) Tryz.prog 131 [.el 0 10 j 0] [aq cs ts nn] (Rt (.tup [.agg [.n9 (Jq ((cs.getD (j.toNat) AD.z).l.getD ((((ts.getD (j.toNat) Th.z).at_:Nat):Int)).toNat In.z)),.n9 (Jr (ts.getD (j.toNat) Th.z).r ((cs.getD (j.toNat) AD.z).l.getD ((((ts.getD (j.toNat) Th.z).at_:Nat):Int)).toNat In.z))],.n9 (BR (ts.getD (j.toNat) Th.z).r ((cs.getD (j.toNat) AD.z).l.getD ((((ts.getD (j.toNat) Th.z).at_:Nat):Int)).toNat In.z)),.bool (CK ((cs.getD (j.toNat) AD.z).l.getD ((((ts.getD (j.toNat) Th.z).at_:Nat):Int)).toNat In.z))]) [aq cs ts nn]):=by
 have hn:=hC.n
 have hm:=hC.m
 have hk:j.toNat<ts.length:=by omega
 exact BQ.mono (P7 (F:=fun zz=>If (cs.getD zz AD.z) (ts.getD zz Th.z)) (F':=fun zz=>If (cs.getD zz AD.z) (ts.getD zz Th.z)) j.toNat U (by omega) (lA (cs.getD (j.toNat) AD.z).l (cs.getD (j.toNat) AD.z).ao (cs.getD (j.toNat) AD.z).cp (ts.getD (j.toNat) Th.z) (hC.r _ (by omega)) (hC.a _ (by omega))) U U (fun q hq=>rfl) ⟨_,rfl,rfl⟩) (fun w ks h=>h.at (by omega))
theorem cJ (cs:List AD)(ts:List Th)(nn:Nat)(hC:Ac cs ts nn)(j old:Int)(hj:0≤j∧j<((nn:Nat):Int)):BQ (AH cs) Tryz.prog 91 [.el 0 10 j 0,.n9 old] [aq cs ts nn] (Rt (.bool (!((((ts.getD (j.toNat) Th.z).at_:Nat):Int)==(((cs.getD (j.toNat) AD.z).l.length:Nat):Int)))) [aq cs (Ak cs ts j old) nn]):=by
 have hn:=hC.n
 have hm:=hC.m
 have hk:j.toNat<ts.length:=by omega
 exact BQ.mono (P7 (F:=fun zz=>If (cs.getD zz AD.z) (ts.getD zz Th.z)) (F':=fun zz=>If (cs.getD zz AD.z) ((Ak cs ts j old).getD zz Th.z)) j.toNat U (by omega) (by
   have e:If (cs.getD (j.toNat) AD.z) ((Ak cs ts j old).getD j.toNat Th.z)=If (cs.getD (j.toNat) AD.z) (Uy (cs.getD (j.toNat) AD.z).l (ts.getD (j.toNat) Th.z) old):=by unfold Ak;rw [Js hk]
   show BQ _ _ _ _ _ (Rt _ [O (If (cs.getD (j.toNat) AD.z) ((Ak cs ts j old).getD j.toNat Th.z))])
   rw [e]
   exact lB (cs.getD (j.toNat) AD.z).l (cs.getD (j.toNat) AD.z).ao (cs.getD (j.toNat) AD.z).cp (ts.getD (j.toNat) Th.z) old (hC.r _ (by omega)) (hC.a _ (by omega))) U U (fun q hq=>by show If _ _=If _ _;unfold Ak;rw [U3 hq]) ⟨_,rfl,rfl⟩) (fun w ks h=>h.at (by omega))
theorem X3 (cs:List AD)(ts:List Th)(nn:Nat)(hC:Ac cs ts nn)(j:Int)(hj:0≤j∧j<((nn:Nat):Int)):BQ (AH cs) Tryz.prog 104 [.el 0 10 j 0] [aq cs ts nn] (Rt (.tup [.agg (AZ ((cs.getD (j.toNat) AD.z).l.getD ((((ts.getD (j.toNat) Th.z).at_:Nat):Int)).toNat In.z)),.bool (!((((ts.getD (j.toNat) Th.z).at_:Nat):Int)==(((cs.getD (j.toNat) AD.z).l.length:Nat):Int)))]) [aq cs ts nn]):=by
 have hn:=hC.n
 have hm:=hC.m
 have hk:j.toNat<ts.length:=by omega
 exact BQ.mono (P7 (F:=fun zz=>If (cs.getD zz AD.z) (ts.getD zz Th.z)) (F':=fun zz=>If (cs.getD zz AD.z) (ts.getD zz Th.z)) j.toNat U (by omega) (LB (cs.getD (j.toNat) AD.z).l (cs.getD (j.toNat) AD.z).ao (cs.getD (j.toNat) AD.z).cp (((ts.getD (j.toNat) Th.z).at_:Nat):Int) (ts.getD (j.toNat) Th.z).r (by have:=hC.a j.toNat (by omega);omega)) U U (fun q hq=>rfl) ⟨_,rfl,rfl⟩) (fun w ks h=>h.at (by omega))
theorem U4 (cs:List AD)(ts:List Th)(nn:Nat)(th:Int)(Bo:0≤th∧th<((nn:Nat):Int)):Fn Tryz.prog 79 [.ptr 0 0,.n9 th] [O [.sl 1 nn 0],aq cs ts nn] (Rt (.el 1 10 th 0) [O [.sl 1 nn 0],aq cs ts nn]):=
 AR (n:=24) (by kernel_rfl) Tryz.func79 U U U fun G w a h0 A=>N9 21 A U U fun A=>fork 15 A U
  (fun h1 A=>absurd h1 (by simp;omega))
  (fun h1 A=>N9 15 A U (AE (by omega)<|AB) fun A=>R9 A U h0 U U U)
theorem Ri (cs:List AD)(ts:List Th)(nn:Nat)(th:Int)(Bo:0≤th∧th<((nn:Nat):Int)):Fn Tryz.prog 45 [.ptr 0 0,.n9 th] [O [.sl 1 nn 0],aq cs ts nn] (Rt (.int .i64 (((ts.getD (th.toNat) Th.z).at_:Nat):Int)) [O [.sl 1 nn 0],aq cs ts nn]):=
 AR (n:=11) (by kernel_rfl) Tryz.func45 U U U fun G w a h0 A=>N9 9 A U U fun A=>C9 [0,1] (U4 cs ts nn th Bo) A U fun A=>Af A U (lC U U U U (by omega)) fun A=>N9 6 A U (AE (by omega)<|AE (by omega)<|AB) fun A=>R9 A U h0 U U U
theorem Ig (cs:List AD)(ts:List Th)(nn:Nat)(th:Int)(hC:Ac cs ts nn)(Bo:0≤th∧th<((nn:Nat):Int)):BQ (AH cs) Tryz.prog 92 [.ptr 0 0,.n9 th] [O [.sl 1 nn 0],aq cs ts nn] (Rt (.tup [.agg [.n9 (Jq ((cs.getD (th.toNat) AD.z).l.getD ((((ts.getD (th.toNat) Th.z).at_:Nat):Int)).toNat In.z)),.n9 (Jr (ts.getD (th.toNat) Th.z).r ((cs.getD (th.toNat) AD.z).l.getD ((((ts.getD (th.toNat) Th.z).at_:Nat):Int)).toNat In.z))],.n9 (BR (ts.getD (th.toNat) Th.z).r ((cs.getD (th.toNat) AD.z).l.getD ((((ts.getD (th.toNat) Th.z).at_:Nat):Int)).toNat In.z)),.bool (CK ((cs.getD (th.toNat) AD.z).l.getD ((((ts.getD (th.toNat) Th.z).at_:Nat):Int)).toNat In.z))]) [O [.sl 1 nn 0],aq cs ts nn]):=
 Aa (n:=14) (by kernel_rfl) Tryz.func92 U U U fun G w a h0 hI A=>N9 11 A U U fun A=>C9 [0,1] (U4 cs ts nn th Bo) A U fun A=>I9 [1] AH.ok hI (cI cs ts nn hC th Bo) A U fun A=>N9 9 A U U fun A=>R9 A U h0 U U U
theorem Rj (cs:List AD)(ts:List Th)(nn:Nat)(th old:Int)(hC:Ac cs ts nn)(Bo:0≤th∧th<((nn:Nat):Int)):BQ (AH cs) Tryz.prog 58 [.ptr 0 0,.n9 th,.n9 old] [O [.sl 1 nn 0],aq cs ts nn] (Rt (.bool (!((((ts.getD (th.toNat) Th.z).at_:Nat):Int)==(((cs.getD (th.toNat) AD.z).l.length:Nat):Int)))) [O [.sl 1 nn 0],aq cs (Ak cs ts th old) nn]):=
 Aa (n:=12) (by kernel_rfl) Tryz.func58 U U U fun G w a h0 hI A=>N9 9 A U U fun A=>C9 [0,1] (U4 cs ts nn th Bo) A U fun A=>N9 1 A U U fun A=>I9 [1] AH.ok hI (cJ cs ts nn hC th old Bo) A U fun A=>N9 4 A U U fun A=>R9 A U h0 U U U
theorem HO (cs:List AD)(ts:List Th)(nn:Nat):Fn Tryz.prog 68 [.ptr 0 0] [O [.sl 1 nn 0],aq cs ts nn] (Rt (.int .i64 ((nn:Nat):Int)) [O [.sl 1 nn 0],aq cs ts nn]):=
 AR (n:=8) (by kernel_rfl) Tryz.func68 U U U fun G w a h0 A=>N9 16 A U U fun A=>R9 A U h0 U U U
theorem C1 (cs:List AD)(ts:List Th)(nn:Nat)(th:Int)(hC:Ac cs ts nn)(Bo:0≤th∧th<((nn:Nat):Int)):BQ (AH cs) Tryz.prog 69 [.ptr 0 0,.n9 th] [O [.sl 1 nn 0],aq cs ts nn] (Rt (.tup [.agg (AZ ((cs.getD (th.toNat) AD.z).l.getD ((((ts.getD (th.toNat) Th.z).at_:Nat):Int)).toNat In.z)),.bool (!((((ts.getD (th.toNat) Th.z).at_:Nat):Int)==(((cs.getD (th.toNat) AD.z).l.length:Nat):Int)))]) [O [.sl 1 nn 0],aq cs ts nn]):=
 Aa (n:=12) (by kernel_rfl) Tryz.func69 U U U fun G w a h0 hI A=>N9 10 A U U fun A=>C9 [0,1] (U4 cs ts nn th Bo) A U fun A=>I9 [1] AH.ok hI (X3 cs ts nn hC th Bo) A U fun A=>N9 7 A U U fun A=>R9 A U h0 U U U
end Mc
namespace Mc
open Go.RowKit
set_option simprocs false
theorem JV (o1 s1:Int):Fn Tryz.prog 171 [.n9 o1,.n9 s1] [] (Rt (.bool (((((((s1==1)||(s1==2))||(s1==4))||(s1==8))&&(decide (o1≥0)))&&(decide (o1≤(IntKind.wrap .i64 (8 - s1)))))&&((Int.tmod o1 s1)==0))) []):=
 AR (n:=23) (by kernel_rfl) Tryz.func171 U U U fun G w a h0 A=>M hX 8 A U U fun A=>C9 [] (NV s1) A U fun A=>M hX 20 A U (Bz<|Bz<|Bz<|Bz<|Bz<|Bz<|Bz<|Bz<|JP (fun hg=>(by first|omega|(simp at hg;omega)))<|Bz<|Bz<|AB) fun A=>R9 A U h0 U U U
theorem U5 (a1 b1 m1:Int):Fn Tryz.prog 178 [.n9 a1,.n9 b1,.n9 m1] [] (Rt (.int .i64 (IntKind.wrap .i64 ((((BitVec.ofInt (IntKind.bits .i64) (IntKind.wrap .i64 ((((BitVec.ofInt (IntKind.bits .i64) a1)&&& ~~~ (BitVec.ofInt (IntKind.bits .i64) m1)).toNat:Nat):Int)))|||(BitVec.ofInt (IntKind.bits .i64) (IntKind.wrap .i64 ((((BitVec.ofInt (IntKind.bits .i64) b1)&&&(BitVec.ofInt (IntKind.bits .i64) m1)).toNat:Nat):Int)))).toNat:Nat):Int))) []):=
 AR (n:=14) (by kernel_rfl) Tryz.func178 U U U fun G w a h0 A=>M hX 18 A U U fun A=>R9 A U h0 U U U
def Aq (v1 o1 s1:Int):Int:=if(!(((((((s1==1)||(s1==2))||(s1==4))||(s1==8))&&(decide (o1≥0)))&&(decide (o1≤(IntKind.wrap .i64 (8 - s1)))))&&((Int.tmod o1 s1)==0)))=true then 0 else IntKind.wrap .i64 ((((BitVec.ofInt (IntKind.bits .i64) (Int.fdiv v1 (2^min ((IntKind.wrap .i64 (8*o1))).toNat (IntKind.bits .i64))))&&&(BitVec.ofInt (IntKind.bits .i64) (IntKind.wrap .i64 ((IntKind.wrap .i64 (1*2^min ((IntKind.wrap .i64 (8*s1))).toNat (IntKind.bits .i64))) - 1)))).toNat:Nat):Int)
theorem cK (v1 o1 s1:Int)(hs:s1=1∨s1=2∨s1=4∨s1=8)(ho:0≤o1∧o1≤7):Fn Tryz.prog 130 [.n9 v1,.n9 o1,.n9 s1] [] (Rt (.int .i64 (Aq v1 o1 s1)) []):=
 AR (n:=18) (by kernel_rfl) Tryz.func130 U U U fun G w a h0 A=>M hX 10 A U U fun A=>C9 [] (JV o1 s1) A U fun A=>M hX 3 A U U fun A=>fork 10 A U
  (fun h1 A=>M hX 7 A U U fun A=>R9 A U h0 U (by simp only [Am,nb,B5,Bx,Aq,if_pos h1]) U)
  (fun h1 A=>M hX 4 A U U fun A=>bM hX BW [(5,.n9 (IntKind.wrap .i64 ((IntKind.wrap .i64 (1*2^min ((IntKind.wrap .i64 (8*s1))).toNat (IntKind.bits .i64))) - 1)))] [] A U (AE (by rw [IN (by omega)];omega)<|AB) U U (by kernel_rfl) (An _ _) ⟨.inl ⟨_,_,rfl,rfl,Uu s1 hs⟩,trivial⟩ fun A=>M hX 2 A U U fun A=>R9 A U h0 U (by simp only [Am,nb,B5,Bx,Aq,if_neg (α7 h1)]) U)
def AM (v1 o1 s1 x1:Int):Int:=if(!(((((((s1==1)||(s1==2))||(s1==4))||(s1==8))&&(decide (o1≥0)))&&(decide (o1≤(IntKind.wrap .i64 (8 - s1)))))&&((Int.tmod o1 s1)==0)))=true then v1 else IntKind.wrap .i64 ((((BitVec.ofInt (IntKind.bits .i64) (IntKind.wrap .i64 ((((BitVec.ofInt (IntKind.bits .i64) v1)&&& ~~~ (BitVec.ofInt (IntKind.bits .i64) (IntKind.wrap .i64 ((IntKind.wrap .i64 ((IntKind.wrap .i64 (1*2^min ((IntKind.wrap .i64 (8*s1))).toNat (IntKind.bits .i64))) - 1))*2^min ((IntKind.wrap .i64 (8*o1))).toNat (IntKind.bits .i64))))).toNat:Nat):Int)))|||(BitVec.ofInt (IntKind.bits .i64) (IntKind.wrap .i64 ((((BitVec.ofInt (IntKind.bits .i64) (IntKind.wrap .i64 (x1*2^min ((IntKind.wrap .i64 (8*o1))).toNat (IntKind.bits .i64))))&&&(BitVec.ofInt (IntKind.bits .i64) (IntKind.wrap .i64 ((IntKind.wrap .i64 ((IntKind.wrap .i64 (1*2^min ((IntKind.wrap .i64 (8*s1))).toNat (IntKind.bits .i64))) - 1))*2^min ((IntKind.wrap .i64 (8*o1))).toNat (IntKind.bits .i64))))).toNat:Nat):Int)))).toNat:Nat):Int)
theorem cL (v1 o1 s1 x1:Int)(hs:s1=1∨s1=2∨s1=4∨s1=8)(ho:0≤o1∧o1≤7):Fn Tryz.prog 138 [.n9 v1,.n9 o1,.n9 s1,.n9 x1] [] (Rt (.int .i64 (AM v1 o1 s1 x1)) []):=
 AR (n:=25) (by kernel_rfl) Tryz.func138 U U U fun G w a h0 A=>M hX 10 A U U fun A=>C9 [] (JV o1 s1) A U fun A=>M hX 3 A U U fun A=>fork 12 A U
  (fun h1 A=>M hX 8 A U U fun A=>R9 A U h0 U (by simp only [Am,nb,B5,Bx,AM,if_pos h1]) U)
  (fun h1 A=>M hX 4 A U U fun A=>bM hX BW [(6,.n9 (IntKind.wrap .i64 ((IntKind.wrap .i64 (1*2^min ((IntKind.wrap .i64 (8*s1))).toNat (IntKind.bits .i64))) - 1))),(10,.n9 (IntKind.wrap .i64 ((((BitVec.ofInt (IntKind.bits .i64) (IntKind.wrap .i64 ((((BitVec.ofInt (IntKind.bits .i64) v1)&&& ~~~ (BitVec.ofInt (IntKind.bits .i64) (IntKind.wrap .i64 ((IntKind.wrap .i64 ((IntKind.wrap .i64 (1*2^min ((IntKind.wrap .i64 (8*s1))).toNat (IntKind.bits .i64))) - 1))*2^min ((IntKind.wrap .i64 (8*o1))).toNat (IntKind.bits .i64))))).toNat:Nat):Int)))|||(BitVec.ofInt (IntKind.bits .i64) (IntKind.wrap .i64 ((((BitVec.ofInt (IntKind.bits .i64) (IntKind.wrap .i64 (x1*2^min ((IntKind.wrap .i64 (8*o1))).toNat (IntKind.bits .i64))))&&&(BitVec.ofInt (IntKind.bits .i64) (IntKind.wrap .i64 ((IntKind.wrap .i64 ((IntKind.wrap .i64 (1*2^min ((IntKind.wrap .i64 (8*s1))).toNat (IntKind.bits .i64))) - 1))*2^min ((IntKind.wrap .i64 (8*o1))).toNat (IntKind.bits .i64))))).toNat:Nat):Int)))).toNat:Nat):Int)))] [] A U (AE (by rw [IN (by omega)];omega)<|AE (by rw [IN (by omega)];omega)<|AB) U U (by kernel_rfl) (An _ _) ⟨.inl ⟨_,_,rfl,rfl,Uu s1 hs⟩,⟨.inl ⟨_,_,rfl,rfl,U5 v1 (IntKind.wrap .i64 (x1*2^min ((IntKind.wrap .i64 (8*o1))).toNat (IntKind.bits .i64))) (IntKind.wrap .i64 ((IntKind.wrap .i64 ((IntKind.wrap .i64 (1*2^min ((IntKind.wrap .i64 (8*s1))).toNat (IntKind.bits .i64))) - 1))*2^min ((IntKind.wrap .i64 (8*o1))).toNat (IntKind.bits .i64)))⟩,trivial⟩⟩ fun A=>M hX 2 A U U fun A=>R9 A U h0 U (by simp only [Am,nb,B5,Bx,AM,if_neg (α7 h1)]) U)
end Mc
section
open Go.RowKit
section
variable {P:Program}{n:Nat}{ks:ae}{G0:Gr}{w0:World}{T:List (Nat×SV)}{H:Hp}{G:Gr}{a:Act}{w w':World}{Q:ab}{K:List Fr}{ops:ah}{o:Oper}{rest:ai}{fuel i:Nat}{listed:Array Bool}
theorem Jc {id:Nat}(f:Nat)(BW:P.follows .mixedOrders=true)(hf:ops.size=f)(A:Sy n T H ks G0 w0 G a w)(h:∀{w},Sy n T H ks G0 w0 G a w→wpAny P .any ops (He P Q K) f (Array.replicate f false) a w):Goal P Q K (.code (.region id ops true)) a w:=by
 subst hf
 refine π7 BW ?_
 have iN:Ms H ks G0 w0 G w.drew:=A.ms.grow (By.refl w).drew
 exact h (iN.sy A.size A.defers A.get)
theorem HP {p q:Prop}(h:p→q)(t:p):q:=h t
theorem AS {rs:ae}(hr:Region.ready .any ops listed=rs)(Bw:rs≠[])(h:∀i∈rs,wpOp P ops Q i (wpAny P .any ops Q fuel (listed.setIfInBounds i true)) a w):wpAny P .any ops Q (fuel+1) listed a w:=by
 unfold wpAny
 rw [hr]
 exact⟨fun e=>absurd e Bw,h⟩
theorem EJ (hr:Region.ready .any ops listed=[])(h:Goal P Q K .norm a w):wpAny P .any ops (He P Q K) fuel listed a w:=by
 cases fuel with
 |zero=>exact⟨hr,h⟩
 |succ f=>
  unfold wpAny
  rw [hr]
  exact⟨fun _=>h,fun i hi=>by cases hi⟩
theorem LD (ho:ops[i]?=some o)(h:BY P ops o a w fun v w'=>wpAny P .any ops Q fuel (listed.setIfInBounds i true) (a.put o.dst v) w'):wpOp P ops Q i (wpAny P .any ops Q fuel (listed.setIfInBounds i true)) a w:=by
 unfold wpOp
 rcases h with⟨hw,h⟩|⟨hw,h⟩
 ·simp only [ho,hw,if_true]
  refine .inl (κ4 (fun a2 w2 h=>?_) (h Q))
  obtain⟨v,rfl,h1⟩:=h
  exact h1
 ·simp only [ho,hw,θ3,ξ6]
  exact h
theorem E4 {x:SV}{H':Hp}(ho:ops[i]?=some o)(A:Sy n T H ks G0 w0 G a w)(hd:DF n o.dst=true)(h:BG P n ops ks G0 w0 T H o x H')(hk:∀{G a w},Sy n (BN T o.dst x) H' ks G0 w0 G a w→wpAny P .any ops Q fuel (listed.setIfInBounds i true) a w):wpOp P ops Q i (wpAny P .any ops Q fuel (listed.setIfInBounds i true)) a w:=by
 refine LD ho ?_
 rcases h G a w A with⟨hw,h⟩|⟨hw,F,h1,h2⟩
 ·refine .inl ⟨hw,fun Q'=>?_⟩
  refine κ4 (fun a' w' hh=>?_) (h Q')
  obtain⟨v,rfl,F,h1,h2⟩:=hh
  exact⟨v,rfl,hk (Sy.put (h2.sy A.size A.defers fun t y hy=>Ax F y (A.get t y hy)) hd h1)⟩
 ·exact .inr ⟨hw,hk (Sy.put (h2.sy A.size A.defers fun t y hy=>Ax F y (A.get t y hy)) hd h1)⟩
theorem cM {f:Nat} {J:SV→World→World→Prop} {K:Value→World→Prop} (hf:Ly P f [] [] J) (A:Sy n T H ks G0 w0 G a w) (h1:Bi n ops T o=some (f,[]))
  (hk:∀x v w',J x w w'→(∀k,(keys H G).contains k=true→k<w.heap.size)→Sy n (BN T o.dst x) H ks G0 w0 G (a.put o.dst v) w'→K v w'):BY P ops o a w K:=by
 obtain⟨hd,us,hu,Lp⟩:=DO (P:=P) (ops:=ops) A h1 hf.1
 have hu':us=[]:=by cases hu;rfl
 subst hu'
 have hM:Mem [] [] w:=⟨rfl,fun i e h=>by simp at h,fun i j e f L M _ h=>by simp at h⟩
 refine Lp (hf.2 [] w [] hM U) fun e w' he=>?_
 obtain⟨x,v,e1,rfl,hg,hJ⟩:=he
 refine⟨v,rfl,hk x v _ hJ (fun k hz=>?_) (Sy.put ⟨A.size,A.defers,A.get,⟨A.mem.len,fun i e hi=>(A.mem.ent i e hi).mix hg.mix (fun _ _ _=>rfl),A.mem.sep⟩,A.pre,A.own,A.mix.grow hg⟩ hd (by simpa using Ax G x e1))⟩
 obtain⟨i,e,L,q1,q2,q3,q4⟩:=mem_keys.1 hz
 have:=A.mem.ent i e q1
 rw [q3]at this
 rw [←q4];exact Ag.lt this (BI q2)
theorem X4 {β:Type} {e s m t f:Nat} {l:List SV} {F:β→Nat→List SV} {R:β→Nat→World→World→Prop} (ho:ops[i]?=some o) (hf:Ly P f [] [] (fun x w w'=>∃(L:β) (b cp:Nat),x=.agg (l++[.sla (some ⟨b,0,none⟩) m cp])∧R L b w w'∧w.heap.size≤b∧CI e s m (F L) b cp w')) (A:Sy n T H ks G0 w0 G a w) (hd:o.dst=some t) (h1:Bi n ops T o=some (f,[]))
  (k:∀L b cp a' w' G',R L b w w'→w.heap.size≤b→(∀k,(keys (H++[some (.row e s m 0 (F L))]) G').contains k=true→k<w.heap.size∨k=b)→Sy n ((t,.agg (l++[.sl H.length m 0]))::BN T o.dst (.agg (l++[.sla (some ⟨b,0,none⟩) m cp]))) (H++[some (.row e s m 0 (F L))]) ks G0 w0 G' a' w'→wpAny P .any ops Q fuel (listed.setIfInBounds i true) a' w'):wpOp P ops Q i (wpAny P .any ops Q fuel (listed.setIfInBounds i true)) a w:=by
 refine LD ho (cM hf A h1 fun x v w' hJ hk A'=>?_)
 obtain⟨L,b,cp,rfl,hR,D2,hg⟩:=hJ
 have hl:look (BN T o.dst (.agg (l++[.sla (some ⟨b,0,none⟩) m cp]))) t=some (.agg (l++[.sla (some ⟨b,0,none⟩) m cp])):=by rw [hd];simp [BN,look,η8]
 have hlen:=A'.mem.len
 have A2:=A'.takeRowG t (y:=.agg (l++[.sl H.length m 0])) hg (fun i e L q1 q2 q3=>by
  have:=A.mem.ent i e q1
  rw [q2]at this
  have:=Ag.lt this q3
  omega) (β3 A.mix.size D2) hl (by
   unfold den
   rw [Mg (y:=.sla (some ⟨b,0,none⟩) m cp)]
   unfold den
   rw [α1 (by omega),hlen]
   simp [rm])
 refine k L b cp _ w' _ hR D2 (fun q hq=>?_) A2
 obtain⟨i,e',L',q1,q2,q3,q4⟩:=mem_keys.1 hq
 by_cases hi:i<H.length
 ·rw [α2 hi]at q1
  rw [α2 (by omega)]at q3
  exact .inl (hk q (mem_keys.2 ⟨i,e',L',q1,q2,q3,q4⟩))
 ·have PT:i=H.length:=by
   have:=(α0.1 q1).1
   simp at this;omega
  subst PT
  rw [α1 (by omega),hlen]at q3
  simp at q3
  subst q3
  exact .inr q4.symm
end
section
variable {n:Nat}{ks:ae}{G0:Gr}{w0:World}{T T':List (Nat×SV)}{H H':Hp}{G:Gr}{a:Act}{w:World}{Q:ab}{K K':List Fr}{pos pos':Pos}{E:Ob}
theorem Cg {ops:ah}{o:Oper}{i fuel:Nat}{listed:Array Bool}{QQ:ab}(x:SV)(ho:ops[i]?=some o)(A:Sy n T H ks G0 w0 G a w)(h:(DF n o.dst,DY ⟨X,true⟩ n ops T H o)=(true,some (.val x E)))(hE:Dc E)(hk:∀{G a w},Sy n (BN T o.dst x) H ks G0 w0 G a w→wpAny Tryz.prog .any ops QQ fuel (listed.setIfInBounds i true) a w):wpOp Tryz.prog ops QQ i (wpAny Tryz.prog .any ops QQ fuel (listed.setIfInBounds i true)) a w:=by
 simp only [κ8]at h
 exact E4 ho A h.1 (AT (X:=⟨X,true⟩) (out:=.val x E) hX h.2 hE) hk
theorem Ba {p:Nat→Prop}{a:Nat}{l:ae}(h:p a∧∀x∈l,p x):∀x∈a::l,p x:=List.forall_mem_cons.2 h
theorem CM {p:Nat→Prop}:∀x∈([]:ae),p x:=List.forall_mem_nil _
end
section
variable {P:Program}{X:Tx}{n:Nat}{ks:ae}{G0:Gr}{w0:World}{T:List (Nat×SV)}{l:ai}{xs:List SV}{Q:ab}{ef rs0:ae}{tb:List (List Nat×List Nat×Hp)}
def X5 (P:Program)(n:Nat)(ks:ae)(G0:Gr)(w0:World)(T:List (Nat×SV))(L:ai)(m:Nat)(xs:List SV)(ef:ae)(tb:List (List Nat×List Nat×Hp)):List (List Bool)→List (List Nat×List Nat×Hp)→Prop
 |bs::B,(c,rs,H)::ss=>Zj P n ks G0 w0 T L xs ef tb c rs H bs (L.take m) 0∧X5 P n ks G0 w0 T L m xs ef tb B ss
 |_,_=>True
theorem U6 {m:Nat}:∀{ss:List (List Nat×List Nat×Hp)},X5 P n ks G0 w0 T l m xs ef tb (ss.map fun s=>K7 l.toArray ef s.1 (l.take m) 0) ss→∀(k:Nat) (c rs:ae) (H:Hp),ss[k]?=some (c,rs,H)→Zj P n ks G0 w0 T l xs ef tb c rs H (K7 l.toArray ef c (l.take m) 0) (l.take m) 0
 | [],_,k,c,rs,H,h=>by cases h
 |(c1,r1,H1)::ss,hO,k,c,rs,H,h=>by
  simp only [ζ0,X5]at hO
  cases k with
  |zero=>cases h;exact hO.1
  |succ k=>exact U6 hO.2 k c rs H (by simpa using h)
def X6 (l:ai):Nat→List Nat→List Nat
 |0,s=>s
 |f+1,s=>X6 l f (s++(s.flatMap fun j=>match l[j]? with|some o=>(List.range l.length).filter (fun p=>waits o p)|none=>[]))
theorem Rk {l:ai}{S:Nat→Bool}(hS:∀(j:Nat) (o:Oper) (p:Nat),l[j]?=some o→S j=true→waits o p=true→S p=true):∀f s,(∀j∈s,S j=true)→∀j∈X6 l f s,S j=true
 |0,s,h=>h
 | f+1,s,h=>Rk hS f _ fun j hj=>by
  rcases ζ9.1 hj with hj|hj
  ·exact h j hj
  ·obtain⟨q,hq,hj⟩:=List.mem_flatMap.1 hj
   split at hj
   ·next o ho=>exact hS q o j ho (h q hq) (ν0.1 hj).2
   ·cases hj
def Rl (l:ai)(m f:Nat):List Oper→Nat→Bool
 | [],_=>true
 |o::r,i=>(Nat.blt i m||((List.range m).all fun j=>(X6 l f ((List.range l.length).filter fun p=>waits o p)).contains j))&&Rl l m f r (i+1)
theorem LF {l:ai}{m f:Nat}:∀{r:ai} {k:Nat},Rl l m f r k=true→∀(i:Nat) (o:Oper),r[i]?=some o→m≤k+i→∀j,j<m→j∈X6 l f ((List.range l.length).filter fun p=>waits o p)
 | [],_,_,_,_,h,_,_,_=>by cases h
 | p::r,k,h,i,o,hi,hm,j,hj=>by
  simp only [Rl,α3,β9]at h
  cases i with
  |zero=>
   cases hi
   rcases h.1 with h1|h1
   ·rw [μ7]at h1;omega
   ·have:=δ3.1 h1 j (by simpa using hj);simpa using this
  |succ i=>exact LF h.2 i o (by simpa using hi) (by omega) j hj
theorem sK {id:Nat} {H HE:Hp} {G:Gr} {a:Act} {w:World} {K:List Fr} (m f:Nat) (BW:P.follows .mixedOrders=true) (xs:List SV) (ef rs0:ae) (nw:Nat) (tb:List (List Nat×List Nat×Hp)) (B:List (List Bool)) (A:Sy n T H ks G0 w0 G a w)
  (h0:tb[0]?=some ([],rs0,H++List.replicate nw none)) (hE:So ef tb=some HE) (SK:(rs0.all fun r=>Nat.ble H.length r)=true) (aM:(ef.all fun p=>Nat.blt p m)=true) (hB:(tb.map fun s=>K7 l.toArray ef s.1 (l.take m) 0)=B) (hl:xs.length=l.length) (FQ:Kj l.toArray n []=true) (pJ:Nat.ble m l.length=true) (D0:Rl l m f l 0=true)
  (ZE:i7 (l.take m) T=true) (hO:X5 P n ks G0 w0 T l m xs ef tb B tb) (hk:∀(fuel:Nat) (listed:Array Bool) {G a w},listed=Array.ofFn (n:=l.length) (fun i=>decide (i.val<m))→l.length - m≤fuel→Sy n (JN (l.take m) (xs.take m) T) HE ks G0 w0 G a w→wpAny P .any l.toArray (He P Q K) fuel listed a w):Goal P Q K (.code (.region id l.toArray true)) a w:=by
 refine π7 BW ?_
 have iN:Ms H ks G0 w0 G w.drew:=A.ms.grow (By.refl w).drew
 rw [δ3]at SK aM
 have v7:=δ8 pJ
 refine Rc (P:=P) (xs:=xs) (T:=T) (ef:=ef) (rs0:=rs0) (tb:=tb) m v7 (fun S hS i o hi ho hw j hj=>Rk hS f _ (fun p hp=>hw p (ν0.1 hp).2) j (LF D0 i o ho (by omega) j hj)) FQ (fun t x hx j o h3 h4 hj i q hq hi Bw=>Rh ZE hx (by rw [γ1 hj];exact h3) h4 (by rw [γ1 hi];exact hq) Bw) (fun t x hx r hr=>?_) hl (fun k c rs H hk i o hi ho hm=>?_) (fun k c rs H' Dz GZ fuel listed G a w Kh ZK v8 A'=>?_) _ _ _ _ 0 [] rs0 _ (G++List.replicate nw none) (by simp) (by
  refine β3 (μ4 _ _) (by simp)) h0 ⟨A.size,A.defers,fun t x hx _=>Ax _ x (A.get t x hx),fun j o x _ hj=>?_,Sy.pad (a:=a) iN nw,fun p hp=>?_,fun p hp=>absurd hp (by simp),fun r hr=>hr,fun j o p _ hj=>?_⟩ (fun i hi=>by simp [β5,ε6];split<;>rfl)
 ·have:=SK r hr
  rw [A.mem.len]at this
  exact P6 (G:=G) (δ8 this) x (A.get t x hx)
 ·have:=NZ (U6 (by rw [hB];exact hO) k c rs H hk) i o (by rw [γ1 hi];exact ho) (by rw [δ1];exact hm)
  rwa [δ1]at this
 ·have h2:(ef.all c.contains)=true:=by
   rw [δ3]
   intro p hp
   have:=GZ p hp (by have:=aM p hp;simpa [μ7]using this)
   simpa using this
  cases HK hE k c rs H' Dz h2
  refine hk fuel listed ?_ v8 A'
  apply Array.ext
  ·simp [Kh]
  ·intro i h1 h2
   have:=ZK i
   simp [Array.getD,h1]at this⊢
   exact this
 ·exfalso;simp [β5,ε6]at hj;split at hj<;>simp at hj
 ·constructor
  ·intro hj;exfalso;simp [β5,ε6]at hj;split at hj<;>simp at hj
  ·intro hj;cases hj
 ·exfalso;simp [β5,ε6]at hj;split at hj<;>simp at hj
end
section
variable {P:Program}{Y:Tb}{n:Nat}{ks:ae}{G0:Gr}{w0:World}{T:List (Nat×SV)}{H:Hp}{G:Gr}{a:Act}{w:World}{Q:ab}{K:List Fr}{pos:Pos}{ops:ah}{o:Oper}{rest:ai}
theorem lD {x y:Operand}{t i e s mm mc b:Nat}{ti:TI}{f0 f:Nat→List SV}{ao:ak}(hY:Y.ok P=true)(BM:o.op=.call {callee:=.builtin .append,args:= #[x,y],argTypes:= #[t,t]})(ZJ:Av ops T o.guard=some .run)(hx:DA T x=some (.sl i 0 0))(hi:lg H i=some (some (.row e s 0 0 f0)))(hy:DA T y=some (.sla ao mm mc))(Fm:Y.get t=some ti)(MK:ti.elm=some (e,s,b))(PS:Nat.ble b 10000=true)(h0':AP ao s mm f w0 ks)(UA:mm≤1000000)(Be:∀k,∃vs,AO [] (f k)=some vs∧vs.length=s)(Bc:∀k,k<mm→∃E,FU (f k)=some E∧Dc E):
  BG P n ops ks G0 w0 T H o (.sl H.length mm 0) (CE H i none++[some (.row e s mm 0 f)]):=by
 intro G a w A
 have hl:=AP.ok w0 ks w ks h0' A.mix (fun b hb=>.inl hb)
 obtain⟨d,op,ty,pos,af,gd⟩:=o
 have hw:=A7 (gd:=none) A ZJ
 simp only at BM
 subst BM
 have PS:=δ8 PS
 rw [At]at hi
 obtain⟨r1,r2,xs,r3,r4⟩:=A.mem.ent i _ hi
 obtain⟨ie,z,f1',f2',f3',f4',f5',f6',f7'⟩:=Cp (DJ (Tb.at hY Fm) MK)
 have Bb:=A.ev hx
 have C8:=A.ev hy
 obtain⟨q,hq⟩:∃q,G[i]?=some q:=by
  have:i<G.length:=by rw [←A.mem.len];exact(α0.1 hi).1
  exact⟨G[i],by simp [this]⟩
 rw [hq]at r2 r4
 simp only [δ2]at r2 r4
 unfold den at Bb C8
 rw [hq]at Bb
 simp only [β1]at Bb C8
 cases r3
 obtain⟨ys,W6⟩:=IJ (f:=f) Be mm
 have iB:=DG (f:=f) Be W6
 have ZI:Value.ownBlock (.slice (q.map fun L=>⟨L.b,L.pre.length,none⟩) 0 (0+rm q))=q.map (·.b):=by cases q<;>rfl
 by_cases h0:mm=0
 ·subst h0
  cases W6
  have W7:Src P ie.size t (.slice ao 0 mc) 0 [] w:=by
   cases ao with
   |none=>exact Src.ofNil w f1' mc
   |some x0=>exact ρ1 w f1' x0 0 mc [] (by simp) (fun j u hj=>by simp at hj) (fun u hu=>by cases hu)
  have hr:=σ5 (P:=P) w t t ty e ie f1' f2' (q.map fun L=>⟨L.b,L.pre.length,none⟩) 0 (0+rm q) (β7 _) _ W7
  refine Ad (v:=.slice (q.map fun L=>⟨L.b,L.pre.length,none⟩) 0 (0+rm q)) (w':=w) hw ?_ ?_
  ·unfold execOp
   simp only [resolve,invoke,builtin,γ4,γ6,α9,θ0,ζ0,ι7,←Bb,←C8,hr]
  ·have A2:=A.rowMove (w':=w) (p':=q) (m':=0) (c':=0) (xs':=[]) (f':=f) hi ⟨rfl,rfl,rfl,β8 _,fun _ _ _=>rfl⟩ r4 r2 (.inl (by rw [hq];rfl)) U Be
   refine⟨_,?_,A2.ms⟩
   unfold den
   rw [α1 (by rw [A.mem.len];exact β8 _),A.mem.len]
   simp
 ·rcases hl.2 with hh|⟨bb,oo,rfl,BU,_,FE⟩
  ·exact absurd hh h0
  have hmul:(0+mm)*b≤2000000*10000:=μ2 (by omega) PS
  obtain⟨v',w',hr,k1,k2,_,k4⟩:=τ0 (P:=P) w 0 t ty e ie z s b f1' f2' f3' f4' f5' f6' f7' _ 0 [] r4 ⟨bb,oo,none⟩ mm mc ys iB
   (fun j u hj=>by
    obtain⟨k,r,us,d1,d2,d3,d4⟩:=Gt (f:=f) Be W6 j u hj
    obtain⟨us',b2',b3'⟩:=FE k (by omega)
    rw [b2']at d2
    cases d2
    have:=b3' r u d3
    rw [ζ3,d4,←η4]
    exact this)
   (fun u hu=>by
    obtain⟨j,hj⟩:=κ2.1 hu
    obtain⟨k,r,us,d1,d2,d3,d4⟩:=Gt (f:=f) Be W6 j u hj
    obtain⟨E,o1,o2⟩:=Bc k d1
    exact δ3.1 (Cq o1 o2 d2) u (θ1 d3))
   (by simp only [maxLen];omega) (by omega) (β7 _)
  obtain⟨p',o1,o2,o3⟩:=JQ k1
  rw [ZI]at k2 k4
  rw [o3]at k4
  rw [o1]at k1
  simp only [δ1,ξ2]at k1
  refine Ad (v:=v') (w':=w') hw ?_ ?_
  ·unfold execOp
   have wA:Value.slice (some ⟨bb,oo,none⟩) mm mc=a.eval y:=C8
   simp only [resolve,invoke,builtin,γ4,γ6,α9,θ0,ζ0,ι7,←Bb,←wA,hr]
  ·have A2:=A.rowMove (p':=p') (m':=mm) (c':=0) (f':=f) hi (by rw [hq];exact k2) (by simpa using k1) o2 (by rw [hq];exact k4) W6 Be
   refine⟨_,?_,A2.ms⟩
   unfold den
   rw [α1 (by rw [A.mem.len];exact β8 _),A.mem.len]
   simp [o1]
theorem sL {R:Prop} (i j:Nat) {e s m c:Nat} {f:Nat→List SV} {cs:List SV} (H':Option Addr→Nat→Hp) (A:Sy n T H ks G0 w0 G a w) (hi:lg H i=some (some (.row e s m c f))) (hj:lg H j=some (some (.blk (.sl i m c::cs)))) (Ge:Nat.beq i j=false) (hH:∀ao cp,CE (CE H i none) j (some (.blk (.sla ao m cp::cs)))=H' ao cp)
  (k:∀ao cp,Sy n T (H' ao cp) ks G0 w0 G a w→AP ao s m f w (keys (H' ao cp) G)→(∀q:Addr,ao=some q→ks.contains q.block=true∨w0.heap.size≤q.block)→R):R:=by
 obtain⟨ao,cp,h1,h2,h3⟩:=A.layCell i j hi hj Ge hH
 exact k ao cp h1 h2 h3
theorem X7 {fuel k:Nat}{listed l0:Array Bool}(e:listed=l0)(h:k≤fuel)(hh:∀f,wpAny P .any ops Q (f+k) l0 a w):wpAny P .any ops Q fuel listed a w:=by
 subst e
 obtain⟨f,rfl⟩:∃f,fuel=f+k:=⟨fuel - k,by omega⟩
 exact hh f
theorem cN {R:Prop} (i j:Nat) (l r:List SV) {e s m c:Nat} {f:Nat→List SV} (H':Option Addr→Nat→Hp) (A:Sy n T H ks G0 w0 G a w) (hi:lg H i=some (some (.row e s m c f))) (hj:lg H j=some (some (.blk (l++.sl i m c::r)))) (Ge:Nat.beq i j=false) (hH:∀ao cp,CE (CE H i none) j (some (.blk (l++.sla ao m cp::r)))=H' ao cp)
  (k:∀ao cp,Sy n T (H' ao cp) ks G0 w0 G a w→AP ao s m f w (keys (H' ao cp) G)→(∀q:Addr,ao=some q→ks.contains q.block=true∨w0.heap.size≤q.block)→R):R:=by
 obtain⟨ao,cp,hd,A1,hl,Qq⟩:=A.layAt i hi U
 have Bw:i≠j:=fun e=>by subst e;rw [η8]at Ge;cases Ge
 have Jj:lg (CE H i none) j=some (some (.blk (l++.sl i m c::r))):=by
  rw [At]at hj⊢
  rw [Aw,γ0 Bw];exact hj
 have A2:=A1.cellEq j (cs':=l++.sla ao m cp::r) Jj (KX (by rw [hd];rfl) l r) (hH ao cp)
 refine k ao cp A2 (AP.ok w _ w _ hl (CQ.refl _ _) (fun b hb=>.inl ?_)) Qq
 obtain⟨q,en,L,g1,g2,g3,g4⟩:=mem_keys.1 hb
 rw [←hH ao cp,Aw]at g1
 by_cases hk:q=j
 ·subst hk
  rw [At]at Jj
  exact mem_keys.2 ⟨q,_,L,Jj,rfl,g3,g4⟩
 ·rw [γ0 (ε9 hk)]at g1
  exact mem_keys.2 ⟨q,en,L,g1,g2,g3,g4⟩
theorem cO (i e s:Nat)(f:Nat→List SV)(l r:List SV){H':Hp}(A:Sy n T H ks G0 w0 G a w)(hi:lg H i=some (some (.blk (l++.sla none 0 0::r))))(Be:∀k,∃vs,AO [] (f k)=some vs∧vs.length=s)(hH:CE (H++[some (.row e s 0 0 f)]) i (some (.blk (l++.sl H.length 0 0::r)))=H')(k:∀{G},Sy n T H' ks G0 w0 G a w→Goal P Q K pos a w):Goal P Q K pos a w:=by
 have B:=A.nilPlace e s f Be
 rw [At]at hi
 refine k (B.cellEq i (cs:=l++.sla none 0 0::r) (by rw [At,α2 (α0.1 hi).1];exact hi) (KX ?_ l r) hH)
 have:den (G++[none]) (.sl H.length 0 0)=some (.slice none 0 0):=by
  unfold den
  rw [α1 (by rw [A.mem.len];exact β8 _),A.mem.len]
  simp [rm]
 rw [this]
 rfl
end
section
variable {P:Program}{Y:Tb}{n:Nat}{ks:ae}{G0:Gr}{w0:World}{T:List (Nat×SV)}{H:Hp}{G:Gr}{a:Act}{w:World}{Q:ab}{K:List Fr}{pos:Pos}{ops:ah}{o:Oper}{rest:ai}{pre:World→Prop}
theorem Zm (h:∀(i:Nat) (e:BZ),H[i]?=some (some e)→e.mut=false)(b:Nat):(keys H G).contains b=false:=by
 cases hz:(keys H G).contains b with
 |false=>rfl
 |true=>
  obtain⟨i,e',L,q1,q2,_⟩:=mem_keys.1 hz
  rw [h i e' q1]at q2;cases q2
end
abbrev E5 (x:SV)(r:Rg)(at_:Int)(p:SV):List SV:=[x,.int .i64 (r 0),.int .i64 (r 1),.int .i64 (r 2),.int .i64 (r 3),.int .i64 (r 4),.int .i64 (r 5),.int .i64 (r 6),.int .i64 (r 7),.int .i64 at_,p]
section
variable {P:Program}{Y:Tb}{n:Nat}{ks:ae}{G0:Gr}{w0:World}{T:List (Nat×SV)}{H:Hp}{G:Gr}{a:Act}{w:World}{ops:ah}{o:Oper}{rest:ai}{Q:ab}{K:List Fr}{pos:Pos}
theorem Sw {x y:Operand}{ty i:Nat}{j v at_:Int}{r:Rg}{s1 s2:SV}{ti:TI}(hX:Y.ok P=true)(BM:o.op=.store ty x y)(hg:Av ops T o.guard=some .run)(hx:DA T x=some (.ix (.ptr i 1) 1 8 j 0))(hy:DA T y=some (.int .i64 v))(hH:lg H i=some (some (.blk (E5 s1 r at_ s2))))(Fm:Y.get ty=some ti)(DV:ti.row=none)(Bc:ti.one=true)(hj:0≤j∧j<8):
  BG P n ops ks G0 w0 T H o (.tup []) (CE H i (some (.blk (E5 s1 (AX r j.toNat v) at_ s2)))):=fun G a w A=>by
 have hw:=A7 (gd:=none) A hg
 obtain⟨d,op,ty',pos,af,gd⟩:=o
 simp only at BM
 subst BM
 have Bb:=A.ev hx
 have C8:=A.ev hy
 have key:∀k:Nat,j=(k:Int)→(∀q:List SV,sp (1+k) (E5 s1 r at_ s2) [.int .i64 v]=some q→q=E5 s1 (AX r j.toNat v) at_ s2→BY P ops {dst:=d,op:=.store ty x y,type:=ty',pos:=pos,after:=af,guard:=gd} a w fun v' w'=>∃F,den (G++F) (.tup [])=some v'∧Ms (CE H i (some (.blk (E5 s1 (AX r j.toNat v) at_ s2)))) ks G0 w0 (G++F) w'):=by
  intro k hk q hr e
  rw [hk,Al (q:=1+k) k (by omega)]at Bb
  have hs:DM ⟨Y,true⟩ H ty (.ptr i (1+k)) (.int .i64 v)=some (i,q,[]):=by
   have ht:Tx.get ⟨Y,true⟩ ty=some ti:=Fm
   simp only [DM,hH,ht,DV,Bc,hr]
   rfl
  refine Di (X:=⟨Y,true⟩) hX A hs AB Bb C8 U U hw fun cs L vs' w' a1 a2 a3 a4 a5=>⟨[],rfl,?_⟩
  subst e
  simpa using (A.turn a1 a2 a3 a4 a5).ms
 rcases kY hj with rfl|rfl|rfl|rfl|rfl|rfl|rfl|rfl
 ·exact key 0 U _ U U
 ·exact key 1 U _ U U
 ·exact key 2 U _ U U
 ·exact key 3 U _ U U
 ·exact key 4 U _ U U
 ·exact key 5 U _ U U
 ·exact key 6 U _ U U
 ·exact key 7 U _ U U
theorem Sx {x:Operand}{ty i:Nat}{j at_:Int}{r:Rg}{s1 s2:SV}{ti:TI}(hX:Y.ok P=true)(BM:o.op=.load ty x)(hg:Av ops T o.guard=some .run)(hx:DA T x=some (.ix (.ptr i 1) 1 8 j 0))(hH:lg H i=some (some (.blk (E5 s1 r at_ s2))))(Fm:Y.get ty=some ti)(DV:ti.row=none)(Bc:ti.one=true)(hj:0≤j∧j<8):
  BG P n ops ks G0 w0 T H o (.int .i64 (r j.toNat)) H:=fun G a w A=>by
 have hw:=A7 (gd:=none) A hg
 obtain⟨d,op,ty',pos,af,gd⟩:=o
 simp only at BM
 subst BM
 have Bb:=A.ev hx
 have key:∀k:Nat,j=(k:Int)→(lg (E5 s1 r at_ s2) (1+k)=some (.int .i64 (r j.toNat)))→BY P ops {dst:=d,op:=.load ty x,type:=ty',pos:=pos,after:=af,guard:=gd} a w fun v' w'=>∃F,den (G++F) (.int .i64 (r j.toNat))=some v'∧Ms H ks G0 w0 (G++F) w':=by
  intro k hk hr
  rw [hk,Al (q:=1+k) k (by omega)]at Bb
  have hs:Ec ⟨Y,true⟩ H ty (.ptr i (1+k))=some (.int .i64 (r j.toNat),[]):=by
   have ht:Tx.get ⟨Y,true⟩ ty=some ti:=Fm
   simp only [Ec,Gk,hH,Lu,DK,ht,DV,Bc,hr,θ5]
  obtain⟨z,hz,h3⟩:=FV (X:=⟨Y,true⟩) (P:=P) (ops:=ops) (d:=d) (ty:=ty') (pos:=pos) (af:=af) (gd:=gd) (x:=x) hX A hs Bb
  exact h3 (fun p hp=>by cases hp) rfl hw _ ⟨[],by simpa using hz,by simpa using A.ms⟩
 rcases kY hj with rfl|rfl|rfl|rfl|rfl|rfl|rfl|rfl
 ·exact key 0 U U
 ·exact key 1 U U
 ·exact key 2 U U
 ·exact key 3 U U
 ·exact key 4 U U
 ·exact key 5 U U
 ·exact key 6 U U
 ·exact key 7 U U
theorem Sy.takeK (A:Sy n T H ks G0 w0 G a w){L:Loc}{en:BZ}(SO:Ag G w (some L) en)(aI:en.mut=true)(hn:∀(i:Nat) (e:BZ) (M:Loc),H[i]?=some (some e)→G[i]?=some (some M)→¬e.empty→M.b≠L.b)(ho:ks.contains L.b=true∨w0.heap.size≤L.b):
  Sy n T (H++[some en]) ks G0 w0 (G++[some L]) a w:=A.addE SO (fun i e M N h1 h2 h3 h=>by cases h3;exact hn i e M h1 h2 (h.elim (·.1) fun q=>BI q.1)) fun _ M h=>by cases h;exact ho
end
abbrev EO (ps:List Int):Nat→List SV:=fun j=>[.int .i64 (ps.getD j 0)]
theorem X8 (ps:List Int):∀k,∃vs,AO [] (EO ps k)=some vs∧vs.length=1:=fun k=>⟨_,rfl,rfl⟩
def Jt (pb:Option (Nat×Nat))(n:Nat):Value:=match pb with
 |none=>.slice none 0 0
 |some q=>.slice (some ⟨q.1,0,none⟩) n q.2
def Hj (pb:Option (Nat×Nat)):List Nat:=match pb with
 |none=>[]
 |some q=>[q.1]
def cP (pb:Option (Nat×Nat))(ps:List Int)(w:World):Prop:=match pb with
 |none=>ps=[]
 |some q=>CI 3 1 ps.length (EO ps) q.1 q.2 w
structure Gv (L:Loc)(cs:List SV)(pb:Option (Nat×Nat))(ps:List Int)(w:World):Prop where
 blk:∃vs,AO [] cs=some vs∧D3 w L.b (L.pre++(vs++[Jt pb ps.length])++L.post).toArray L.t
 path:cP pb ps w
 ne:∀q,pb=some q→q.1≠L.b
theorem HQ {G:Gr}{x:SV}{v:Value}(hx:den G x=some v):∀{l:List SV} {vs:aj},AO G l=some vs→AO G (l++[x])=some (vs++[v])
 | [],vs,h=>by cases h;exact BK hx U
 |y::l,vs,h=>by
  obtain⟨u,ws,h1,h2,rfl⟩:=BH h
  exact BK h1 (HQ hx h2)
section
variable {P:Program}{Y:Tb}{n:Nat}{ks:ae}{G0:Gr}{w0:World}{T:List (Nat×SV)}{H:Hp}{G:Gr}{a:Act}{w:World}{ops:ah}{o:Oper}{rest:ai}{Q:ab}{K:List Fr}{pos:Pos}
theorem Sy.takeT (A:Sy n T H ks G0 w0 G a w)(t:Nat){L:Loc}{cs:List SV}{pb:Option (Nat×Nat)}{ps:List Int}(ho:Gv L cs pb ps w)(Cy:IC H G (L.b::Hj pb))(Do:∀b,(L.b::Hj pb).contains b=true→ks.contains b=true∨w0.heap.size≤b)(ht:look T t=some (EZ L.b L.pre.length)):
  ∃p,Sy n ((t,.ptr (H.length+1) 0)::T) (H++[some (.row 3 1 ps.length 0 (EO ps))]++[O (cs++[.sl H.length ps.length 0])]) ks G0 w0 (G++[p]++[some L]) a w∧∀M:Loc,p=some M→(Hj pb).contains M.b=true:=by
 have hlen:=A.mem.len
 obtain⟨vs,T8,hb⟩:=ho.blk
 have fin:∀(p:Option Loc) (A1:Sy n T (H++[some (.row 3 1 ps.length 0 (EO ps))]) ks G0 w0 (G++[p]) a w) (hp:∀M:Loc,p=some M→M.b≠L.b) (hd:den (G++[p]) (.sl H.length ps.length 0)=some (Jt pb ps.length)),Sy n ((t,.ptr (H.length+1) 0)::T) (H++[some (.row 3 1 ps.length 0 (EO ps))]++[O (cs++[.sl H.length ps.length 0])]) ks G0 w0 (G++[p]++[some L]) a w:=by
  intro p A1 hp hd
  have A2:=A1.takeK (L:=L) (en:=.blk (cs++[.sl H.length ps.length 0])) ⟨L,_,rfl,HQ hd (by simpa using A6 (G++[p]) cs T8),hb⟩ U (fun i e M h1 h2 h3=>by
   by_cases hi:i<H.length
   ·rw [α2 hi]at h1
    rw [α2 (by omega)]at h2
    have:=Cy i e M h1 h2 h3
    intro z;rw [z]at this;simp at this
   ·have PT:i=H.length:=by
     have:=(α0.1 h1).1
     simp at this;omega
    subst PT
    rw [α1 (by omega),hlen]at h2
    simp at h2
    exact hp M h2) (Do L.b (by simp))
  refine A2.slotEq t ht ?_
  unfold den
  rw [α1 (by simp;omega)]
  simp [hlen]
 cases ZN:pb with
 |none=>
  subst ZN
  have ZO:ps=[]:=ho.path
  subst ZO
  refine⟨none,fin none (A.nilPlace 3 1 _ (X8 _)) (fun M h=>by cases h) ?_,fun M h=>by cases h⟩
  unfold den
  rw [α1 (by omega),hlen]
  simp [rm,Jt]
 | some q=>
  subst ZN
  obtain⟨p1,xs,p2,p3⟩:CI 3 1 ps.length (EO ps) q.1 q.2 w:=ho.path
  have A1:=A.takeK (L:=⟨q.1,[],List.replicate q.2 undef,3⟩) (en:=.row 3 1 ps.length 0 (EO ps)) ⟨p1,fun L hL=>by cases hL;rfl,xs,p2,by simpa [rm]using p3⟩ U (fun i e M h1 h2 h3=>by
   have:=Cy i e M h1 h2 h3
   intro z;rw [z]at this;simp [Hj]at this) (Do q.1 (by simp [Hj]))
  refine⟨_,fin _ A1 (fun M h=>by cases h;exact ho.ne q U) ?_,fun M h=>by cases h;simp [Hj]⟩
  unfold den
  rw [α1 (by omega),hlen]
  simp [rm,Jt]
theorem Sy.giveT (A:Sy n T H ks G0 w0 G a w)(i q:Nat){cs:List SV}{ps:List Int}{L:Loc}{vs:aj}(Eo:G[i]?=some (some L))(hi:lg H i=some (some (.blk (cs++[.sl q ps.length 0]))))(hq:lg H q=some (some (.row 3 1 ps.length 0 (EO ps))))(SW:Nat.beq i q=false)(Ld:AO [] cs=some vs):
  ∃pb,Gv L cs pb ps w∧∀b,(Hj pb).contains b=true→ks.contains b=true∨w0.heap.size≤b:=by
 have Bw:i≠q:=fun e=>by subst e;rw [η8]at SW;cases SW
 rw [At]at hi hq
 obtain⟨L',us,p1,p2,p3⟩:=A.mem.ent i _ hi
 rw [Eo]at p1
 cases p1
 obtain⟨h1,h2,xs,h3,h4⟩:=A.mem.ent q _ hq
 have hu:∀v,den G (.sl q ps.length 0)=some v→us=vs++[v]:=fun v hv=>by
  have:=HQ hv (by simpa using A6 G cs Ld)
  rw [this]at p2;exact(β6 p2).symm
 have nil:(G[q]?).getD none=none→∃pb,Gv L cs pb ps w∧∀b,(Hj pb).contains b=true→ks.contains b=true∨w0.heap.size≤b:=fun hz=>by
  rw [hz]at h4
  have ZO:ps=[]:=by
   rcases h4.2 with⟨_,h⟩|⟨g,cap,cur,h,_⟩
   ·exact γ9 (by omega)
   ·cases h
  subst ZO
  refine⟨none,⟨⟨vs,Ld,?_⟩,rfl,fun q h=>by cases h⟩,fun b h=>by simp [Hj]at h⟩
  have BU:q<G.length:=by rw [←A.mem.len];exact(α0.1 hq).1
  have J8:G[q]?=some none:=by
   rw [β4 BU]at hz⊢
   simpa using hz
  rw [hu (.slice none 0 0) (by unfold den;rw [J8];simp [rm])]at p3
  exact p3
 cases hz:G[q]? with
 |none=>exact nil (by rw [hz];rfl)
 | some p=>
  cases p with
  |none=>exact nil (by rw [hz];rfl)
  | some M=>
   rw [hz]at h2 h4
   have D0:M.pre=[]:=h2 M U
   have ZL:w.ownsRow 0 3 1 (.slice (some ⟨M.b,0,none⟩) ps.length (0+rm (some M))) ps.length xs:=by
    have:(Option.map (fun L:Loc=>(⟨L.b,L.pre.length,none⟩:Addr)) (some M))=some ⟨M.b,0,none⟩:=by simp [D0]
    rw [←this];exact h4
   refine⟨some (M.b,0+rm (some M)),⟨⟨vs,Ld,?_⟩,⟨h1,xs,h3,ZL⟩,fun q' h=>?_⟩,fun b h=>?_⟩
   ·rw [hu (.slice (some ⟨M.b,0,none⟩) ps.length (0+rm (some M))) (by unfold den;rw [hz];simp [D0])]at p3
    exact p3
   ·cases h;exact fun z=>A.mem.sep i q _ _ L M Bw hi hq U Eo hz (fun h=>h) z.symm
   ·have:b=M.b:=by simpa [Hj]using h
    subst this
    exact A.own q _ M hq U hz
theorem Sy.moveT (A:Sy n T H ks G0 w0 G a w)(i q:Nat){cs:List SV}{e s m:Nat}{f:Nat→List SV}{H':Hp}(hi:lg H i=some (some (.blk (cs++[.sl q m 0]))))(hq:lg H q=some (some (.row e s m 0 f)))(SW:Nat.beq i q=false)(hH:CE (CE H q none++[some (.row e s m 0 f)]) i (some (.blk (cs++[.sl H.length m 0])))=H'):
  ∃p,Sy n T H' ks G0 w0 (G++[p]) a w:=by
 have Bw:i≠q:=fun e=>by subst e;rw [η8]at SW;cases SW
 rw [At]at hi hq
 have IA:=(α0.1 hi).1
 have wB:=(α0.1 hq).1
 have hlen:=A.mem.len
 have UB:(CE H q none).length=H.length:=by rw [Aw];simp
 have B:=A.hide q
 obtain⟨h1,h2,xs,h3,h4⟩:=A.mem.ent q _ hq
 have vP:lg (CE H q none++[some (BZ.row e s m 0 f)]) i=some (some (.blk (cs++[.sl q m 0]))):=by
  rw [At,α2 (by omega),Aw,γ0 (ε9 Bw)];exact hi
 have fin:∀p,(G[q]?).getD none=p→Sy n T (CE H q none++[some (.row e s m 0 f)]) ks G0 w0 (G++[p]) a w→Sy n T H' ks G0 w0 (G++[p]) a w:=fun p hp A2=>by
  refine A2.cellEq i (cs:=cs++[.sl q m 0]) (cs':=cs++[.sl H.length m 0]) vP (KX ?_ cs []) hH
  have J8:G[q]?=some p:=by
   rw [β4 (by omega)]at hp⊢
   simpa using hp
  unfold den
  rw [α1 (by omega),α2 (by omega),J8,hlen]
  simp
 cases hz:(G[q]?).getD none with
 | none=>
  rw [hz]at h4
  have hm:m=0:=by
   rcases h4.2 with⟨_,h⟩|⟨g,cap,cur,h,_⟩
   ·omega
   ·cases h
  subst hm
  exact⟨none,fin none hz (B.nilPlace e s f h1)⟩
 | some M=>
  have J8:G[q]?=some (some M):=by
   rw [β4 (by omega)]at hz⊢
   simpa using hz
  refine⟨some M,fin (some M) hz (B.takeK (L:=M) (en:=.row e s m 0 f) (by have:=A.mem.ent q _ hq;rw [hz]at this;exact this) U (fun j x N g1 g2 g3=>?_) (A.own q _ M hq U J8))⟩
  rw [Aw]at g1
  by_cases hj:j=q
  ·subst hj;rw [γ7 wB]at g1;cases g1
  ·rw [γ0 (ε9 hj)]at g1
   exact fun z=>A.mem.sep q j _ x M N (ε9 hj) hq g1 U J8 g2 g3 z.symm
theorem cQ {b q0 s:Nat}{f:Nat→List SV}(t:Nat){H':Hp}(h0:AP (some ⟨b,q0,none⟩) s 1 f w0 ks)(A:Sy n T H ks G0 w0 G a w)(ht:look T t=some (EZ b q0))(hH:H++[some (.lst s 1 f)]=H')(k:∀{G},Sy n ((t,.el H.length s 0 0)::T) H' ks G0 w0 G a w→Goal P Q K pos a w):Goal P Q K pos a w:=by
 subst hH
 have A1:=A.adoptB (bo:=some (b,q0)) h0 (by decide) t ht (fun z hz=>by cases hz)
 have hlen:=A.mem.len
 have A2:=A1.slotEq t (x:=EZ b q0) (y:=.el H.length s 0 0) (by show look ((t,EZ b q0)::T) t=_;unfold look;rw [η8];rfl) (by
  unfold den
  rw [α1 (by omega),hlen]
  simp [Ep])
 refine k ⟨A2.size,A2.defers,fun q x hx=>A2.get q x ?_,A2.mem,A2.pre,A2.own,A2.mix⟩
 unfold look at hx⊢
 cases hb:Nat.beq t q with
 |true=>rw [hb]at hx;exact hx
 |false=>rw [hb]at hx;show look _ _=_;unfold look;rw [hb];exact hx
abbrev Sz (x:SV)(r:Rg)(at_:Int):List SV:=[x,.int .i64 (r 0),.int .i64 (r 1),.int .i64 (r 2),.int .i64 (r 3),.int .i64 (r 4),.int .i64 (r 5),.int .i64 (r 6),.int .i64 (r 7),.int .i64 at_]
theorem Zn (t:Nat) {L:Loc} {cs:List SV} {pb:Option (Nat×Nat)} {ps:List Int} {H':Hp} (A:Sy n T [] (L.b::Hj pb) G0 w0 G a w) (ho:Gv L cs pb ps w) (ht:look T t=some (EZ L.b L.pre.length)) (hH:[some (.row 3 1 ps.length 0 (EO ps)),O (cs++[.sl 0 ps.length 0])]=H')
  (k:∀{G},Sy n ((t,.ptr 1 0)::T) H' (L.b::Hj pb) G0 w0 G a w→G[1]?=some (some L)→(∀b,(keys H' G).contains b=true→(L.b::Hj pb).contains b=true∨w.heap.size≤b)→Goal P Q K pos a w):Goal P Q K pos a w:=by
 subst hH
 have hG:G=[]:=γ9 (by rw [←A.mem.len];rfl)
 subst hG
 obtain⟨p,A1,hp⟩:=A.takeT t ho (fun i e M h=>by simp at h) (fun b hb=>.inl hb) ht
 refine k A1 U (fun b hb=>.inl ?_)
 obtain⟨i,en,M,g1,g2,g3,g4⟩:=mem_keys.1 hb
 match i,g1,g3 with
 |1,g1,g3=>cases g3;subst g4;simp
 |0,g1,g3=>
  have h:=hp M (by simpa using g3)
  subst g4
  rw [ε8,h,ρ9]
 |i+2,g1,g3=>simp at g1
theorem Zo (i q:Nat){cs:List SV}{e s m:Nat}{f:Nat→List SV}{H':Hp}(A:Sy n T H ks G0 w0 G a w)(hi:lg H i=some (some (.blk (cs++[.sl q m 0]))))(hq:lg H q=some (some (.row e s m 0 f)))(SW:Nat.beq i q=false)(hH:CE (CE H q none++[some (.row e s m 0 f)]) i (some (.blk (cs++[.sl H.length m 0])))=H')(k:∀{G},Sy n T H' ks G0 w0 G a w→Goal P Q K pos a w):Goal P Q K pos a w:=by
 obtain⟨p,A1⟩:=A.moveT i q hi hq SW hH
 exact k A1
end
def qU (ao:ak)(s:Nat)(j:Int)(q:Nat):Option Addr:=ao.map fun a=>⟨a.block,a.off+j.toNat*s+q,none⟩
section
variable {P:Program}{Y:Tb}{n:Nat}{ks:ae}{G0:Gr}{w0:World}{T:List (Nat×SV)}{H:Hp}{G:Gr}{a:Act}{w:World}{ops:ah}{o:Oper}{Q:ab}{K:List Fr}{pos:Pos}
theorem sM {x:Operand}{t fi s off nn:Nat}{j:Int}{ao:ak}{f:Nat→List SV}(BM:o.op=.fieldAddr t x fi)(hg:Av ops T o.guard=some .run)(hx:DA T x=some (.v (.pointer (Sq ao s j))))(h0:AP ao s nn f w0 ks)(hj:0≤j∧j<((nn:Nat):Int))(hf:Dp P t fi=some off):
  BG P n ops ks G0 w0 T H o (.v (.pointer (qU ao s j off))) H:=fun G a w A=>by
 rcases h0.2 with q|⟨b,q,rfl,_⟩
 ·omega
 have hw:=A7 (gd:=none) A hg
 obtain⟨d,op,ty,pos,af,gd⟩:=o
 simp only at BM
 subst BM
 have Bb:=A.ev hx
 unfold den at Bb
 simp only [β1]at Bb
 exact EL hw Bb.symm hf ⟨[],rfl,by simpa using A.ms⟩
theorem MA {x:Operand}{ty s nn q:Nat}{j:Int}{ao:ak}{f:Nat→List SV}{r:List SV}{v:SV}{z:Value}(hX:Y.ok P=true)(BM:o.op=.load ty x)(hg:Av ops T o.guard=some .run)(hx:DA T x=some (.v (.pointer (qU ao s j q))))(h0:AP ao s nn f w0 ks)(hj:0≤j∧j<((nn:Nat):Int))(hr:f j.toNat=r)(hc:DK ⟨Y,true⟩ ty r q=some v)(hv:den [] v=some z):
  BG P n ops ks G0 w0 T H o v H:=fun G a w A=>by
 have h1:=AP.ok w0 ks w ks h0 A.mix (fun b hb=>.inl hb)
 rcases h1.2 with q|⟨b,q',rfl,_,_,h4⟩
 ·omega
 have hw:=A7 (gd:=none) A hg
 obtain⟨d,op,ty,pos,af,gd⟩:=o
 simp only at BM
 subst BM
 have Bb:=A.ev hx
 unfold den at Bb
 simp only [β1]at Bb
 obtain⟨vs,v1,v2⟩:=h4 j.toNat (by omega)
 rw [hr]at v1
 have v3:AO G r=some vs:=by simpa using A6 G r v1
 have v4:den G v=some z:=by simpa using Ax G v hv
 exact Ft (X:=⟨Y,true⟩) hX hc v3 v4 v2 hw Bb.symm ⟨[],by simpa using v4,by simpa using A.ms⟩
theorem xU (p:Prop)(h1:p→Goal P Q K pos a w)(h2:¬p→Goal P Q K pos a w):Goal P Q K pos a w:=(Classical.em p).elim h1 h2
end
section
variable {P:Program}{n:Nat}{ks:ae}{G0:Gr}{w0:World}{T:List (Nat×SV)}{L:ai}{xs:List SV}{ef:ae}{tb:List (List Nat×List Nat×Hp)}{c rs:ae}{H:Hp}{bs:List Bool}{o:Oper}{l:ai}{i:Nat}
end
section
variable {P:Program}{n:Nat}{ks:ae}{G0:Gr}{w0:World}{T:List (Nat×SV)}{H:Hp}{G:Gr}{a:Act}{w:World}{l:ai}{Q:ab}{K:List Fr}{id:Nat}
end
end
namespace Mc
open Go.RowKit
def U7:List Int:=[0,1,56,2,57,49,28,3,61,58,42,50,38,29,17,4,62,47,59,36,45,43,51,22,53,39,33,30,24,18,12,5,63,55,48,27,60,41,37,16,46,35,44,21,52,32,23,11,54,26,40,15,34,20,31,10,25,14,19,9,13,8,7,6]
abbrev zL:Option Addr:=some ⟨3,0,none⟩
abbrev FL:Dl:=AP zL 1 64 (fun j=>[.int .u8 (U7.getD j 0)])
section
variable {P:Program}{Y:Tb}{n:Nat}{ks:ae}{G0:Gr}{w0:World}{T:List (Nat×SV)}{H:Hp}{G:Gr}{a:Act}{w:World}{ops:ah}{o:Oper}
theorem sN {x y:Operand}{t nn e s b q:Nat}{j:Int}(BM:o.op=.indexAddr t x y)(hg:Av ops T o.guard=some .run)(hx:DA T x=some (EZ b q))(hy:DA T y=some (.int .u64 j))(ht:OL P t nn e s=true)(hj:0≤j∧j<((nn:Nat):Int)):
  BG P n ops ks G0 w0 T H o (.v (.pointer (qU (some ⟨b,q,none⟩) s j 0))) H:=fun G a w A=>by
 have hw:=A7 (gd:=none) A hg
 obtain⟨d,op,ty,pos,af,gd⟩:=o
 simp only at BM
 subst BM
 have Bb:=A.ev hx
 have C8:=A.ev hy
 unfold den at Bb C8
 simp only [β1]at Bb C8
 refine Ad (v:=.pointer (some ⟨b,q+j.toNat*s,none⟩)) hw ?_ ⟨[],rfl,by simpa using A.ms⟩
 have hq:(Instr.indexAt t (.pointer (some ⟨b,q,none⟩)) (.int .u64 j)).run P w=.ok (.pointer (some ⟨b,q+j.toNat*s,none⟩)) w:=by
  unfold Instr.indexAt
  simp only [asIntOf,γ4,γ6,α9,ε2 (Dh ht).1,if_pos hj,DX (Dh ht).2,α6,ζ3,Instr.sureAddr]
 unfold execOp
 simp only [Bb.symm,C8.symm,γ4,hq,γ6,α9]
end
theorem wrap_u64 (x:Int):IntKind.wrap .u64 x=x % 18446744073709551616:=by
 simp only [IntKind.wrap,IntKind.signed,IntKind.bits];simp
theorem lE {x:Int}:0≤Int.fdiv (IntKind.wrap .u64 x) (2^min ((58:Int)).toNat (IntKind.bits .u64))∧Int.fdiv (IntKind.wrap .u64 x) (2^min ((58:Int)).toNat (IntKind.bits .u64))<((64:Nat):Int):=by
 rw [wrap_u64]
 have e:(2:Int)^min ((58:Int)).toNat (IntKind.bits .u64)=288230376151711744:=by rfl
 rw [e,ν7 _ (by decide)]
 omega
end Mc
namespace Mc
open Go.RowKit
set_option simprocs false
def lF (v1:Int):Int:=(Int.fdiv (IntKind.wrap .u64 ((IntKind.wrap .u64 ((((BitVec.ofInt (IntKind.bits .u64) v1)&&&(BitVec.ofInt (IntKind.bits .u64) (IntKind.wrap .u64 (0 - v1)))).toNat:Nat):Int))*285870213051353865)) (2^min (58:Int).toNat (IntKind.bits .u64)))
theorem U8 (v1:Int):0≤lF v1∧lF v1<((64:Nat):Int):=lE
def lG (v1:Int):Int:=if v1=0 then 64 else IntKind.wrap .i64 (U7.getD (lF v1).toNat 0)
abbrev GT (m k:Int):Int:=IntKind.wrap .i64 ((((BitVec.ofInt (IntKind.bits .i64) (Int.fdiv m (2^min k.toNat (IntKind.bits .i64))))&&&(BitVec.ofInt (IntKind.bits .i64) 1)).toNat:Nat):Int)
def Oz (m:Int):Nat→Int
 |0=>0
 |k+1=>Oz m k+GT m (k:Int)
theorem KZ (m k:Int):0≤GT m k∧GT m k≤1:=by
 have h:∀x:BitVec (IntKind.bits .i64),(x&&&BitVec.ofInt (IntKind.bits .i64) 1).toNat≤1:=fun x=>by
  rw [π5];exact Nat.and_le_right
 unfold GT
 have:=h (BitVec.ofInt (IntKind.bits .i64) (Int.fdiv m (2^min k.toNat (IntKind.bits .i64))))
 rw [IN (by omega)];omega
theorem Ka (m:Int):∀k:Nat,0≤Oz m k∧Oz m k≤(k:Int)
 |0=>by unfold Oz;omega
 |k+1=>by have h1:=Ka m k;have h2:=KZ m (k:Int);unfold Oz;omega
def OS (o s:Int):Prop:=(o=0∧s=1)∨(o=1∧s=1)∨(o=2∧s=1)∨(o=3∧s=1)∨(o=4∧s=1)∨(o=5∧s=1)∨(o=6∧s=1)∨(o=7∧s=1)∨(o=0∧s=2)∨(o=2∧s=2)∨(o=4∧s=2)∨(o=6∧s=2)∨(o=0∧s=4)∨(o=4∧s=4)∨(o=0∧s=8)
abbrev AY (o s:Int):Int:=BX (Ah o 0 s) s
theorem lH {o s:Int}(h:OS o s):lG (IntKind.wrap .u64 (AY o s))=o:=by
 rcases h with⟨rfl,rfl⟩|⟨rfl,rfl⟩|⟨rfl,rfl⟩|⟨rfl,rfl⟩|⟨rfl,rfl⟩|⟨rfl,rfl⟩|⟨rfl,rfl⟩|⟨rfl,rfl⟩|⟨rfl,rfl⟩|⟨rfl,rfl⟩|⟨rfl,rfl⟩|⟨rfl,rfl⟩|⟨rfl,rfl⟩|⟨rfl,rfl⟩|⟨rfl,rfl⟩<;>decide+kernel
theorem cR {o s:Int}(h:OS o s):Oz (AY o s) 8=s:=by
 rcases h with⟨rfl,rfl⟩|⟨rfl,rfl⟩|⟨rfl,rfl⟩|⟨rfl,rfl⟩|⟨rfl,rfl⟩|⟨rfl,rfl⟩|⟨rfl,rfl⟩|⟨rfl,rfl⟩|⟨rfl,rfl⟩|⟨rfl,rfl⟩|⟨rfl,rfl⟩|⟨rfl,rfl⟩|⟨rfl,rfl⟩|⟨rfl,rfl⟩|⟨rfl,rfl⟩<;>decide+kernel
theorem lI {o s:Int}(h:OS o s):s=1∨s=2∨s=4∨s=8:=by unfold OS at h;omega
theorem DZ {o s:Int}(h:OS o s):0≤o∧o≤7:=by unfold OS at h;omega
theorem lJ (v1:Int):BQ (FL) Tryz.prog 215 [.int .u64 v1] [] (Rt (.int .i64 (lG v1)) []):=
 Aa (n:=14) (by kernel_rfl) Tryz.func215 U U U fun G w a h0 hI A=>M hX 12 A U U fun A=>AV 4 A U
  (fun h1 A=>M hX 7 A U U fun A=>R9 A U h0 U (by unfold lG;rw [if_pos h1]<;>rfl) U)
  (fun h1 A=>M hX 11 A U (AE (by omega)<|AB) fun A=>have A:=AG A 10 (.int .u64 (lF v1)) U (fun _=>rfl);Af A U (sN (nn:=64) (e:=5) U U U U (by kernel_rfl) (U8 v1)) fun A=>Af A U (MA (q:=0) (v:=.int .u8 (U7.getD ((lF v1)).toNat 0)) hX U U U hI (U8 v1) U U U) fun A=>M hX 5 A U U fun A=>R9 A U h0 U (by unfold lG;rw [if_neg h1]<;>rfl) U)
theorem zM (v1:Int):BQ (FL) Tryz.prog 179 [.int .u64 v1] [] (Rt (.int .i64 (lG v1)) []):=
 Aa (n:=8) (by kernel_rfl) Tryz.func179 U U U fun G w a h0 hI A=>M hX 12 A U U fun A=>I9 [] AP.ok hI (lJ v1) A U fun A=>M hX 4 A U U fun A=>R9 A U h0 U U U
theorem lK (lc o s:Int)(hO:OS o s):BQ (FL) Tryz.prog 139 [.agg [.n9 lc,.n9 (AY o s)]] [] (Rt (.int .i64 o) []):=
 Aa (n:=7) (by kernel_rfl) Tryz.func139 U U U fun G w a h0 hI A=>N9 11 A U U fun A=>I9 [] AP.ok hI (zM (IntKind.wrap .u64 (AY o s))) A U fun A=>N9 4 A U U fun A=>R9 A U h0 U (congrArg (SV.int .i64) (lH hO)) U
theorem cS (m:Int):Fn Tryz.prog 180 [.n9 m] [] (Rt (.int .i64 (Oz m 8)) []):=
 AR (n:=16) (by kernel_rfl) Tryz.func180 U U U fun G w a h0 A=>N9 17 A U U fun A=>Bq (fun(k:Nat)=>[(0,.n9 m),(2,.n9 0),(3,.n9 (Oz m k)),(5,.n9 (k:Int))]) (fun(k:Nat)=>[]) (fun(k:Nat)=>k≤8) (fun(k:Nat)=>8 - k) 0 (β7 _) ((A.cut [0,2,3,5] U).trunc 0 U U U (CL h0 U)) fun k hK {G a w} A=>N9 6 A U U fun A=>AU 6 A U
   (fun h1 A=>N9 22 A U (AE (by have h1:=Ka m k;have h2:=KZ m (k:Int);unfold GT at h2;omega)<|AE (by have h1:=Ka m k;have h2:=KZ m (k:Int);unfold GT at h2;omega)<|AB) fun A=>N9 4 A U (AE (by have h1:=Ka m k;have h2:=KZ m (k:Int);unfold GT at h2;omega)<|AB) fun A=>⟨k+1,_,(by omega),(by omega),((A.cut [0,2,3,5] U).trunc 0 U U U (CL h0 U)).sayT (by rfl)⟩)
   (fun h1 A=>N9 10 A U U fun A=>R9 A U h0 U (by have:k=8:=(by omega);subst this;rfl) U)
theorem lL (lc o s:Int)(hO:OS o s):Fn Tryz.prog 140 [.agg [.n9 lc,.n9 (AY o s)]] [] (Rt (.int .i64 s) []):=
 AR (n:=6) (by kernel_rfl) Tryz.func140 U U U fun G w a h0 A=>N9 10 A U U fun A=>C9 [] (cS (AY o s)) A U fun A=>N9 4 A U U fun A=>R9 A U h0 U (congrArg (SV.int .i64) (cR hO)) U
end Mc
section
open Go.RowKit
section
variable {P:Program}{n:Nat}{ks:ae}{G0:Gr}{w0:World}{T:List (Nat×SV)}{H:Hp}{G:Gr}{a:Act}{w:World}{ops:ah}{o:Oper}
theorem F4 {G:Gr}:∀{l m:List SV} {vs:aj},AO G (l++m)=some vs→∃us ws,AO G l=some us∧AO G m=some ws∧vs=us++ws
 | [],m,vs,h=>⟨[],vs,rfl,h,rfl⟩
 |x::l,m,vs,h=>by
  obtain⟨v,us,h1,h2,rfl⟩:=BH h
  obtain⟨u1,u2,h3,h4,rfl⟩:=F4 h2
  exact⟨v::u1,u2,BK h1 h3,h4,rfl⟩
theorem E6 {G G':Gr}{l:List SV}(h:HH 0 l=true):AO G l=AO G' l:=by
 rw [←BS (G:=G) (k:=0) l h,←BS (G:=G') (k:=0) l h,θ4,θ4]
theorem Nf {I:Dl}{f i k:Nat}{args l b b' r:List SV}{x:SV}{H':Hp}(hI:I.OK)(h0:I w0 ks)(hf:BQ I P f (.ptr 0 0::args) [O b] (Rt x [O b']))(h1:Bi n ops T o=some (f,.ptr i k::args))(hi:lg H i=some (some (.blk (l++b++r))))(hk:l.length=k)(JB:(HH 0 args&&HH 0 b&&HH 0 b'&&Lm 0 x)=true)(hH:CE H i (some (.blk (l++b'++r)))=H'):BG P n ops ks G0 w0 T H o x H':=fun G a w A=>by
 subst hH;subst hk
 simp only [α3]at JB
 obtain⟨⟨⟨c1,c2⟩,c3⟩,c4⟩:=JB
 obtain⟨hd,us,hu,Lp⟩:=DO (P:=P) (ops:=ops) A h1 hf.1
 rw [At]at hi
 obtain⟨L,vs,p1,p2,p3⟩:=A.mem.ent i _ hi
 have Eo:G[i]?=some (some L):=by
  cases hz:G[i]? with
  |none=>rw [hz]at p1;cases p1
  |some p=>rw [hz]at p1;simp only [δ2]at p1;rw [p1]
 obtain⟨v12,vr,e12,er,rfl⟩:=F4 p2
 obtain⟨vl,vb,el,eb,rfl⟩:=F4 e12
 have ZB:=BF el
 have Tz:Mem [O b] [some (⟨L.b,L.pre++vl,vr++L.post,L.t⟩:Loc)] w:=by
  refine⟨rfl,fun j e hj=>?_,fun j q e f M N hjq h1 h2=>?_⟩
  ·match j,hj with
   |0,hj=>cases hj;exact⟨_,vb,rfl,by rw [E6 (G':=G) c2];exact eb,by simpa [γ2]using p3⟩
   |j+1,hj=>simp at hj
  ·match j,q,h1,h2 with
   |0,0,_,_=>exact absurd U hjq
   |j+1,_,h1,_=>simp at h1
   |0,q+1,_,h2=>simp at h2
 have PU:keys [some (BZ.blk b)] [some (⟨L.b,L.pre++vl,vr++L.post,L.t⟩:Loc)]=[L.b]:=rfl
 have hIw:I w (keys [some (BZ.blk b)] [some (⟨L.b,L.pre++vl,vr++L.post,L.t⟩:Loc)]):=hI _ _ _ _ h0 A.mix fun c hc=>by
  have:c=L.b:=by simpa [PU]using hc
  subst this;exact A.own i _ L hi U Eo
 have FD:AO [some (⟨L.b,L.pre++vl,vr++L.post,L.t⟩:Loc)] (.ptr 0 0::args)=some us:=by
  obtain⟨v,vs2,q1,q2,rfl⟩:=BH hu
  refine BK ?_ (by rw [E6 (G':=G) c1];exact q2)
  unfold den at q1⊢
  rw [Eo]at q1
  rw [←q1]
  simp [ZB]
 refine Lp (hf.2 _ w us Tz hIw FD) ?_
 rintro en w' ⟨y,H2,Fr,v,⟨rfl,rfl⟩,d1,rfl,I5,DE,_,_,_⟩
 have hF:Fr=[]:=by
  have:=I5.len
  cases Fr with
  |nil=>rfl
  |cons _ _=>simp at this
 subst hF
 obtain⟨L2,vb',q1,q2,q3⟩:=I5.ent 0 _ U
 cases q1
 rw [PU]at DE
 have hx:den G y=some v:=by
  have e:AO G [y]=AO ([some (⟨L.b,L.pre++vl,vr++L.post,L.t⟩:Loc)]++[]) [y]:=E6 (by unfold HH;rw [c4];rfl)
  have e2:AO ([some (⟨L.b,L.pre++vl,vr++L.post,L.t⟩:Loc)]++[]) [y]=some [v]:=BK d1 U
  rw [e2]at e
  obtain⟨v',ws,g1,g2,g3⟩:=BH e
  cases g2;cases g3;exact g1
 have IA:i<H.length:=(α0.1 hi).1
 have hold:∀(j:Nat) (e:BZ),(CE H i (some (.blk (l++b'++r))))[j]?=some (some e)→(j≠i∧H[j]?=some (some e))∨(j=i∧e=.blk (l++b'++r)):=by
  intro j e h
  rw [Aw]at h
  by_cases hj:j=i
  ·subst hj;rw [γ7 IA]at h;cases h;exact .inr ⟨rfl,rfl⟩
  ·rw [γ0 (ε9 hj)]at h;exact .inl ⟨hj,h⟩
 refine⟨v,rfl,[],by rw [ε0];exact hx,?_⟩
 rw [ε0]
 refine⟨⟨by rw [Aw];simpa using A.mem.len,?_,?_⟩,A.pre,?_,A.mix.mix DE fun c hc hk=>?_⟩
 ·intro j e h
  rcases hold j e h with⟨k1,k2⟩|⟨rfl,rfl⟩
  ·refine(A.mem.ent j e k2).mix DE fun Bw M hM=>?_
   have u7:G[j]?=some (some M):=by
    cases hq:G[j]? with
    |none=>rw [hq]at hM;cases hM
    |some p=>rw [hq]at hM;simp at hM;rw [hM]
   have:=A.mem.sep i j _ e L M (ε9 k1) hi k2 U Eo u7 Bw
   simp;exact fun e=>this e.symm
  ·rw [Eo]
   refine⟨L,vl++vb'++vr,rfl,Cj (Cj el ?_) er,by simpa [γ2]using q3⟩
   rw [E6 (G':=[some (⟨L.b,L.pre++vl,vr++L.post,L.t⟩:Loc)]++[]) c3];exact q2
 ·intro j q e f M N Eb h1 h2 h3 h4 h5 h6
  have a1:∃e',H[j]?=some (some e')∧e'.mut=e.mut:=by
   rcases hold j e h1 with⟨_,k2⟩|⟨rfl,rfl⟩
   ·exact⟨e,k2,rfl⟩
   ·exact⟨_,hi,rfl⟩
  have a2:∃e',H[q]?=some (some e')∧¬e'.empty:=by
   rcases hold q f h2 with⟨_,k2⟩|⟨rfl,rfl⟩
   ·exact⟨f,k2,h6⟩
   ·exact⟨_,hi,fun h=>h⟩
  obtain⟨e',b1,b2⟩:=a1
  obtain⟨f',b3,b4⟩:=a2
  exact A.mem.sep j q e' f' M N Eb b1 b3 (by rw [b2];exact h3) h4 h5 b4
 ·intro j e M h1 h2 h3
  rcases hold j e h1 with⟨_,k2⟩|⟨rfl,rfl⟩
  ·exact A.own j e M k2 h2 h3
  ·exact A.own j _ M hi U h3
 ·cases hq:[L.b].contains c with
  |false=>rfl
  |true=>
   have:c=L.b:=by simpa using hq
   subst this
   rcases A.own i _ L hi rfl Eo with h|h
   ·rw [h]at hk;cases hk
   ·omega
end
abbrev cT (r:Rg):List SV:=[.int .i64 (r 0),.int .i64 (r 1),.int .i64 (r 2)]
theorem PX {j:Int}(h:0≤j∧j<3):j=0∨j=1∨j=2:=by omega
section
variable {P:Program}{Y:Tb}{n:Nat}{ks:ae}{G0:Gr}{w0:World}{T:List (Nat×SV)}{H:Hp}{G:Gr}{a:Act}{w:World}{ops:ah}{o:Oper}
theorem sO {x y:Operand}{ty i:Nat}{j v:Int}{r:Rg}{ti:TI}(hX:Y.ok P=true)(BM:o.op=.store ty x y)(hg:Av ops T o.guard=some .run)(hx:DA T x=some (.ix (.ptr i 0) 1 3 j 0))(hy:DA T y=some (.int .i64 v))(hH:lg H i=some (some (.blk (cT r))))(Fm:Y.get ty=some ti)(DV:ti.row=none)(Bc:ti.one=true)(hj:0≤j∧j<3):
  BG P n ops ks G0 w0 T H o (.tup []) (CE H i (some (.blk (cT (AX r j.toNat v))))):=fun G a w A=>by
 have hw:=A7 (gd:=none) A hg
 obtain⟨d,op,ty',pos,af,gd⟩:=o
 simp only at BM
 subst BM
 have Bb:=A.ev hx
 have C8:=A.ev hy
 have key:∀k:Nat,j=(k:Int)→(∀q:List SV,sp (0+k) (cT r) [.int .i64 v]=some q→q=cT (AX r j.toNat v)→BY P ops {dst:=d,op:=.store ty x y,type:=ty',pos:=pos,after:=af,guard:=gd} a w fun v' w'=>∃F,den (G++F) (.tup [])=some v'∧Ms (CE H i (some (.blk (cT (AX r j.toNat v))))) ks G0 w0 (G++F) w'):=by
  intro k hk q hr e
  rw [hk,Al (q:=0+k) k (by omega)]at Bb
  have hs:DM ⟨Y,true⟩ H ty (.ptr i (0+k)) (.int .i64 v)=some (i,q,[]):=by
   have ht:Tx.get ⟨Y,true⟩ ty=some ti:=Fm
   simp only [DM,hH,ht,DV,Bc,hr]
   rfl
  refine Di (X:=⟨Y,true⟩) hX A hs AB Bb C8 U U hw fun cs L vs' w' a1 a2 a3 a4 a5=>⟨[],rfl,?_⟩
  subst e
  simpa using (A.turn a1 a2 a3 a4 a5).ms
 rcases PX hj with rfl|rfl|rfl
 ·exact key 0 U _ U U
 ·exact key 1 U _ U U
 ·exact key 2 U _ U U
theorem lM {x:Operand}{ty i:Nat}{j:Int}{r:Rg}{ti:TI}(hX:Y.ok P=true)(BM:o.op=.load ty x)(hg:Av ops T o.guard=some .run)(hx:DA T x=some (.ix (.ptr i 0) 1 3 j 0))(hH:lg H i=some (some (.blk (cT r))))(Fm:Y.get ty=some ti)(DV:ti.row=none)(Bc:ti.one=true)(hj:0≤j∧j<3):
  BG P n ops ks G0 w0 T H o (.int .i64 (r j.toNat)) H:=fun G a w A=>by
 have hw:=A7 (gd:=none) A hg
 obtain⟨d,op,ty',pos,af,gd⟩:=o
 simp only at BM
 subst BM
 have Bb:=A.ev hx
 have key:∀k:Nat,j=(k:Int)→(lg (cT r) (0+k)=some (.int .i64 (r j.toNat)))→BY P ops {dst:=d,op:=.load ty x,type:=ty',pos:=pos,after:=af,guard:=gd} a w fun v' w'=>∃F,den (G++F) (.int .i64 (r j.toNat))=some v'∧Ms H ks G0 w0 (G++F) w':=by
  intro k hk hr
  rw [hk,Al (q:=0+k) k (by omega)]at Bb
  have hs:Ec ⟨Y,true⟩ H ty (.ptr i (0+k))=some (.int .i64 (r j.toNat),[]):=by
   have ht:Tx.get ⟨Y,true⟩ ty=some ti:=Fm
   simp only [Ec,Gk,hH,Lu,DK,ht,DV,Bc,hr,θ5]
  obtain⟨z,hz,h3⟩:=FV (X:=⟨Y,true⟩) (P:=P) (ops:=ops) (d:=d) (ty:=ty') (pos:=pos) (af:=af) (gd:=gd) (x:=x) hX A hs Bb
  exact h3 (fun p hp=>by cases hp) rfl hw _ ⟨[],by simpa using hz,by simpa using A.ms⟩
 rcases PX hj with rfl|rfl|rfl
 ·exact key 0 U U
 ·exact key 1 U U
 ·exact key 2 U U
end
end
namespace Mc
open Go.RowKit
set_option simprocs false
theorem cU (m:Nat→Int)(lc:Int)(hl:0≤lc∧lc<3):Fn Tryz.prog 78 [.ptr 0 0,.n9 lc] [O [.n9 (m 0),.n9 (m 1),.n9 (m 2)]] (Rt (.int .i64 (m lc.toNat)) [O [.n9 (m 0),.n9 (m 1),.n9 (m 2)]]):=
 AR (n:=16) (by kernel_rfl) Tryz.func78 U U U fun G w a h0 A=>N9 16 A U U fun A=>fork 10 A U
  (fun h1 A=>absurd h1 (by simp;omega))
  (fun h1 A=>N9 9 A U (AE (by omega)<|AB) fun A=>Af A U (lM (r:=m) hX U U U U U U U (by omega)) fun A=>N9 4 A U U fun A=>R9 A U h0 U U U)
theorem QA (m:Nat→Int)(lc o s:Int)(hl:0≤lc∧lc<3)(hO:OS o s):BQ (FL) Tryz.prog 108 [.ptr 0 0,.agg [.n9 lc,.n9 (AY o s)]] [O [.n9 (m 0),.n9 (m 1),.n9 (m 2)]] (Rt (.int .i64 (Aq (m lc.toNat) o s)) [O [.n9 (m 0),.n9 (m 1),.n9 (m 2)]]):=
 Aa (n:=14) (by kernel_rfl) Tryz.func108 U U U fun G w a h0 hI A=>N9 7 A U U fun A=>GL BW [.ptr 0 0,.ptr 1 0,.n9 lc,.n9 (m lc.toNat),.agg [.n9 lc,.n9 (AY o s)],.n9 o,.agg [.n9 lc,.n9 (AY o s)],.n9 s,.n9 (Aq (m lc.toNat) o s),.n9 (Aq (m lc.toNat) o s)] [3] [] 0 [([],[],[O [.n9 (m 0),.n9 (m 1),.n9 (m 2)],O [.n9 lc,.n9 (AY o s)]]),([3],[],[O [.n9 (m 0),.n9 (m 1),.n9 (m 2)],O [.n9 lc,.n9 (AY o s)]])] [[true,true,true,true,true,false,true,false,false,false],[false,true,false,false,true,true,true,true,true,true]] A U U U U (by kernel_rfl) U (by kernel_rfl) ⟨⟨AJ 0 U U,⟨AJ 0 U U,⟨AJ 0 U U,⟨BB 1 U (Ef [0] (cU m lc hl) U U U U U U U),⟨AJ 0 U U,⟨AJ 0 U U,trivial⟩⟩⟩⟩⟩⟩,⟨⟨AJ 1 U U,⟨AJ 1 U U,⟨BB 1 U (CU [] AP.ok hI (lK lc o s hO) U U U U U U U),⟨AJ 1 U U,⟨BB 1 U (Ct U U (lL lc o s hO)),⟨BB 1 U (Ct U U (cK (m lc.toNat) o s (lI hO) (DZ hO))),⟨AJ 1 U U,trivial⟩⟩⟩⟩⟩⟩⟩,trivial⟩⟩ fun A=>N9 2 A U U fun A=>R9 A U h0 U U U
theorem F5 (m:Nat→Int)(lc o s v:Int)(hl:0≤lc∧lc<3)(hO:OS o s):BQ (FL) Tryz.prog 106 [.ptr 0 0,.agg [.n9 lc,.n9 (AY o s)],.n9 v] [O [.n9 (m 0),.n9 (m 1),.n9 (m 2)]] (Rt (.tup []) [O [.n9 ((AX m lc.toNat (AM (m lc.toNat) o s v)) 0),.n9 ((AX m lc.toNat (AM (m lc.toNat) o s v)) 1),.n9 ((AX m lc.toNat (AM (m lc.toNat) o s v)) 2)]]):=
 Aa (n:=31) (by kernel_rfl) Tryz.func106 U U U fun G w a h0 hI A=>N9 18 A U U fun A=>fork 13 A U
  (fun h1 A=>absurd h1 (by simp;omega))
  (fun h1 A=>N9 3 A U U fun A=>GL BW [.ptr 0 0,.ptr 1 0,.n9 lc,.ptr 0 0,.ptr 1 0,.n9 lc,.ptr 0 0,.ix (.ptr 0 0) 1 3 lc 0,.n9 (m lc.toNat),.agg [.n9 lc,.n9 (AY o s)],.n9 o,.agg [.n9 lc,.n9 (AY o s)],.n9 s,.n9 v,.n9 (AM (m lc.toNat) o s v),.ptr 0 0,.ix (.ptr 0 0) 1 3 lc 0,.tup []] [17] [] 0 [([],[],[O [.n9 (m 0),.n9 (m 1),.n9 (m 2)],O [.n9 lc,.n9 (AY o s)]]),([17],[],[O [.n9 ((AX m lc.toNat (AM (m lc.toNat) o s v)) 0),.n9 ((AX m lc.toNat (AM (m lc.toNat) o s v)) 1),.n9 ((AX m lc.toNat (AM (m lc.toNat) o s v)) 2)],O [.n9 lc,.n9 (AY o s)]])] [[true,true,true,true,true,true,true,true,true,true,true,true,true,true,true,true,true,true],[false,false,false,false,false,false,false,false,false,false,false,false,false,false,false,true,false,false]] A U U U U (by kernel_rfl) U (by kernel_rfl) ⟨⟨AJ 0 U U,⟨AJ 0 U U,⟨AJ 0 U U,⟨AJ 0 U U,⟨AJ 0 U U,⟨AJ 0 U U,⟨AJ 0 U U,⟨AJ 0 U (AE (by omega)<|AB),⟨BB 0 U (lM (r:=m) hX U U U U U U U (by omega)),⟨AJ 0 U U,⟨BB 0 U (CU [] AP.ok hI (lK lc o s hO) U U U U U U U),⟨AJ 0 U U,⟨BB 0 U (Ct U U (lL lc o s hO)),⟨AJ 0 U U,⟨BB 0 U (Ct U U (cL (m lc.toNat) o s v (lI hO) (DZ hO))),⟨AJ 0 U U,⟨AJ 0 U (AE (by omega)<|AB),⟨BB 1 U (sO (i:=0) (r:=m) hX U U U U U U U U (by omega)),trivial⟩⟩⟩⟩⟩⟩⟩⟩⟩⟩⟩⟩⟩⟩⟩⟩⟩⟩,⟨⟨AJ 1 U U,trivial⟩,trivial⟩⟩ fun A=>GP (R9 A U h0 U U U))
end Mc
namespace Mc
open Go.RowKit
set_option simprocs false
def Ju (fn v1 a1 s1:Int):Int:=if fn=6 then Bm a1 s1 else if fn=1 then Bm (IntKind.wrap .i64 (v1+a1)) s1 else 0
theorem lN (fn v1 a1 s1:Int)(hs:s1=1∨s1=2∨s1=4∨s1=8):Fn Tryz.prog 175 [.n9 fn,.n9 v1,.n9 a1,.n9 s1] [] (Rt (.int .i64 (Ju fn v1 a1 s1)) []):=
 AR (n:=22) (by kernel_rfl) Tryz.func175 U U U fun G w a h0 A=>M hX 18 A U U fun A=>AV 10 A U
  (fun h1 A=>M hX 5 A U U fun A=>C9 [] (Rd a1 s1 hs) A U fun A=>M hX 4 A U U fun A=>R9 A U h0 U (by simp only [Am,nb,B5,Bx,Ju,if_pos h1]) U)
  (fun h1 A=>M hX 7 A U U fun A=>AV 15 A U
   (fun h2 A=>M hX 7 A U U fun A=>C9 [] (Rd (IntKind.wrap .i64 (v1+a1)) s1 hs) A U fun A=>M hX 4 A U U fun A=>R9 A U h0 U (by simp only [Am,nb,B5,Bx,Ju,if_neg (h1),if_pos h2]) U)
   (fun h2 A=>M hX 10 A U U fun A=>R9 A U h0 U (by simp only [Am,nb,B5,Bx,Ju,if_neg (h1),if_neg (h2)]) U))
def F6 (i:In)(old d:Int):Int:=if((i.op==4)||(i.op==6))=true then Ju i.fn old d i.sz else d
theorem sP (i:In)(old d:Int)(hs:i.sz=1∨i.sz=2∨i.sz=4∨i.sz=8):Fn Tryz.prog 133 [.agg (AZ i),.n9 old,.n9 d] [] (Rt (.int .i64 (F6 i old d)) []):=
 AR (n:=17) (by kernel_rfl) Tryz.func133 U U U fun G w a h0 A=>N9 10 A U U fun A=>C9 [] (NU i.op i.dst i.ra i.rb i.imm i.loc i.off i.ix i.sz i.fn i.acq i.weak i.rel i.pred i.succ i.to_ i.zero) A U fun A=>N9 2 A U U fun A=>fork 8 A U
  (fun h1 A=>N9 9 A U U fun A=>C9 [] (lN i.fn old d i.sz hs) A U fun A=>N9 4 A U U fun A=>R9 A U h0 U (by unfold F6;rw [if_pos h1]<;>rfl) U)
  (fun h1 A=>N9 10 A U U fun A=>R9 A U h0 U (by unfold F6;rw [if_neg (α7 h1)]<;>rfl) U)
theorem lO (m:Nat→Int)(lc:Int)(hl:¬(0≤lc∧lc<3)):Fn Tryz.prog 78 [.ptr 0 0,.n9 lc] [O [.n9 (m 0),.n9 (m 1),.n9 (m 2)]] (Rt (.int .i64 0) [O [.n9 (m 0),.n9 (m 1),.n9 (m 2)]]):=
 AR (n:=16) (by kernel_rfl) Tryz.func78 U U U fun G w a h0 A=>N9 16 A U U fun A=>fork 10 A U
  (fun h1 A=>N9 7 A U U fun A=>R9 A U h0 U U U)
  (fun h1 A=>absurd h1 (by simp;omega))
theorem lP (m:Nat→Int)(i:In)(lc o s d:Int)(hl:0≤lc∧lc<3)(hO:OS o s)(hs:i.sz=1∨i.sz=2∨i.sz=4∨i.sz=8)(hw:((i.op==5)||(i.op==6))=true):BQ (FL) Tryz.prog 93 [.ptr 0 0,.agg (AZ i),.agg [.n9 lc,.n9 (AY o s)],.n9 d] [O [.n9 (m 0),.n9 (m 1),.n9 (m 2)]] (Rt (.int .i64 (Aq (m lc.toNat) o s)) [O [.n9 ((AX m lc.toNat (AM (m lc.toNat) o s (F6 i (Aq (m lc.toNat) o s) d))) 0),.n9 ((AX m lc.toNat (AM (m lc.toNat) o s (F6 i (Aq (m lc.toNat) o s) d))) 1),.n9 ((AX m lc.toNat (AM (m lc.toNat) o s (F6 i (Aq (m lc.toNat) o s) d))) 2)]]):=
 Aa (n:=22) (by kernel_rfl) Tryz.func93 U U U fun G w a h0 hI A=>N9 11 A U U fun A=>I9 [0] AP.ok hI (QA m lc o s hl hO) A U fun A=>N9 7 A U U fun A=>C9 [] (KT i.op i.dst i.ra i.rb i.imm i.loc i.off i.ix i.sz i.fn i.acq i.weak i.rel i.pred i.succ i.to_ i.zero) A U fun A=>N9 2 A U U fun A=>fork 13 A U
  (fun h1 A=>N9 1 A U U fun A=>A9 hX BW [(5,.n9 (F6 i (Aq (m lc.toNat) o s) d))] [(6,.tup [],[O [.n9 ((AX m lc.toNat (AM (m lc.toNat) o s (F6 i (Aq (m lc.toNat) o s) d))) 0),.n9 ((AX m lc.toNat (AM (m lc.toNat) o s (F6 i (Aq (m lc.toNat) o s) d))) 1),.n9 ((AX m lc.toNat (AM (m lc.toNat) o s (F6 i (Aq (m lc.toNat) o s) d))) 2)],O (AZ i),O [.n9 lc,.n9 (AY o s)]])] A U U U U (by kernel_rfl) ⟨CU [0] AP.ok hI (F5 m lc o s (F6 i (Aq (m lc.toNat) o s) d) hl hO) U U U U U U U,trivial⟩ ⟨.inl ⟨_,_,rfl,rfl,sP i (Aq (m lc.toNat) o s) d hs⟩,trivial⟩ fun A=>N9 8 A U U fun A=>R9 A U h0 U U U)
  (fun h1 A=>absurd (hw.symm.trans h1) (by decide))
end Mc
namespace Mc
open Go.RowKit
set_option simprocs false
theorem Rm (cp:Nat):Fn Tryz.prog 87 [.sla none (([]:List In).length) cp] [] (Rt (.sl 0 (([]:List In).length) 0) [some (.row 63 17 (([]:List In).length) 0 (fun zz=>Ce (([]:List In).getD zz In.z)))]):=
 AR (n:=8) (by kernel_rfl) Tryz.func87 U U U fun G w a h0 A=>N9 9 A U U fun A=>cA (r:=.tt) A U U U U U (e:=63) (by kernel_rfl) U fun A=>N9 9 A U U fun A=>have A:=A.nilRow 2 63 17 (fun zz=>Ce (([]:List In).getD zz In.z)) U (fun z=>⟨_,rfl,rfl⟩);KC hX [0] (x:=.sl 0 0 0) A ⟨rfl,rfl⟩ U U U U U U U U h0
theorem X9 (ad:Addr)(cp:Nat):Fn Tryz.prog 87 [.sla (some ad) (([]:List In).length) cp] [] (Rt (.sl 0 (([]:List In).length) 0) [some (.row 63 17 (([]:List In).length) 0 (fun zz=>Ce (([]:List In).getD zz In.z)))]):=
 AR (n:=8) (by kernel_rfl) Tryz.func87 U U U fun G w a h0 A=>N9 9 A U U fun A=>cA (r:=.ff) A U U U U U (e:=63) (by kernel_rfl) U fun A=>N9 9 A U U fun A=>sH (e:=63) (s:=17) A U U U U U U (by kernel_rfl) fun A=>N9 4 A U U fun A=>have A:=A.rowAs 0 0 (fun zz=>Ce (([]:List In).getD zz In.z)) U U (fun k hk=>by omega) (fun z=>⟨_,rfl,rfl⟩);KC hX [0] (x:=.sl 0 0 0) A ⟨rfl,rfl⟩ U U U U U U U U h0
theorem YA (l:List In)(ad:Addr)(cp:Nat)(hl:l.length≠0)(hn:l.length≤1000000):BQ (Fe (some ad) l) Tryz.prog 87 [.sla (some ad) l.length cp] [] (Rt (.sl 0 l.length 0) [some (.row 63 17 l.length 0 (fun zz=>Ce (l.getD zz In.z)))]):=
 Aa (n:=8) (by kernel_rfl) Tryz.func87 U U U fun G w a h0 hI A=>N9 9 A U U fun A=>cA (r:=.ff) A U U U U U (e:=63) (by kernel_rfl) U fun A=>N9 9 A U U fun A=>P1 6 hI hl A U U U U fun _ A=>cC hX l.length (fun zz=>Ce (l.getD zz In.z)) A U U U U (β8 _) (by omega) hn (by omega) (fun k hk=>by omega) (fun k hk=>by show Ce _=Ce _;rw [δ1]) (fun z=>⟨_,rfl,rfl⟩) (fun k hk=>⟨_,rfl,AB⟩) fun A=>N9 4 A U U fun A=>KC hX [2] (x:=.sl 0 l.length 0) A ⟨rfl,rfl⟩ U U U U U U U U h0
theorem QB (l:List In)(ao:ak)(cp:Nat)(hn:l.length≤1000000):BQ (Fe ao l) Tryz.prog 87 [.sla ao l.length cp] [] (Rt (.sl 0 l.length 0) [some (.row 63 17 l.length 0 (fun zz=>Ce (l.getD zz In.z)))]):=by
 by_cases h0:l.length=0
 ·have e:=γ9 h0
  subst e
  cases ao with
  |none=>exact(Rm cp).toI
  |some ad=>exact(X9 ad cp).toI
 ·cases ao with
  | none=>exact⟨(Rm cp).1,fun G w vs hM hI hv=>by
    rcases hI.2 with h|⟨b,o,h,_⟩
    ·exact absurd h h0
    ·cases h⟩
  |some ad=>exact YA l ad cp h0 hn
end Mc
namespace Mc
open Go.RowKit
set_option simprocs false
abbrev MB (x0:Int)(nm:ag)(y0 y1 y2:Int)(rg:Nat→Nat→Int)(c:SV)(x1:Int)(k:SV):List SV:=[.int .i64 x0,.str nm,.int .i64 y0,.int .i64 y1,.int .i64 y2,.int .i64 (rg 0 0),.int .i64 (rg 0 1),.int .i64 (rg 0 2),.int .i64 (rg 0 3),.int .i64 (rg 0 4),.int .i64 (rg 0 5),.int .i64 (rg 0 6),.int .i64 (rg 0 7),.int .i64 (rg 1 0),.int .i64 (rg 1 1),.int .i64 (rg 1 2),.int .i64 (rg 1 3),.int .i64 (rg 1 4),.int .i64 (rg 1 5),.int .i64 (rg 1 6),.int .i64 (rg 1 7),.int .i64 (rg 2 0),.int .i64 (rg 2 1),.int .i64 (rg 2 2),.int .i64 (rg 2 3),.int .i64 (rg 2 4),.int .i64 (rg 2 5),.int .i64 (rg 2 6),.int .i64 (rg 2 7),c,.int .i64 x1,k]
def Ai (cs:List AD)(rg:Nat→Rg):List Th:=(List.range cs.length).map fun k=>FK (cs.getD k AD.z).l ⟨0,rg k⟩
theorem O0 {cs:List AD}{rg:Nat→Rg}:(Ai cs rg).length=cs.length:=by unfold Ai;simp
theorem Kb {cs:List AD}{rg:Nat→Rg}{k:Nat}(h:k<cs.length):(Ai cs rg).getD k Th.z=FK (cs.getD k AD.z).l ⟨0,rg k⟩:=by
 unfold Ai
 rw [α8,ι0,List.getElem?_range h]
 rfl
theorem Ng {cs:List AD}(h:∀c∈cs,Fo c.l){k:Nat}(hk:k<cs.length):Fo (cs.getD k AD.z).l:=h _ (by rw [α8,β4 hk];exact ι3 hk)
theorem Rn {cs:List AD}{ao co:ak}{cx cn cc:Nat}{rg:Nat→Rg}{x0 x1 y0 y1 y2:Int}{nm:ag}{k:Nat}(h:k<3):DK ⟨X,true⟩ 23 (MB x0 nm y0 y1 y2 rg (.sla ao cs.length cx) x1 (.sla co cn cc)) (5+k*8)=some (.agg [.n9 (rg k 0),.n9 (rg k 1),.n9 (rg k 2),.n9 (rg k 3),.n9 (rg k 4),.n9 (rg k 5),.n9 (rg k 6),.n9 (rg k 7)]):=by
 match k,h with
 |0,_=>rfl
 |1,_=>rfl
 |2,_=>rfl
theorem cV {l:List AD}{x:AD}{m k:Nat}(hm:l.length=m)(h:k<m):(l++[x]).getD k AD.z=l.getD k AD.z:=by rw [α8,α8,α2 (by omega)]
theorem cW {l:List AD}{x:AD}{m:Nat}(hm:l.length=m):(l++[x]).getD m AD.z=x:=by subst hm;simp [List.getD]
structure NJ (cs:List AD)(N:Nat)(z:List AD×Nat)(w:World)(ks:ae):Prop where
 m:z.1.length=z.2
 le:z.2≤cs.length
 eq:∀k,k<z.2→(z.1.getD k AD.z).l=(cs.getD k AD.z).l
 at_:∀c∈z.1,c.lies w ks∧∀q:Addr,c.ao=some q→N≤q.block
theorem NJ.ok {cs:List AD}{N:Nat}{z:List AD×Nat}:Dl.OK (NJ cs N z):=fun w ks w' ks' h m hk=>⟨h.m,h.le,h.eq,fun c hc=>⟨AP.ok _ _ _ _ (h.at_ c hc).1 m hk,(h.at_ c hc).2⟩⟩
theorem NJ.i0 {cs:List AD}{N:Nat}{w:World}{ks:ae}:NJ cs N ([],0) w ks:=⟨rfl,β7 _,fun k hk=>(by cases hk),fun c hc=>(by cases hc)⟩
theorem NJ.nx {cs:List AD}{N:Nat}{z:List AD×Nat}{w:World}{ks:ae}{ao:ak}{cp:Nat}(h:NJ cs N z w ks)(BU:z.2<cs.length)(hl:AP ao 17 (cs.getD (((z.2:Nat):Int)).toNat AD.z).l.length (fun zz=>Ce ((cs.getD (((z.2:Nat):Int)).toNat AD.z).l.getD zz In.z)) w ks)(hf:∀q:Addr,ao=some q→N≤q.block):NJ cs N (z.1++[(⟨ao,(cs.getD (((z.2:Nat):Int)).toNat AD.z).l,cp⟩:AD)],z.2+1) w ks:=by
 refine⟨by simp [h.m],by show z.2+1≤_;omega,fun k hk=>?_,fun c hc=>?_⟩
 ·by_cases e:k=z.2
  ·subst e;show((z.1++[_]).getD z.2 AD.z).l=_;rw [cW h.m];rfl
  ·have Dz:k<z.2:=by have:k<z.2+1:=hk;omega
   show((z.1++[_]).getD k AD.z).l=_;rw [cV h.m Dz];exact h.eq k Dz
 ·rcases ζ9.1 hc with hc|hc
  ·exact h.at_ c hc
  ·rw [ι9]at hc;subst hc;exact⟨hl,hf⟩
theorem NJ.mv {cs:List AD}{N:Nat}{z:List AD×Nat}{w:World}{H H' l:Hp}{G:Gr}{m:ae}(h:NJ cs N z w (keys H G))(hlen:H.length=G.length)(h1:DC H m=some l)(h2:DR m H'=some l):NJ cs N z w (keys H' (BE m G)):=NJ.ok _ _ _ _ h (CQ.refl _ _) (fun b hb=>.inl (Bv hlen h1 h2 b hb))
def Rp (cs:List AD)(rg:Nat→Rg):SV→World→World→Prop:=fun x w w'=>∃(L:Loc) (bt cp:Nat) (cs':List AD),x=EZ L.b L.pre.length∧Oy 125 10 cs.length (fun zz=>If (cs'.getD zz AD.z) ((Ai cs rg).getD zz Th.z)) L bt cp w.heap.size w'∧Ac cs' (Ai cs rg) cs.length∧(∀k,k<cs.length→(cs'.getD k AD.z).l=(cs.getD k AD.z).l)∧∀ks,(∀b,ks.contains b=true→b<w.heap.size∨b=L.b∨b=bt)→AH cs' w' ks
theorem U9 {cs:List AD}{rg:Nat→Rg}{z:List AD×Nat}{w w':World}{ks:ae}{L:Loc}{bt cp:Nat}(FF:∀c∈cs,Fo c.l)(hz:NJ cs w.heap.size z w' ks)(OE:z.2=cs.length)(ho:Oy 125 10 z.2 (fun zz=>If (z.1.getD zz AD.z) ((Ai cs rg).getD zz Th.z)) L bt cp w.heap.size w')(h1:ks.contains L.b=true)(h2:ks.contains bt=true):Rp cs rg (EZ L.b L.pre.length) w w':=by
 have hm:=hz.m
 refine⟨L,bt,cp,z.1,rfl,by rw [←OE];exact ho,⟨by rw [O0];omega,by omega,fun k hk=>?_,fun k hk=>?_⟩,fun k hk=>hz.eq k (by omega),fun ks' hk c hc=>?_⟩
 ·rw [hz.eq k (by omega)];exact Ng FF (by omega)
 ·rw [Kb (by omega),hz.eq k (by omega)];exact Rf (Ng FF (by omega)) (β7 _)
 ·obtain⟨h3,h4⟩:=hz.at_ c hc
  refine⟨h3.1,?_⟩
  rcases h3.2 with h|⟨b,o,e1,e2,e3,e4⟩
  ·exact .inl h
  ·refine .inr ⟨b,o,e1,e2,?_,e4⟩
   have hb:=h4 _ e1
   cases hq:ks'.contains b with
   |false=>rfl
   |true=>
    rcases hk b hq with h|h|h
    ·have:w.heap.size≤b:=hb;omega
    ·subst h;rw [h1]at e3;cases e3
    ·subst h;rw [h2]at e3;cases e3
theorem C2 (cs:List AD)(ao:ak)(cx:Nat)(rg:Nat→Rg)(x0 x1 y0 y1 y2:Int)(nm:ag)(co:ak)(cn cc:Nat)(En:Me cs=0):Mf Tryz.prog 53 [.agg (MB x0 nm y0 y1 y2 rg (.sla ao cs.length cx) x1 (.sla co cn cc))] [] [] (fun w=>AP ao 1 cs.length (fun zz=>I7 (cs.getD zz AD.z)) w []∧AH cs w []) (Rp cs rg):=
 Eg (n:=50) (by kernel_rfl) Tryz.func53 U U U (fun i e h=>by rw [ι1]at h;cases h) fun G w a h0 ho hp A=>have FF:=FJ En;N9 18 A U U fun A=>P1 14 hp.1 (by omega) A U U U U fun _ A=>I9 [2] AH.ok hp.2 (KV cs cx (fun c hc=>β3 (FF.2 c hc).n (by decide)) (fun hG hn=>Xw cs cx (fun c hc=>β3 (Ib hG c hc) (by decide)) (by omega))) A U fun A=>N9 15 A U U fun A=>FY 20 A U
  (fun h1 A=>absurd En h1)
  (fun h1 A=>N9 13 A U U fun A=>P1 23 hp.1 (by omega) A U U U U fun _ A=>sI 1 125 10 (fun zz=>If (([]:List AD).getD zz AD.z) ((Ai cs rg).getD zz Th.z)) A U (fun z=>⟨_,rfl,rfl⟩) U fun A=>GK (fun(z:List AD×Nat)=>[(1,.ptr 0 0),(3,.ptr 1 0),(23,.sl 2 cs.length cx),(24,.n9 ((cs.length:Nat):Int)),(25,.n9 ((z.2:Nat):Int))]) (fun(z:List AD×Nat)=>[O (MB x0 nm y0 y1 y2 rg (.sla ao cs.length cx) x1 (.sla co cn cc)),O [.sl 3 z.2 0],an cs,aq z.1 (Ai cs rg) z.2]) (fun z w' ks=>NJ cs w.heap.size z w' ks) (fun z=>cs.length - z.2) ([],0) ((A.cut [1,3,23,24,25] U).mv 0 [0,1,3,4] U U U U h0.symm) NJ.i0 fun z G a w hz J7 A B=>have W8:=h0;have h0:=B.mem.len;N9 6 A U U fun A=>AU 26 A U
    (fun h2 A=>N9 6 A U U fun A=>have BU:z.2<cs.length:=(by omega);have ZP:z.2<3:=(by omega);have Ch:=(AH.ok.now B hp.2).at BU;N9 9 A U (AE (by have:=hz.le;omega)<|AE (by have:=hz.le;omega)<|AB) fun A=>GL BW [.sla ((cs.getD ((((z.2:Nat):Int)).toNat) AD.z).ao) ((cs.getD ((((z.2:Nat):Int)).toNat) AD.z).l.length) ((cs.getD ((((z.2:Nat):Int)).toNat) AD.z).cp),.sl 4 ((cs.getD ((((z.2:Nat):Int)).toNat) AD.z).l.length) 0,.n9 ((z.2:Nat):Int),.ptr 0 5,.ix (.ptr 0 5) 8 3 ((z.2:Nat):Int) 0,.agg [.n9 (rg z.2 0),.n9 (rg z.2 1),.n9 (rg z.2 2),.n9 (rg z.2 3),.n9 (rg z.2 4),.n9 (rg z.2 5),.n9 (rg z.2 6),.n9 (rg z.2 7)],.agg [.sl 4 ((cs.getD ((((z.2:Nat):Int)).toNat) AD.z).l.length) 0,.z9,.n9 (rg z.2 0),.n9 (rg z.2 1),.n9 (rg z.2 2),.n9 (rg z.2 3),.n9 (rg z.2 4),.n9 (rg z.2 5),.n9 (rg z.2 6),.n9 (rg z.2 7)],.ptr 5 0,.tup []] [1,7,8] [4,5] 2 [([],[4,5],[O (MB x0 nm y0 y1 y2 rg (.sla ao cs.length cx) x1 (.sla co cn cc)),O [.sl 3 z.2 0],an cs,aq z.1 (Ai cs rg) z.2,none,none]),([1],[5],[O (MB x0 nm y0 y1 y2 rg (.sla ao cs.length cx) x1 (.sla co cn cc)),O [.sl 3 z.2 0],an cs,aq z.1 (Ai cs rg) z.2,some (.row 63 17 ((cs.getD ((((z.2:Nat):Int)).toNat) AD.z).l.length) 0 (fun zz=>Ce ((cs.getD ((((z.2:Nat):Int)).toNat) AD.z).l.getD zz In.z))),none]),([7],[4],[O (MB x0 nm y0 y1 y2 rg (.sla ao cs.length cx) x1 (.sla co cn cc)),O [.sl 3 z.2 0],an cs,aq z.1 (Ai cs rg) z.2,none,O [.sla none 0 0,.z9,.z9,.z9,.z9,.z9,.z9,.z9,.z9,.z9]]),([1,7],[],[O (MB x0 nm y0 y1 y2 rg (.sla ao cs.length cx) x1 (.sla co cn cc)),O [.sl 3 z.2 0],an cs,aq z.1 (Ai cs rg) z.2,some (.row 63 17 ((cs.getD ((((z.2:Nat):Int)).toNat) AD.z).l.length) 0 (fun zz=>Ce ((cs.getD ((((z.2:Nat):Int)).toNat) AD.z).l.getD zz In.z))),O [.sla none 0 0,.z9,.z9,.z9,.z9,.z9,.z9,.z9,.z9,.z9]]),([1,7,8],[],[O (MB x0 nm y0 y1 y2 rg (.sla ao cs.length cx) x1 (.sla co cn cc)),O [.sl 3 z.2 0],an cs,aq z.1 (Ai cs rg) z.2,some (.row 63 17 ((cs.getD ((((z.2:Nat):Int)).toNat) AD.z).l.length) 0 (fun zz=>Ce ((cs.getD ((((z.2:Nat):Int)).toNat) AD.z).l.getD zz In.z))),O [.sl 4 ((cs.getD ((((z.2:Nat):Int)).toNat) AD.z).l.length) 0,.z9,.n9 (rg z.2 0),.n9 (rg z.2 1),.n9 (rg z.2 2),.n9 (rg z.2 3),.n9 (rg z.2 4),.n9 (rg z.2 5),.n9 (rg z.2 6),.n9 (rg z.2 7)]])] [[true,true,true,true,true,true,false,true,false],[false,false,true,true,true,true,true,true,false],[true,true,true,true,true,true,false,false,false],[false,false,true,true,true,true,true,false,true],[false,false,false,false,false,false,false,false,false]] A U U U U (by kernel_rfl) U (by kernel_rfl) ⟨⟨AJ 0 U U,⟨⟨_,_,_,_,1,rfl,rfl,rfl,rfl,F3 4 (CU [] AP.ok Ch (QB ((cs.getD ((((z.2:Nat):Int)).toNat) AD.z).l) ((cs.getD ((((z.2:Nat):Int)).toNat) AD.z).ao) ((cs.getD ((((z.2:Nat):Int)).toNat) AD.z).cp) (β3 (Ng FF.2 BU).n (by decide))) U U U U U U U) U U (JZ h0 U) U U U U⟩,⟨AJ 0 U U,⟨AJ 0 U U,⟨AJ 0 U (AE (by have:=hz.le;omega)<|AB),⟨BB 0 U (Mh (k:=z.2) hX U U U U (Rn ZP)),⟨⟨_,_,_,_,2,rfl,rfl,rfl,rfl,C7 5 (X:=⟨_,true⟩) hX U U (JZ h0 U) U U U U⟩,trivial⟩⟩⟩⟩⟩⟩⟩,⟨⟨AJ 1 U U,⟨AJ 1 U U,⟨AJ 1 U (AE (by have:=hz.le;omega)<|AB),⟨BB 1 U (Mh (k:=z.2) hX U U U U (Rn ZP)),⟨AJ 1 U U,⟨⟨_,_,_,_,3,rfl,rfl,rfl,rfl,C7 5 (X:=⟨_,true⟩) hX U U (JZ h0 U) U U U U⟩,trivial⟩⟩⟩⟩⟩⟩,⟨⟨AJ 2 U U,⟨⟨_,_,_,_,3,rfl,rfl,rfl,rfl,F3 4 (CU [] AP.ok Ch (QB ((cs.getD ((((z.2:Nat):Int)).toNat) AD.z).l) ((cs.getD ((((z.2:Nat):Int)).toNat) AD.z).ao) ((cs.getD ((((z.2:Nat):Int)).toNat) AD.z).cp) (β3 (Ng FF.2 BU).n (by decide))) U U U U U U U) U U (JZ h0 U) U U U U⟩,⟨AJ 2 U U,⟨AJ 2 U U,⟨AJ 2 U (AE (by have:=hz.le;omega)<|AB),⟨BB 2 U (Mh (k:=z.2) hX U U U U (Rn ZP)),trivial⟩⟩⟩⟩⟩⟩,⟨⟨AJ 3 U U,⟨AJ 3 U U,⟨AJ 3 U (AE (by have:=hz.le;omega)<|AB),⟨BB 3 U (Mh (k:=z.2) hX U U U U (Rn ZP)),⟨AJ 3 U U,⟨BB 4 U (AT (X:=⟨_,true⟩) (out:=.upd 5 [.sl 4 ((cs.getD ((((z.2:Nat):Int)).toNat) AD.z).l.length) 0,.z9,.n9 (rg z.2 0),.n9 (rg z.2 1),.n9 (rg z.2 2),.n9 (rg z.2 3),.n9 (rg z.2 4),.n9 (rg z.2 5),.n9 (rg z.2 6),.n9 (rg z.2 7)] _) hX U U),trivial⟩⟩⟩⟩⟩⟩,⟨trivial,trivial⟩⟩⟩⟩⟩ fun A=>N9 2 A U U fun A=>sJ 4 5 (fun ao' cp'=>[O (MB x0 nm y0 y1 y2 rg (.sla ao cs.length cx) x1 (.sla co cn cc)),O [.sl 3 z.2 0],an cs,aq z.1 (Ai cs rg) z.2,none,O (Fc (.sla ao' ((cs.getD ((((z.2:Nat):Int)).toNat) AD.z).l.length) cp') 0 (rg z.2))]) A U U U (fun _ _=>rfl) fun ao' cp' A hl Qq=>have hz:=NJ.ok.now A hz;have Qq:∀q:Addr,ao'=some q→_≤q.block:=fun q hq=>(Qq q hq).elim (fun h=>(B.keys_own _ h).elim (fun h=>by cases h) id) (fun h=>β3 B.mix.size h);have B:=B.trans A;have A:=B.base;have h0:=B.mem.len;N9 1 A U U fun A=>I9 [5] AP.ok hl (Nd ((cs.getD ((((z.2:Nat):Int)).toNat) AD.z).l) ao' cp' (0:Int) (rg z.2) (Ng FF.2 BU) (by omega)) A U fun A=>N9 2 A U U fun A=>A9 hX BW [] [(7,.sl 7 (z.2+1) 0,[O (MB x0 nm y0 y1 y2 rg (.sla ao cs.length cx) x1 (.sla co cn cc)),O [.sl 3 z.2 0],an cs,none,none,O (Fc (.sla ao' ((cs.getD ((((z.2:Nat):Int)).toNat) AD.z).l.length) cp') (((FK (cs.getD ((((z.2:Nat):Int)).toNat) AD.z).l ⟨((0:Int)).toNat,rg z.2⟩).at_:Nat):Int) ((FK (cs.getD ((((z.2:Nat):Int)).toNat) AD.z).l ⟨((0:Int)).toNat,rg z.2⟩).r)),O (Fc (.sla ao' ((cs.getD ((((z.2:Nat):Int)).toNat) AD.z).l.length) cp') (((FK (cs.getD ((((z.2:Nat):Int)).toNat) AD.z).l ⟨((0:Int)).toNat,rg z.2⟩).at_:Nat):Int) ((FK (cs.getD ((((z.2:Nat):Int)).toNat) AD.z).l ⟨((0:Int)).toNat,rg z.2⟩).r)),some (.row 125 10 (z.2+1) 0 (fun zz=>If ((z.1++[(⟨ao',(cs.getD (((z.2:Nat):Int)).toNat AD.z).l,cp'⟩:AD)]).getD zz AD.z) ((Ai cs rg).getD zz Th.z)))])] A U U U U (by kernel_rfl) ⟨trivial,⟨NR (i:=3) hX (z.2+1) (fun zz=>If ((z.1++[(⟨ao',(cs.getD (((z.2:Nat):Int)).toNat AD.z).l,cp'⟩:AD)]).getD zz AD.z) ((Ai cs rg).getD zz Th.z)) U U U U (by omega) U (fun k hk=>by show If _ _=If _ _;rw [cV hz.m hk]) (by show If _ _=_;rw [cW hz.m,Kb BU]<;>rfl) (fun z=>⟨_,rfl,rfl⟩),⟨trivial,trivial⟩⟩⟩ trivial fun A=>N9 6 A U (AE (by have:=hz.le;omega)<|AB) fun A=>⟨((z.1++[(⟨ao',(cs.getD (((z.2:Nat):Int)).toNat AD.z).l,cp'⟩:AD)]),z.2+1),_,(by show cs.length - (z.2+1)<cs.length - z.2;omega),((NJ.ok.now A hz).nx BU (AP.ok.now A hl) Qq).mv (m:=[0,1,2,7]) A.mem.len U U,(((B.trans A).cut [1,3,23,24,25] U).mv 0 [0,1,2,7] U U U U W8.symm)⟩)
    (fun h2 A=>N9 10 A U U fun A=>have OE:z.2=cs.length:=(by have:=hz.le;omega);match(B.trans A).giveCore 1 3 2 (by omega) U U U U with|⟨L,bt,cp,A',ho,SN,FC⟩=>GS hX A' U U U U (U9 FF.2 (NJ.ok.now A hz) OE ho SN FC)))
end Mc
namespace Mc
open Go.RowKit
set_option simprocs false
theorem Nh {α:Type}(d:α)(cf:α→List SV)(s:Nat)(hs:∀x,(cf x).length=s)(JB:∀x,HH 0 (cf x)=true)(Be:∀x,∃vs,AO [] (cf x)=some vs)(L:List α){b:Nat}{vs:aj}{w:World}{ks:ae}(hl:K2 b 0 vs w ks)(hv:AO [] (L.flatMap cf)=some vs):AP (some ⟨b,0,none⟩) s L.length (fun zz=>cf (L.getD zz d)) w ks:=by
 refine⟨fun k=>Be _,.inr ⟨b,0,rfl,hl.1,hl.2.1,fun k hk=>?_⟩⟩
 obtain⟨r1,r2⟩:=HM d cf s hs JB L k hk
 obtain⟨r3,r4⟩:=IL r1
 rw [Hd]at r3 r4
 have hd:AO [] (cf (L.getD k d))=some ((vs.drop (k*s)).take s):=by rw [r3];exact CO s (CP _ hv)
 refine⟨_,hd,fun q v hq=>?_⟩
 have BU:=(α0.1 hq).1
 simp only [δ6,γ3]at BU
 rw [γ1 (by omega),η0]at hq
 have:=hl.2.2 _ v hq
 rwa [←η4]at this
theorem LG {I:Dl}{P:Program}{f:Nat}{args:List SV}{H H2:Hp}{x y:SV}(h:BQ I P f args H (Rt x H2))(e:∀{G},den G x=den G y):BQ I P f args H (Rt y H2):=⟨h.1,fun G w vs hM hI hv=>π3 (h.2 G w vs hM hI hv) fun e' w' ⟨x',H',F,v,⟨q1,q2⟩,r⟩=>by subst q1;subst q2;exact⟨y,_,F,v,⟨rfl,rfl⟩,by rw [←e];exact r.1,r.2⟩⟩
end Mc
namespace Mc
open Go.RowKit
set_option simprocs false
theorem VA (s1:Int):Fn Tryz.prog 176 [.n9 s1] [] (Rt (.bool ((((s1==1)||(s1==2))||(s1==4))||(s1==8))) []):=
 AR (n:=17) (by kernel_rfl) Tryz.func176 U U U fun G w a h0 A=>M hX 25 A U U fun A=>R9 A U h0 U U U
def sR (o1:Int):Nat→Int
 |0=>0
 |j+1=>IntKind.wrap .i64 ((((BitVec.ofInt (IntKind.bits .i64) (sR o1 j))|||(BitVec.ofInt (IntKind.bits .i64) (IntKind.wrap .i64 (1*2^min ((o1+(j:Int))).toNat (IntKind.bits .i64))))).toNat:Nat):Int)
theorem cX {o1 s1:Int}{j:Nat}(hs:s1=1∨s1=2∨s1=4∨s1=8)(ho:0≤o1∧o1≤8 - s1∧Int.tmod o1 s1=0)(hj:j=s1.toNat):sR o1 j=BX o1 s1:=by
 subst hj
 have h1:=ho.1
 have h2:=ho.2.1
 have h3:=ho.2.2
 have h4:s1≥1:=by rcases hs with h|h|h|h<;>omega
 have h8:o1=0∨o1=1∨o1=2∨o1=3∨o1=4∨o1=5∨o1=6∨o1=7:=by omega
 rcases h8 with rfl|rfl|rfl|rfl|rfl|rfl|rfl|rfl<;>rcases hs with rfl|rfl|rfl|rfl<;>first|(exfalso;omega)|exact absurd h3 (by decide)|decide
theorem VB (o1 s1:Int)(hs:s1=1∨s1=2∨s1=4∨s1=8)(ho:0≤o1∧o1≤8 - s1∧Int.tmod o1 s1=0):Fn Tryz.prog 135 [.n9 o1,.n9 s1] [] (Rt (.int .i64 (BX o1 s1)) []):=
 AR (n:=39) (by kernel_rfl) Tryz.func135 U U U fun G w a h0 A=>N9 9 A U U fun A=>C9 [] (VA s1) A U fun A=>N9 19 A U (Bz<|Bz<|Bz<|JP (fun hg=>(by have:=ho;rcases hs with rfl|rfl|rfl|rfl<;>omega))<|Bz<|Bz<|Bz<|Bz<|Bz<|JP (fun hg=>(by have:=ho;rcases hs with rfl|rfl|rfl|rfl<;>omega))<|Bz<|Bz<|AB) fun A=>fork 25 A U
  (fun h1 A=>absurd h1 (by have h1:=ho.1;have h2:=ho.2.1;have h3:=ho.2.2;rcases hs with rfl|rfl|rfl|rfl<;>simp [h3]<;>omega))
  (fun h1 A=>N9 16 A U U fun A=>have A:=AG A 6 (.int .i64 (o1+((0:Nat):Int))) U (fun _=>congrArg (fun z=>some (Value.int .i64 z)) (by omega));Bq (fun(j:Nat)=>[(0,.n9 o1),(1,.n9 s1),(4,.n9 0),(5,.n9 (sR o1 j)),(6,.n9 (o1+(j:Int)))]) (fun(j:Nat)=>[]) (fun(j:Nat)=>j≤s1.toNat) (fun(j:Nat)=>s1.toNat - j) 0 (β7 _) ((A.cut [0,1,4,5,6] U).trunc 0 U U U (CL h0 U)) fun j hJ {G a w} A=>N9 10 A U (AE (by first|omega|(rcases hs with rfl|rfl|rfl|rfl<;>omega))<|AB) fun A=>AU 31 A U
    (fun h2 A=>N9 14 A U (AE (by first|omega|(rcases hs with rfl|rfl|rfl|rfl<;>omega))<|AB) fun A=>N9 5 A U (AE (by first|omega|(rcases hs with rfl|rfl|rfl|rfl<;>omega))<|AB) fun A=>⟨j+1,_,(by omega),(by omega),(((AG A 6 (.int .i64 (o1+((j+1:Nat):Int))) U (fun _=>congrArg (fun z=>some (Value.int .i64 z)) (by omega))).cut [0,1,4,5,6] U).trunc 0 U U U (CL h0 U)).sayT (by rfl)⟩)
    (fun h2 A=>N9 10 A U U fun A=>R9 A U h0 U (congrArg (SV.int .i64) (cX hs ho (show j=s1.toNat from(by omega)))) U))
theorem cY (v1 k1:Int)(hk:0≤k1∧k1<8):Fn Tryz.prog 134 [.n9 v1,.n9 k1] [] (Rt (.int .i64 (IntKind.wrap .i64 ((((BitVec.ofInt (IntKind.bits .i64) (Int.fdiv v1 (2^min ((8*k1)).toNat (IntKind.bits .i64))))&&&(BitVec.ofInt (IntKind.bits .i64) 255)).toNat:Nat):Int))) []):=
 AR (n:=10) (by kernel_rfl) Tryz.func134 U U U fun G w a h0 A=>N9 16 A U (AE (by omega)<|AE (by omega)<|AB) fun A=>R9 A U h0 U U U
def cZ (v1:Int):Nat→Int
 |0=>0
 |j+1=>IntKind.wrap .i64 ((((BitVec.ofInt (IntKind.bits .i64) (cZ v1 j))|||(BitVec.ofInt (IntKind.bits .i64) (IntKind.wrap .i64 ((IntKind.wrap .i64 ((((BitVec.ofInt (IntKind.bits .i64) (Int.fdiv v1 (2^min ((8*(0+(j:Int)))).toNat (IntKind.bits .i64))))&&&(BitVec.ofInt (IntKind.bits .i64) 255)).toNat:Nat):Int))*2^min ((8*(j:Int))).toNat (IntKind.bits .i64))))).toNat:Nat):Int)
theorem Ni (x:Int):IntKind.wrap .i64 x=if x % 18446744073709551616≥9223372036854775808 then x % 18446744073709551616 - 18446744073709551616 else x % 18446744073709551616:=by
 have h:IntKind.wrap .i64 x=if(true&&decide (x % 18446744073709551616≥9223372036854775808))=true then x % 18446744073709551616 - 18446744073709551616 else x % 18446744073709551616:=rfl
 rw [h]
 simp only [Bool.true_and,δ4]
theorem O1 (x:Int):IntKind.wrap .i64 x % 18446744073709551616=x % 18446744073709551616:=by
 rw [Ni];split<;>omega
theorem O2 (x:Int):(BitVec.ofInt 64 x).toNat=(x % 18446744073709551616).toNat:=by rw [BitVec.toNat_ofInt];rfl
theorem Zp (x:BitVec 64):BitVec.ofInt 64 (IntKind.wrap .i64 ((x.toNat:Nat):Int))=x:=by
 apply π2
 have:=x.isLt
 rw [O2,O1]
 omega
theorem Jv {v A:Int}{k K:Nat}(hk:(k,K)=(0,1)∨(k,K)=(8,256)∨(k,K)=(16,65536)∨(k,K)=(24,16777216)∨(k,K)=(32,4294967296)∨(k,K)=(40,1099511627776)∨(k,K)=(48,281474976710656)∨(k,K)=(56,72057594037927936))(hA:(BitVec.ofInt 64 A).toNat=(v % 18446744073709551616).toNat % K):(BitVec.ofInt 64 (IntKind.wrap .i64 ((((BitVec.ofInt 64 A)|||(BitVec.ofInt 64 (IntKind.wrap .i64 ((IntKind.wrap .i64 ((((BitVec.ofInt 64 (Int.fdiv v (2^k)))&&&(BitVec.ofInt 64 255)).toNat:Nat):Int))*2^k)))).toNat:Nat):Int))).toNat=(v % 18446744073709551616).toNat % (K*256):=by
 have hK:(2:Int)^k=(K:Int)∧2^k=K∧0<K:=by rcases hk with h|h|h|h|h|h|h|h<;>cases h<;>exact⟨by decide,by decide,by decide⟩
 rw [Zp,BitVec.toNat_or,hA,hK.1]
 have hY:((BitVec.ofInt 64 (Int.fdiv v (K:Int)))&&&(BitVec.ofInt 64 255)).toNat=((v / (K:Int)) % 18446744073709551616).toNat % 256:=by
  rw [π5,O2,show(BitVec.ofInt 64 255).toNat=2^8 - 1 from rfl,π6,ν7 _ (by omega)]
 rw [hY]
 generalize hy:((v / (K:Int)) % 18446744073709551616).toNat % 256=y
 have hy8:y<256:=by rw [←hy];exact υ9 _ (by decide)
 have e1:IntKind.wrap .i64 ((y:Nat):Int)=(y:Int):=by rw [Ni];split<;>omega
 have e2:(BitVec.ofInt 64 (IntKind.wrap .i64 ((y:Int)*(K:Int)))).toNat=K*y:=by
  rw [O2,O1]
  rcases hk with h|h|h|h|h|h|h|h<;>cases h<;>omega
 rw [e1,e2,Nat.or_comm]
 have e3:=Nat.two_pow_add_eq_or_of_lt (i:=k) (b:=(v % 18446744073709551616).toNat % K) (by rw [hK.2.1];exact υ9 _ hK.2.2) y
 rw [hK.2.1]at e3
 rw [←e3]
 clear hA hY e1 e2 e3
 rcases hk with h|h|h|h|h|h|h|h<;>cases h<;>omega
theorem lQ (v:Int):∀j,j≤8→(BitVec.ofInt 64 (cZ v j)).toNat=(v % 18446744073709551616).toNat % 256^j
 |0,_=>by rw [show cZ v 0=0 from rfl,O2];omega
 |j+1,h=>by
  have ih:=lQ v j (by omega)
  have hj:j=0∨j=1∨j=2∨j=3∨j=4∨j=5∨j=6∨j=7:=by omega
  rcases hj with rfl|rfl|rfl|rfl|rfl|rfl|rfl|rfl
  ·exact Jv (k:=0) (K:=1) (.inl U) ih
  ·exact Jv (k:=8) (K:=256) (.inr (.inl U)) ih
  ·exact Jv (k:=16) (K:=65536) (.inr (.inr (.inl U))) ih
  ·exact Jv (k:=24) (K:=16777216) (.inr (.inr (.inr (.inl U)))) ih
  ·exact Jv (k:=32) (K:=4294967296) (.inr (.inr (.inr (.inr (.inl U))))) ih
  ·exact Jv (k:=40) (K:=1099511627776) (.inr (.inr (.inr (.inr (.inr (.inl U)))))) ih
  ·exact Jv (k:=48) (K:=281474976710656) (.inr (.inr (.inr (.inr (.inr (.inr (.inl U))))))) ih
  ·exact Jv (k:=56) (K:=72057594037927936) (.inr (.inr (.inr (.inr (.inr (.inr (.inr U))))))) ih
theorem sS {v:Int}{X:BitVec 64}{k:Nat}(hX:X.toNat=2^k - 1):((BitVec.ofInt 64 (Int.fdiv v 1))&&&X).toNat=(v % 18446744073709551616).toNat % 2^k:=by
 rw [π5,O2,hX,π6,Int.fdiv_one]
theorem lR (v:Int):∀j,∃x:BitVec 64,cZ v j=IntKind.wrap .i64 ((x.toNat:Nat):Int)
 |0=>⟨0#64,rfl⟩
 |j+1=>⟨_,rfl⟩
theorem Nj {v:Int}{X:BitVec 64}{j:Nat}(hj:j≤8)(hX:X.toNat=2^(8*j) - 1):cZ v j=IntKind.wrap .i64 ((((BitVec.ofInt 64 (Int.fdiv v 1))&&&X).toNat:Nat):Int):=by
 obtain⟨x,hx⟩:=lR v j
 have h:=lQ v j hj
 rw [hx,Zp]at h
 rw [hx,h,sS hX,Nat.pow_mul]
theorem dA {v1 s1:Int}{j:Nat}(hs:s1=1∨s1=2∨s1=4∨s1=8)(hj:j=s1.toNat):cZ v1 j=Bm v1 s1:=by
 subst hj
 rcases hs with rfl|rfl|rfl|rfl
 ·exact Nj (j:=1) (by decide) (by decide)
 ·exact Nj (j:=2) (by decide) (by decide)
 ·exact Nj (j:=4) (by decide) (by decide)
 ·exact Nj (j:=8) (by decide) (by decide)
theorem Rq (v1 s1:Int)(hs:s1=1∨s1=2∨s1=4∨s1=8):Fn Tryz.prog 99 [.n9 v1,.z9,.n9 s1] [] (Rt (.int .i64 (Bm v1 s1)) []):=
 AR (n:=29) (by kernel_rfl) Tryz.func99 U U U fun G w a h0 A=>N9 10 A U U fun A=>C9 [] (VB 0 s1 hs (by rcases hs with rfl|rfl|rfl|rfl<;>decide)) A U fun A=>N9 3 A U U fun A=>AV 12 A U
  (fun h1 A=>absurd h1 (by rcases hs with rfl|rfl|rfl|rfl<;>decide))
  (fun h1 A=>N9 15 A U U fun A=>Bq (fun(j:Nat)=>[(0,.n9 v1),(1,.n9 0),(2,.n9 s1),(6,.n9 0),(7,.n9 (cZ v1 j)),(8,.n9 (j:Int))]) (fun(j:Nat)=>[]) (fun(j:Nat)=>j≤s1.toNat) (fun(j:Nat)=>s1.toNat - j) 0 (β7 _) ((A.cut [0,1,2,6,7,8] U).trunc 0 U U U (CL h0 U)) fun j hJ {G a w} A=>N9 8 A U U fun A=>AU 15 A U
    (fun h2 A=>N9 11 A U (AE (by first|omega|(rcases hs with rfl|rfl|rfl|rfl<;>omega))<|AB) fun A=>C9 [] (cY v1 (0+(j:Int)) (by first|omega|(rcases hs with rfl|rfl|rfl|rfl<;>omega))) A U fun A=>N9 8 A U (AE (by first|omega|(rcases hs with rfl|rfl|rfl|rfl<;>omega))<|AE (by first|omega|(rcases hs with rfl|rfl|rfl|rfl<;>omega))<|AB) fun A=>N9 5 A U (AE (by first|omega|(rcases hs with rfl|rfl|rfl|rfl<;>omega))<|AB) fun A=>⟨j+1,_,(by omega),(by omega),((A.cut [0,1,2,6,7,8] U).trunc 0 U U U (CL h0 U)).sayT (by rfl)⟩)
    (fun h2 A=>N9 10 A U U fun A=>R9 A U h0 U (congrArg (SV.int .i64) (dA hs (show j=s1.toNat from(by omega)))) U))
def C3 (fn a1 b1:Int):Int:=if fn=1 then IntKind.wrap .i64 (a1+b1)else if fn=2 then IntKind.wrap .i64 (a1 - b1)else if fn=3 then IntKind.wrap .i64 ((((BitVec.ofInt (IntKind.bits .i64) a1)^^^(BitVec.ofInt (IntKind.bits .i64) b1)).toNat:Nat):Int)else if fn=4 then IntKind.wrap .i64 ((((BitVec.ofInt (IntKind.bits .i64) a1)&&&(BitVec.ofInt (IntKind.bits .i64) b1)).toNat:Nat):Int)else if fn=5 then IntKind.wrap .i64 ((((BitVec.ofInt (IntKind.bits .i64) a1)|||(BitVec.ofInt (IntKind.bits .i64) b1)).toNat:Nat):Int)else 0
theorem Zq (fn a1 b1:Int):Fn Tryz.prog 90 [.n9 fn,.n9 a1,.n9 b1] [] (Rt (.int .i64 (C3 fn a1 b1)) []):=
 AR (n:=33) (by kernel_rfl) Tryz.func90 U U U fun G w a h0 A=>M hX 18 A U U fun A=>AV 8 A U
  (fun h1 A=>M hX 10 A U U fun A=>R9 A U h0 U (by simp only [Am,nb,B5,Bx,C3,if_pos h1]) U)
  (fun h1 A=>M hX 7 A U U fun A=>AV 13 A U
   (fun h2 A=>M hX 10 A U U fun A=>R9 A U h0 U (by simp only [Am,nb,B5,Bx,C3,if_neg (h1),if_pos h2]) U)
   (fun h2 A=>M hX 7 A U U fun A=>AV 18 A U
    (fun h3 A=>M hX 10 A U U fun A=>R9 A U h0 U (by simp only [Am,nb,B5,Bx,C3,if_neg (h1),if_neg (h2),if_pos h3]) U)
    (fun h3 A=>M hX 7 A U U fun A=>AV 23 A U
     (fun h4 A=>M hX 10 A U U fun A=>R9 A U h0 U (by simp only [Am,nb,B5,Bx,C3,if_neg (h1),if_neg (h2),if_neg (h3),if_pos h4]) U)
     (fun h4 A=>M hX 7 A U U fun A=>AV 28 A U
      (fun h5 A=>M hX 10 A U U fun A=>R9 A U h0 U (by simp only [Am,nb,B5,Bx,C3,if_neg (h1),if_neg (h2),if_neg (h3),if_neg (h4),if_pos h5]) U)
      (fun h5 A=>M hX 10 A U U fun A=>R9 A U h0 U (by simp only [Am,nb,B5,Bx,C3,if_neg (h1),if_neg (h2),if_neg (h3),if_neg (h4),if_neg (h5)]) U)))))
def Ih (fn v1 a1 s1:Int):Int:=if fn=6 then Bm a1 s1 else if fn=1 then Bm (IntKind.wrap .i64 (v1+a1)) s1 else 0
theorem lS (fn v1 a1 s1:Int)(hs:s1=1∨s1=2∨s1=4∨s1=8):Fn Tryz.prog 101 [.n9 fn,.n9 v1,.n9 a1,.n9 s1] [] (Rt (.int .i64 (Ih fn v1 a1 s1)) []):=
 AR (n:=22) (by kernel_rfl) Tryz.func101 U U U fun G w a h0 A=>M hX 18 A U U fun A=>AV 10 A U
  (fun h1 A=>M hX 5 A U U fun A=>C9 [] (Rq a1 s1 hs) A U fun A=>M hX 4 A U U fun A=>R9 A U h0 U (by simp only [Am,nb,B5,Bx,Ih,if_pos h1]) U)
  (fun h1 A=>M hX 7 A U U fun A=>AV 15 A U
   (fun h2 A=>M hX 7 A U U fun A=>C9 [] (Rq (IntKind.wrap .i64 (v1+a1)) s1 hs) A U fun A=>M hX 4 A U U fun A=>R9 A U h0 U (by simp only [Am,nb,B5,Bx,Ih,if_neg (h1),if_pos h2]) U)
   (fun h2 A=>M hX 10 A U U fun A=>R9 A U h0 U (by simp only [Am,nb,B5,Bx,Ih,if_neg (h1),if_neg (h2)]) U))
def Ii (o1 x1 s1:Int):Int:=if(!((((s1==1)||(s1==2))||(s1==4))||(s1==8)))=true then(-1)else IntKind.wrap .i64 ((IntKind.wrap .i64 ((((BitVec.ofInt (IntKind.bits .i64) (IntKind.wrap .i64 (o1+x1)))&&&(BitVec.ofInt (IntKind.bits .i64) 7)).toNat:Nat):Int)) - (Int.tmod (IntKind.wrap .i64 ((((BitVec.ofInt (IntKind.bits .i64) (IntKind.wrap .i64 (o1+x1)))&&&(BitVec.ofInt (IntKind.bits .i64) 7)).toNat:Nat):Int)) s1))
theorem YB (o1 x1 s1:Int):Fn Tryz.prog 136 [.n9 o1,.n9 x1,.n9 s1] [] (Rt (.int .i64 (Ii o1 x1 s1)) []):=
 AR (n:=20) (by kernel_rfl) Tryz.func136 U U U fun G w a h0 A=>M hX 9 A U U fun A=>C9 [] (VA s1) A U fun A=>M hX 3 A U U fun A=>fork 10 A U
  (fun h1 A=>M hX 7 A U U fun A=>R9 A U h0 U (by simp only [Am,nb,B5,Bx,Ii,if_pos h1]) U)
  (fun h1 A=>M hX 23 A U (AE (by simp at*;omega)<|AB) fun A=>R9 A U h0 U (by simp only [Am,nb,B5,Bx,Ii,if_neg (α7 h1)]) U)
theorem sT (x:Int):∃q:Int,IntKind.wrap .i64 ((((BitVec.ofInt (IntKind.bits .i64) x)&&&(BitVec.ofInt (IntKind.bits .i64) 7)).toNat:Nat):Int)=q∧(q=0∨q=1∨q=2∨q=3∨q=4∨q=5∨q=6∨q=7):=by
 have h:((BitVec.ofInt 64 x)&&&(BitVec.ofInt 64 7)).toNat≤7:=by
  rw [π5];exact Nat.and_le_right
 refine⟨((((BitVec.ofInt 64 x)&&&(BitVec.ofInt 64 7)).toNat:Nat):Int),?_,by omega⟩
 show IntKind.wrap .i64 ((((BitVec.ofInt 64 x)&&&(BitVec.ofInt 64 7)).toNat:Nat):Int)=_
 rw [Ni,if_neg (by omega)]
 omega
theorem VC (o1 x1:Int){s1:Int}(hs:s1=1∨s1=2∨s1=4∨s1=8):Ii o1 x1 s1=Ah o1 x1 s1∧0≤Ah o1 x1 s1∧Ah o1 x1 s1≤8 - s1∧Int.tmod (Ah o1 x1 s1) s1=0:=by
 obtain⟨q,h1,h2⟩:=sT (IntKind.wrap .i64 (o1+x1))
 unfold Ii Ah
 rw [h1]
 rcases hs with rfl|rfl|rfl|rfl<;>rcases h2 with rfl|rfl|rfl|rfl|rfl|rfl|rfl|rfl<;>decide
theorem Zr (i:In):Fn Tryz.prog 89 [.agg (AZ i)] [] (Rt (.bool (((i.op==4)||(i.op==5))||(i.op==6))) []):=
 AR (n:=16) (by kernel_rfl) Tryz.func89 U U U fun G w a h0 A=>N9 25 A U U fun A=>R9 A U h0 U U U
theorem VD (i:In):Fn Tryz.prog 61 [.agg (AZ i)] [] (Rt (.bool ((i.op==4)||(i.op==6))) []):=
 AR (n:=11) (by kernel_rfl) Tryz.func61 U U U fun G w a h0 A=>N9 20 A U U fun A=>R9 A U h0 U U U
theorem lT (i:In):Fn Tryz.prog 98 [.agg (AZ i)] [] (Rt (.bool ((i.op==5)||(i.op==6))) []):=
 AR (n:=11) (by kernel_rfl) Tryz.func98 U U U fun G w a h0 A=>N9 20 A U U fun A=>R9 A U h0 U U U
theorem VE (o1 x1 s1:Int)(hs:s1=1∨s1=2∨s1=4∨s1=8):Fn Tryz.prog 136 [.n9 o1,.n9 x1,.n9 s1] [] (Rt (.int .i64 (Ah o1 x1 s1)) []):=by
 rw [←(VC o1 x1 hs).1];exact YB o1 x1 s1
theorem VF (i:In)(x1:Int)(hs:i.sz=1∨i.sz=2∨i.sz=4∨i.sz=8):Fn Tryz.prog 96 [.agg (AZ i),.n9 x1] [] (Rt (.agg [.n9 i.loc,.n9 (BX (Ah i.off x1 i.sz) i.sz)]) []):=
 AR (n:=17) (by kernel_rfl) Tryz.func96 U U U fun G w a h0 A=>N9 7 A U U fun A=>A9 hX BW [(7,.n9 (Ah i.off x1 i.sz)),(10,.n9 (BX (Ah i.off x1 i.sz) i.sz))] [] A U U U U (by kernel_rfl) (An _ _) ⟨.inl ⟨_,_,rfl,rfl,VE i.off x1 i.sz hs⟩,⟨.inl ⟨_,_,rfl,rfl,VB (Ah i.off x1 i.sz) i.sz hs (VC _ _ hs).2⟩,trivial⟩⟩ fun A=>N9 2 A U U fun A=>R9 A U h0 U U U
end Mc
namespace Mc
open Go.RowKit
set_option simprocs false
abbrev Mv:Type:=Int×Int×Int
abbrev FR (v:Mv):List SV:=[.int .i64 v.1,.int .i64 v.2.1,.int .i64 v.2.2,.z9]
abbrev B4 (l:List Mv):Nat→List SV:=fun zz=>FR (l.getD zz (0,0,0))
theorem E7 {l:List Mv}{x:Mv}{k:Nat}(h:k<l.length):(l++[x]).getD k (0,0,0)=l.getD k (0,0,0):=by simp [List.getD,α2 h]
theorem PY (l:List Mv)(x:Mv):(l++[x]).length=l.length+1:=by simp
theorem Rr (q:Nat)(l:List Mv)(x:Mv):SV.sl q (l.length+1) 0=SV.sl q (l++[x]).length 0:=by rw [PY]
theorem E8 {l:List Mv}{x:Mv}:(l++[x]).getD l.length (0,0,0)=x:=by simp [List.getD]
theorem _root_.Go.Proofs.YtbbdanhpphlbpaaGreatDoor.Sy.mvA {n:Nat}{ks:ae}{G0:Gr}{w0:World}{T:List (Nat×SV)}{H:Hp}{G:Gr}{a:Act}{w:World}{E:Nat}(q t:Nat){l l':List Mv}(e:l'=l)(A:Sy n T H ks G0 w0 G a w)(hq:lg H q=some (some (.row E 4 l.length 0 (B4 l))))(ht:look T t=some (.sl q l.length 0)):Sy n ((t,.sl q l'.length 0)::T) (CE H q (some (.row E 4 l'.length 0 (B4 l')))) ks G0 w0 G a w:=by
 subst e
 have hs:CE H q (some (.row E 4 l'.length 0 (B4 l')))=H:=by
  rw [At]at hq
  rw [Aw]
  apply θ9
  intro j
  by_cases hj:j=q
  ·subst hj;rw [γ7 (α0.1 hq).1,hq]
  ·rw [γ0 (ε9 hj)]
 rw [hs]
 exact A.say t _ ht U
end Mc
end Go.Proofs.YtbbdanhpphlbpaaGreatDoor
