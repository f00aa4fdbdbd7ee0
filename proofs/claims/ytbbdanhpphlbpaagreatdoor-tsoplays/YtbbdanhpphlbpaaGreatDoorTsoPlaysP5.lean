/- TsoPlays, part 5: the engine, contracts, theory. -/
import Derived.Test.YtbbdanhpphlbpaaGreatDoorTsoPlaysP4
import Derived.Shelf.Spec.SlicesGrow
import Derived.LoopN
import Derived.WalkSmall
import Derived.ProofKit
import Derived.OpenShut
import Derived.ChangeOld
import Derived.Deep.Slices
import Derived.Lib.LaidTab
import Derived.Maps.AppendAt
import Derived.Deep.AppendSrc
set_option linter.unusedVariables false
set_option linter.unusedSimpArgs false
set_option linter.unusedSectionVars false
set_option maxRecDepth 100000
set_option maxHeartbeats 2000000
namespace Go.Proofs.YtbbdanhpphlbpaaGreatDoor
section
open Go.RowKit
theorem Vt {H:Hp}{G:Gr}{w:World}(hl:H.length=G.length)(h:∀(i:Nat) (e:BZ),H[i]?=some (some e)→e.mut=false∧Ag G w ((G[i]?).getD none) e):Mem H G w:=
 ⟨hl,fun i e he=>(h i e he).2,fun i j e f L M _ he _ hm=>by rw [(h i e he).1]at hm;cases hm⟩
theorem QP {α:Type} {enc:α→List Value} {f:Nat→List SV} {s B n cap:Nat} {w:World} {l:List α} {bo:Option (Nat×Nat)} (h:Sl enc s B w (.slice (bo.map fun x=>⟨x.1,x.2,none⟩) n cap) l) (hB:B≤w.heap.size)
  (hf:∀k x,l[k]?=some x→AO [] (f k)=some (enc x)) (Be:∀k,∃vs,AO [] (f k)=some vs):
  n=l.length∧∀(G F:Gr),den (G++(bo.map fun x=>(⟨x.1,List.replicate x.2 undef,[],0⟩:Loc))::F) (.sl G.length l.length cap)=some (.slice (bo.map fun x=>⟨x.1,x.2,none⟩) n cap)∧Ag (G++(bo.map fun x=>(⟨x.1,List.replicate x.2 undef,[],0⟩:Loc))::F) w (bo.map fun x=>(⟨x.1,List.replicate x.2 undef,[],0⟩:Loc)) (.lst s l.length f):=by
 obtain⟨ao,cap',hv,Pa,he⟩:=h
 simp only [θ8]at hv
 obtain⟨rfl,rfl,rfl⟩:=hv
 refine⟨rfl,fun G F=>⟨?_,Be,?_⟩⟩
 ·unfold den
  rw [α1 (β8 _)]
  cases bo<;>simp [rm]
 ·cases bo with
  |none=>
   left
   cases l with
   |nil=>rfl
   |cons x l=>obtain⟨b,o,h1,_⟩:=he 0 x U;cases h1
  | some x=>
   obtain⟨b,o⟩:=x
   cases hl:l with
   |nil=>left;rfl
   | cons y l'=>
    right
    have hb:b<B:=by
     obtain⟨b',o',h1,h2,_⟩:=he 0 y (by rw [hl];rfl)
     cases h1;exact h2
    refine⟨_,rfl,(by show b<_;omega),fun k hk=>?_⟩
    have Dz:k<l.length:=by rw [hl];exact hk
    obtain⟨b',o',h1,h2,h3⟩:=he k l[k] (by simp [Dz])
    cases h1
    exact⟨_,hf k l[k] (by simp [Dz]),by simpa using h3⟩
theorem YW {x:SV}{H H2:Hp}{G:Gr}{w w':World}{e:Ending}(h:NO (Rt x H2) H G w e w')(SQ:∀(i:Nat) (e:BZ),H[i]?=some (some e)→e.mut=false):∃v F,den (G++F) x=some v∧e=.returned v∧Mem H2 (G++F) w'∧By w w':=by
 obtain⟨y,H',F,v,⟨rfl,rfl⟩,h1,h2,h3,DE,_⟩:=h
 have hk:∀k,(keys H G).contains k=false:=fun k=>by
  cases hc:(keys H G).contains k with
  |false=>rfl
  |true=>
   obtain⟨i,e',L,q1,q2,_⟩:=mem_keys.1 hc
   rw [SQ i e' q1]at q2;cases q2
 exact⟨v,F,h1,h2,h3,⟨DE.os,DE.tape,DE.output,DE.size,fun k Dz=>DE.block k Dz (hk k)⟩⟩
abbrev Vu (ls:List (List UInt8)):BZ:=.lst 1 ls.length fun k=>[.str (ls.getD k [])]
theorem mU (ls:List (List UInt8))(q:ag)(h0:ls≠[])(hn:ls.length≤1000)(hl:(Lib.join ls q).length≤1000000):Fn Tryz.prog 192 [.sl 0 ls.length ls.length,.str q] [some (Vu ls)] (Rt (.str (Lib.join ls q)) [some (Vu ls)]):=by
 refine⟨by kernel_rfl,fun G w vs hM hv=>?_⟩
 obtain⟨p,rfl⟩:∃p,G=[p]:=List.length_eq_one_iff.1 hM.len.symm
 have he:=hM.ent 0 _ U
 obtain⟨hd,h|⟨L,hp,hb,hr⟩⟩:=he
 ·exact absurd (γ9 h) h0
 have hp':p=some L:=hp
 subst hp'
 have Qp:some [Value.slice (some ⟨L.b,L.pre.length,none⟩) ls.length (ls.length+rm (some L)),.string (S q)]=some vs:=hv
 cases Qp
 have hS:Sl mT 1 w.heap.size w (.slice (some ⟨L.b,L.pre.length,none⟩) ls.length (ls.length+rm (some L))) ls:=⟨_,_,rfl,ν8 _ _,fun j x hx=>by
  obtain⟨hj,rfl⟩:=α0.1 hx
  obtain⟨us,q1,q2⟩:=hr j hj
  have e:ls.getD j []=ls[j]:=by simp [List.getD,hj]
  have q3:some [Value.string (S (ls.getD j []))]=some us:=q1
  cases q3
  rw [e]at q2
  exact⟨_,_,rfl,hb,q2⟩⟩
 refine(Vr _ ls q w hS h0 hn hl).mono ?_
 rintro e w' ⟨rfl,hg⟩
 have hk:∀k,(keys [some (Vu ls)] [some L]).contains k=false:=fun k=>by
  cases hc:(keys [some (Vu ls)] [some L]).contains k with
  |false=>rfl
  |true=>
   obtain⟨i,e',M,q1,q2,_⟩:=mem_keys.1 hc
   cases i with
   |zero=>cases q1;cases q2
   |succ i=>cases q1
 refine⟨.str (Lib.join ls q),[some (Vu ls)],[],_,⟨rfl,rfl⟩,rfl,rfl,?_,(CQ.refl _ w).grow hg,β8 _,fun i e he _=>he,fun i e he hm=>?_⟩
 ·refine Vt U fun i e he=>?_
  cases i with
  | zero=>
   cases he
   refine⟨rfl,hd,.inr ⟨L,rfl,ζ7 hb hg.size,fun k hk=>?_⟩⟩
   obtain⟨us,q1,q2⟩:=hr k hk
   exact⟨us,q1,fun j x hx=>by
    have:=q2 j x hx
    unfold World.cell? at this⊢
    rw [hg.block _ hb];exact this⟩
  |succ i=>cases he
 ·cases i with
  |zero=>cases he;cases hm
  |succ i=>cases he
end
section
open Go.RowKit
set_option simprocs false
theorem Mt:∀(f:Nat) (l:ag) (a:Nat) (ws:List Tk),l.length<f+a→a≤l.length→(∃vs,Ei f l a ws=(vs,0,0))∨∃e k,e≠0∧Ei f l a ws=([],e,k)
 |0,l,a,ws,h,h2=>by omega
 | f +1,l,a,ws,h,h2=>by
  cases hs:(Az (l.drop a)).2 with
  |true=>exact .inr ⟨24,_,by decide,Vg hs⟩
  | false=>
   by_cases h1:a+(Az (l.drop a)).1=l.length
   ·exact .inl ⟨ws,Vh hs h1⟩
   ·by_cases h3:(Ap (l.drop (a+(Az (l.drop a)).1))).2=0
    ·rw [Z3 hs h1 h3]
     have hk:=R6 (l.drop a);rw [γ3]at hk
     have hn:=Mq h3
     rw [γ3]at hn
     exact Mt f l _ _ (by omega) (by omega)
    ·exact .inr ⟨_,_,h3,Vi hs h1 h3⟩
theorem mV {l:ag}{R:Prop}(h1:∀ws,Bt l=(ws,0,0)→R)(h2:∀e k,e≠0→Bt l=([],e,k)→R):R:=by
 by_cases h:l.length>8192
 ·exact h2 2 0 (by decide) (J1 h)
 ·rcases Mt (l.length+1) l 0 [] (by omega) (by omega)with⟨vs,h3⟩|⟨e,k,h3,h4⟩
  ·exact h1 vs (by rw [GB (by omega),h3])
  ·exact h2 e k h3 (by rw [GB (by omega),h4])
theorem eX (ws:List Tk)(l:ag):(((((ws.length:Nat):Int)==1)&&((ws.getD (0:Int).toNat CR).kind==1))&&((ws.getD (0:Int).toNat CR).text==l))=(((0:Int)==0)&&(ws.length==1&&((ws.getD 0 CR).kind==1&&(ws.getD 0 CR).text==l))):=by
 have h:(((ws.length:Nat):Int)==1)=(ws.length==1):=by rw [ν1,ε5,ε5];omega
 rw [h,Bool.and_assoc];rfl
def Dn (l:ag):Bool:=(Bt l).2.1==0&&((Bt l).1.length==1&&(((Bt l).1.getD 0 CR).kind==1&&((Bt l).1.getD 0 CR).text==l))
theorem Kd (l:ag)(os:List (Nat×Obj))(hM:Ln os)(hE:Mn os):BQ (Gl os) Tryz.prog 47 [.str l] [] (Rt (.bool (Dn l)) []):=
 Aa (n:=34) (by kernel_rfl) Tryz.func47 U U U fun G w a h0 hI A=>N9 8 A U U fun A=>mV (l:=l)
  (fun ws ht=>I9 [] Gl.ok hI (TF l ws os hM hE ht) A U fun A=>N9 13 A U U fun A=>have A:=AG A 13 (.tt) U (fun _=>congrArg (fun b=>some (Value.bool b)) (show(0==0)=true by decide));N9 24 A U (Bz<|JP (fun hg=>(by have h:=hg;simp at h;omega))<|Bz<|JP (fun hg=>(by have h:=hg;simp at h;omega))<|Bz<|JP (fun hg=>(by have h:=hg;simp at h;omega))<|Bz<|Bz<|Bz<|JP (fun hg=>(by have h:=hg;simp at h;omega))<|Bz<|JP (fun hg=>(by have h:=hg;simp at h;omega))<|Bz<|JP (fun hg=>(by have h:=hg;simp at h;omega))<|Bz<|Bz<|Bz<|AB) fun A=>R9 A U h0 U (by unfold Dn;rw [ht];exact congrArg SV.bool (eX ws l)) U)
  (fun e k he ht=>I9 [] Gl.ok hI (TG l e k os hM hE ht he) A U fun A=>N9 13 A U U fun A=>have A:=AG A 13 (.ff) U (fun _=>congrArg (fun b=>some (Value.bool b)) (show(e==0)=false by simpa using he));N9 24 A U U fun A=>R9 A U h0 U (by unfold Dn;rw [ht];simp [he,Am,nb]) U)
abbrev ER (i:In):Bool:=(Fy i.op i.dst i.ra i.rb i.imm i.loc i.off i.ix i.sz i.fn i.acq i.weak i.rel i.pred i.succ i.to_ i.zero 0 0)==34
def MF (g:Lg)(r:Rw)(i:In)(lb:ag)(k j:Nat):List UInt8:=if j<k∧j<r.ps.length then Jf g r (r.ps.getD j 0) i lb else []
def Jh (g:Lg)(r:Rw)(i:In)(lb:ag):List (List UInt8):=r.ps.map fun p=>Jf g r p i lb
def DW (g:Lg)(L:List Rw)(i:In)(lb:ag):List UInt8×Int:=
 if ER i=true then([],34)else
 if Fi L i=false then([],36)else
 if i.op=9∧Dn lb=false then([],37)else
 if(Au L i).ps.length=0 then(GN g (Au L i).nm i.sz,0)else
 ((GN g (Au L i).nm i.sz++[32])++Lib.join (Jh g (Au L i) i lb) [44],0)
structure MG (g:Lg)(L:List Rw)(i:In)(lb:ag):Prop where
 lg:YV g
 lt:∀k,([g.l0,g.l1,g.l2,g.l3].getD k []).length≤1000
 ps:∀k,(L.getD k Rw.z).ps.length≤1000
 n:L.length≤1000000
 im: -9223372036854775808≤i.imm∧i.imm≤9223372036854775807
 nm:(Au L i).nm.length≤1000∧Lib.countB (S (Au L i).nm) (S [42])≤1000
 p:ER i=false→Fi L i=true→∀k,k<(Au L i).ps.length→((Au L i).ps.getD k 0=6→eQ i)∧((Au L i).ps.getD k 0=8→1≤i.pred∧i.pred≤3)∧((Au L i).ps.getD k 0=9→1≤i.succ∧i.succ≤3)
 nl:(GN g (Au L i).nm i.sz).length≤1000000
 jl:(Lib.join (Jh g (Au L i) i lb) [44]).length≤1000000
theorem Ke {L:List Rw}{i:In}(h:Fi L i=true):Au L i∈L:=by
 unfold Fi at h;unfold Au
 cases hf:L.find? (Fh i)with
 |none=>rw [hf]at h;cases h
 |some r=>exact List.mem_of_find?_eq_some hf
theorem MG.len {g:Lg}{L:List Rw}{i:In}{lb:ag}(h:MG g L i lb)(hq:Fi L i=true):(Au L i).ps.length≤1000:=by
 obtain⟨k,hk,e⟩:=ρ7 (Ke hq)
 have:=h.ps k
 rw [α8,β4 hk]at this
 rw [←e];exact this
def I8 (os:List (Nat×Obj))(L:List Rw):Dl:=fun w ks=>Z4 L w ks∧Gl os w ks
theorem I8.ok {os:List (Nat×Obj)}{L:List Rw}:Dl.OK (I8 os L):=fun w ks w' ks' h m hk=>⟨Z4.ok _ _ _ _ h.1 m hk,Gl.ok _ _ _ _ h.2 m hk⟩
theorem Vv (ls:List (List UInt8))(n:Nat)(f:Nat→List SV)(hn':n=ls.length)(hf:∀j,f j=[.str (ls.getD j [])])(q:ag)(h0:n≠0)(hn:n≤1000)(hl:(Lib.join ls q).length≤1000000):Fn Tryz.prog 192 [.sl 0 n n,.str q] [some (.lst 1 n f)] (Rt (.str (Lib.join ls q)) [some (.lst 1 n f)]):=by
 have:f=fun j=>[.str (ls.getD j [])]:=funext hf
 subst this;subst hn'
 exact mU ls q (fun e=>h0 (by rw [e];rfl)) hn hl
theorem SB (g:Lg)(r:Rw)(i:In)(lb:ag)(k j:Nat)(h:r.ps.length≤k):MF g r i lb k j=(Jh g r i lb).getD j []:=by
 unfold MF Jh
 by_cases hj:j<r.ps.length
 ·rw [if_pos ⟨by omega,hj⟩];simp [List.getD,hj]
 ·rw [if_neg (by omega)];simp [List.getD,τ3 hj]
theorem SC:∃ti,Tryz.prog.info? 9=some ti∧ti.zero=some (.string (S []))∧ti.size=1∧ti.bytes≤1000:=by
 have h:(Tryz.prog.info? 9).map (fun ti=>(ti.zero,ti.size,ti.bytes))=some (some (.string (S [])),1,16):=by kernel_rfl
 cases e:Tryz.prog.info? 9 with
 |none=>rw [e]at h;cases h
 |some ti=>
  rw [e]at h
  simp only [δ0,β1,κ8]at h
  exact⟨ti,rfl,h.1,h.2.1,by omega⟩
theorem EE {b:Bool}(h:(!b)=false):b=true:=by cases b<;>first|rfl|cases h
theorem mW {b:Bool}(h:(!b)=true):b=false:=by cases b<;>first|rfl|cases h
theorem Vw {g:Lg}{r:Rw}{i:In}{lb:ag}{k j:Nat}(h:j≠k):MF g r i lb (k+1) j=MF g r i lb k j:=by
 unfold MF
 by_cases hj:j<k∧j<r.ps.length
 ·rw [if_pos hj,if_pos ⟨by omega,hj.2⟩]
 ·rw [if_neg hj,if_neg (by omega)]
theorem Vx {g:Lg}{r:Rw}{i:In}{lb:ag}{k:Nat}(h:k<r.ps.length):MF g r i lb (k+1) k=Jf g r (r.ps.getD k 0) i lb:=by
 unfold MF;rw [if_pos ⟨by omega,h⟩]
theorem Nv (g:Lg) (L:List Rw) (c:Nat) (i:In) (lb:ag) (os:List (Nat×Obj)) (hM:Ln os) (hT:PZ os) (hE:Mn os) (h:MG g L i lb):BQ (I8 os L) Tryz.prog 143 [.agg [.str g.r0,.str g.r1,.str g.r2,.str g.r3,.str g.r4,.str g.r5,.str g.r6,.str g.r7,.str g.l0,.str g.l1,.str g.l2,.str g.l3,.str g.im,.str g.f0,.str g.f1,.str g.f2,.sl 0 L.length c],.agg (AZ i),.str lb] [au L] (Rt (.tup [.str ((DW g L i lb).1),.n9 ((DW g L i lb).2)]) [au L]):=
 Aa (n:=69) (by kernel_rfl) Tryz.func143 U U U fun G w a h0 hI A=>N9 12 A U U fun A=>C9 [] (Um i.op i.dst i.ra i.rb i.imm i.loc i.off i.ix i.sz i.fn i.acq i.weak i.rel i.pred i.succ i.to_ i.zero) A U fun A=>N9 2 A U U fun A=>fork 15 A U
  (fun h1 A=>N9 8 A U U fun A=>R9 A U h0 U (by unfold DW;rw [if_pos h1];rfl) U)
  (fun h1 A=>N9 7 A U U fun A=>I9 [0] Z4.ok hI.1 (eM g L c i (fun k=>β3 (h.ps k) (by decide)) h.n) A U fun A=>N9 15 A U U fun A=>fork 23 A U
   (fun h2 A=>N9 8 A U U fun A=>R9 A U h0 U (by unfold DW;rw [if_neg (show¬ER i=true from fun z=>Bool.noConfusion (h1.symm.trans z)),if_pos (mW h2)];rfl) U)
   (fun h2 A=>N9 10 A U U fun A=>AV 27 A U
    (fun h3 A=>N9 1 A U U fun A=>I9 [] Gl.ok hI.2 (Kd lb os hM hE) A U fun A=>N9 4 A U U fun A=>fork 31 A U
     (fun h4 A=>N9 8 A U U fun A=>R9 A U h0 U (by unfold DW;rw [if_neg (show¬ER i=true from fun z=>Bool.noConfusion (h1.symm.trans z)),if_neg (show¬Fi L i=false by rw [EE h2];decide),if_pos ⟨h3,mW h4⟩];rfl) U)
     (fun h4 A=>N9 9 A U U fun A=>I9 [0] Gl.ok hI.2 (R8 g L c (Au L i) i.sz os hM hT h.nm h.lt) A U fun A=>N9 12 A U U fun A=>AV 40 A U
      (fun h5 A=>N9 9 A U U fun A=>R9 A U h0 U (by unfold DW;rw [if_neg (show¬ER i=true from fun z=>Bool.noConfusion (h1.symm.trans z)),if_neg (show¬Fi L i=false by rw [EE h2];decide),if_neg (show¬(i.op=9∧Dn lb=false)from fun z=>by rw [EE h4]at z;cases z.2),if_pos (show(Au L i).ps.length=0 by omega)];rfl) U)
      (fun h5 A=>N9 8 A U U fun A=>Af A U (kW (m:=(Au L i).ps.length) (fun j=>[.str (MF g (Au L i) i lb 0 j)]) (fun j=>by show [SV.str (MF g (Au L i) i lb 0 j)]=_;unfold MF;rw [if_neg (by omega)]) U U U U (by kernel_rfl) SC (by have:=h.len (EE h2);omega) U) fun A=>N9 8 A U U fun A=>Ze (y:=.sl 5 ((Au L i).ps.length) ((Au L i).cp)) (H':=[au L,O [.str g.r0,.str g.r1,.str g.r2,.str g.r3,.str g.r4,.str g.r5,.str g.r6,.str g.r7,.str g.l0,.str g.l1,.str g.l2,.str g.l3,.str g.im,.str g.f0,.str g.f1,.str g.f2,.sl 0 L.length c],O (AZ i),O (Iu (Au L i)),some (.row 9 1 ((Au L i).ps.length) ((Au L i).ps.length) (fun j=>[.str (MF g (Au L i) i lb 0 j)])),some (.lst 1 (((Au L i).ps).length) (fun j=>[.n9 (((Au L i).ps).getD j 0)]))]) 47 (hI.1 _ (Ke (EE h2))) A U U U U fun A=>N9 5 A U U fun A=>Bq (fun(k:Nat)=>[(2,.str lb),(3,.ptr 1 0),(4,.ptr 2 0),(6,.str []),(7,.n9 0),(8,.ptr 3 0),(10,.str (GN g (Au L i).nm i.sz)),(11,.sl 4 ((Au L i).ps.length) ((Au L i).ps.length)),(47,.sl 5 ((Au L i).ps.length) ((Au L i).cp)),(48,.n9 (((Au L i).ps.length:Nat):Int)),(49,.n9 (k:Int))]) (fun(k:Nat)=>[au L,O [.str g.r0,.str g.r1,.str g.r2,.str g.r3,.str g.r4,.str g.r5,.str g.r6,.str g.r7,.str g.l0,.str g.l1,.str g.l2,.str g.l3,.str g.im,.str g.f0,.str g.f1,.str g.f2,.sl 0 L.length c],O (AZ i),O (Iu (Au L i)),some (.row 9 1 ((Au L i).ps.length) ((Au L i).ps.length) (fun j=>[.str (MF g (Au L i) i lb k j)])),some (.lst 1 (((Au L i).ps).length) (fun j=>[.n9 (((Au L i).ps).getD j 0)]))]) (fun(k:Nat)=>k≤(Au L i).ps.length) (fun(k:Nat)=>(Au L i).ps.length - k) 0 (β7 _) ((A.cut [2,3,4,6,7,8,10,11,47,48,49] U).trunc 6 U U U (CL h0 U)) fun k Bu {G a w} A=>N9 6 A U U fun A=>AU 50 A U
        (fun h6 A=>N9 14 A U (AE (by have q1:=h.len (EE h2);omega)<|AE (by have q1:=h.len (EE h2);omega)<|AB) fun A=>N9 8 A U U fun A=>I9 [0] Gl.ok hI.2 (mP g L c (Au L i) (((Au L i).ps).getD (((k:Int)).toNat) 0) i lb os hM hT h.lg h.im (h.p h1 (EE h2) ((k:Int)).toNat (by have:=h6;omega)).1 (h.p h1 (EE h2) ((k:Int)).toNat (by have:=h6;omega)).2.1 (h.p h1 (EE h2) ((k:Int)).toNat (by have:=h6;omega)).2.2) A U fun A=>N9 1 A U (AE (by have q1:=h.len (EE h2);omega)<|AB) fun A=>xS (i:=4) (e:=9) (s:=1) (m:=(Au L i).ps.length) (c:=(Au L i).ps.length) hX k (fun j=>[.str (MF g (Au L i) i lb (k+1) j)]) A U U (α6 k) (by omega) (fun z hz=>by show [SV.str _]=[SV.str _];rw [Vw hz]) (by show _=some [SV.str _];rw [Vx (by omega)];rfl) fun A=>N9 7 A U (AE (by have q1:=h.len (EE h2);omega)<|AB) fun A=>⟨k+1,_,(by omega),(by show k+1≤_;omega),((A.cut [2,3,4,6,7,8,10,11,47,48,49] U).trunc 6 U U U (CL h0 U))⟩)
        (fun h6 A=>N9 8 A U (AE (by have q1:=h.nl;have q2:=h.jl;(try simp only [α4,β0,β2]);omega)<|AB) fun A=>have A:=A.freeze 4 U;C9 [4] (Vv (Jh g (Au L i) i lb) ((Au L i).ps.length) (fun j=>[.str (MF g (Au L i) i lb k j)]) (by unfold Jh;rw [ε7]) (fun j=>by show [SV.str _]=[SV.str _];rw [SB _ _ _ _ _ _ (by have:=Bu;omega)]) [44] (by omega) (h.len (EE h2)) h.jl) A U fun A=>N9 6 A U (AE (by have q1:=h.nl;have q2:=h.jl;(try simp only [α4,β0,β2]);omega)<|AB) fun A=>R9 A U h0 U (by unfold DW;rw [if_neg (show¬ER i=true from fun z=>Bool.noConfusion (h1.symm.trans z)),if_neg (show¬Fi L i=false by rw [EE h2];decide),if_neg (show¬(i.op=9∧Dn lb=false)from fun z=>by rw [EE h4]at z;cases z.2),if_neg (show¬(Au L i).ps.length=0 by omega)];rfl) U))))
    (fun h3 A=>N9 15 A U U fun A=>I9 [0] Gl.ok hI.2 (R8 g L c (Au L i) i.sz os hM hT h.nm h.lt) A U fun A=>N9 12 A U U fun A=>AV 40 A U
     (fun h7 A=>N9 9 A U U fun A=>R9 A U h0 U (by unfold DW;rw [if_neg (show¬ER i=true from fun z=>Bool.noConfusion (h1.symm.trans z)),if_neg (show¬Fi L i=false by rw [EE h2];decide),if_neg (show¬(i.op=9∧Dn lb=false)from fun z=>h3 z.1),if_pos (show(Au L i).ps.length=0 by omega)];rfl) U)
     (fun h7 A=>N9 8 A U U fun A=>Af A U (kW (m:=(Au L i).ps.length) (fun j=>[.str (MF g (Au L i) i lb 0 j)]) (fun j=>by show [SV.str (MF g (Au L i) i lb 0 j)]=_;unfold MF;rw [if_neg (by omega)]) U U U U (by kernel_rfl) SC (by have:=h.len (EE h2);omega) U) fun A=>N9 8 A U U fun A=>Ze (y:=.sl 5 ((Au L i).ps.length) ((Au L i).cp)) (H':=[au L,O [.str g.r0,.str g.r1,.str g.r2,.str g.r3,.str g.r4,.str g.r5,.str g.r6,.str g.r7,.str g.l0,.str g.l1,.str g.l2,.str g.l3,.str g.im,.str g.f0,.str g.f1,.str g.f2,.sl 0 L.length c],O (AZ i),O (Iu (Au L i)),some (.row 9 1 ((Au L i).ps.length) ((Au L i).ps.length) (fun j=>[.str (MF g (Au L i) i lb 0 j)])),some (.lst 1 (((Au L i).ps).length) (fun j=>[.n9 (((Au L i).ps).getD j 0)]))]) 47 (hI.1 _ (Ke (EE h2))) A U U U U fun A=>N9 5 A U U fun A=>Bq (fun(k:Nat)=>[(2,.str lb),(3,.ptr 1 0),(4,.ptr 2 0),(6,.str []),(7,.n9 0),(8,.ptr 3 0),(10,.str (GN g (Au L i).nm i.sz)),(11,.sl 4 ((Au L i).ps.length) ((Au L i).ps.length)),(47,.sl 5 ((Au L i).ps.length) ((Au L i).cp)),(48,.n9 (((Au L i).ps.length:Nat):Int)),(49,.n9 (k:Int))]) (fun(k:Nat)=>[au L,O [.str g.r0,.str g.r1,.str g.r2,.str g.r3,.str g.r4,.str g.r5,.str g.r6,.str g.r7,.str g.l0,.str g.l1,.str g.l2,.str g.l3,.str g.im,.str g.f0,.str g.f1,.str g.f2,.sl 0 L.length c],O (AZ i),O (Iu (Au L i)),some (.row 9 1 ((Au L i).ps.length) ((Au L i).ps.length) (fun j=>[.str (MF g (Au L i) i lb k j)])),some (.lst 1 (((Au L i).ps).length) (fun j=>[.n9 (((Au L i).ps).getD j 0)]))]) (fun(k:Nat)=>k≤(Au L i).ps.length) (fun(k:Nat)=>(Au L i).ps.length - k) 0 (β7 _) ((A.cut [2,3,4,6,7,8,10,11,47,48,49] U).trunc 6 U U U (CL h0 U)) fun k Bu {G a w} A=>N9 6 A U U fun A=>AU 50 A U
       (fun h8 A=>N9 14 A U (AE (by have q1:=h.len (EE h2);omega)<|AE (by have q1:=h.len (EE h2);omega)<|AB) fun A=>N9 8 A U U fun A=>I9 [0] Gl.ok hI.2 (mP g L c (Au L i) (((Au L i).ps).getD (((k:Int)).toNat) 0) i lb os hM hT h.lg h.im (h.p h1 (EE h2) ((k:Int)).toNat (by have:=h8;omega)).1 (h.p h1 (EE h2) ((k:Int)).toNat (by have:=h8;omega)).2.1 (h.p h1 (EE h2) ((k:Int)).toNat (by have:=h8;omega)).2.2) A U fun A=>N9 1 A U (AE (by have q1:=h.len (EE h2);omega)<|AB) fun A=>xS (i:=4) (e:=9) (s:=1) (m:=(Au L i).ps.length) (c:=(Au L i).ps.length) hX k (fun j=>[.str (MF g (Au L i) i lb (k+1) j)]) A U U (α6 k) (by omega) (fun z hz=>by show [SV.str _]=[SV.str _];rw [Vw hz]) (by show _=some [SV.str _];rw [Vx (by omega)];rfl) fun A=>N9 7 A U (AE (by have q1:=h.len (EE h2);omega)<|AB) fun A=>⟨k+1,_,(by omega),(by show k+1≤_;omega),((A.cut [2,3,4,6,7,8,10,11,47,48,49] U).trunc 6 U U U (CL h0 U))⟩)
       (fun h8 A=>N9 8 A U (AE (by have q1:=h.nl;have q2:=h.jl;(try simp only [α4,β0,β2]);omega)<|AB) fun A=>have A:=A.freeze 4 U;C9 [4] (Vv (Jh g (Au L i) i lb) ((Au L i).ps.length) (fun j=>[.str (MF g (Au L i) i lb k j)]) (by unfold Jh;rw [ε7]) (fun j=>by show [SV.str _]=[SV.str _];rw [SB _ _ _ _ _ _ (by have:=Bu;omega)]) [44] (by omega) (h.len (EE h2)) h.jl) A U fun A=>N9 6 A U (AE (by have q1:=h.nl;have q2:=h.jl;(try simp only [α4,β0,β2]);omega)<|AB) fun A=>R9 A U h0 U (by unfold DW;rw [if_neg (show¬ER i=true from fun z=>Bool.noConfusion (h1.symm.trans z)),if_neg (show¬Fi L i=false by rw [EE h2];decide),if_neg (show¬(i.op=9∧Dn lb=false)from fun z=>h3 z.1),if_neg (show¬(Au L i).ps.length=0 by omega)];rfl) U)))))
def n1 (ws:List Tk)(k:Nat)(z:Ps):Ps:=if(k:Int)>0 then z.wa (mL ws z.as [44])else z
def tN (g:Lg)(ws:List Tk)(k:Nat)(R:List Rw)(z:Ps):List Rw:=x4 g k (ws.getD (n1 ws k z).p CR) R
def z6 (g:Lg)(ws:List Tk)(k:Nat)(R:List Rw)(z:Ps):Ps:=if(((tN g ws k R z).length:Nat):Int)>0 then zX g ws (((tN g ws k R z).getD (0:Int).toNat Rw.z).ps.getD k 0) (x6 g ws k R (n1 ws k z))else x6 g ws k R (n1 ws k z)
def qY (R:List Rw)(k:Nat):Bool:=(decide (((R.length:Nat):Int)>0))&&(decide ((k:Int)<(((R.getD (0:Int).toNat Rw.z).ps.length:Nat):Int)))
def inst (g:Lg)(ws:List Tk):Nat→Nat→List Rw→Ps→Ps×List Rw
 |0,k,R,z=>(z,R)
 |f+1,k,R,z=>if qY R k=true then inst g ws f (k+1) (tN g ws k R z) (z6 g ws k R z)else(z,R)
structure x7 (g:Lg)(ws:List Tk)(L:List Rw)(N0:Nat)(res:Ps×List Rw)(k:Nat)(z:Ps)(R:List Rw):Prop where
 le:z.p≤ws.length
 sub:∀r∈R,r∈L
 n:∀r∈R,r.ps.length=N0
 ln:R.length≤100000
 rn:∃f,inst g ws f k R z=res∧N0<f+k
section
variable {g:Lg}{ws:List Tk}{L R:List Rw}{N0 k:Nat}{res:Ps×List Rw}{z:Ps}{w:World}{ks:ae}
theorem YX (h:qY R k=true):0<R.length∧k<(R.getD 0 Rw.z).ps.length:=by
 unfold qY at h;rw [α3,δ4,δ4]at h
 have e:(0:Int).toNat=0:=rfl
 rw [e]at h;omega
theorem eY (h:0<R.length):R.getD 0 Rw.z∈R:=by rw [α8,β4 h];exact ι3 h
theorem x7.lt (hN:x7 g ws L N0 res k z R)(h:qY R k=true):k<N0:=by
 have h2:=YX h
 rw [hN.n _ (eY h2.1)]at h2;exact h2.2
end
abbrev Da (b1 b2 b3 b4 b5 b6 b7 b8 b9 b10:Nat):List (Nat×List SV):=[(b10,[.str [77,79,86],.str [],.int .i64 1,.z9,.z9,.z9,.z9,.z9,.z9,.z9,.z9,.z9,.ff,.ff,.ff,.z9,.z9,.z9,.ff,.sla (some ⟨b1,0,none⟩) 2 2,.str [77,79,86],.str [],.int .i64 2,.z9,.z9,.z9,.z9,.z9,.z9,.z9,.z9,.z9,.ff,.ff,.ff,.z9,.z9,.z9,.ff,.sla (some ⟨b2,0,none⟩) 2 2,.str [77,79,86,42],.str [],.int .i64 4,.z9,.z9,.z9,.z9,.z9,.z9,.z9,.z9,.z9,.ff,.ff,.ff,.z9,.z9,.z9,.ff,.sla (some ⟨b3,0,none⟩) 2 2,.str [77,79,86,42],.str [],.int .i64 5,.z9,.z9,.z9,.z9,.z9,.z9,.z9,.z9,.z9,.ff,.ff,.ff,.z9,.z9,.z9,.ff,.sla (some ⟨b4,0,none⟩) 2 2,.str [77,79,86,42],.str [],.int .i64 5,.z9,.z9,.z9,.z9,.z9,.z9,.z9,.z9,.z9,.ff,.ff,.ff,.z9,.z9,.z9,.ff,.sla (some ⟨b5,0,none⟩) 2 2,.str [88,67,72,71,42],.str [],.int .i64 6,.z9,.z9,.z9,.z9,.z9,.z9,.z9,.z9,.int .i64 6,.tt,.ff,.tt,.z9,.z9,.z9,.ff,.sla (some ⟨b6,0,none⟩) 2 2,.str [88,65,68,68,42],.str [],.int .i64 6,.z9,.z9,.z9,.z9,.z9,.z9,.z9,.z9,.int .i64 1,.tt,.ff,.tt,.z9,.z9,.z9,.ff,.sla (some ⟨b7,0,none⟩) 2 2,.str [77,70,69,78,67,69],.str [],.int .i64 7,.z9,.z9,.z9,.z9,.z9,.z9,.z9,.z9,.z9,.ff,.ff,.ff,.int .i64 3,.int .i64 3,.z9,.ff,.sla none 0 0,.str [74,90],.str [],.int .i64 9,.z9,.z9,.z9,.z9,.z9,.z9,.z9,.z9,.z9,.ff,.ff,.ff,.z9,.z9,.z9,.tt,.sla (some ⟨b8,0,none⟩) 2 2,.str [74,78,90],.str [],.int .i64 9,.z9,.z9,.z9,.z9,.z9,.z9,.z9,.z9,.z9,.ff,.ff,.ff,.z9,.z9,.z9,.ff,.sla (some ⟨b9,0,none⟩) 2 2]),(b9,[.int .i64 2,.int .i64 7]),(b8,[.int .i64 2,.int .i64 7]),(b7,[.int .i64 6,.int .i64 4]),(b6,[.int .i64 4,.int .i64 6]),(b5,[.int .i64 6,.int .i64 5]),(b4,[.int .i64 6,.int .i64 2]),(b3,[.int .i64 1,.int .i64 6]),(b2,[.int .i64 1,.int .i64 2]),(b1,[.int .i64 1,.int .i64 5])]
theorem mX:Ly Tryz.prog 182 [] [] (fun x w w'=>∃b1 b2 b3 b4 b5 b6 b7 b8 b9 b10:Nat,x=.sla (some ⟨b10,0,none⟩) 10 10∧Acc w.heap.size (Da b1 b2 b3 b4 b5 b6 b7 b8 b9 b10) w' []):=
 EA (n:=37) (by kernel_rfl) Tryz.func182 U U U fun G w a h0 A=>have B:=A;have hA:Acc w.heap.size [] w _:=Acc.nil;N9 29 A U U fun A=>Dm [.n9 1,.n9 5] (X:=⟨_,true⟩) hX B hA A U U U U fun b1 B hA A=>
 N9 2 A U U fun A=>Dm [.n9 1,.n9 2] (X:=⟨_,true⟩) hX B hA A U U U U fun b2 B hA A=>
 N9 2 A U U fun A=>Dm [.n9 1,.n9 6] (X:=⟨_,true⟩) hX B hA A U U U U fun b3 B hA A=>
 N9 2 A U U fun A=>Dm [.n9 6,.n9 2] (X:=⟨_,true⟩) hX B hA A U U U U fun b4 B hA A=>
 N9 2 A U U fun A=>Dm [.n9 6,.n9 5] (X:=⟨_,true⟩) hX B hA A U U U U fun b5 B hA A=>
 N9 2 A U U fun A=>Dm [.n9 4,.n9 6] (X:=⟨_,true⟩) hX B hA A U U U U fun b6 B hA A=>
 N9 2 A U U fun A=>Dm [.n9 6,.n9 4] (X:=⟨_,true⟩) hX B hA A U U U U fun b7 B hA A=>
 N9 4 A U U fun A=>Dm [.n9 2,.n9 7] (X:=⟨_,true⟩) hX B hA A U U U U fun b8 B hA A=>
 N9 2 A U U fun A=>Dm [.n9 2,.n9 7] (X:=⟨_,true⟩) hX B hA A U U U U fun b9 B hA A=>
 N9 1 A U U fun A=>Dm [.str [77,79,86],.str [],.n9 1,.z9,.z9,.z9,.z9,.z9,.z9,.z9,.z9,.z9,.ff,.ff,.ff,.z9,.z9,.z9,.ff,.sla (some ⟨b1,0,none⟩) 2 2,.str [77,79,86],.str [],.n9 2,.z9,.z9,.z9,.z9,.z9,.z9,.z9,.z9,.z9,.ff,.ff,.ff,.z9,.z9,.z9,.ff,.sla (some ⟨b2,0,none⟩) 2 2,.str [77,79,86,42],.str [],.n9 4,.z9,.z9,.z9,.z9,.z9,.z9,.z9,.z9,.z9,.ff,.ff,.ff,.z9,.z9,.z9,.ff,.sla (some ⟨b3,0,none⟩) 2 2,.str [77,79,86,42],.str [],.n9 5,.z9,.z9,.z9,.z9,.z9,.z9,.z9,.z9,.z9,.ff,.ff,.ff,.z9,.z9,.z9,.ff,.sla (some ⟨b4,0,none⟩) 2 2,.str [77,79,86,42],.str [],.n9 5,.z9,.z9,.z9,.z9,.z9,.z9,.z9,.z9,.z9,.ff,.ff,.ff,.z9,.z9,.z9,.ff,.sla (some ⟨b5,0,none⟩) 2 2,.str [88,67,72,71,42],.str [],.n9 6,.z9,.z9,.z9,.z9,.z9,.z9,.z9,.z9,.n9 6,.tt,.ff,.tt,.z9,.z9,.z9,.ff,.sla (some ⟨b6,0,none⟩) 2 2,.str [88,65,68,68,42],.str [],.n9 6,.z9,.z9,.z9,.z9,.z9,.z9,.z9,.z9,.n9 1,.tt,.ff,.tt,.z9,.z9,.z9,.ff,.sla (some ⟨b7,0,none⟩) 2 2,.str [77,70,69,78,67,69],.str [],.n9 7,.z9,.z9,.z9,.z9,.z9,.z9,.z9,.z9,.z9,.ff,.ff,.ff,.n9 3,.n9 3,.z9,.ff,.sla none 0 0,.str [74,90],.str [],.n9 9,.z9,.z9,.z9,.z9,.z9,.z9,.z9,.z9,.z9,.ff,.ff,.ff,.z9,.z9,.z9,.tt,.sla (some ⟨b8,0,none⟩) 2 2,.str [74,78,90],.str [],.n9 9,.z9,.z9,.z9,.z9,.z9,.z9,.z9,.z9,.z9,.ff,.ff,.ff,.z9,.z9,.z9,.ff,.sla (some ⟨b9,0,none⟩) 2 2] (X:=⟨_,true⟩) hX B hA A U U U U fun b10 B hA A=>
 N9 4 A U U fun A=>JS (J:=fun x w w'=>∃b1 b2 b3 b4 b5 b6 b7 b8 b9 b10:Nat,x=.sla (some ⟨b10,0,none⟩) 10 10∧Acc w.heap.size (Da b1 b2 b3 b4 b5 b6 b7 b8 b9 b10) w' []) hX (B.trans A) (fun i e he=>CC he) U U U U ⟨b1,b2,b3,b4,b5,b6,b7,b8,b9,b10,rfl,(hA.now A).bare⟩
abbrev nz:List UInt8×Int:=([],0)
def Ji (x:List UInt8×Int):List SV:=[.str x.1,.int .i64 x.2]
def x5:List (List UInt8×Int):=[([65,68,68],1),([83,85,66],2),([88,79,82],3),([65,78,68],4),([79,82],5)]
theorem QR:(∀x,(Ji x).length=2)∧(∀x,HH 0 (Ji x)=true)∧(∀x,∃vs,AO [] (Ji x)=some vs):=⟨fun _=>rfl,fun _=>rfl,fun _=>⟨_,rfl⟩⟩
theorem IF:(∀x,(A8 x).length=20)∧(∀x,HH 0 (A8 x)=true)∧(∀x,∃vs,AO [] (A8 x)=some vs):=⟨fun _=>rfl,fun _=>rfl,fun _=>⟨_,rfl⟩⟩
def tm (r:Rw):List UInt8×List UInt8×In×List Int:=(r.nm,r.wd,r.ins,r.ps)
def RowsIn (lo:Nat)(L:List Rw):Dl:=fun w ks=>∀r∈L,C6 r.pa r.ps w ks∧∀q,r.pa=some q→lo≤q.block
theorem RowsIn.ok {lo:Nat}{L:List Rw}:Dl.OK (RowsIn lo L):=fun w ks w' ks' h m hk r hr=>⟨(h r hr).1.go m hk,(h r hr).2⟩
def KF (op fn:Int):In:=⟨op,0,0,0,0,0,0,0,0,fn,false,false,false,0,0,0,false⟩
abbrev TM (x:List UInt8×Int)(b1:Nat):Rw:=⟨x.1,[],KF 3 x.2,some ⟨b1,0,none⟩,[4,3],2⟩
abbrev TN (x:List UInt8×Int)(b2:Nat):Rw:=⟨x.1,[],KF 3 x.2,some ⟨b2,0,none⟩,[4,5],2⟩
def Mu:List (List UInt8×List UInt8×In×List Int):=x5.flatMap fun x=>[(x.1,[],KF 3 x.2,[4,3]),(x.1,[],KF 3 x.2,[4,5])]
structure XC (lo:Nat)(z:List Rw×Nat)(w:World)(ks:ae):Prop where
 le:z.2≤5
 tm:z.1.map tm=Mu.take (2*z.2)
 rw:RowsIn lo z.1 w ks
theorem XC.len {lo:Nat}{z:List Rw×Nat}{w:World}{ks:ae}(h:XC lo z w ks):z.1.length=2*z.2:=by
 have h1:=congrArg List.length h.tm
 rw [ε7,δ6]at h1
 have h2:Mu.length=10:=by decide
 have:=h.le
 omega
theorem BD {lo b:Nat}{cs:List SV}{l:List (Nat×List SV)}{w:World}{ks:ae}(ps:List Int)(h:Acc lo l w ks)(hm:(b,ps.map (SV.int .i64 ·))∈l):C6 (some ⟨b,0,none⟩) ps w ks∧∀q,(some (⟨b,0,none⟩:Addr))=some q→lo≤q.block:=by
 obtain⟨h1,vs,h2,h3,h4,h5⟩:=h _ hm
 have:∀ps:List Int,AO [] (ps.map (SV.int .i64 ·))=some (ps.map (Value.int .i64)):=by
  intro ps
  induction ps with
  |nil=>rfl
  |cons p ps ih=>rw [ζ0];unfold AO;rw [ih];rfl
 rw [this]at h2
 cases h2
 exact⟨.inr ⟨b,rfl,h3,h4,h5⟩,fun q hq=>by cases hq;exact h1⟩
theorem XC.nx {lo b1 b2:Nat}{z:List Rw×Nat}{w w1:World}{ks ks1:ae}{l:List (Nat×List SV)}(h:XC lo z w ks)(hk:(z.2:Int)<5)(hr:RowsIn lo z.1 w1 ks1)(hA:Acc lo [(b2,[.n9 4,.n9 5]),(b1,[.n9 4,.n9 3])] w1 ks1):XC lo (z.1++[TM (x5.getD ((z.2:Int)).toNat nz) b1,TN (x5.getD ((z.2:Int)).toNat nz) b2],z.2+1) w1 ks1:=by
 refine⟨by have:=h.le;show z.2+1≤5;omega,?_,fun r OB=>?_⟩
 ·show List.map _ (z.1++_)=_
  rw [ζ5,h.tm,α6]
  have:z.2=0∨z.2=1∨z.2=2∨z.2=3∨z.2=4:=by omega
  rcases this with e|e|e|e|e<;>rw [e]<;>rfl
 ·rcases ζ9.1 OB with h1|h1
  ·exact hr r h1
  ·simp only [η5,ι5,ν5]at h1
   rcases h1 with rfl|rfl
   ·exact BD (cs:=[]) [4,3] hA (κ6 _ (ζ4))
   ·exact BD (cs:=[]) [4,5] hA (ζ4)
theorem eZ:Ly Tryz.prog 181 [] [] (fun x w w'=>∃(L:List Rw) (b cp:Nat),x=.sla (some ⟨b,0,none⟩) 10 cp∧(L.map tm=Mu∧RowsIn w.heap.size L w' [b])∧w.heap.size≤b∧CI 203 20 10 (fun zz=>A8 (L.getD zz Rw.z)) b cp w'):=
 EA (n:=36) (by kernel_rfl) Tryz.func181 U U U fun G w a h0 A=>N9 13 A U U fun A=>have A:=A.asT nz Ji 2 QR.1 QR.2.1 QR.2.2 x5 0 U;N9 17 A U U fun A=>have A:=A.nilRow 2 203 20 (fun zz=>A8 (([]:List Rw).getD zz Rw.z)) U (fun z=>⟨_,rfl,rfl⟩);GK (fun(z:List Rw×Nat)=>[(0,.sla none 0 0),(2,.sl 1 z.1.length 0),(12,.sl 0 5 5),(13,.n9 ((5:Nat):Int)),(14,.n9 (z.2:Int))]) (fun(z:List Rw×Nat)=>[some (.lst 2 5 (fun zz=>Ji (x5.getD zz nz))),some (.row 203 20 z.1.length 0 (fun zz=>A8 (z.1.getD zz Rw.z)))]) (fun z w1 ks1=>XC w.heap.size z w1 ks1) (fun z=>5 - z.2) ([],0) (A.cut [0,2,12,13,14] U) ⟨by decide,rfl,fun r hr=>by cases hr⟩ fun z G1 a1 w1 hJ hg A B=>have hA:Acc w.heap.size [] w1 _:=Acc.nil;have hR:=hJ.rw;
 N9 6 A U U fun A=>AU 15 A U
   (fun h1 A=>N9 14 A U (AE (by omega)<|AE (by omega)<|AB) fun A=>N9 4 A U U fun A=>have A:=AG A 20 (.agg [.n9 3,.z9,.z9,.z9,.z9,.z9,.z9,.z9,.z9,.n9 ((x5.getD (((z.2:Int)).toNat) nz).2),.bool false,.bool false,.bool false,.z9,.z9,.z9,.bool false]) U (fun _=>rfl);N9 9 A U U fun A=>L7 [.n9 4,.n9 3] (X:=⟨_,true⟩) hX RowsIn.ok B hA hR A U U U U fun b1 B hA hR A=>
 N9 4 A U U fun A=>L7 [.n9 4,.n9 5] (X:=⟨_,true⟩) hX RowsIn.ok B hA hR A U U U U fun b2 B hA hR A=>
 N9 2 A U U fun A=>have A:=A.asT Rw.z A8 20 IF.1 IF.2.1 IF.2.2 [TM (x5.getD (((z.2:Int)).toNat) nz) b1,TN (x5.getD (((z.2:Int)).toNat) nz) b2] 4 U;Af A U (HV hX ((z.1++[TM (x5.getD (((z.2:Int)).toNat) nz) b1,TN (x5.getD (((z.2:Int)).toNat) nz) b2]).length) (fun zz=>A8 ((z.1++[TM (x5.getD (((z.2:Int)).toNat) nz) b1,TN (x5.getD (((z.2:Int)).toNat) nz) b2]).getD zz Rw.z)) U U U U (β8 _) (by have:=hJ.len;have:=hJ.le;omega) (by decide) α4 (fun k hk=>by show A8 _=A8 _;rw [BC hk]) (fun k hk=>by show A8 _=A8 _;rw [Br]) (fun z=>⟨_,rfl,rfl⟩) (fun k hk=>⟨_,rfl,AB⟩)) fun A=>
 N9 8 A U (AE (by omega)<|AB) fun A=>⟨(z.1++[TM (x5.getD (((z.2:Int)).toNat) nz) b1,TN (x5.getD (((z.2:Int)).toNat) nz) b2],z.2+1),_,(by have:=h1;show _ - _<_ - _;omega),(hJ.nx (l:=[]) h1 (RowsIn.ok _ _ _ _ hR A.mix fun b hb=>A.keys_own b ((Bv (H:=[some (.lst 2 5 (fun zz=>Ji (x5.getD zz nz))),none,O [.str ((x5.getD (((z.2:Int)).toNat) nz).1),.n9 ((x5.getD (((z.2:Int)).toNat) nz).2)],O [.n9 3,.z9,.z9,.z9,.z9,.z9,.z9,.z9,.z9,.n9 ((x5.getD (((z.2:Int)).toNat) nz).2),.bool false,.bool false,.bool false,.z9,.z9,.z9,.bool false],some (.lst 20 ([TM (x5.getD (((z.2:Int)).toNat) nz) b1,TN (x5.getD (((z.2:Int)).toNat) nz) b2].length) (fun zz=>A8 ([TM (x5.getD (((z.2:Int)).toNat) nz) b1,TN (x5.getD (((z.2:Int)).toNat) nz) b2].getD zz Rw.z))),some (.row 203 20 ((z.1++[TM (x5.getD (((z.2:Int)).toNat) nz) b1,TN (x5.getD (((z.2:Int)).toNat) nz) b2]).length) 0 (fun zz=>A8 ((z.1++[TM (x5.getD (((z.2:Int)).toNat) nz) b1,TN (x5.getD (((z.2:Int)).toNat) nz) b2]).getD zz Rw.z)))]) (m:=[0,5]) A.mem.len U U) b hb)) (hA.go A.mix fun b hb=>A.keys_own b ((Bv (H:=[some (.lst 2 5 (fun zz=>Ji (x5.getD zz nz))),none,O [.str ((x5.getD (((z.2:Int)).toNat) nz).1),.n9 ((x5.getD (((z.2:Int)).toNat) nz).2)],O [.n9 3,.z9,.z9,.z9,.z9,.z9,.z9,.z9,.z9,.n9 ((x5.getD (((z.2:Int)).toNat) nz).2),.bool false,.bool false,.bool false,.z9,.z9,.z9,.bool false],some (.lst 20 ([TM (x5.getD (((z.2:Int)).toNat) nz) b1,TN (x5.getD (((z.2:Int)).toNat) nz) b2].length) (fun zz=>A8 ([TM (x5.getD (((z.2:Int)).toNat) nz) b1,TN (x5.getD (((z.2:Int)).toNat) nz) b2].getD zz Rw.z))),some (.row 203 20 ((z.1++[TM (x5.getD (((z.2:Int)).toNat) nz) b1,TN (x5.getD (((z.2:Int)).toNat) nz) b2]).length) 0 (fun zz=>A8 ((z.1++[TM (x5.getD (((z.2:Int)).toNat) nz) b1,TN (x5.getD (((z.2:Int)).toNat) nz) b2]).getD zz Rw.z)))]) (m:=[0,5]) A.mem.len U U) b hb))),((B.trans A).cut [0,2,12,13,14] U).mv 0 [0,5] U U U U (by simp only [β2]at h0;omega)⟩)
   (fun h1 A=>N9 10 A U U fun A=>(have e5:z.2=5:=(by have:=hJ.le;omega);have e:z.1.length=10:=(by have:=hJ.len;omega);match A.giveRow 1 0 (by omega) U U U with|⟨b,cp,A2,hG,ho,hk⟩=>JS (J:=fun x w w'=>∃(L:List Rw) (b cp:Nat),x=.sla (some ⟨b,0,none⟩) 10 cp∧(L.map tm=Mu∧RowsIn w.heap.size L w' [b])∧w.heap.size≤b∧CI 203 20 10 (fun zz=>A8 (L.getD zz Rw.z)) b cp w') hX (B.trans A2) (fun i e he=>CC he) U U U U ⟨z.1,b,cp,(by show SV.sla _ z.1.length cp=_;rw [e]),⟨(by have h2:=hJ.tm;rw [e5]at h2;exact h2),(RowsIn.ok _ _ _ _ hJ.rw A.mix fun b2 hb=>by have:b2=b:=(by simpa using hb);rw [this];exact ho)⟩,IW B (fun i e he=>CC he) ho,(by rw [←e];exact hG)⟩))
def J3 (b1 b2 b3 b4 b5 b6 b7 b8 b9:Nat):List Rw:=[⟨[77,79,86],[],⟨1,0,0,0,0,0,0,0,0,0,false,false,false,0,0,0,false⟩,some ⟨b1,0,none⟩,[1,5],2⟩,⟨[77,79,86],[],⟨2,0,0,0,0,0,0,0,0,0,false,false,false,0,0,0,false⟩,some ⟨b2,0,none⟩,[1,2],2⟩,⟨[77,79,86,42],[],⟨4,0,0,0,0,0,0,0,0,0,false,false,false,0,0,0,false⟩,some ⟨b3,0,none⟩,[1,6],2⟩,⟨[77,79,86,42],[],⟨5,0,0,0,0,0,0,0,0,0,false,false,false,0,0,0,false⟩,some ⟨b4,0,none⟩,[6,2],2⟩,⟨[77,79,86,42],[],⟨5,0,0,0,0,0,0,0,0,0,false,false,false,0,0,0,false⟩,some ⟨b5,0,none⟩,[6,5],2⟩,⟨[88,67,72,71,42],[],⟨6,0,0,0,0,0,0,0,0,6,true,false,true,0,0,0,false⟩,some ⟨b6,0,none⟩,[4,6],2⟩,⟨[88,65,68,68,42],[],⟨6,0,0,0,0,0,0,0,0,1,true,false,true,0,0,0,false⟩,some ⟨b7,0,none⟩,[6,4],2⟩,⟨[77,70,69,78,67,69],[],⟨7,0,0,0,0,0,0,0,0,0,false,false,false,3,3,0,false⟩,none,[],0⟩,⟨[74,90],[],⟨9,0,0,0,0,0,0,0,0,0,false,false,false,0,0,0,true⟩,some ⟨b8,0,none⟩,[2,7],2⟩,⟨[74,78,90],[],⟨9,0,0,0,0,0,0,0,0,0,false,false,false,0,0,0,false⟩,some ⟨b9,0,none⟩,[2,7],2⟩]
def mY:List (List UInt8×List UInt8×In×List Int):=[([77,79,86],[],⟨1,0,0,0,0,0,0,0,0,0,false,false,false,0,0,0,false⟩,[1,5]),([77,79,86],[],⟨2,0,0,0,0,0,0,0,0,0,false,false,false,0,0,0,false⟩,[1,2]),([77,79,86,42],[],⟨4,0,0,0,0,0,0,0,0,0,false,false,false,0,0,0,false⟩,[1,6]),([77,79,86,42],[],⟨5,0,0,0,0,0,0,0,0,0,false,false,false,0,0,0,false⟩,[6,2]),([77,79,86,42],[],⟨5,0,0,0,0,0,0,0,0,0,false,false,false,0,0,0,false⟩,[6,5]),([88,67,72,71,42],[],⟨6,0,0,0,0,0,0,0,0,6,true,false,true,0,0,0,false⟩,[4,6]),([88,65,68,68,42],[],⟨6,0,0,0,0,0,0,0,0,1,true,false,true,0,0,0,false⟩,[6,4]),([77,70,69,78,67,69],[],⟨7,0,0,0,0,0,0,0,0,0,false,false,false,3,3,0,false⟩,[]),([74,90],[],⟨9,0,0,0,0,0,0,0,0,0,false,false,false,0,0,0,true⟩,[2,7]),([74,78,90],[],⟨9,0,0,0,0,0,0,0,0,0,false,false,false,0,0,0,false⟩,[2,7])]
def Nw:List (List UInt8×List UInt8×In×List Int):=Mu++mY
theorem TO {b1 b2 b3 b4 b5 b6 b7 b8 b9 b10 lo lo2:Nat}{w:World}{ks:ae}(h:Acc lo (Da b1 b2 b3 b4 b5 b6 b7 b8 b9 b10) w ks)(D2:lo2≤lo):RowsIn lo2 (J3 b1 b2 b3 b4 b5 b6 b7 b8 b9) w ks:=by
 intro r hr
 unfold J3 at hr
 simp only [η5,ι5,ν5]at hr
 rcases hr with rfl|rfl|rfl|rfl|rfl|rfl|rfl|rfl|rfl|rfl
 ·have q:=BD (b:=b1) (cs:=[]) [1,5] h (by show _∈Da b1 b2 b3 b4 b5 b6 b7 b8 b9 b10;unfold Da;simp);exact⟨q.1,fun z hz=>β3 D2 (q.2 z hz)⟩
 ·have q:=BD (b:=b2) (cs:=[]) [1,2] h (by show _∈Da b1 b2 b3 b4 b5 b6 b7 b8 b9 b10;unfold Da;simp);exact⟨q.1,fun z hz=>β3 D2 (q.2 z hz)⟩
 ·have q:=BD (b:=b3) (cs:=[]) [1,6] h (by show _∈Da b1 b2 b3 b4 b5 b6 b7 b8 b9 b10;unfold Da;simp);exact⟨q.1,fun z hz=>β3 D2 (q.2 z hz)⟩
 ·have q:=BD (b:=b4) (cs:=[]) [6,2] h (by show _∈Da b1 b2 b3 b4 b5 b6 b7 b8 b9 b10;unfold Da;simp);exact⟨q.1,fun z hz=>β3 D2 (q.2 z hz)⟩
 ·have q:=BD (b:=b5) (cs:=[]) [6,5] h (by show _∈Da b1 b2 b3 b4 b5 b6 b7 b8 b9 b10;unfold Da;simp);exact⟨q.1,fun z hz=>β3 D2 (q.2 z hz)⟩
 ·have q:=BD (b:=b6) (cs:=[]) [4,6] h (by show _∈Da b1 b2 b3 b4 b5 b6 b7 b8 b9 b10;unfold Da;simp);exact⟨q.1,fun z hz=>β3 D2 (q.2 z hz)⟩
 ·have q:=BD (b:=b7) (cs:=[]) [6,4] h (by show _∈Da b1 b2 b3 b4 b5 b6 b7 b8 b9 b10;unfold Da;simp);exact⟨q.1,fun z hz=>β3 D2 (q.2 z hz)⟩
 ·exact⟨.inl ⟨rfl,rfl⟩,fun q hq=>by cases hq⟩
 ·have q:=BD (b:=b8) (cs:=[]) [2,7] h (by show _∈Da b1 b2 b3 b4 b5 b6 b7 b8 b9 b10;unfold Da;simp);exact⟨q.1,fun z hz=>β3 D2 (q.2 z hz)⟩
 ·have q:=BD (b:=b9) (cs:=[]) [2,7] h (by show _∈Da b1 b2 b3 b4 b5 b6 b7 b8 b9 b10;unfold Da;simp);exact⟨q.1,fun z hz=>β3 D2 (q.2 z hz)⟩
theorem EF {lo b1:Nat}{L:List Rw}{w:World}{ks:ae}(h:RowsIn lo L w [b1])(hk:∀b,ks.contains b=true→b<lo∨b=b1):RowsIn lo L w ks:=fun r hr=>by
 obtain⟨h1,h2⟩:=h r hr
 refine⟨?_,h2⟩
 rcases h1 with h1|⟨b,e,q1,q2,q3⟩
 ·exact .inl h1
 ·refine .inr ⟨b,e,q1,?_,q3⟩
  cases hc:ks.contains b with
  |false=>rfl
  |true=>
   have h3:=h2 _ e
   simp only at h3
   rcases hk b hc with h4|h4
   ·omega
   ·rw [h4]at q2;simp at q2
theorem Ix {lo:Nat}{l:List (Nat×List SV)}{w:World}{ks:ae}(h:Acc lo l w [])(hk:∀b,ks.contains b=true→b<lo):Acc lo l w ks:=fun p hp=>by
 obtain⟨h1,vs,h2,h3,h4,h5⟩:=h p hp
 refine⟨h1,vs,h2,h3,?_,h5⟩
 cases hc:ks.contains p.1 with
 |false=>rfl
 |true=>have:=hk _ hc;omega
theorem Vy (b1 b2 b3 b4 b5 b6 b7 b8 b9 b10:Nat):AO [] ((J3 b1 b2 b3 b4 b5 b6 b7 b8 b9).flatMap A8)=AO [] [.str [77,79,86],.str [],.n9 1,.z9,.z9,.z9,.z9,.z9,.z9,.z9,.z9,.z9,.ff,.ff,.ff,.z9,.z9,.z9,.ff,.sla (some ⟨b1,0,none⟩) 2 2,.str [77,79,86],.str [],.n9 2,.z9,.z9,.z9,.z9,.z9,.z9,.z9,.z9,.z9,.ff,.ff,.ff,.z9,.z9,.z9,.ff,.sla (some ⟨b2,0,none⟩) 2 2,.str [77,79,86,42],.str [],.n9 4,.z9,.z9,.z9,.z9,.z9,.z9,.z9,.z9,.z9,.ff,.ff,.ff,.z9,.z9,.z9,.ff,.sla (some ⟨b3,0,none⟩) 2 2,.str [77,79,86,42],.str [],.n9 5,.z9,.z9,.z9,.z9,.z9,.z9,.z9,.z9,.z9,.ff,.ff,.ff,.z9,.z9,.z9,.ff,.sla (some ⟨b4,0,none⟩) 2 2,.str [77,79,86,42],.str [],.n9 5,.z9,.z9,.z9,.z9,.z9,.z9,.z9,.z9,.z9,.ff,.ff,.ff,.z9,.z9,.z9,.ff,.sla (some ⟨b5,0,none⟩) 2 2,.str [88,67,72,71,42],.str [],.n9 6,.z9,.z9,.z9,.z9,.z9,.z9,.z9,.z9,.n9 6,.tt,.ff,.tt,.z9,.z9,.z9,.ff,.sla (some ⟨b6,0,none⟩) 2 2,.str [88,65,68,68,42],.str [],.n9 6,.z9,.z9,.z9,.z9,.z9,.z9,.z9,.z9,.n9 1,.tt,.ff,.tt,.z9,.z9,.z9,.ff,.sla (some ⟨b7,0,none⟩) 2 2,.str [77,70,69,78,67,69],.str [],.n9 7,.z9,.z9,.z9,.z9,.z9,.z9,.z9,.z9,.z9,.ff,.ff,.ff,.n9 3,.n9 3,.z9,.ff,.sla none 0 0,.str [74,90],.str [],.n9 9,.z9,.z9,.z9,.z9,.z9,.z9,.z9,.z9,.z9,.ff,.ff,.ff,.z9,.z9,.z9,.tt,.sla (some ⟨b8,0,none⟩) 2 2,.str [74,78,90],.str [],.n9 9,.z9,.z9,.z9,.z9,.z9,.z9,.z9,.z9,.z9,.ff,.ff,.ff,.z9,.z9,.z9,.ff,.sla (some ⟨b9,0,none⟩) 2 2]:=by rfl
theorem RowsIn.mono {lo lo2:Nat}{L:List Rw}{w:World}{ks:ae}(h:RowsIn lo L w ks)(hl:lo2≤lo):RowsIn lo2 L w ks:=fun r hr=>⟨(h r hr).1,fun q hq=>β3 hl ((h r hr).2 q hq)⟩
theorem RowsIn.app {lo:Nat}{L R:List Rw}{w:World}{ks:ae}(h:RowsIn lo L w ks)(h2:RowsIn lo R w ks):RowsIn lo (L++R) w ks:=fun r hr=>by
 rcases ζ9.1 hr with h3|h3
 ·exact h r h3
 ·exact h2 r h3
theorem RowsIn.one {lo b:Nat}{L:List Rw}{w w':World}{ks:ae}(h:RowsIn lo L w ks)(h2:RowsIn lo L w [b])(m:CQ ks w w'):RowsIn lo L w' [b]:=fun r hr=>by
 refine⟨?_,(h r hr).2⟩
 rcases(h r hr).1.go m (ks':=[]) (fun b hb=>by cases hb)with h1|⟨q,e,q1,_,q3⟩
 ·exact .inl h1
 ·rcases(h2 r hr).1 with h3|⟨q',e',_,q2',_⟩
  ·rw [h3.1]at e;cases e
  ·rw [e]at e';cases e';exact .inr ⟨q,e,q1,q2',q3⟩
theorem CI.mix {e s m b cp:Nat}{f:Nat→List SV}{w w':World}{ks:ae}(h:CI e s m f b cp w)(mx:CQ ks w w')(hk:ks.contains b=false):CI e s m f b cp w':=by
 obtain⟨h1,xs,h2,h3⟩:=h
 exact⟨h1,xs,h2,KM h3 mx (fun k FC=>by cases FC;exact hk)⟩
section
variable {n:Nat}{ks:ae}{G0:Gr}{w0:World}{T:List (Nat×SV)}{H:Hp}{G:Gr}{a:Act}{w:World}{Q:ab}{K:List Fr}{ops:ah}{o:Oper}{rest:ai}
theorem YY (A:Sy n T H ks G0 w0 G a w) (h1:Bi n ops T o=some (182,[]))
  (k:∀b1 b2 b3 b4 b5 b6 b7 b8 b9 b10 vs a' w',AO [] ((J3 b1 b2 b3 b4 b5 b6 b7 b8 b9).flatMap A8)=some vs→K2 b10 0 vs w' (keys H G)→RowsIn w.heap.size (J3 b1 b2 b3 b4 b5 b6 b7 b8 b9) w' (keys H G)→Sy n (BN T o.dst (.sla (some ⟨b10,0,none⟩) 10 10)) H ks G0 w0 G a' w'→Goal Tryz.prog Q K (.ops ops rest) a' w'):Goal Tryz.prog Q K (.ops ops (o::rest)) a w:=by
 refine Om [] mX A h1 U U U U fun x a' w' hJ hk A'=>?_
 obtain⟨b1,b2,b3,b4,b5,b6,b7,b8,b9,b10,rfl,hA⟩:=hJ
 have hA:=Ix hA hk
 obtain⟨_,vs,q1,q2⟩:=hA _ ζ4
 exact k b1 b2 b3 b4 b5 b6 b7 b8 b9 b10 vs a' w' ((Vy b1 b2 b3 b4 b5 b6 b7 b8 b9 b10).trans q1) q2 (TO hA (β8 _)) A'
end
theorem e7:Fn Tryz.prog 144 [] [] (Rt (.agg [.str [82,65,88],.str [82,66,88],.str [82,67,88],.str [82,68,88],.str [82,83,73],.str [82,68,73],.str [82,56],.str [82,57]]) []):=
 AR (n:=2) (by kernel_rfl) Tryz.func144 U U U fun G w a h0 A=>N9 12 A U U fun A=>R9 A U h0 U U U
theorem LS:Ly Tryz.prog 141 [] [] (fun x w w'=>∃(L:List Rw) (b cp:Nat),x=.agg [.str [82,65,88],.str [82,66,88],.str [82,67,88],.str [82,68,88],.str [82,83,73],.str [82,68,73],.str [82,56],.str [82,57],.str [66],.str [87],.str [76],.str [81],.str [36],.str [],.str [],.str [],.sla (some ⟨b,0,none⟩) 20 cp]∧(L.map tm=Nw∧RowsIn w.heap.size L w' [b])∧w.heap.size≤b∧CI 203 20 20 (fun zz=>A8 (L.getD zz Rw.z)) b cp w'):=
 EA (n:=7) (by kernel_rfl) Tryz.func141 U U U fun G w a h0 A=>N9 7 A U U fun A=>C9 [] (e7) A U fun A=>N9 1 A U U fun A=>have hz:=A.mix.size;HN (t:=3) (F:=fun(L:List Rw) zz=>A8 (L.getD zz Rw.z)) (R:=fun L b w w'=>L.map tm=Mu∧RowsIn w.heap.size L w' [b]) eZ A U U fun L b1 cp1 a1 w1 G1 hR D2 hk A=>have hl:L.length=10:=(by have q:=congrArg List.length hR.1;rw [ε7]at q;exact q);have hI:=(EF hR.2 hk).mono hz;have B:=A;have A:=B.base;
 YY A U fun c1 c2 c3 c4 c5 c6 c7 c8 c9 c10 vs a2 w2 hv hL hO A=>have hI:=RowsIn.ok _ _ _ _ hI A.mix A.keys_own;have hO:=hO.mono B.mix.size;have B:=B.trans A;have A:=A.base;have A:=A.adoptL Rw.z A8 20 IF.1 IF.2.1 IF.2.2 (J3 c1 c2 c3 c4 c5 c6 c7 c8 c9) hL hv 4 U;
 Af A U (HV hX 20 (fun zz=>A8 ((L++(J3 c1 c2 c3 c4 c5 c6 c7 c8 c9)).getD zz Rw.z)) U U U U (β8 _) (by decide) (show 10≤1000000 by decide) U (fun k hk=>by show A8 _=A8 _;rw [BC (by omega)]) (fun k hk=>by show A8 ((L++_).getD (10+k) Rw.z)=A8 _;rw [show 10+k=L.length+k by omega,Br]) (fun z=>⟨_,rfl,rfl⟩) (fun k hk=>⟨_,rfl,AB⟩)) fun A=>match A.giveRow 3 5 (by decide) U U U with|⟨b,cp,A2,hG,ho,Pd⟩=>(have hW:=hI.app hO;have h1:=RowsIn.ok _ _ _ _ hW A2.mix A2.keys_own;have h2:=RowsIn.ok _ _ _ [b] hW A2.mix (fun b2 hb=>by have:b2=b:=(by simpa using hb);rw [this];exact ho);have Er:=IW B (fun i e he=>CC he) ho;have B:=B.trans A2;have A:=A2.base;
 N9 5 A U U fun A=>JS (J:=fun x w w'=>∃(L:List Rw) (b cp:Nat),x=.agg [.str [82,65,88],.str [82,66,88],.str [82,67,88],.str [82,68,88],.str [82,83,73],.str [82,68,73],.str [82,56],.str [82,57],.str [66],.str [87],.str [76],.str [81],.str [36],.str [],.str [],.str [],.sla (some ⟨b,0,none⟩) 20 cp]∧(L.map tm=Nw∧RowsIn w.heap.size L w' [b])∧w.heap.size≤b∧CI 203 20 20 (fun zz=>A8 (L.getD zz Rw.z)) b cp w') hX (B.trans A) (fun i e he=>CC he) U U U U ⟨L++(J3 c1 c2 c3 c4 c5 c6 c7 c8 c9),b,cp,rfl,⟨by rw [ζ5,hR.1];rfl,h1.one h2 A.mix⟩,Er,hG.mix A.mix Pd⟩)
end
section
open Go.RowKit
def EU:Lg:=⟨[82,65,88],[82,66,88],[82,67,88],[82,68,88],[82,83,73],[82,68,73],[82,56],[82,57],[66],[87],[76],[81],[36],[],[],[]⟩
section
variable {g:Lg}{q:ag}{L:List Rw}{ws:List Tk}{s:Ps}
theorem e8 {r:Rw}{T:List (List UInt8×List UInt8×In×List Int)}(h:L.map tm=T)(hr:r∈L):tm r∈T:=by rw [←h];exact List.mem_map_of_mem hr
end
end
section
open Go.RowKit
def cn (r:Rw):Rw:=⟨r.nm,r.wd,r.ins,none,r.ps,0⟩
def YZ (x:List UInt8×List UInt8×In×List Int):Rw:=⟨x.1,x.2.1,x.2.2.1,none,x.2.2.2,0⟩
theorem Vz {L:List Rw}{T:List (List UInt8×List UInt8×In×List Int)}(h:L.map tm=T):L.map cn=T.map YZ:=by rw [←h,τ9];rfl
section
variable {g:Lg}{q:ag}{L R:List Rw}{ws:List Tk}{s z:Ps}{k:Nat}{t:Tk}{x:Int}
end
def QS:List Rw:=Nw.map YZ
end
section
open Go.RowKit
set_option simprocs false
theorem CS {n:Nat}{ks:ae}{G0:Gr}{w0:World}{T:List (Nat×SV)}{c:List SV}{G:Gr}{a:Act}{w:World}{Q:ab}{ops:ah}{o:Oper}{fuel i:Nat}{listed:Array Bool}{f m:Nat}{l:List SV}{D:List (List UInt8×List UInt8×In×List Int)}{os:List (Nat×Obj)}(hD:D.length=m)(hI:Gl os w0 ks)(ho:ops[i]?=some o)(hf:Ly Tryz.prog f [] [] (fun x w w'=>∃(L:List Rw) (b cp:Nat),x=.agg (l++[.sla (some ⟨b,0,none⟩) m cp])∧(L.map tm=D∧RowsIn w.heap.size L w' [b])∧w.heap.size≤b∧CI 203 20 m (fun zz=>A8 (L.getD zz Rw.z)) b cp w'))(A:Sy n T [O c] ks G0 w0 G a w)(hd:o.dst=some 6)(h1:Bi n ops T o=some (f,[]))(k:∀(L:List Rw) (G1:Gr) (a1:Act) (w1:World),L.map tm=D→L.length=m→I8 os L w1 (keys [O c,au L] G1)→Sy n ((6,.agg (l++[.sl 1 L.length 0]))::T) [O c,au L] ks G0 w0 G1 a1 w1→wpAny Tryz.prog .any ops Q fuel (listed.setIfInBounds i true) a1 w1):wpOp Tryz.prog ops Q i (wpAny Tryz.prog .any ops Q fuel (listed.setIfInBounds i true)) a w:=
 X4 (t:=6) (l:=l) (F:=fun(L:List Rw) zz=>A8 (L.getD zz Rw.z)) (R:=fun L b w w'=>L.map tm=D∧RowsIn w.heap.size L w' [b]) ho hf A hd h1 fun L b cp a1 w1 G1 hR D2 Pe A=>by
  have hl:L.length=m:=by rw [←hD,←hR.1,ε7]
  have hRI:=EF hR.2 Pe
  have B0:=A
  have A:=A.base
  have A:=A.rowAs 1 L.length (fun zz=>A8 (L.getD zz Rw.z)) U hl (fun _ _=>rfl) (fun z=>⟨_,rfl,rfl⟩)
  have A:=A.freeze 1 U
  have hTb:=RowsIn.ok.now A hRI
  have B:=B0.trans A
  refine k L _ _ _ hR.1 hl ⟨fun r hr=>(hTb r hr).1,Gl.ok.now B hI⟩ ⟨B.size,B.defers,fun t x hx=>B.get t x ?_,B.mem,B.pre,B.own,B.mix⟩
  rw [hd]
  rw [hl]at hx
  cases h:Nat.beq 6 t<;>simp only [look,BN,h]at hx⊢<;>exact hx
section
variable {g:Lg}{L:List Rw}{i:In}{lb:ag}
theorem Nx:∀(L:List Rw),(L.map cn).find? (Fh i)=(L.find? (Fh i)).map cn
 | []=>rfl
 |r::L=>by
  rw [ζ0,υ5,υ5]
  have e:Fh i (cn r)=Fh i r:=rfl
  rw [e]
  split
  ·rfl
  ·exact Nx L
theorem Ya:Au (L.map cn) i=cn (Au L i):=by
 unfold Au;rw [Nx];cases L.find? (Fh i)<;>rfl
theorem Yb:Fi (L.map cn) i=Fi L i:=by
 unfold Fi;rw [Nx];cases L.find? (Fh i)<;>rfl
theorem QT:DW g (L.map cn) i lb=DW g L i lb:=by
 unfold DW;rw [Ya,Yb];rfl
theorem V0 (h:L.map tm=Nw):DW EU L i lb=DW EU QS i lb:=by
 have:=QT (g:=EU) (L:=L) (i:=i) (lb:=lb)
 rw [Vz h]at this
 exact this.symm
end
abbrev nA:List SV:=[.str [82,65,88],.str [82,66,88],.str [82,67,88],.str [82,68,88],.str [82,83,73],.str [82,68,73],.str [82,56],.str [82,57],.str [66],.str [87],.str [76],.str [81],.str [36],.str [],.str [],.str []]
theorem Yc (i:In)(lb:ag)(os:List (Nat×Obj))(hM:Ln os)(hT:PZ os)(hE:Mn os)(hp:∀L:List Rw,L.map tm=Nw→MG EU L i lb):BQ (Gl os) Tryz.prog 110 [.agg (AZ i),.str lb] [] (Rt (.tup [.str ((DW EU QS i lb).1),.n9 ((DW EU QS i lb).2)]) []):=
 Aa (n:=12) (by kernel_rfl) Tryz.func110 U U U fun G w a h0 hI A=>N9 8 A U U fun A=>Jc 8 BW U A fun{w2} A=>HP (fun(tail:∀(L:List Rw) {G1:Gr} {a1:Act} {w1:World},L.map tm=Nw→L.length=20→I8 os L w1 (keys [O (AZ i),au L] G1)→Sy 12 [(6,.agg [.str [82,65,88],.str [82,66,88],.str [82,67,88],.str [82,68,88],.str [82,83,73],.str [82,68,73],.str [82,56],.str [82,57],.str [66],.str [87],.str [76],.str [81],.str [36],.str [],.str [],.str [],.sl 1 L.length 0]),(7,.agg (AZ i)),(8,.str lb)] [O (AZ i),au L] (keys [] G) G w G1 a1 w1→wpAny Tryz.prog .any _ _ _ _ a1 w1)=>AS (rs:=[0,1,2]) (by kernel_rfl) (by decide) (Ba ⟨CS (l:=nA) (by decide+kernel) hI U LS A U U fun L _ _ _ hR DP Bu A=>have B:=A;have A:=B.base;AS (rs:=[1,2]) (by kernel_rfl) (by decide) (Ba ⟨Cg (.agg (AZ i)) U A U U fun A=>AS (rs:=[2]) (by kernel_rfl) (by decide) (Ba ⟨Cg (.str lb) U A U U fun A=>tail L hR DP (I8.ok.now A Bu) ((B.trans A).cut [6,7,8] U),
    (CM)⟩),
   (Ba ⟨Cg (.str lb) U A U U fun A=>AS (rs:=[1]) (by kernel_rfl) (by decide) (Ba ⟨Cg (.agg (AZ i)) U A U U fun A=>tail L hR DP (I8.ok.now A Bu) ((B.trans A).cut [6,7,8] U),
    (CM)⟩),
   (CM)⟩)⟩),
  (Ba ⟨Cg (.agg (AZ i)) U A U U fun A=>AS (rs:=[0,2]) (by kernel_rfl) (by decide) (Ba ⟨CS (l:=nA) (by decide+kernel) hI U LS A U U fun L _ _ _ hR DP Bu A=>have B:=A;have A:=B.base;AS (rs:=[2]) (by kernel_rfl) (by decide) (Ba ⟨Cg (.str lb) U A U U fun A=>tail L hR DP (I8.ok.now A Bu) ((B.trans A).cut [6,7,8] U),
    (CM)⟩),
   (Ba ⟨Cg (.str lb) U A U U fun A=>AS (rs:=[0]) (by kernel_rfl) (by decide) (Ba ⟨CS (l:=nA) (by decide+kernel) hI U LS A U U fun L _ _ _ hR DP Bu A=>have B:=A;have A:=B.base;tail L hR DP (I8.ok.now A Bu) ((B.trans A).cut [6,7,8] U),
    (CM)⟩),
   (CM)⟩)⟩),
  (Ba ⟨Cg (.str lb) U A U U fun A=>AS (rs:=[0,1]) (by kernel_rfl) (by decide) (Ba ⟨CS (l:=nA) (by decide+kernel) hI U LS A U U fun L _ _ _ hR DP Bu A=>have B:=A;have A:=B.base;AS (rs:=[1]) (by kernel_rfl) (by decide) (Ba ⟨Cg (.agg (AZ i)) U A U U fun A=>tail L hR DP (I8.ok.now A Bu) ((B.trans A).cut [6,7,8] U),
    (CM)⟩),
   (Ba ⟨Cg (.agg (AZ i)) U A U U fun A=>AS (rs:=[0]) (by kernel_rfl) (by decide) (Ba ⟨CS (l:=nA) (by decide+kernel) hI U LS A U U fun L _ _ _ hR DP Bu A=>have B:=A;have A:=B.base;tail L hR DP (I8.ok.now A Bu) ((B.trans A).cut [6,7,8] U),
    (CM)⟩),
   (CM)⟩)⟩),
  (CM)⟩)⟩)⟩)) (fun L {G1 a1 w1} p9 DP Bu A=>have hR:L.map tm=Nw∧True:=⟨p9,trivial⟩;have B:=A;have A:=B.base;AS (rs:=[3]) (by kernel_rfl) (by decide) (Ba ⟨E4 (x:=.tup [.str ((DW EU L i lb).1),.n9 ((DW EU L i lb).2)]) (H':=[O (AZ i),au L]) U A U (CU [1] I8.ok Bu (Nv EU L 0 i lb os hM hT hE (hp L hR.1)) U U U U U U U) fun A=>AS (rs:=[4,5]) (by kernel_rfl) (by decide) (Ba ⟨Cg (.str ((DW EU L i lb).1)) U A U U fun A=>AS (rs:=[5]) (by kernel_rfl) (by decide) (Ba ⟨Cg (.int .i64 ((DW EU L i lb).2)) U A U U fun A=>AS (rs:=[6]) (by kernel_rfl) (by decide) (Ba ⟨Cg (.str ((DW EU L i lb).1)) U A U U fun A=>AS (rs:=[7]) (by kernel_rfl) (by decide) (Ba ⟨Cg (.int .i64 ((DW EU L i lb).2)) U A U U fun A=>EJ (by kernel_rfl) (N9 2 A U U fun A=>R9 (B.trans A) U h0 U (by rw [←V0 hR.1]<;>rfl) U),
      (CM)⟩),
     (CM)⟩),
    (CM)⟩),
   (Ba ⟨Cg (.int .i64 ((DW EU L i lb).2)) U A U U fun A=>AS (rs:=[4]) (by kernel_rfl) (by decide) (Ba ⟨Cg (.str ((DW EU L i lb).1)) U A U U fun A=>AS (rs:=[6]) (by kernel_rfl) (by decide) (Ba ⟨Cg (.str ((DW EU L i lb).1)) U A U U fun A=>AS (rs:=[7]) (by kernel_rfl) (by decide) (Ba ⟨Cg (.int .i64 ((DW EU L i lb).2)) U A U U fun A=>EJ (by kernel_rfl) (N9 2 A U U fun A=>R9 (B.trans A) U h0 U (by rw [←V0 hR.1]<;>rfl) U),
      (CM)⟩),
     (CM)⟩),
    (CM)⟩),
   (CM)⟩)⟩),
  (CM)⟩))
end
section
end
section
open Go.Shelf Go.RowKit
def Ny:Go.Shelf.Ren:=⟨fun|4=>232|n=>n,fun|22=>173|25=>203|n=>n,fun|n=>n⟩
theorem V1:Go.Proofs.Lays8.n4 Tryz.prog Ny:={
 mixed:=by kernel_rfl
 f4:=⟨"slices.Grow[[]belated/lang.Row,belated/lang.Row]",by decide,Tryz.func232.trans (congrArg some (by kernel_rfl))⟩
 t0:=Tryz.underlying0
 a0:=Tryz.isAgg0
 z0:=Tryz.sizeOf0
 v0:=Tryz.zeroValue0
 t3:=Tryz.underlying3
 a3:=Tryz.isAgg3
 z3:=Tryz.sizeOf3
 v3:=Tryz.zeroValue3
 t4:=Tryz.underlying4
 a4:=Tryz.isAgg4
 z4:=Tryz.sizeOf4
 v4:=Tryz.zeroValue4
 t9:=Tryz.underlying9
 a9:=Tryz.isAgg9
 z9:=Tryz.sizeOf9
 v9:=Tryz.zeroValue9
 t20:=Tryz.underlying20
 a20:=Tryz.isAgg20
 z20:=Tryz.sizeOf20
 v20:=Tryz.zeroValue20
 t22:=Tryz.underlying173
 a22:=Tryz.isAgg173
 z22:=Tryz.sizeOf173
 v22:=Tryz.zeroValue173}
theorem Yd:∃ti z,Tryz.prog.info? 203=some ti∧ti.zero=some z∧z.cells.size=20∧ti.size=20∧ti.bytes≤100000:=by
 have h:(Tryz.prog.info? 203).map (fun ti=>(ti.zero.map (fun z=>z.cells.size),ti.size,Nat.ble ti.bytes 100000))=some (some 20,20,true):=by kernel_rfl
 cases e:Tryz.prog.info? 203 with
 |none=>rw [e]at h;cases h
 | some ti=>
  rw [e]at h
  simp only [δ0,β1,κ8]at h
  obtain⟨h1,h2,h3⟩:=h
  cases ez:ti.zero with
  |none=>rw [ez]at h1;cases h1
  |some z=>
   rw [ez]at h1
   simp only [δ0,β1]at h1
   exact⟨ti,z,rfl,ez,h1,h2,δ8 h3⟩
theorem Z6 (k:Nat)(h0:0<k)(hk:k≤1000000):Ly Tryz.prog 232 [.sla none 0 0,.n9 k] [] (fun x w w'=>∃(L:List Rw) (b cp:Nat),x=.sla (some ⟨b,0,none⟩) 0 cp∧L=[]∧w.heap.size≤b∧CI 203 20 0 (fun zz=>A8 (L.getD zz Rw.z)) b cp w'):=by
 refine⟨by kernel_rfl,fun G w vs hM hv=>?_⟩
 have Qp:some [Value.slice none 0 0,.int .i64 k]=some vs:=hv
 cases Qp
 obtain⟨ti,z,e1,e2,e3,e4,e5⟩:=Yd
 have hc:=Any8.slices_Grow_grow V1 ti z e1 e2 (by omega) none 0 0 k [] w (β8 _) (by omega) (by
  have:(0+k)*ti.bytes≤1000000*100000:=μ2 (by omega) e5
  omega) (by omega) (by simp) (fun _=>rfl) (fun a ha=>by cases ha)
 refine hc.mono ?_
 rintro e w' ⟨rfl,rfl⟩
 have qA:=grownCap_ge w (0+k) 0 203
 refine⟨.sla (some ⟨w.heap.size,0,none⟩) 0 (grownCap w (0+k) 0 203),_,rfl,rfl,((By.refl w).drew).alloc _,[],w.heap.size,_,rfl,rfl,β8 _,fun k=>⟨_,rfl,rfl⟩,[],rfl,?_⟩
 refine World.ownsRow_made w.drew _ _ (β7 _) (σ7 w (0+k) 0 203 (by unfold maxLen;omega)) ?_
 show(([]:aj).toArray++Builtin.zeroCells z.cells (0+k - 0)++Builtin.zeroCells z.cells (grownCap w (0+k) 0 203 - (0+k))).size=_
 simp only [ξ9,μ5,β2,υ7,e3]
 omega
end
section
open Go.RowKit
set_option simprocs false
def r5:List (List UInt8×Int):=[([97,100,100],1),([115,117,98],2),([120,111,114],3),([97,110,100],4),([111,114],5)]
theorem e9:∀k,(r5.getD k nz).1.length≤3
 |0=>by decide
 |1=>by decide
 |2=>by decide
 |3=>by decide
 |4=>by decide
 |k+5=>by simp [r5,List.getD]
abbrev TP (x:List UInt8×Int)(b1:Nat):Rw:=⟨x.1,[],KF 3 x.2,some ⟨b1,0,none⟩,[1,2,3],3⟩
abbrev TQ (x:List UInt8×Int)(b2:Nat):Rw:=⟨x.1++[105],[],KF 3 x.2,some ⟨b2,0,none⟩,[1,2,5],3⟩
def Mw:List (List UInt8×List UInt8×In×List Int):=r5.flatMap fun x=>[(x.1,[],KF 3 x.2,[1,2,3]),(x.1++[105],[],KF 3 x.2,[1,2,5])]
structure RC (lo:Nat)(z:List Rw×Nat)(w:World)(ks:ae):Prop where
 le:z.2≤5
 tm:z.1.map tm=Mw.take (2*z.2)
 rw:RowsIn lo z.1 w ks
theorem RC.len {lo:Nat}{z:List Rw×Nat}{w:World}{ks:ae}(h:RC lo z w ks):z.1.length=2*z.2:=by
 have h1:=congrArg List.length h.tm
 rw [ε7,δ6]at h1
 have h2:Mw.length=10:=by decide
 have:=h.le
 omega
theorem RC.nx {lo b1 b2:Nat}{z:List Rw×Nat}{w w1:World}{ks ks1:ae}{l:List (Nat×List SV)}(h:RC lo z w ks)(hk:(z.2:Int)<5)(hr:RowsIn lo z.1 w1 ks1)(hA:Acc lo [(b2,[.n9 1,.n9 2,.n9 5]),(b1,[.n9 1,.n9 2,.n9 3])] w1 ks1):RC lo (z.1++[TP (r5.getD ((z.2:Int)).toNat nz) b1,TQ (r5.getD ((z.2:Int)).toNat nz) b2],z.2+1) w1 ks1:=by
 refine⟨by have:=h.le;show z.2+1≤5;omega,?_,fun r OB=>?_⟩
 ·show List.map _ (z.1++_)=_
  rw [ζ5,h.tm,α6]
  have:z.2=0∨z.2=1∨z.2=2∨z.2=3∨z.2=4:=by omega
  rcases this with e|e|e|e|e<;>rw [e]<;>rfl
 ·rcases ζ9.1 OB with h1|h1
  ·exact hr r h1
  ·simp only [η5,ι5,ν5]at h1
   rcases h1 with rfl|rfl
   ·exact BD (cs:=[]) [1,2,3] hA (κ6 _ (ζ4))
   ·exact BD (cs:=[]) [1,2,5] hA (ζ4)
theorem fA:Ly Tryz.prog 194 [] [] (fun x w w'=>∃(L:List Rw) (b cp:Nat),x=.sla (some ⟨b,0,none⟩) 10 cp∧(L.map tm=Mw∧RowsIn w.heap.size L w' [b])∧w.heap.size≤b∧CI 203 20 10 (fun zz=>A8 (L.getD zz Rw.z)) b cp w'):=
 EA (n:=37) (by kernel_rfl) Tryz.func194 U U U fun G w a h0 A=>N9 13 A U U fun A=>have A:=A.asT nz Ji 2 QR.1 QR.2.1 QR.2.2 r5 0 U;N9 17 A U U fun A=>have A:=A.nilRow 2 203 20 (fun zz=>A8 (([]:List Rw).getD zz Rw.z)) U (fun z=>⟨_,rfl,rfl⟩);GK (fun(z:List Rw×Nat)=>[(0,.sla none 0 0),(2,.sl 1 z.1.length 0),(12,.sl 0 5 5),(13,.n9 ((5:Nat):Int)),(14,.n9 (z.2:Int))]) (fun(z:List Rw×Nat)=>[some (.lst 2 5 (fun zz=>Ji (r5.getD zz nz))),some (.row 203 20 z.1.length 0 (fun zz=>A8 (z.1.getD zz Rw.z)))]) (fun z w1 ks1=>RC w.heap.size z w1 ks1) (fun z=>5 - z.2) ([],0) (A.cut [0,2,12,13,14] U) ⟨by decide,rfl,fun r hr=>by cases hr⟩ fun z G1 a1 w1 hJ hg A B=>have hA:Acc w.heap.size [] w1 _:=Acc.nil;have hR:=hJ.rw;
 N9 6 A U U fun A=>AU 15 A U
   (fun h1 A=>N9 14 A U (AE (by omega)<|AE (by omega)<|AB) fun A=>N9 4 A U U fun A=>have A:=AG A 20 (.agg [.n9 3,.z9,.z9,.z9,.z9,.z9,.z9,.z9,.z9,.n9 ((r5.getD (((z.2:Int)).toNat) nz).2),.bool false,.bool false,.bool false,.z9,.z9,.z9,.bool false]) U (fun _=>rfl);N9 9 A U U fun A=>L7 [.n9 1,.n9 2,.n9 3] (X:=⟨_,true⟩) hX RowsIn.ok B hA hR A U U U U fun b1 B hA hR A=>
 N9 5 A U (AE (by have q:=e9 ((z.2:Int)).toNat;(try simp only [α4,β0,β2]);omega)<|AB) fun A=>L7 [.n9 1,.n9 2,.n9 5] (X:=⟨_,true⟩) hX RowsIn.ok B hA hR A U U U U fun b2 B hA hR A=>
 N9 2 A U U fun A=>have A:=A.asT Rw.z A8 20 IF.1 IF.2.1 IF.2.2 [TP (r5.getD (((z.2:Int)).toNat) nz) b1,TQ (r5.getD (((z.2:Int)).toNat) nz) b2] 4 U;Af A U (HV hX ((z.1++[TP (r5.getD (((z.2:Int)).toNat) nz) b1,TQ (r5.getD (((z.2:Int)).toNat) nz) b2]).length) (fun zz=>A8 ((z.1++[TP (r5.getD (((z.2:Int)).toNat) nz) b1,TQ (r5.getD (((z.2:Int)).toNat) nz) b2]).getD zz Rw.z)) U U U U (β8 _) (by have:=hJ.len;have:=hJ.le;omega) (by decide) α4 (fun k hk=>by show A8 _=A8 _;rw [BC hk]) (fun k hk=>by show A8 _=A8 _;rw [Br]) (fun z=>⟨_,rfl,rfl⟩) (fun k hk=>⟨_,rfl,AB⟩)) fun A=>
 N9 8 A U (AE (by omega)<|AB) fun A=>⟨(z.1++[TP (r5.getD (((z.2:Int)).toNat) nz) b1,TQ (r5.getD (((z.2:Int)).toNat) nz) b2],z.2+1),_,(by have:=h1;show _ - _<_ - _;omega),(hJ.nx (l:=[]) h1 (RowsIn.ok _ _ _ _ hR A.mix fun b hb=>A.keys_own b ((Bv (H:=[some (.lst 2 5 (fun zz=>Ji (r5.getD zz nz))),none,O [.str ((r5.getD (((z.2:Int)).toNat) nz).1),.n9 ((r5.getD (((z.2:Int)).toNat) nz).2)],O [.n9 3,.z9,.z9,.z9,.z9,.z9,.z9,.z9,.z9,.n9 ((r5.getD (((z.2:Int)).toNat) nz).2),.bool false,.bool false,.bool false,.z9,.z9,.z9,.bool false],some (.lst 20 ([TP (r5.getD (((z.2:Int)).toNat) nz) b1,TQ (r5.getD (((z.2:Int)).toNat) nz) b2].length) (fun zz=>A8 ([TP (r5.getD (((z.2:Int)).toNat) nz) b1,TQ (r5.getD (((z.2:Int)).toNat) nz) b2].getD zz Rw.z))),some (.row 203 20 ((z.1++[TP (r5.getD (((z.2:Int)).toNat) nz) b1,TQ (r5.getD (((z.2:Int)).toNat) nz) b2]).length) 0 (fun zz=>A8 ((z.1++[TP (r5.getD (((z.2:Int)).toNat) nz) b1,TQ (r5.getD (((z.2:Int)).toNat) nz) b2]).getD zz Rw.z)))]) (m:=[0,5]) A.mem.len U U) b hb)) (hA.go A.mix fun b hb=>A.keys_own b ((Bv (H:=[some (.lst 2 5 (fun zz=>Ji (r5.getD zz nz))),none,O [.str ((r5.getD (((z.2:Int)).toNat) nz).1),.n9 ((r5.getD (((z.2:Int)).toNat) nz).2)],O [.n9 3,.z9,.z9,.z9,.z9,.z9,.z9,.z9,.z9,.n9 ((r5.getD (((z.2:Int)).toNat) nz).2),.bool false,.bool false,.bool false,.z9,.z9,.z9,.bool false],some (.lst 20 ([TP (r5.getD (((z.2:Int)).toNat) nz) b1,TQ (r5.getD (((z.2:Int)).toNat) nz) b2].length) (fun zz=>A8 ([TP (r5.getD (((z.2:Int)).toNat) nz) b1,TQ (r5.getD (((z.2:Int)).toNat) nz) b2].getD zz Rw.z))),some (.row 203 20 ((z.1++[TP (r5.getD (((z.2:Int)).toNat) nz) b1,TQ (r5.getD (((z.2:Int)).toNat) nz) b2]).length) 0 (fun zz=>A8 ((z.1++[TP (r5.getD (((z.2:Int)).toNat) nz) b1,TQ (r5.getD (((z.2:Int)).toNat) nz) b2]).getD zz Rw.z)))]) (m:=[0,5]) A.mem.len U U) b hb))),((B.trans A).cut [0,2,12,13,14] U).mv 0 [0,5] U U U U (by simp only [β2]at h0;omega)⟩)
   (fun h1 A=>N9 10 A U U fun A=>(have e5:z.2=5:=(by have:=hJ.le;omega);have e:z.1.length=10:=(by have:=hJ.len;omega);match A.giveRow 1 0 (by omega) U U U with|⟨b,cp,A2,hG,ho,hk⟩=>JS (J:=fun x w w'=>∃(L:List Rw) (b cp:Nat),x=.sla (some ⟨b,0,none⟩) 10 cp∧(L.map tm=Mw∧RowsIn w.heap.size L w' [b])∧w.heap.size≤b∧CI 203 20 10 (fun zz=>A8 (L.getD zz Rw.z)) b cp w') hX (B.trans A2) (fun i e he=>CC he) U U U U ⟨z.1,b,cp,(by show SV.sla _ z.1.length cp=_;rw [e]),⟨(by have h2:=hJ.tm;rw [e5]at h2;exact h2),(RowsIn.ok _ _ _ _ hJ.rw A.mix fun b2 hb=>by have:b2=b:=(by simpa using hb);rw [this];exact ho)⟩,IW B (fun i e he=>CC he) ho,(by rw [←e];exact hG)⟩))
abbrev sz:List UInt8×Bool×Bool:=([],false,false)
def Nz (x:List UInt8×Bool×Bool):List SV:=[.str x.1,.bool x.2.1,.bool x.2.2]
theorem fB:(∀x,(Nz x).length=3)∧(∀x,HH 0 (Nz x)=true)∧(∀x,∃vs,AO [] (Nz x)=some vs):=⟨fun _=>rfl,fun _=>rfl,fun _=>⟨_,rfl⟩⟩
def a2:List (List UInt8×Int):=[([97,109,111,115,119,97,112,46,42],6),([97,109,111,97,100,100,46,42],1)]
def s4:List (List UInt8×Bool×Bool):=[([],false,false),([46,97,113],true,false),([46,114,108],false,true),([46,97,113,46,114,108],true,true)]
theorem N1:∀k,(a2.getD k nz).1.length≤100
 |0=>by decide
 |1=>by decide
 |k+2=>by simp [a2,List.getD]
theorem N2:∀k,(s4.getD k sz).1.length≤100
 |0=>by decide
 |1=>by decide
 |2=>by decide
 |3=>by decide
 |k+4=>by simp [s4,List.getD]
def V2 (x:List UInt8×Int)(y:List UInt8×Bool×Bool):In:=⟨6,0,0,0,0,0,0,0,0,x.2,y.2.1,false,y.2.2,0,0,0,false⟩
abbrev TR (x:List UInt8×Int)(y:List UInt8×Bool×Bool)(b1:Nat):Rw:=⟨x.1++y.1,[],V2 x y,some ⟨b1,0,none⟩,[1,2,6],3⟩
def Mx:List (List UInt8×List UInt8×In×List Int):=a2.flatMap fun x=>s4.map fun y=>(x.1++y.1,[],V2 x y,[1,2,6])
structure RA (lo n:Nat)(L:List Rw)(w:World)(ks:ae):Prop where
 tm:L.map tm=Mx.take n
 rw:RowsIn lo L w ks
theorem RA.len {lo n:Nat}{L:List Rw}{w:World}{ks:ae}(h:RA lo n L w ks):L.length≤8∧(n≤8→L.length=n):=by
 have h1:=congrArg List.length h.tm
 rw [ε7,δ6]at h1
 have h2:Mx.length=8:=by decide
 omega
theorem RA.nx {lo b1 k j:Nat}{L:List Rw}{w w1:World}{ks ks1:ae}(h:RA lo (4*k+j) L w ks)(hk:k<2)(hj:j<4)(hr:RowsIn lo L w1 ks1)(hA:Acc lo [(b1,[.n9 1,.n9 2,.n9 6])] w1 ks1):RA lo (4*k+(j+1)) (L++[TR (a2.getD ((k:Int)).toNat nz) (s4.getD ((j:Int)).toNat sz) b1]) w1 ks1:=by
 refine⟨?_,fun r OB=>?_⟩
 ·rw [ζ5,h.tm,α6,α6]
  have q1:k=0∨k=1:=by omega
  have q2:j=0∨j=1∨j=2∨j=3:=by omega
  rcases q1 with e|e<;>rcases q2 with e2|e2|e2|e2<;>rw [e,e2]<;>rfl
 ·rcases ζ9.1 OB with h1|h1
  ·exact hr r h1
  ·simp only [η5,ι5,ν5]at h1
   subst h1
   exact BD (cs:=[]) [1,2,6] hA ζ4
theorem fC:Ly Tryz.prog 195 [] [] (fun x w w'=>∃(L:List Rw) (b cp:Nat),x=.sla (some ⟨b,0,none⟩) 8 cp∧(L.map tm=Mx∧RowsIn w.heap.size L w' [b])∧w.heap.size≤b∧CI 203 20 8 (fun zz=>A8 (L.getD zz Rw.z)) b cp w'):=
 EA (n:=50) (by kernel_rfl) Tryz.func195 U U U fun G w a h0 A=>N9 10 A U U fun A=>have A:=A.asT nz Ji 2 QR.1 QR.2.1 QR.2.2 a2 0 U;N9 6 A U U fun A=>have A:=AG A 12 (.agg [.str [],.bool false,.bool false]) U (fun _=>rfl);N9 1 A U U fun A=>have A:=AG A 13 (.agg [.str [46,97,113],.bool true,.bool false]) U (fun _=>rfl);N9 1 A U U fun A=>have A:=AG A 14 (.agg [.str [46,114,108],.bool false,.bool true]) U (fun _=>rfl);N9 1 A U U fun A=>have A:=AG A 15 (.agg [.str [46,97,113,46,114,108],.bool true,.bool true]) U (fun _=>rfl);N9 1 A U U fun A=>have A:=A.asT sz Nz 3 fB.1 fB.2.1 fB.2.2 s4 1 U;N9 17 A U U fun A=>have A:=A.nilRow 3 203 20 (fun zz=>A8 (([]:List Rw).getD zz Rw.z)) U (fun z=>⟨_,rfl,rfl⟩);GK (fun(z:List Rw×Nat)=>[(0,.sla none 0 0),(2,.sl 1 4 4),(3,.sl 2 z.1.length 0),(17,.sl 0 2 2),(18,.n9 ((2:Nat):Int)),(19,.n9 (z.2:Int))]) (fun(z:List Rw×Nat)=>[some (.lst 2 2 (fun zz=>Ji (a2.getD zz nz))),some (.lst 3 4 (fun zz=>Nz (s4.getD zz sz))),some (.row 203 20 z.1.length 0 (fun zz=>A8 (z.1.getD zz Rw.z)))]) (fun z w1 ks1=>z.2≤2∧RA w.heap.size (4*z.2) z.1 w1 ks1) (fun z=>2 - z.2) ([],0) (A.cut [0,2,3,17,18,19] U) ⟨by decide,⟨rfl,fun r hr=>by cases hr⟩⟩ fun z G1 a1 w1 hJ hg A B=>have OE:=hJ.1;have hR:=hJ.2.rw;
 N9 6 A U U fun A=>AU 20 A U
   (fun h1 A=>N9 14 A U (AE (by omega)<|AE (by omega)<|AB) fun A=>N9 7 A U U fun A=>have hR:=RowsIn.ok _ _ _ _ hR A.mix A.keys_own;GK (fun(y:List Rw×Nat)=>[(0,.sla none 0 0),(2,.sl 1 4 4),(3,.sl 2 y.1.length 0),(5,.ptr 3 0),(17,.sl 0 2 2),(18,.n9 ((2:Nat):Int)),(19,.n9 (z.2:Int)),(23,.sl 1 4 4),(24,.n9 ((4:Nat):Int)),(25,.n9 (y.2:Int))]) (fun(y:List Rw×Nat)=>[some (.lst 2 2 (fun zz=>Ji (a2.getD zz nz))),some (.lst 3 4 (fun zz=>Nz (s4.getD zz sz))),some (.row 203 20 y.1.length 0 (fun zz=>A8 (y.1.getD zz Rw.z))),O [.str ((a2.getD (((z.2:Int)).toNat) nz).1),.n9 ((a2.getD (((z.2:Int)).toNat) nz).2)]]) (fun y w1 ks1=>y.2≤4∧RA w.heap.size (4*z.2+y.2) y.1 w1 ks1) (fun y=>4 - y.2) (z.1,0) ((B.trans A).cut [0,2,3,5,17,18,19,23,24,25] U) ⟨β7 4,⟨hJ.2.tm,hR⟩⟩ fun y G1 a1 w1 hJ hg A B=>have hA:Acc w.heap.size [] w1 _:=Acc.nil;have hR:=hJ.2.rw;
 N9 6 A U U fun A=>AU 26 A U
     (fun h2 A=>N9 14 A U (AE (by omega)<|AE (by omega)<|AB) fun A=>N9 8 A U U fun A=>have A:=AG A 35 (.agg [.n9 6,.z9,.z9,.z9,.z9,.z9,.z9,.z9,.z9,.n9 ((a2.getD (((z.2:Int)).toNat) nz).2),.bool ((s4.getD (((y.2:Int)).toNat) sz).2.1),.bool false,.bool ((s4.getD (((y.2:Int)).toNat) sz).2.2),.z9,.z9,.z9,.bool false]) U (fun _=>rfl);N9 12 A U (AE (by have q:=N1 ((z.2:Int)).toNat;have q2:=N2 ((y.2:Int)).toNat;(try simp only [α4,β0,β2]);omega)<|AB) fun A=>L7 [.n9 1,.n9 2,.n9 6] (X:=⟨_,true⟩) hX RowsIn.ok B hA hR A U U U U fun b1 B hA hR A=>
 N9 2 A U U fun A=>have A:=A.asT Rw.z A8 20 IF.1 IF.2.1 IF.2.2 [TR (a2.getD (((z.2:Int)).toNat) nz) (s4.getD (((y.2:Int)).toNat) sz) b1] 6 U;Af A U (HV hX ((y.1++[TR (a2.getD (((z.2:Int)).toNat) nz) (s4.getD (((y.2:Int)).toNat) sz) b1]).length) (fun zz=>A8 ((y.1++[TR (a2.getD (((z.2:Int)).toNat) nz) (s4.getD (((y.2:Int)).toNat) sz) b1]).getD zz Rw.z)) U U U U (β8 _) (by have:=hJ.2.len;have:=hJ.1;omega) (by decide) α4 (fun k hk=>by show A8 _=A8 _;rw [BC hk]) (fun k hk=>by show A8 _=A8 _;rw [Br]) (fun z=>⟨_,rfl,rfl⟩) (fun k hk=>⟨_,rfl,AB⟩)) fun A=>
 N9 8 A U (AE (by omega)<|AB) fun A=>⟨(y.1++[TR (a2.getD (((z.2:Int)).toNat) nz) (s4.getD (((y.2:Int)).toNat) sz) b1],y.2+1),_,(by have:=h2;show _ - _<_ - _;omega),⟨by have:=h2;show y.2+1≤4;omega,hJ.2.nx (by omega) (by omega) (RowsIn.ok _ _ _ _ hR A.mix fun b hb=>A.keys_own b ((Bv (H:=[some (.lst 2 2 (fun zz=>Ji (a2.getD zz nz))),some (.lst 3 4 (fun zz=>Nz (s4.getD zz sz))),none,O [.str ((a2.getD (((z.2:Int)).toNat) nz).1),.n9 ((a2.getD (((z.2:Int)).toNat) nz).2)],O [.str ((s4.getD (((y.2:Int)).toNat) sz).1),.bool ((s4.getD (((y.2:Int)).toNat) sz).2.1),.bool ((s4.getD (((y.2:Int)).toNat) sz).2.2)],O [.n9 6,.z9,.z9,.z9,.z9,.z9,.z9,.z9,.z9,.n9 ((a2.getD (((z.2:Int)).toNat) nz).2),.bool ((s4.getD (((y.2:Int)).toNat) sz).2.1),.bool false,.bool ((s4.getD (((y.2:Int)).toNat) sz).2.2),.z9,.z9,.z9,.bool false],some (.lst 20 ([TR (a2.getD (((z.2:Int)).toNat) nz) (s4.getD (((y.2:Int)).toNat) sz) b1].length) (fun zz=>A8 ([TR (a2.getD (((z.2:Int)).toNat) nz) (s4.getD (((y.2:Int)).toNat) sz) b1].getD zz Rw.z))),some (.row 203 20 ((y.1++[TR (a2.getD (((z.2:Int)).toNat) nz) (s4.getD (((y.2:Int)).toNat) sz) b1]).length) 0 (fun zz=>A8 ((y.1++[TR (a2.getD (((z.2:Int)).toNat) nz) (s4.getD (((y.2:Int)).toNat) sz) b1]).getD zz Rw.z)))]) (m:=[0,1,7,3]) A.mem.len U U) b hb)) (hA.go A.mix fun b hb=>A.keys_own b ((Bv (H:=[some (.lst 2 2 (fun zz=>Ji (a2.getD zz nz))),some (.lst 3 4 (fun zz=>Nz (s4.getD zz sz))),none,O [.str ((a2.getD (((z.2:Int)).toNat) nz).1),.n9 ((a2.getD (((z.2:Int)).toNat) nz).2)],O [.str ((s4.getD (((y.2:Int)).toNat) sz).1),.bool ((s4.getD (((y.2:Int)).toNat) sz).2.1),.bool ((s4.getD (((y.2:Int)).toNat) sz).2.2)],O [.n9 6,.z9,.z9,.z9,.z9,.z9,.z9,.z9,.z9,.n9 ((a2.getD (((z.2:Int)).toNat) nz).2),.bool ((s4.getD (((y.2:Int)).toNat) sz).2.1),.bool false,.bool ((s4.getD (((y.2:Int)).toNat) sz).2.2),.z9,.z9,.z9,.bool false],some (.lst 20 ([TR (a2.getD (((z.2:Int)).toNat) nz) (s4.getD (((y.2:Int)).toNat) sz) b1].length) (fun zz=>A8 ([TR (a2.getD (((z.2:Int)).toNat) nz) (s4.getD (((y.2:Int)).toNat) sz) b1].getD zz Rw.z))),some (.row 203 20 ((y.1++[TR (a2.getD (((z.2:Int)).toNat) nz) (s4.getD (((y.2:Int)).toNat) sz) b1]).length) 0 (fun zz=>A8 ((y.1++[TR (a2.getD (((z.2:Int)).toNat) nz) (s4.getD (((y.2:Int)).toNat) sz) b1]).getD zz Rw.z)))]) (m:=[0,1,7,3]) A.mem.len U U) b hb))⟩,((B.trans A).cut [0,2,3,5,17,18,19,23,24,25] U).mv 0 [0,1,7,3] U U U U (by simp only [β2]at h0;omega)⟩)
     (fun h2 A=>N9 8 A U (AE (by omega)<|AB) fun A=>⟨(y.1,z.2+1),_,(by have:=h1;show _ - _<_ - _;omega),⟨by have:=h1;show z.2+1≤2;omega,⟨(by have q:=hJ.2.tm;have q1:=hJ.1;rw [show 4*z.2+y.2=4*(z.2+1) by omega]at q;exact q),RowsIn.ok _ _ _ _ hJ.2.rw A.mix fun b hb=>A.keys_own b ((Bv (H:=[some (.lst 2 2 (fun zz=>Ji (a2.getD zz nz))),some (.lst 3 4 (fun zz=>Nz (s4.getD zz sz))),some (.row 203 20 y.1.length 0 (fun zz=>A8 (y.1.getD zz Rw.z))),O [.str ((a2.getD (((z.2:Int)).toNat) nz).1),.n9 ((a2.getD (((z.2:Int)).toNat) nz).2)]]) (m:=[0,1,2]) A.mem.len U U) b hb)⟩⟩,((B.trans A).cut [0,2,3,17,18,19] U).mv 0 [0,1,2] U U U U (by simp only [β2]at h0;omega)⟩))
   (fun h1 A=>N9 10 A U U fun A=>(have e5:z.2=2:=(by have:=hJ.1;omega);have e:z.1.length=8:=(by have:=hJ.2.len;omega);match A.giveRow 2 0 (by omega) U U U with|⟨b,cp,A2,hG,ho,hk⟩=>JS (J:=fun x w w'=>∃(L:List Rw) (b cp:Nat),x=.sla (some ⟨b,0,none⟩) 8 cp∧(L.map tm=Mx∧RowsIn w.heap.size L w' [b])∧w.heap.size≤b∧CI 203 20 8 (fun zz=>A8 (L.getD zz Rw.z)) b cp w') hX (B.trans A2) (fun i e he=>CC he) U U U U ⟨z.1,b,cp,(by show SV.sla _ z.1.length cp=_;rw [e]),⟨(by have h2:=hJ.2.tm;rw [e5]at h2;exact h2),(RowsIn.ok _ _ _ _ hJ.2.rw A.mix fun b2 hb=>by have:b2=b:=(by simpa using hb);rw [this];exact ho)⟩,IW B (fun i e he=>CC he) ho,(by rw [←e];exact hG)⟩))
section
variable {P:Program}{n:Nat}{ks:ae}{G0:Gr}{w0:World}{T:List (Nat×SV)}{H:Hp}{G:Gr}{a:Act}{w w':World}{Q:ab}{K:List Fr}{ops:ah}{o:Oper}{rest:ai}{c:Code}
theorem MH {q:Nat}(h:Goal P Q (.lp (Code.rounds P c (He P Q K) q)::K) (.code c) a w):Code.rounds P c (He P Q K) (q+1) a w:=h
theorem nC (q:Nat)(h:Code.rounds P c (He P Q K) q a w):Goal P Q K (.code (.loop c)) a w:=wp_loop_rounds q h
end
theorem G6 {i o s m k:Nat}(j:Nat){q:Nat}(hq:o+j*s+k=q):∀G,den G (.ix (.ptr i o) s m (j:Int) k)=den G (.ptr i q):=fun G=>by
 subst hq
 unfold den
 cases hG:G[i]? with
 |none=>unfold den;rw [hG]
 |some p=>cases p with
  |none=>unfold den;rw [hG]
  |some L=>unfold den;rw [hG];simp [η4]
theorem Ye (L1 L2 L3:List Rw) (c1 c2 c3:Nat) (l1:L1.length=10) (l12:(L1++L2).length=18):Fn Tryz.prog 193 [.sl 0 3 3] [O [.sl 1 10 c1,.sl 2 8 c2,.sl 3 7 c3],some (.lst 20 10 (fun zz=>A8 (L1.getD zz Rw.z))),some (.lst 20 8 (fun zz=>A8 (L2.getD zz Rw.z))),some (.lst 20 7 (fun zz=>A8 (L3.getD zz Rw.z)))] (Rt (.sl 4 25 0) [O [.sl 1 10 c1,.sl 2 8 c2,.sl 3 7 c3],some (.lst 20 10 (fun zz=>A8 (L1.getD zz Rw.z))),some (.lst 20 8 (fun zz=>A8 (L2.getD zz Rw.z))),some (.lst 20 7 (fun zz=>A8 (L3.getD zz Rw.z))),some (.row 203 20 25 0 (fun zz=>A8 (((L1++L2)++L3).getD zz Rw.z)))]):=
 AR (n:=36) (by kernel_rfl) Tryz.func193 U U U fun G w a h0 A=>N9 15 A U U fun A=>have A:=AG A 10 (.int .i64 3) U (fun _=>rfl);N9 1 A U U fun A=>N9 3 A U U fun A=>nC 4 (MH (have A:=A.cut [0,2,3,9,10,11] U;
 N9 6 A U U fun A=>AU 12 A U
   (fun h1 A=>N9 8 A U (AE (by omega)<|AB) fun A=>have A:=AG A 13 (.ptr 0 0) U (G6 0 U);N9 7 A U U fun A=>N9 2 A U U fun A=>have A:=AG A 17 (.int .i64 10) U (fun _=>rfl);N9 1 A U (AE (by omega)<|AB) fun A=>have A:=AG A 18 (.int .i64 10) U (fun _=>rfl);N9 6 A U U fun A=>N9 3 A U U fun A=>AU 20 A U
    (fun h2 A=>absurd h2 (by decide))
    (fun h2 A=>N9 6 A U (AE (by omega)<|AB) fun A=>have A:=AG A 22 (.int .i64 1) U (fun _=>rfl);N9 1 A U U fun A=>N9 1 A U U fun A=>MH (have A:=A.cut [0,2,3,9,10,11] U;
 N9 6 A U U fun A=>AU 12 A U
     (fun h3 A=>N9 8 A U (AE (by omega)<|AB) fun A=>have A:=AG A 13 (.ptr 0 1) U (G6 1 U);N9 7 A U U fun A=>N9 2 A U U fun A=>have A:=AG A 17 (.int .i64 8) U (fun _=>rfl);N9 1 A U (AE (by omega)<|AB) fun A=>have A:=AG A 18 (.int .i64 18) U (fun _=>rfl);N9 6 A U U fun A=>N9 3 A U U fun A=>AU 20 A U
      (fun h4 A=>absurd h4 (by decide))
      (fun h4 A=>N9 6 A U (AE (by omega)<|AB) fun A=>have A:=AG A 22 (.int .i64 2) U (fun _=>rfl);N9 1 A U U fun A=>N9 1 A U U fun A=>MH (have A:=A.cut [0,2,3,9,10,11] U;
 N9 6 A U U fun A=>AU 12 A U
       (fun h5 A=>N9 8 A U (AE (by omega)<|AB) fun A=>have A:=AG A 13 (.ptr 0 2) U (G6 2 U);N9 7 A U U fun A=>N9 2 A U U fun A=>have A:=AG A 17 (.int .i64 7) U (fun _=>rfl);N9 1 A U (AE (by omega)<|AB) fun A=>have A:=AG A 18 (.int .i64 25) U (fun _=>rfl);N9 6 A U U fun A=>N9 3 A U U fun A=>AU 20 A U
        (fun h6 A=>absurd h6 (by decide))
        (fun h6 A=>N9 6 A U (AE (by omega)<|AB) fun A=>have A:=AG A 22 (.int .i64 3) U (fun _=>rfl);N9 1 A U U fun A=>N9 1 A U U fun A=>MH (have A:=A.cut [0,2,3,9,10,11] U;
 N9 6 A U U fun A=>AU 12 A U
         (fun h7 A=>absurd h7 (by decide))
         (fun h7 A=>N9 6 A U U fun A=>K8 (t:=24) (F:=fun(L:List Rw) zz=>A8 (L.getD zz Rw.z)) (R:=fun L b w w'=>L=[]) (Z6 25 (by decide) (by decide)) A U U U fun L b1 cp1 a1 w1 G1 hR D2 hk A=>
 N9 8 A U U fun A=>have A:=AG A 26 (.int .i64 3) U (fun _=>rfl);N9 1 A U U fun A=>N9 3 A U U fun A=>nC 4 (MH (have A:=A.cut [2,6,25,26,27] U;
 N9 6 A U U fun A=>AU 28 A U
           (fun h8 A=>N9 8 A U (AE (by omega)<|AB) fun A=>have A:=AG A 29 (.ptr 0 0) U (G6 0 U);N9 7 A U U fun A=>Af A U (HV hX 10 (fun zz=>A8 (L1.getD zz Rw.z)) U U U U (β8 _) (by decide) (show 10≤1000000 by decide) U (fun k hk=>absurd hk (υ4 k)) (fun k hk=>by show A8 (L1.getD (0+k) Rw.z)=A8 _;rw [δ1]) (fun z=>⟨_,rfl,rfl⟩) (fun k hk=>⟨_,rfl,AB⟩)) fun A=>
 N9 6 A U (AE (by omega)<|AB) fun A=>have A:=AG A 34 (.int .i64 1) U (fun _=>rfl);N9 1 A U U fun A=>N9 1 A U U fun A=>MH (have A:=A.cut [2,6,25,26,27] U;
 N9 6 A U U fun A=>AU 28 A U
            (fun h9 A=>N9 8 A U (AE (by omega)<|AB) fun A=>have A:=AG A 29 (.ptr 0 1) U (G6 1 U);N9 7 A U U fun A=>Af A U (HV hX 18 (fun zz=>A8 ((L1++L2).getD zz Rw.z)) U U U U (β8 _) (by decide) (show 8≤1000000 by decide) U (fun k hk=>by show A8 _=A8 _;rw [BC (by rw [l1];exact hk)]) (fun k hk=>by show A8 ((L1++L2).getD (10+k) Rw.z)=A8 _;rw [show 10+k=L1.length+k by rw [l1],Br]) (fun z=>⟨_,rfl,rfl⟩) (fun k hk=>⟨_,rfl,AB⟩)) fun A=>
 N9 6 A U (AE (by omega)<|AB) fun A=>have A:=AG A 34 (.int .i64 2) U (fun _=>rfl);N9 1 A U U fun A=>N9 1 A U U fun A=>MH (have A:=A.cut [2,6,25,26,27] U;
 N9 6 A U U fun A=>AU 28 A U
             (fun GG A=>N9 8 A U (AE (by omega)<|AB) fun A=>have A:=AG A 29 (.ptr 0 2) U (G6 2 U);N9 7 A U U fun A=>Af A U (HV hX 25 (fun zz=>A8 (((L1++L2)++L3).getD zz Rw.z)) U U U U (β8 _) (by decide) (show 7≤1000000 by decide) U (fun k hk=>by show A8 _=A8 _;rw [BC (by rw [l12];exact hk)]) (fun k hk=>by show A8 (((L1++L2)++L3).getD (18+k) Rw.z)=A8 _;rw [show 18+k=(L1++L2).length+k by rw [l12],Br]) (fun z=>⟨_,rfl,rfl⟩) (fun k hk=>⟨_,rfl,AB⟩)) fun A=>
 N9 6 A U (AE (by omega)<|AB) fun A=>have A:=AG A 34 (.int .i64 3) U (fun _=>rfl);N9 1 A U U fun A=>N9 1 A U U fun A=>MH (have A:=A.cut [2,6,25,26,27] U;
 N9 6 A U U fun A=>AU 28 A U
              (fun Fq A=>absurd Fq (by decide))
              (fun Fq A=>N9 10 A U U fun A=>KC hX [7] A ⟨rfl,rfl⟩ U U U U U U U U h0)))
             (fun GG A=>absurd (by decide) GG)))
            (fun h9 A=>absurd (by decide) h9)))
           (fun h8 A=>absurd (by decide) h8)))))))
       (fun h5 A=>absurd (by decide) h5))))
     (fun h3 A=>absurd (by decide) h3))))
   (fun h1 A=>absurd (by decide) h1)))
abbrev EN (b1 b2 b3 b4 b5 b6 b7 b8:Nat):List (Nat×List SV):=[(b8,[.str [108,105],.str [],.int .i64 1,.z9,.z9,.z9,.z9,.z9,.z9,.z9,.z9,.z9,.ff,.ff,.ff,.z9,.z9,.z9,.ff,.sla (some ⟨b1,0,none⟩) 2 2,.str [109,118],.str [],.int .i64 2,.z9,.z9,.z9,.z9,.z9,.z9,.z9,.z9,.z9,.ff,.ff,.ff,.z9,.z9,.z9,.ff,.sla (some ⟨b2,0,none⟩) 2 2,.str [108,42],.str [],.int .i64 4,.z9,.z9,.z9,.z9,.z9,.z9,.z9,.z9,.z9,.ff,.ff,.ff,.z9,.z9,.z9,.ff,.sla (some ⟨b3,0,none⟩) 2 2,.str [115,42],.str [],.int .i64 5,.z9,.z9,.z9,.z9,.z9,.z9,.z9,.z9,.z9,.ff,.ff,.ff,.z9,.z9,.z9,.ff,.sla (some ⟨b4,0,none⟩) 2 2,.str [102,101,110,99,101],.str [],.int .i64 7,.z9,.z9,.z9,.z9,.z9,.z9,.z9,.z9,.z9,.ff,.ff,.ff,.z9,.z9,.z9,.ff,.sla (some ⟨b5,0,none⟩) 2 2,.str [98,101,113,122],.str [],.int .i64 9,.z9,.z9,.z9,.z9,.z9,.z9,.z9,.z9,.z9,.ff,.ff,.ff,.z9,.z9,.z9,.tt,.sla (some ⟨b6,0,none⟩) 2 2,.str [98,110,101,122],.str [],.int .i64 9,.z9,.z9,.z9,.z9,.z9,.z9,.z9,.z9,.z9,.ff,.ff,.ff,.z9,.z9,.z9,.ff,.sla (some ⟨b7,0,none⟩) 2 2]),(b7,[.int .i64 2,.int .i64 7]),(b6,[.int .i64 2,.int .i64 7]),(b5,[.int .i64 8,.int .i64 9]),(b4,[.int .i64 2,.int .i64 6]),(b3,[.int .i64 1,.int .i64 6]),(b2,[.int .i64 1,.int .i64 2]),(b1,[.int .i64 1,.int .i64 5])]
theorem nD:Ly Tryz.prog 196 [] [] (fun x w w'=>∃b1 b2 b3 b4 b5 b6 b7 b8:Nat,x=.sla (some ⟨b8,0,none⟩) 7 7∧Acc w.heap.size (EN b1 b2 b3 b4 b5 b6 b7 b8) w' []):=
 EA (n:=23) (by kernel_rfl) Tryz.func196 U U U fun G w a h0 A=>have B:=A;have hA:Acc w.heap.size [] w _:=Acc.nil;N9 8 A U U fun A=>Dm [.n9 1,.n9 5] (X:=⟨_,true⟩) hX B hA A U U U U fun b1 B hA A=>
 N9 2 A U U fun A=>Dm [.n9 1,.n9 2] (X:=⟨_,true⟩) hX B hA A U U U U fun b2 B hA A=>
 N9 2 A U U fun A=>Dm [.n9 1,.n9 6] (X:=⟨_,true⟩) hX B hA A U U U U fun b3 B hA A=>
 N9 2 A U U fun A=>Dm [.n9 2,.n9 6] (X:=⟨_,true⟩) hX B hA A U U U U fun b4 B hA A=>
 N9 2 A U U fun A=>Dm [.n9 8,.n9 9] (X:=⟨_,true⟩) hX B hA A U U U U fun b5 B hA A=>
 N9 2 A U U fun A=>Dm [.n9 2,.n9 7] (X:=⟨_,true⟩) hX B hA A U U U U fun b6 B hA A=>
 N9 2 A U U fun A=>Dm [.n9 2,.n9 7] (X:=⟨_,true⟩) hX B hA A U U U U fun b7 B hA A=>
 N9 1 A U U fun A=>Dm [.str [108,105],.str [],.n9 1,.z9,.z9,.z9,.z9,.z9,.z9,.z9,.z9,.z9,.ff,.ff,.ff,.z9,.z9,.z9,.ff,.sla (some ⟨b1,0,none⟩) 2 2,.str [109,118],.str [],.n9 2,.z9,.z9,.z9,.z9,.z9,.z9,.z9,.z9,.z9,.ff,.ff,.ff,.z9,.z9,.z9,.ff,.sla (some ⟨b2,0,none⟩) 2 2,.str [108,42],.str [],.n9 4,.z9,.z9,.z9,.z9,.z9,.z9,.z9,.z9,.z9,.ff,.ff,.ff,.z9,.z9,.z9,.ff,.sla (some ⟨b3,0,none⟩) 2 2,.str [115,42],.str [],.n9 5,.z9,.z9,.z9,.z9,.z9,.z9,.z9,.z9,.z9,.ff,.ff,.ff,.z9,.z9,.z9,.ff,.sla (some ⟨b4,0,none⟩) 2 2,.str [102,101,110,99,101],.str [],.n9 7,.z9,.z9,.z9,.z9,.z9,.z9,.z9,.z9,.z9,.ff,.ff,.ff,.z9,.z9,.z9,.ff,.sla (some ⟨b5,0,none⟩) 2 2,.str [98,101,113,122],.str [],.n9 9,.z9,.z9,.z9,.z9,.z9,.z9,.z9,.z9,.z9,.ff,.ff,.ff,.z9,.z9,.z9,.tt,.sla (some ⟨b6,0,none⟩) 2 2,.str [98,110,101,122],.str [],.n9 9,.z9,.z9,.z9,.z9,.z9,.z9,.z9,.z9,.z9,.ff,.ff,.ff,.z9,.z9,.z9,.ff,.sla (some ⟨b7,0,none⟩) 2 2] (X:=⟨_,true⟩) hX B hA A U U U U fun b8 B hA A=>
 N9 4 A U U fun A=>JS (J:=fun x w w'=>∃b1 b2 b3 b4 b5 b6 b7 b8:Nat,x=.sla (some ⟨b8,0,none⟩) 7 7∧Acc w.heap.size (EN b1 b2 b3 b4 b5 b6 b7 b8) w' []) hX (B.trans A) (fun i e he=>CC he) U U U U ⟨b1,b2,b3,b4,b5,b6,b7,b8,rfl,(hA.now A).bare⟩
def J4 (b1 b2 b3 b4 b5 b6 b7:Nat):List Rw:=[⟨[108,105],[],⟨1,0,0,0,0,0,0,0,0,0,false,false,false,0,0,0,false⟩,some ⟨b1,0,none⟩,[1,5],2⟩,⟨[109,118],[],⟨2,0,0,0,0,0,0,0,0,0,false,false,false,0,0,0,false⟩,some ⟨b2,0,none⟩,[1,2],2⟩,⟨[108,42],[],⟨4,0,0,0,0,0,0,0,0,0,false,false,false,0,0,0,false⟩,some ⟨b3,0,none⟩,[1,6],2⟩,⟨[115,42],[],⟨5,0,0,0,0,0,0,0,0,0,false,false,false,0,0,0,false⟩,some ⟨b4,0,none⟩,[2,6],2⟩,⟨[102,101,110,99,101],[],⟨7,0,0,0,0,0,0,0,0,0,false,false,false,0,0,0,false⟩,some ⟨b5,0,none⟩,[8,9],2⟩,⟨[98,101,113,122],[],⟨9,0,0,0,0,0,0,0,0,0,false,false,false,0,0,0,true⟩,some ⟨b6,0,none⟩,[2,7],2⟩,⟨[98,110,101,122],[],⟨9,0,0,0,0,0,0,0,0,0,false,false,false,0,0,0,false⟩,some ⟨b7,0,none⟩,[2,7],2⟩]
def nE:List (List UInt8×List UInt8×In×List Int):=[([108,105],[],⟨1,0,0,0,0,0,0,0,0,0,false,false,false,0,0,0,false⟩,[1,5]),([109,118],[],⟨2,0,0,0,0,0,0,0,0,0,false,false,false,0,0,0,false⟩,[1,2]),([108,42],[],⟨4,0,0,0,0,0,0,0,0,0,false,false,false,0,0,0,false⟩,[1,6]),([115,42],[],⟨5,0,0,0,0,0,0,0,0,0,false,false,false,0,0,0,false⟩,[2,6]),([102,101,110,99,101],[],⟨7,0,0,0,0,0,0,0,0,0,false,false,false,0,0,0,false⟩,[8,9]),([98,101,113,122],[],⟨9,0,0,0,0,0,0,0,0,0,false,false,false,0,0,0,true⟩,[2,7]),([98,110,101,122],[],⟨9,0,0,0,0,0,0,0,0,0,false,false,false,0,0,0,false⟩,[2,7])]
def G7:List (List UInt8×List UInt8×In×List Int):=(Mw++Mx)++nE
theorem TS {b1 b2 b3 b4 b5 b6 b7 b8 lo lo2:Nat}{w:World}{ks:ae}(h:Acc lo (EN b1 b2 b3 b4 b5 b6 b7 b8) w ks)(D2:lo2≤lo):RowsIn lo2 (J4 b1 b2 b3 b4 b5 b6 b7) w ks:=by
 intro r hr
 unfold J4 at hr
 simp only [η5,ι5,ν5]at hr
 rcases hr with rfl|rfl|rfl|rfl|rfl|rfl|rfl
 ·have q:=BD (b:=b1) (cs:=[]) [1,5] h (by show _∈EN b1 b2 b3 b4 b5 b6 b7 b8;unfold EN;simp);exact⟨q.1,fun z hz=>β3 D2 (q.2 z hz)⟩
 ·have q:=BD (b:=b2) (cs:=[]) [1,2] h (by show _∈EN b1 b2 b3 b4 b5 b6 b7 b8;unfold EN;simp);exact⟨q.1,fun z hz=>β3 D2 (q.2 z hz)⟩
 ·have q:=BD (b:=b3) (cs:=[]) [1,6] h (by show _∈EN b1 b2 b3 b4 b5 b6 b7 b8;unfold EN;simp);exact⟨q.1,fun z hz=>β3 D2 (q.2 z hz)⟩
 ·have q:=BD (b:=b4) (cs:=[]) [2,6] h (by show _∈EN b1 b2 b3 b4 b5 b6 b7 b8;unfold EN;simp);exact⟨q.1,fun z hz=>β3 D2 (q.2 z hz)⟩
 ·have q:=BD (b:=b5) (cs:=[]) [8,9] h (by show _∈EN b1 b2 b3 b4 b5 b6 b7 b8;unfold EN;simp);exact⟨q.1,fun z hz=>β3 D2 (q.2 z hz)⟩
 ·have q:=BD (b:=b6) (cs:=[]) [2,7] h (by show _∈EN b1 b2 b3 b4 b5 b6 b7 b8;unfold EN;simp);exact⟨q.1,fun z hz=>β3 D2 (q.2 z hz)⟩
 ·have q:=BD (b:=b7) (cs:=[]) [2,7] h (by show _∈EN b1 b2 b3 b4 b5 b6 b7 b8;unfold EN;simp);exact⟨q.1,fun z hz=>β3 D2 (q.2 z hz)⟩
theorem V3 (b1 b2 b3 b4 b5 b6 b7 b8:Nat):AO [] ((J4 b1 b2 b3 b4 b5 b6 b7).flatMap A8)=AO [] [.str [108,105],.str [],.n9 1,.z9,.z9,.z9,.z9,.z9,.z9,.z9,.z9,.z9,.ff,.ff,.ff,.z9,.z9,.z9,.ff,.sla (some ⟨b1,0,none⟩) 2 2,.str [109,118],.str [],.n9 2,.z9,.z9,.z9,.z9,.z9,.z9,.z9,.z9,.z9,.ff,.ff,.ff,.z9,.z9,.z9,.ff,.sla (some ⟨b2,0,none⟩) 2 2,.str [108,42],.str [],.n9 4,.z9,.z9,.z9,.z9,.z9,.z9,.z9,.z9,.z9,.ff,.ff,.ff,.z9,.z9,.z9,.ff,.sla (some ⟨b3,0,none⟩) 2 2,.str [115,42],.str [],.n9 5,.z9,.z9,.z9,.z9,.z9,.z9,.z9,.z9,.z9,.ff,.ff,.ff,.z9,.z9,.z9,.ff,.sla (some ⟨b4,0,none⟩) 2 2,.str [102,101,110,99,101],.str [],.n9 7,.z9,.z9,.z9,.z9,.z9,.z9,.z9,.z9,.z9,.ff,.ff,.ff,.z9,.z9,.z9,.ff,.sla (some ⟨b5,0,none⟩) 2 2,.str [98,101,113,122],.str [],.n9 9,.z9,.z9,.z9,.z9,.z9,.z9,.z9,.z9,.z9,.ff,.ff,.ff,.z9,.z9,.z9,.tt,.sla (some ⟨b6,0,none⟩) 2 2,.str [98,110,101,122],.str [],.n9 9,.z9,.z9,.z9,.z9,.z9,.z9,.z9,.z9,.z9,.ff,.ff,.ff,.z9,.z9,.z9,.ff,.sla (some ⟨b7,0,none⟩) 2 2]:=by rfl
section
variable {n:Nat}{ks:ae}{G0:Gr}{w0:World}{T:List (Nat×SV)}{H:Hp}{G:Gr}{a:Act}{w:World}{Q:ab}{K:List Fr}{ops:ah}{o:Oper}{rest:ai}
theorem V4 (A:Sy n T H ks G0 w0 G a w) (h1:Bi n ops T o=some (196,[]))
  (k:∀b1 b2 b3 b4 b5 b6 b7 b8 vs a' w',AO [] ((J4 b1 b2 b3 b4 b5 b6 b7).flatMap A8)=some vs→K2 b8 0 vs w' (keys H G)→RowsIn w.heap.size (J4 b1 b2 b3 b4 b5 b6 b7) w' (keys H G)→Sy n (BN T o.dst (.sla (some ⟨b8,0,none⟩) 7 7)) H ks G0 w0 G a' w'→Goal Tryz.prog Q K (.ops ops rest) a' w'):Goal Tryz.prog Q K (.ops ops (o::rest)) a w:=by
 refine Om [] nD A h1 U U U U fun x a' w' hJ hk A'=>?_
 obtain⟨b1,b2,b3,b4,b5,b6,b7,b8,rfl,hA⟩:=hJ
 have hA:=Ix hA hk
 obtain⟨_,vs,q1,q2⟩:=hA _ ζ4
 exact k b1 b2 b3 b4 b5 b6 b7 b8 vs a' w' ((V3 b1 b2 b3 b4 b5 b6 b7 b8).trans q1) q2 (TS hA (β8 _)) A'
end
theorem fD:Fn Tryz.prog 147 [] [] (Rt (.agg [.str [97,48],.str [97,49],.str [97,50],.str [97,51],.str [97,52],.str [97,53],.str [97,54],.str [97,55]]) []):=
 AR (n:=2) (by kernel_rfl) Tryz.func147 U U U fun G w a h0 A=>N9 12 A U U fun A=>R9 A U h0 U U U
theorem LU:Ly Tryz.prog 146 [] [] (fun x w w'=>∃(L:List Rw) (b cp:Nat),x=.agg [.str [97,48],.str [97,49],.str [97,50],.str [97,51],.str [97,52],.str [97,53],.str [97,54],.str [97,55],.str [98],.str [104],.str [119],.str [100],.str [],.str [114],.str [119],.str [114,119],.sla (some ⟨b,0,none⟩) 25 cp]∧(L.map tm=G7∧RowsIn w.heap.size L w' [b])∧w.heap.size≤b∧CI 203 20 25 (fun zz=>A8 (L.getD zz Rw.z)) b cp w'):=
 EA (n:=10) (by kernel_rfl) Tryz.func146 U U U fun G w a h0 A=>N9 7 A U U fun A=>C9 [] (fD) A U fun A=>N9 2 A U U fun A=>have hz:=A.mix.size;HN (t:=4) (F:=fun(L:List Rw) zz=>A8 (L.getD zz Rw.z)) (R:=fun L b w w'=>L.map tm=Mw∧RowsIn w.heap.size L w' [b]) fA A U U fun L1 b1 cp1 a1 w1 G1 iQ D2 hk A=>have l1:L1.length=10:=(by have q:=congrArg List.length iQ.1;rw [ε7]at q;exact q);have hI:=(EF iQ.2 hk).mono hz;have B:=A;have A:=B.base;
 have hz:=β3 B.mix.size A.mix.size;HN (t:=5) (F:=fun(L:List Rw) zz=>A8 (L.getD zz Rw.z)) (R:=fun L b w w'=>L.map tm=Mx∧RowsIn w.heap.size L w' [b]) fC A U U fun L2 b2 cp2 a2_ w2 G2 wH D2 hk A=>have l2:L2.length=8:=(by have q:=congrArg List.length wH.1;rw [ε7]at q;exact q);have Bu:=(EF wH.2 hk).mono hz;have hI:=(RowsIn.ok _ _ _ _ hI A.mix A.keys_own).app Bu;have l12:(L1++L2).length=18:=(by rw [α4,l1,l2]);have B:=B.trans A;have A:=A.base;
 have hz:=β3 B.mix.size A.mix.size;V4 A U fun c1 c2 c3 c4 c5 c6 c7 c8 vs a3 w3 hv hL hO A=>have hI:=(RowsIn.ok _ _ _ _ hI A.mix A.keys_own).app (hO.mono hz);have B:=B.trans A;have A:=A.base;have A:=A.adoptL Rw.z A8 20 IF.1 IF.2.1 IF.2.2 (J4 c1 c2 c3 c4 c5 c6 c7) hL hv 6 U;
 N9 1 A U U fun A=>have A:=A.freeze 1 U;have A:=A.freeze 2 U;C9 [4,1,2,3] (Ye L1 L2 (J4 c1 c2 c3 c4 c5 c6 c7) 0 0 7 l1 l12) A U fun A=>match A.giveRow 5 8 (by decide) U U U with|⟨b,cp,A2,hG,ho,Pd⟩=>(have h1:=RowsIn.ok _ _ _ _ hI A2.mix A2.keys_own;have h2:=RowsIn.ok _ _ _ [b] hI A2.mix (fun b2 hb=>by have:b2=b:=(by simpa using hb);rw [this];exact ho);have Er:=IW B (fun i e he=>CC he) ho;have B:=B.trans A2;have A:=A2.base;
 N9 5 A U U fun A=>JS (J:=fun x w w'=>∃(L:List Rw) (b cp:Nat),x=.agg [.str [97,48],.str [97,49],.str [97,50],.str [97,51],.str [97,52],.str [97,53],.str [97,54],.str [97,55],.str [98],.str [104],.str [119],.str [100],.str [],.str [114],.str [119],.str [114,119],.sla (some ⟨b,0,none⟩) 25 cp]∧(L.map tm=G7∧RowsIn w.heap.size L w' [b])∧w.heap.size≤b∧CI 203 20 25 (fun zz=>A8 (L.getD zz Rw.z)) b cp w') hX (B.trans A) (fun i e he=>CC he) U U U U ⟨(L1++L2)++(J4 c1 c2 c3 c4 c5 c6 c7),b,cp,rfl,⟨by rw [ζ5,ζ5,iQ.1,wH.1];rfl,h1.one h2 A.mix⟩,Er,hG.mix A.mix Pd⟩)
end
section
open Go.RowKit
section
variable {g:Lg}{L:List Rw}{i:In}{lb:ag}{r:Rw}
theorem PH (h:ER i=false):Bs i.op i.dst i.ra i.rb i.imm i.loc i.off i.ix i.sz i.fn i.acq i.weak i.rel i.pred i.succ i.to_ i.zero=true:=by
 cases hs:Bs i.op i.dst i.ra i.rb i.imm i.loc i.off i.ix i.sz i.fn i.acq i.weak i.rel i.pred i.succ i.to_ i.zero with
 |true=>rfl
 |false=>
  exfalso
  unfold ER Fy at h
  rw [hs,Bool.not_false,ρ9,if_pos U]at h
  exact absurd h (by decide)
theorem Dx (h:CH i.op i.dst i.ra i.rb i.imm i.loc i.off i.ix i.sz i.fn i.acq i.weak i.rel i.pred i.succ i.to_ i.zero=true):0≤i.loc∧i.loc<3:=by
 unfold CH at h
 split at h
 ·split at h
  ·omega
  ·cases h
 ·cases h
theorem Yf (h:ER i=false)(ho:i.op=4∨i.op=5∨i.op=6):0≤i.loc∧i.loc<3:=by
 have hs:=PH h
 unfold Bs at hs
 rw [if_neg (by omega),if_neg (by omega),if_neg (by omega)]at hs
 rcases ho with ho|ho|ho
 ·rw [if_pos ho]at hs
  split at hs
  ·rw [α3]at hs;exact Dx hs.1
  ·cases hs
 ·rw [if_neg (by omega),if_pos ho]at hs
  split at hs
  ·exact Dx hs
  ·cases hs
 ·rw [if_neg (by omega),if_neg (by omega),if_pos ho]at hs
  split at hs
  ·split at hs
   ·rw [α3]at hs;exact Dx hs.1
   ·cases hs
  ·cases hs
theorem SD (h:ER i=false)(ho:i.op=7):(1≤i.pred∧i.pred≤3)∧(1≤i.succ∧i.succ≤3):=by
 have hs:=PH h
 unfold Bs at hs
 rw [if_neg (by omega),if_neg (by omega),if_neg (by omega),if_neg (by omega),if_neg (by omega),if_neg (by omega),if_pos ho]at hs
 split at hs
 ·next hp=>
  simp only [β9,ε5]at hp hs
  omega
 ·cases hs
theorem V5 (i J:In)(p:Int):(Dv i J p).op=J.op:=by
 unfold Dv
 repeat' split
 all_goals rfl
theorem fE (r:Rw)(i:In):(r.lay i).op=r.ins.op:=by
 have:∀(l:List Int) (J:In),(l.foldl (Dv i) J).op=J.op:=by
  intro l
  induction l with
  |nil=>intro J;rfl
  |cons p l ih=>intro J;rw [υ2,ih,V5]
 exact this r.ps (bare r.ins)
theorem fF (h:Fi L i=true):i.op=(Au L i).ins.op:=by
 unfold Fi at h
 unfold Au
 cases hf:L.find? (Fh i)with
 |none=>rw [hf]at h;cases h
 |some r=>
  have:=υ3 hf
  unfold Fh at this
  rw [α3]at this
  have h2:=this.1
  unfold PE at h2
  rw [α3,ε5,fE]at h2
  exact h2.1.symm
end
def x8 (g:Lg)(T:List (List UInt8×List UInt8×In×List Int)):Bool:=T.all fun x=>
 decide (x.1.length≤1000)&&decide (Lib.countB (S x.1) (S [42])≤1000)&&decide (x.2.2.2.length≤4)&&decide (x.2.1.length≤1000)&&
 ((List.range 4).all fun k=>decide ((Lib.replace x.1 [42] (g.let.getD k []) 1).length≤1000))&&
 (x.2.2.2.all fun p=>(!(p==6)||(x.2.2.1.op==4||(x.2.2.1.op==5||x.2.2.1.op==6)))&&(!(p==8||p==9)||x.2.2.1.op==7))
theorem SE {B:Nat}:∀(l:List (List UInt8)),(∀x∈l,x.length≤B)→Lib.lens l≤l.length*B
 | [],_=>by simp [Lib.lens]
 |x::l,h=>by
  have h1:=SE l (fun y hy=>h y (κ6 _ hy))
  have h2:=h x ζ4
  have e:Lib.lens (x::l)=x.length+Lib.lens l:=by simp [Lib.lens]
  rw [e,β0,θ6];omega
theorem join_le {B:Nat}(l:List (List UInt8))(h:∀x∈l,x.length≤B):(Lib.join l [44]).length≤l.length*(B+1):=by
 cases l with
 |nil=>exact β7 _
 |cons x l=>
  rw [Lib.join_length]
  have:=SE (x::l) h
  rw [Nat.mul_add,β0]at*
  simp only [β0,β2]
  omega
theorem Yg:x8 EU Nw=true:=by decide+kernel
theorem N3 {a b c:ag}{B:Nat}(ha:a.length≤B)(hb:b.length≤B)(hc:c.length≤B)(k:Nat):([a,b,c].getD k []).length≤B:=by
 by_cases h:k<3
 ·have:k=0∨k=1∨k=2:=by omega
  rcases this with rfl|rfl|rfl
  ·exact ha
  ·exact hb
  ·exact hc
 ·rw [α8,γ5 (by simpa using h)];exact β7 _
structure jD (g:Lg):Prop where
 lg:YV g
 lt:∀k,([g.l0,g.l1,g.l2,g.l3].getD k []).length≤1000
 f0:g.f0.length≤1000
 f1:g.f1.length≤1000
 f2:g.f2.length≤1000
structure Z7 (i:In):Prop where
 im: -9223372036854775808≤i.imm∧i.imm≤9223372036854775807
 of_: -9223372036854775808≤i.off∧i.off≤9223372036854775807
section
variable {g:Lg}{L:List Rw}{i:In}{lb:ag}{r:Rw}
theorem fG (hg:jD g)(hi:Z7 i):(PG g i).length≤1100:=by
 have q1:=hg.lg.rg i.ix
 have q2:=Lib.itoa_length_le i.off hi.of_.1 hi.of_.2
 have q3:=N3 (a:=[120]) (b:=[121]) (c:=[122]) (B:=1) (by decide) (by decide) (by decide) (i.loc).toNat
 unfold PG QO eP
 split<;>split<;>(simp only [α4,β0,β2];omega)
theorem fH (hg:jD g)(hi:Z7 i)(hw:r.wd.length≤1000)(p:Int):(Jf g r p i lb).length≤2000+lb.length:=by
 have q1:=hg.lg.rg (Fz p i).1
 have q2:=Lib.itoa_length_le i.imm hi.im.1 hi.im.2
 have q3:=hg.lg.im
 have q4:=fG hg hi
 have q5:=N3 hg.f0 hg.f1 hg.f2 (i.pred - 1).toNat
 have q6:=N3 hg.f0 hg.f1 hg.f2 (i.succ - 1).toNat
 unfold Jf
 split
 ·omega
 split
 ·rw [α4];omega
 split
 ·omega
 split
 ·omega
 split
 ·omega
 split
 ·omega
 ·omega
theorem V6 {T:List (List UInt8×List UInt8×In×List Int)}(hm:L.map tm=T)(hg:jD g)(hB:x8 g T=true)(hn:T.length≤1000)(hi:Z7 i)(hl:lb.length≤100000):MG g L i lb:=by
 have hlen:L.length≤1000:=by have:=congrArg List.length hm;rw [ε7]at this;omega
 have MN:∀r∈L,r.nm.length≤1000∧Lib.countB (S r.nm) (S [42])≤1000∧r.ps.length≤4∧r.wd.length≤1000∧(∀k,k<4→(Lib.replace r.nm [42] (g.let.getD k []) 1).length≤1000)∧∀p∈r.ps,(p=6→r.ins.op=4∨r.ins.op=5∨r.ins.op=6)∧(p=8∨p=9→r.ins.op=7):=fun r hr=>by
  have:=(δ3.1 hB) _ (e8 hm hr)
  simp only [α3,δ4]at this
  obtain⟨⟨⟨⟨⟨h1,h2⟩,h3⟩,h4⟩,h5⟩,h6⟩:=this
  refine⟨h1,h2,h3,h4,fun k hk=>?_,fun p hp=>?_⟩
  ·have:=(δ3.1 h5) k (ζ8.2 hk)
   exact δ5 this
  ·have:=(δ3.1 h6) p hp
   simp only [α3,β9,κ0,ε5,δ7,ε3]at this
   obtain⟨a1,a2⟩:=this
   refine⟨fun e=>?_,fun e=>?_⟩
   ·rcases a1 with a1|a1
    ·exact absurd e a1
    ·exact a1
   ·rcases a2 with a2|a2
    ·rcases e with e|e
     ·exact absurd e a2.1
     ·exact absurd e a2.2
    ·exact a2
 have hz:∀k,(L.getD k Rw.z)∈L∨L.getD k Rw.z=Rw.z:=fun k=>by
  by_cases h:k<L.length
  ·left;rw [α8,β4 h];exact ι3 h
  ·right;rw [α8,γ5 (by omega)];rfl
 have hr:Au L i∈L∨Au L i=Rw.z:=by
  unfold Au
  cases hf:L.find? (Fh i)with
  |none=>exact .inr U
  |some r=>exact .inl (List.mem_of_find?_eq_some hf)
 have rP:Rw.z.nm=[]∧Rw.z.ps=[]∧Rw.z.wd=[]:=⟨rfl,rfl,rfl⟩
 have hnl:(GN g (Au L i).nm i.sz).length≤1000:=by
  unfold GN
  split
  ·next hk=>
   rcases hr with hr|hr
   ·exact(MN _ hr).2.2.2.2.1 _ hk
   ·rw [hr,rP.1]
    have:Vn i.sz=0∨Vn i.sz=1∨Vn i.sz=2∨Vn i.sz=3:=by omega
    have e:∀y:List UInt8,(Lib.replace [] [42] y 1)=[]:=fun y=>by
     unfold Lib.replace
     split
     ·rfl
     ·have hc:Lib.index [] [42]= -1:=by decide
      cases Lib.replaceNum [] [42] 1 with
      |zero=>rfl
      |succ k=>unfold Lib.replaceK;rw [hc];rfl
    rw [e];exact β7 _
  ·rcases hr with hr|hr
   ·exact(MN _ hr).1
   ·rw [hr,rP.1];exact β7 _
 refine⟨hg.lg,hg.lt,fun k=>?_,by omega,hi.im,?_,fun hw hq k hk=>?_,by omega,?_⟩
 ·rcases hz k with h|h
  ·have:=(MN _ h).2.2.1;omega
  ·rw [h,rP.2.1];exact β7 _
 ·rcases hr with hr|hr
  ·exact⟨(MN _ hr).1,(MN _ hr).2.1⟩
  ·rw [hr,rP.1];exact⟨β7 _,by decide⟩
 ·have ZF:=Ke hq
  have BM:=fF hq
  have hp:(Au L i).ps.getD k 0∈(Au L i).ps:=by rw [α8,β4 hk];exact ι3 hk
  obtain⟨h6,yV⟩:=(MN _ ZF).2.2.2.2.2 _ hp
  refine⟨fun e=>⟨Yf hw (by rw [BM];exact h6 e),hi.of_⟩,fun e=>(SD hw (by rw [BM];exact yV (.inl e))).1,fun e=>(SD hw (by rw [BM];exact yV (.inr e))).2⟩
 ·have ZO:(Au L i).ps.length≤4∧(Au L i).wd.length≤1000:=by
   rcases hr with hr|hr
   ·exact⟨(MN _ hr).2.2.1,(MN _ hr).2.2.2.1⟩
   ·rw [hr];exact⟨β7 _,β7 _⟩
  have h1:=join_le (B:=2000+lb.length) (Jh g (Au L i) i lb) (fun x hx=>by
   unfold Jh at hx
   obtain⟨p,_,rfl⟩:=List.mem_map.1 hx
   exact fH hg hi ZO.2 p)
  have h2:(Jh g (Au L i) i lb).length≤4:=by unfold Jh;rw [ε7];exact ZO.1
  have h3:(Jh g (Au L i) i lb).length*(2000+lb.length+1)≤4*(2000+lb.length+1):=θ2 _ h2
  omega
end
theorem fI:jD EU:=by
 refine⟨⟨fun r=>?_,by decide⟩,fun k=>?_,by decide,by decide,by decide⟩
 ·unfold GD
  split
  ·exact β7 _
  ·next h=>
   have:r.toNat=0∨r.toNat=1∨r.toNat=2∨r.toNat=3∨r.toNat=4∨r.toNat=5∨r.toNat=6∨r.toNat=7:=by
    simp only [β9,δ4]at h;omega
   rcases this with e|e|e|e|e|e|e|e<;>rw [e]<;>decide
 ·by_cases h:k<4
  ·have:k=0∨k=1∨k=2∨k=3:=by omega
   rcases this with rfl|rfl|rfl|rfl<;>decide
  ·rw [α8,γ5 (by simpa using h)];decide
theorem V7 {L:List Rw}{i:In}{lb:ag}(hi:Z7 i)(hl:lb.length≤100000)(hm:L.map tm=Nw):MG EU L i lb:=V6 hm fI Yg (by decide+kernel) hi hl
end
section
open Go.RowKit
set_option simprocs false
def CT:Lg:=⟨[97,48],[97,49],[97,50],[97,51],[97,52],[97,53],[97,54],[97,55],[98],[104],[119],[100],[],[114],[119],[114,119]⟩
def H7:List Rw:=G7.map YZ
theorem PJ {L:List Rw}{i:In}{lb:ag}(h:L.map tm=G7):DW CT L i lb=DW CT H7 i lb:=by
 have:=QT (g:=CT) (L:=L) (i:=i) (lb:=lb)
 rw [Vz h]at this
 exact this.symm
theorem V8:jD CT:=by
 refine⟨⟨fun r=>?_,by decide⟩,fun k=>?_,by decide,by decide,by decide⟩
 ·unfold GD
  split
  ·exact β7 _
  ·next h=>
   have:r.toNat=0∨r.toNat=1∨r.toNat=2∨r.toNat=3∨r.toNat=4∨r.toNat=5∨r.toNat=6∨r.toNat=7:=by
    simp only [β9,δ4]at h;omega
   rcases this with e|e|e|e|e|e|e|e<;>rw [e]<;>decide
 ·by_cases h:k<4
  ·have:k=0∨k=1∨k=2∨k=3:=by omega
   rcases this with rfl|rfl|rfl|rfl<;>decide
  ·rw [α8,γ5 (by simpa using h)];decide
theorem QU {L:List Rw}{i:In}{lb:ag}(hi:Z7 i)(hl:lb.length≤100000)(hm:L.map tm=G7):MG CT L i lb:=V6 hm V8 (by decide+kernel) (by decide+kernel) hi hl
abbrev nF:List SV:=[.str [97,48],.str [97,49],.str [97,50],.str [97,51],.str [97,52],.str [97,53],.str [97,54],.str [97,55],.str [98],.str [104],.str [119],.str [100],.str [],.str [114],.str [119],.str [114,119]]
theorem Yh (i:In)(lb:ag)(os:List (Nat×Obj))(hM:Ln os)(hT:PZ os)(hE:Mn os)(hp:∀L:List Rw,L.map tm=G7→MG CT L i lb):BQ (Gl os) Tryz.prog 113 [.agg (AZ i),.str lb] [] (Rt (.tup [.str ((DW CT H7 i lb).1),.n9 ((DW CT H7 i lb).2)]) []):=
 Aa (n:=12) (by kernel_rfl) Tryz.func113 U U U fun G w a h0 hI A=>N9 8 A U U fun A=>Jc 8 BW U A fun{w2} A=>HP (fun(tail:∀(L:List Rw) {G1:Gr} {a1:Act} {w1:World},L.map tm=G7→L.length=25→I8 os L w1 (keys [O (AZ i),au L] G1)→Sy 12 [(6,.agg [.str [97,48],.str [97,49],.str [97,50],.str [97,51],.str [97,52],.str [97,53],.str [97,54],.str [97,55],.str [98],.str [104],.str [119],.str [100],.str [],.str [114],.str [119],.str [114,119],.sl 1 L.length 0]),(7,.agg (AZ i)),(8,.str lb)] [O (AZ i),au L] (keys [] G) G w G1 a1 w1→wpAny Tryz.prog .any _ _ _ _ a1 w1)=>AS (rs:=[0,1,2]) (by kernel_rfl) (by decide) (Ba ⟨CS (l:=nF) (by decide+kernel) hI U LU A U U fun L _ _ _ hR DP Bu A=>have B:=A;have A:=B.base;AS (rs:=[1,2]) (by kernel_rfl) (by decide) (Ba ⟨Cg (.agg (AZ i)) U A U U fun A=>AS (rs:=[2]) (by kernel_rfl) (by decide) (Ba ⟨Cg (.str lb) U A U U fun A=>tail L hR DP (I8.ok.now A Bu) ((B.trans A).cut [6,7,8] U),
    (CM)⟩),
   (Ba ⟨Cg (.str lb) U A U U fun A=>AS (rs:=[1]) (by kernel_rfl) (by decide) (Ba ⟨Cg (.agg (AZ i)) U A U U fun A=>tail L hR DP (I8.ok.now A Bu) ((B.trans A).cut [6,7,8] U),
    (CM)⟩),
   (CM)⟩)⟩),
  (Ba ⟨Cg (.agg (AZ i)) U A U U fun A=>AS (rs:=[0,2]) (by kernel_rfl) (by decide) (Ba ⟨CS (l:=nF) (by decide+kernel) hI U LU A U U fun L _ _ _ hR DP Bu A=>have B:=A;have A:=B.base;AS (rs:=[2]) (by kernel_rfl) (by decide) (Ba ⟨Cg (.str lb) U A U U fun A=>tail L hR DP (I8.ok.now A Bu) ((B.trans A).cut [6,7,8] U),
    (CM)⟩),
   (Ba ⟨Cg (.str lb) U A U U fun A=>AS (rs:=[0]) (by kernel_rfl) (by decide) (Ba ⟨CS (l:=nF) (by decide+kernel) hI U LU A U U fun L _ _ _ hR DP Bu A=>have B:=A;have A:=B.base;tail L hR DP (I8.ok.now A Bu) ((B.trans A).cut [6,7,8] U),
    (CM)⟩),
   (CM)⟩)⟩),
  (Ba ⟨Cg (.str lb) U A U U fun A=>AS (rs:=[0,1]) (by kernel_rfl) (by decide) (Ba ⟨CS (l:=nF) (by decide+kernel) hI U LU A U U fun L _ _ _ hR DP Bu A=>have B:=A;have A:=B.base;AS (rs:=[1]) (by kernel_rfl) (by decide) (Ba ⟨Cg (.agg (AZ i)) U A U U fun A=>tail L hR DP (I8.ok.now A Bu) ((B.trans A).cut [6,7,8] U),
    (CM)⟩),
   (Ba ⟨Cg (.agg (AZ i)) U A U U fun A=>AS (rs:=[0]) (by kernel_rfl) (by decide) (Ba ⟨CS (l:=nF) (by decide+kernel) hI U LU A U U fun L _ _ _ hR DP Bu A=>have B:=A;have A:=B.base;tail L hR DP (I8.ok.now A Bu) ((B.trans A).cut [6,7,8] U),
    (CM)⟩),
   (CM)⟩)⟩),
  (CM)⟩)⟩)⟩)) (fun L {G1 a1 w1} p9 DP Bu A=>have hR:L.map tm=G7∧True:=⟨p9,trivial⟩;have B:=A;have A:=B.base;AS (rs:=[3]) (by kernel_rfl) (by decide) (Ba ⟨E4 (x:=.tup [.str ((DW CT L i lb).1),.n9 ((DW CT L i lb).2)]) (H':=[O (AZ i),au L]) U A U (CU [1] I8.ok Bu (Nv CT L 0 i lb os hM hT hE (hp L hR.1)) U U U U U U U) fun A=>AS (rs:=[4,5]) (by kernel_rfl) (by decide) (Ba ⟨Cg (.str ((DW CT L i lb).1)) U A U U fun A=>AS (rs:=[5]) (by kernel_rfl) (by decide) (Ba ⟨Cg (.int .i64 ((DW CT L i lb).2)) U A U U fun A=>AS (rs:=[6]) (by kernel_rfl) (by decide) (Ba ⟨Cg (.str ((DW CT L i lb).1)) U A U U fun A=>AS (rs:=[7]) (by kernel_rfl) (by decide) (Ba ⟨Cg (.int .i64 ((DW CT L i lb).2)) U A U U fun A=>EJ (by kernel_rfl) (N9 2 A U U fun A=>R9 (B.trans A) U h0 U (by rw [←PJ hR.1]<;>rfl) U),
      (CM)⟩),
     (CM)⟩),
    (CM)⟩),
   (Ba ⟨Cg (.int .i64 ((DW CT L i lb).2)) U A U U fun A=>AS (rs:=[4]) (by kernel_rfl) (by decide) (Ba ⟨Cg (.str ((DW CT L i lb).1)) U A U U fun A=>AS (rs:=[6]) (by kernel_rfl) (by decide) (Ba ⟨Cg (.str ((DW CT L i lb).1)) U A U U fun A=>AS (rs:=[7]) (by kernel_rfl) (by decide) (Ba ⟨Cg (.int .i64 ((DW CT L i lb).2)) U A U U fun A=>EJ (by kernel_rfl) (N9 2 A U U fun A=>R9 (B.trans A) U h0 U (by rw [←PJ hR.1]<;>rfl) U),
      (CM)⟩),
     (CM)⟩),
    (CM)⟩),
   (CM)⟩)⟩),
  (CM)⟩))
end
namespace Ar
open Go.RowKit
set_option simprocs false
section
variable {P:Program}{n:Nat}{ks:ae}{G0:Gr}{w0:World}{T:List (Nat×SV)}{H:Hp}{G:Gr}{a:Act}{w w':World}{Q:ab}{K:List Fr}{ops:ah}{o:Oper}{rest:ai}{c:Code}
theorem MH {q:Nat}(h:Goal P Q (.lp (Code.rounds P c (He P Q K) q)::K) (.code c) a w):Code.rounds P c (He P Q K) (q+1) a w:=h
theorem nC (q:Nat)(h:Code.rounds P c (He P Q K) q a w):Goal P Q K (.code (.loop c)) a w:=wp_loop_rounds q h
end
theorem G6 {i o s m k:Nat}(j:Nat){q:Nat}(hq:o+j*s+k=q):∀G,den G (.ix (.ptr i o) s m (j:Int) k)=den G (.ptr i q):=fun G=>by
 subst hq
 unfold den
 cases hG:G[i]? with
 |none=>unfold den;rw [hG]
 |some p=>cases p with
  |none=>unfold den;rw [hG]
  |some L=>unfold den;rw [hG];simp [η4]
theorem V9 (L1 L2 L3 L4 L5:List Rw) (c1 c2 c3 c4 c5:Nat) (l1:L1.length=10) (l12:(L1++L2).length=15) (l13:((L1++L2)++L3).length=23) (l14:(((L1++L2)++L3)++L4).length=26):Fn Tryz.prog 193 [.sl 0 5 5] [O [.sl 1 10 c1,.sl 2 5 c2,.sl 3 8 c3,.sl 4 3 c4,.sl 5 5 c5],some (.lst 20 10 (fun zz=>A8 (L1.getD zz Rw.z))),some (.lst 20 5 (fun zz=>A8 (L2.getD zz Rw.z))),some (.lst 20 8 (fun zz=>A8 (L3.getD zz Rw.z))),some (.lst 20 3 (fun zz=>A8 (L4.getD zz Rw.z))),some (.lst 20 5 (fun zz=>A8 (L5.getD zz Rw.z)))] (Rt (.sl 6 31 0) [O [.sl 1 10 c1,.sl 2 5 c2,.sl 3 8 c3,.sl 4 3 c4,.sl 5 5 c5],some (.lst 20 10 (fun zz=>A8 (L1.getD zz Rw.z))),some (.lst 20 5 (fun zz=>A8 (L2.getD zz Rw.z))),some (.lst 20 8 (fun zz=>A8 (L3.getD zz Rw.z))),some (.lst 20 3 (fun zz=>A8 (L4.getD zz Rw.z))),some (.lst 20 5 (fun zz=>A8 (L5.getD zz Rw.z))),some (.row 203 20 31 0 (fun zz=>A8 (((((L1++L2)++L3)++L4)++L5).getD zz Rw.z)))]):=
 AR (n:=36) (by kernel_rfl) Tryz.func193 U U U fun G w a h0 A=>N9 15 A U U fun A=>have A:=AG A 10 (.int .i64 5) U (fun _=>rfl);N9 1 A U U fun A=>N9 3 A U U fun A=>nC 6 (MH (have A:=A.cut [0,2,3,9,10,11] U;
 N9 6 A U U fun A=>AU 12 A U
   (fun h1 A=>N9 8 A U (AE (by omega)<|AB) fun A=>have A:=AG A 13 (.ptr 0 0) U (G6 0 U);N9 7 A U U fun A=>N9 2 A U U fun A=>have A:=AG A 17 (.int .i64 10) U (fun _=>rfl);N9 1 A U (AE (by omega)<|AB) fun A=>have A:=AG A 18 (.int .i64 10) U (fun _=>rfl);N9 6 A U U fun A=>N9 3 A U U fun A=>AU 20 A U
    (fun h2 A=>absurd h2 (by decide))
    (fun h2 A=>N9 6 A U (AE (by omega)<|AB) fun A=>have A:=AG A 22 (.int .i64 1) U (fun _=>rfl);N9 1 A U U fun A=>N9 1 A U U fun A=>MH (have A:=A.cut [0,2,3,9,10,11] U;
 N9 6 A U U fun A=>AU 12 A U
     (fun h3 A=>N9 8 A U (AE (by omega)<|AB) fun A=>have A:=AG A 13 (.ptr 0 1) U (G6 1 U);N9 7 A U U fun A=>N9 2 A U U fun A=>have A:=AG A 17 (.int .i64 5) U (fun _=>rfl);N9 1 A U (AE (by omega)<|AB) fun A=>have A:=AG A 18 (.int .i64 15) U (fun _=>rfl);N9 6 A U U fun A=>N9 3 A U U fun A=>AU 20 A U
      (fun h4 A=>absurd h4 (by decide))
      (fun h4 A=>N9 6 A U (AE (by omega)<|AB) fun A=>have A:=AG A 22 (.int .i64 2) U (fun _=>rfl);N9 1 A U U fun A=>N9 1 A U U fun A=>MH (have A:=A.cut [0,2,3,9,10,11] U;
 N9 6 A U U fun A=>AU 12 A U
       (fun h5 A=>N9 8 A U (AE (by omega)<|AB) fun A=>have A:=AG A 13 (.ptr 0 2) U (G6 2 U);N9 7 A U U fun A=>N9 2 A U U fun A=>have A:=AG A 17 (.int .i64 8) U (fun _=>rfl);N9 1 A U (AE (by omega)<|AB) fun A=>have A:=AG A 18 (.int .i64 23) U (fun _=>rfl);N9 6 A U U fun A=>N9 3 A U U fun A=>AU 20 A U
        (fun h6 A=>absurd h6 (by decide))
        (fun h6 A=>N9 6 A U (AE (by omega)<|AB) fun A=>have A:=AG A 22 (.int .i64 3) U (fun _=>rfl);N9 1 A U U fun A=>N9 1 A U U fun A=>MH (have A:=A.cut [0,2,3,9,10,11] U;
 N9 6 A U U fun A=>AU 12 A U
         (fun h7 A=>N9 8 A U (AE (by omega)<|AB) fun A=>have A:=AG A 13 (.ptr 0 3) U (G6 3 U);N9 7 A U U fun A=>N9 2 A U U fun A=>have A:=AG A 17 (.int .i64 3) U (fun _=>rfl);N9 1 A U (AE (by omega)<|AB) fun A=>have A:=AG A 18 (.int .i64 26) U (fun _=>rfl);N9 6 A U U fun A=>N9 3 A U U fun A=>AU 20 A U
          (fun h8 A=>absurd h8 (by decide))
          (fun h8 A=>N9 6 A U (AE (by omega)<|AB) fun A=>have A:=AG A 22 (.int .i64 4) U (fun _=>rfl);N9 1 A U U fun A=>N9 1 A U U fun A=>MH (have A:=A.cut [0,2,3,9,10,11] U;
 N9 6 A U U fun A=>AU 12 A U
           (fun h9 A=>N9 8 A U (AE (by omega)<|AB) fun A=>have A:=AG A 13 (.ptr 0 4) U (G6 4 U);N9 7 A U U fun A=>N9 2 A U U fun A=>have A:=AG A 17 (.int .i64 5) U (fun _=>rfl);N9 1 A U (AE (by omega)<|AB) fun A=>have A:=AG A 18 (.int .i64 31) U (fun _=>rfl);N9 6 A U U fun A=>N9 3 A U U fun A=>AU 20 A U
            (fun GG A=>absurd GG (by decide))
            (fun GG A=>N9 6 A U (AE (by omega)<|AB) fun A=>have A:=AG A 22 (.int .i64 5) U (fun _=>rfl);N9 1 A U U fun A=>N9 1 A U U fun A=>MH (have A:=A.cut [0,2,3,9,10,11] U;
 N9 6 A U U fun A=>AU 12 A U
             (fun Fq A=>absurd Fq (by decide))
             (fun Fq A=>N9 6 A U U fun A=>K8 (t:=24) (F:=fun(L:List Rw) zz=>A8 (L.getD zz Rw.z)) (R:=fun L b w w'=>L=[]) (Z6 31 (by decide) (by decide)) A U U U fun L b1 cp1 a1 w1 G1 hR D2 hk A=>
 N9 8 A U U fun A=>have A:=AG A 26 (.int .i64 5) U (fun _=>rfl);N9 1 A U U fun A=>N9 3 A U U fun A=>nC 6 (MH (have A:=A.cut [2,6,25,26,27] U;
 N9 6 A U U fun A=>AU 28 A U
               (fun OC A=>N9 8 A U (AE (by omega)<|AB) fun A=>have A:=AG A 29 (.ptr 0 0) U (G6 0 U);N9 7 A U U fun A=>Af A U (HV hX 10 (fun zz=>A8 (L1.getD zz Rw.z)) U U U U (β8 _) (by decide) (show 10≤1000000 by decide) U (fun k hk=>absurd hk (υ4 k)) (fun k hk=>by show A8 (L1.getD (0+k) Rw.z)=A8 _;rw [δ1]) (fun z=>⟨_,rfl,rfl⟩) (fun k hk=>⟨_,rfl,AB⟩)) fun A=>
 N9 6 A U (AE (by omega)<|AB) fun A=>have A:=AG A 34 (.int .i64 1) U (fun _=>rfl);N9 1 A U U fun A=>N9 1 A U U fun A=>MH (have A:=A.cut [2,6,25,26,27] U;
 N9 6 A U U fun A=>AU 28 A U
                (fun MM A=>N9 8 A U (AE (by omega)<|AB) fun A=>have A:=AG A 29 (.ptr 0 1) U (G6 1 U);N9 7 A U U fun A=>Af A U (HV hX 15 (fun zz=>A8 ((L1++L2).getD zz Rw.z)) U U U U (β8 _) (by decide) (show 5≤1000000 by decide) U (fun k hk=>by show A8 _=A8 _;rw [BC (by rw [l1];exact hk)]) (fun k hk=>by show A8 ((L1++L2).getD (10+k) Rw.z)=A8 _;rw [show 10+k=L1.length+k by rw [l1],Br]) (fun z=>⟨_,rfl,rfl⟩) (fun k hk=>⟨_,rfl,AB⟩)) fun A=>
 N9 6 A U (AE (by omega)<|AB) fun A=>have A:=AG A 34 (.int .i64 2) U (fun _=>rfl);N9 1 A U U fun A=>N9 1 A U U fun A=>MH (have A:=A.cut [2,6,25,26,27] U;
 N9 6 A U U fun A=>AU 28 A U
                 (fun Qs A=>N9 8 A U (AE (by omega)<|AB) fun A=>have A:=AG A 29 (.ptr 0 2) U (G6 2 U);N9 7 A U U fun A=>Af A U (HV hX 23 (fun zz=>A8 (((L1++L2)++L3).getD zz Rw.z)) U U U U (β8 _) (by decide) (show 8≤1000000 by decide) U (fun k hk=>by show A8 _=A8 _;rw [BC (by rw [l12];exact hk)]) (fun k hk=>by show A8 (((L1++L2)++L3).getD (15+k) Rw.z)=A8 _;rw [show 15+k=(L1++L2).length+k by rw [l12],Br]) (fun z=>⟨_,rfl,rfl⟩) (fun k hk=>⟨_,rfl,AB⟩)) fun A=>
 N9 6 A U (AE (by omega)<|AB) fun A=>have A:=AG A 34 (.int .i64 3) U (fun _=>rfl);N9 1 A U U fun A=>N9 1 A U U fun A=>MH (have A:=A.cut [2,6,25,26,27] U;
 N9 6 A U U fun A=>AU 28 A U
                  (fun SR A=>N9 8 A U (AE (by omega)<|AB) fun A=>have A:=AG A 29 (.ptr 0 3) U (G6 3 U);N9 7 A U U fun A=>Af A U (HV hX 26 (fun zz=>A8 ((((L1++L2)++L3)++L4).getD zz Rw.z)) U U U U (β8 _) (by decide) (show 3≤1000000 by decide) U (fun k hk=>by show A8 _=A8 _;rw [BC (by rw [l13];exact hk)]) (fun k hk=>by show A8 ((((L1++L2)++L3)++L4).getD (23+k) Rw.z)=A8 _;rw [show 23+k=((L1++L2)++L3).length+k by rw [l13],Br]) (fun z=>⟨_,rfl,rfl⟩) (fun k hk=>⟨_,rfl,AB⟩)) fun A=>
 N9 6 A U (AE (by omega)<|AB) fun A=>have A:=AG A 34 (.int .i64 4) U (fun _=>rfl);N9 1 A U U fun A=>N9 1 A U U fun A=>MH (have A:=A.cut [2,6,25,26,27] U;
 N9 6 A U U fun A=>AU 28 A U
                   (fun T0 A=>N9 8 A U (AE (by omega)<|AB) fun A=>have A:=AG A 29 (.ptr 0 4) U (G6 4 U);N9 7 A U U fun A=>Af A U (HV hX 31 (fun zz=>A8 (((((L1++L2)++L3)++L4)++L5).getD zz Rw.z)) U U U U (β8 _) (by decide) (show 5≤1000000 by decide) U (fun k hk=>by show A8 _=A8 _;rw [BC (by rw [l14];exact hk)]) (fun k hk=>by show A8 (((((L1++L2)++L3)++L4)++L5).getD (26+k) Rw.z)=A8 _;rw [show 26+k=(((L1++L2)++L3)++L4).length+k by rw [l14],Br]) (fun z=>⟨_,rfl,rfl⟩) (fun k hk=>⟨_,rfl,AB⟩)) fun A=>
 N9 6 A U (AE (by omega)<|AB) fun A=>have A:=AG A 34 (.int .i64 5) U (fun _=>rfl);N9 1 A U U fun A=>N9 1 A U U fun A=>MH (have A:=A.cut [2,6,25,26,27] U;
 N9 6 A U U fun A=>AU 28 A U
                    (fun XQ A=>absurd XQ (by decide))
                    (fun XQ A=>N9 10 A U U fun A=>KC hX [11] A ⟨rfl,rfl⟩ U U U U U U U U h0)))
                   (fun T0 A=>absurd (by decide) T0)))
                  (fun SR A=>absurd (by decide) SR)))
                 (fun Qs A=>absurd (by decide) Qs)))
                (fun MM A=>absurd (by decide) MM)))
               (fun OC A=>absurd (by decide) OC)))))))
           (fun h9 A=>absurd (by decide) h9))))
         (fun h7 A=>absurd (by decide) h7))))
       (fun h5 A=>absurd (by decide) h5))))
     (fun h3 A=>absurd (by decide) h3))))
   (fun h1 A=>absurd (by decide) h1)))
end Ar
section
open Go.RowKit
set_option simprocs false
theorem fJ:Fn Tryz.prog 149 [] [] (Rt (.agg [.str [88,48],.str [88,49],.str [88,50],.str [88,51],.str [88,52],.str [88,53],.str [88,54],.str [88,55]]) []):=
 AR (n:=2) (by kernel_rfl) Tryz.func149 U U U fun G w a h0 A=>N9 12 A U U fun A=>R9 A U h0 U U U
end
namespace Ar
open Go.RowKit
set_option simprocs false
def c5:List (List UInt8×Int):=[([65,68,68],1),([83,85,66],2),([69,79,82],3),([65,78,68],4),([79,82,82],5)]
abbrev TT (x:List UInt8×Int)(b1:Nat):Rw:=⟨x.1,[],KF 3 x.2,some ⟨b1,0,none⟩,[1,2,3],3⟩
abbrev TU (x:List UInt8×Int)(b2:Nat):Rw:=⟨x.1,[],KF 3 x.2,some ⟨b2,0,none⟩,[1,2,5],3⟩
def My:List (List UInt8×List UInt8×In×List Int):=c5.flatMap fun x=>[(x.1,[],KF 3 x.2,[1,2,3]),(x.1,[],KF 3 x.2,[1,2,5])]
structure AC (lo:Nat)(z:List Rw×Nat)(w:World)(ks:ae):Prop where
 le:z.2≤5
 tm:z.1.map tm=My.take (2*z.2)
 rw:RowsIn lo z.1 w ks
theorem AC.len {lo:Nat}{z:List Rw×Nat}{w:World}{ks:ae}(h:AC lo z w ks):z.1.length=2*z.2:=by
 have h1:=congrArg List.length h.tm
 rw [ε7,δ6]at h1
 have h2:My.length=10:=by decide
 have:=h.le
 omega
theorem AC.nx {lo b1 b2:Nat}{z:List Rw×Nat}{w w1:World}{ks ks1:ae}{l:List (Nat×List SV)}(h:AC lo z w ks)(hk:(z.2:Int)<5)(hr:RowsIn lo z.1 w1 ks1)(hA:Acc lo [(b2,[.n9 1,.n9 2,.n9 5]),(b1,[.n9 1,.n9 2,.n9 3])] w1 ks1):AC lo (z.1++[TT (c5.getD ((z.2:Int)).toNat nz) b1,TU (c5.getD ((z.2:Int)).toNat nz) b2],z.2+1) w1 ks1:=by
 refine⟨by have:=h.le;show z.2+1≤5;omega,?_,fun r OB=>?_⟩
 ·show List.map _ (z.1++_)=_
  rw [ζ5,h.tm,α6]
  have:z.2=0∨z.2=1∨z.2=2∨z.2=3∨z.2=4:=by omega
  rcases this with e|e|e|e|e<;>rw [e]<;>rfl
 ·rcases ζ9.1 OB with h1|h1
  ·exact hr r h1
  ·simp only [η5,ι5,ν5]at h1
   rcases h1 with rfl|rfl
   ·exact BD (cs:=[]) [1,2,3] hA (κ6 _ (ζ4))
   ·exact BD (cs:=[]) [1,2,5] hA (ζ4)
theorem fK:Ly Tryz.prog 197 [] [] (fun x w w'=>∃(L:List Rw) (b cp:Nat),x=.sla (some ⟨b,0,none⟩) 10 cp∧(L.map tm=My∧RowsIn w.heap.size L w' [b])∧w.heap.size≤b∧CI 203 20 10 (fun zz=>A8 (L.getD zz Rw.z)) b cp w'):=
 EA (n:=36) (by kernel_rfl) Tryz.func197 U U U fun G w a h0 A=>N9 13 A U U fun A=>have A:=A.asT nz Ji 2 QR.1 QR.2.1 QR.2.2 c5 0 U;N9 17 A U U fun A=>have A:=A.nilRow 2 203 20 (fun zz=>A8 (([]:List Rw).getD zz Rw.z)) U (fun z=>⟨_,rfl,rfl⟩);GK (fun(z:List Rw×Nat)=>[(0,.sla none 0 0),(2,.sl 1 z.1.length 0),(12,.sl 0 5 5),(13,.n9 ((5:Nat):Int)),(14,.n9 (z.2:Int))]) (fun(z:List Rw×Nat)=>[some (.lst 2 5 (fun zz=>Ji (c5.getD zz nz))),some (.row 203 20 z.1.length 0 (fun zz=>A8 (z.1.getD zz Rw.z)))]) (fun z w1 ks1=>AC w.heap.size z w1 ks1) (fun z=>5 - z.2) ([],0) (A.cut [0,2,12,13,14] U) ⟨by decide,rfl,fun r hr=>by cases hr⟩ fun z G1 a1 w1 hJ hg A B=>have hA:Acc w.heap.size [] w1 _:=Acc.nil;have hR:=hJ.rw;
 N9 6 A U U fun A=>AU 15 A U
   (fun h1 A=>N9 14 A U (AE (by omega)<|AE (by omega)<|AB) fun A=>N9 4 A U U fun A=>have A:=AG A 20 (.agg [.n9 3,.z9,.z9,.z9,.z9,.z9,.z9,.z9,.z9,.n9 ((c5.getD (((z.2:Int)).toNat) nz).2),.bool false,.bool false,.bool false,.z9,.z9,.z9,.bool false]) U (fun _=>rfl);N9 9 A U U fun A=>L7 [.n9 1,.n9 2,.n9 3] (X:=⟨_,true⟩) hX RowsIn.ok B hA hR A U U U U fun b1 B hA hR A=>
 N9 4 A U U fun A=>L7 [.n9 1,.n9 2,.n9 5] (X:=⟨_,true⟩) hX RowsIn.ok B hA hR A U U U U fun b2 B hA hR A=>
 N9 2 A U U fun A=>have A:=A.asT Rw.z A8 20 IF.1 IF.2.1 IF.2.2 [TT (c5.getD (((z.2:Int)).toNat) nz) b1,TU (c5.getD (((z.2:Int)).toNat) nz) b2] 4 U;Af A U (HV hX ((z.1++[TT (c5.getD (((z.2:Int)).toNat) nz) b1,TU (c5.getD (((z.2:Int)).toNat) nz) b2]).length) (fun zz=>A8 ((z.1++[TT (c5.getD (((z.2:Int)).toNat) nz) b1,TU (c5.getD (((z.2:Int)).toNat) nz) b2]).getD zz Rw.z)) U U U U (β8 _) (by have:=hJ.len;have:=hJ.le;omega) (by decide) α4 (fun k hk=>by show A8 _=A8 _;rw [BC hk]) (fun k hk=>by show A8 _=A8 _;rw [Br]) (fun z=>⟨_,rfl,rfl⟩) (fun k hk=>⟨_,rfl,AB⟩)) fun A=>
 N9 8 A U (AE (by omega)<|AB) fun A=>⟨(z.1++[TT (c5.getD (((z.2:Int)).toNat) nz) b1,TU (c5.getD (((z.2:Int)).toNat) nz) b2],z.2+1),_,(by have:=h1;show _ - _<_ - _;omega),(hJ.nx (l:=[]) h1 (RowsIn.ok _ _ _ _ hR A.mix fun b hb=>A.keys_own b ((Bv (H:=[some (.lst 2 5 (fun zz=>Ji (c5.getD zz nz))),none,O [.str ((c5.getD (((z.2:Int)).toNat) nz).1),.n9 ((c5.getD (((z.2:Int)).toNat) nz).2)],O [.n9 3,.z9,.z9,.z9,.z9,.z9,.z9,.z9,.z9,.n9 ((c5.getD (((z.2:Int)).toNat) nz).2),.bool false,.bool false,.bool false,.z9,.z9,.z9,.bool false],some (.lst 20 ([TT (c5.getD (((z.2:Int)).toNat) nz) b1,TU (c5.getD (((z.2:Int)).toNat) nz) b2].length) (fun zz=>A8 ([TT (c5.getD (((z.2:Int)).toNat) nz) b1,TU (c5.getD (((z.2:Int)).toNat) nz) b2].getD zz Rw.z))),some (.row 203 20 ((z.1++[TT (c5.getD (((z.2:Int)).toNat) nz) b1,TU (c5.getD (((z.2:Int)).toNat) nz) b2]).length) 0 (fun zz=>A8 ((z.1++[TT (c5.getD (((z.2:Int)).toNat) nz) b1,TU (c5.getD (((z.2:Int)).toNat) nz) b2]).getD zz Rw.z)))]) (m:=[0,5]) A.mem.len U U) b hb)) (hA.go A.mix fun b hb=>A.keys_own b ((Bv (H:=[some (.lst 2 5 (fun zz=>Ji (c5.getD zz nz))),none,O [.str ((c5.getD (((z.2:Int)).toNat) nz).1),.n9 ((c5.getD (((z.2:Int)).toNat) nz).2)],O [.n9 3,.z9,.z9,.z9,.z9,.z9,.z9,.z9,.z9,.n9 ((c5.getD (((z.2:Int)).toNat) nz).2),.bool false,.bool false,.bool false,.z9,.z9,.z9,.bool false],some (.lst 20 ([TT (c5.getD (((z.2:Int)).toNat) nz) b1,TU (c5.getD (((z.2:Int)).toNat) nz) b2].length) (fun zz=>A8 ([TT (c5.getD (((z.2:Int)).toNat) nz) b1,TU (c5.getD (((z.2:Int)).toNat) nz) b2].getD zz Rw.z))),some (.row 203 20 ((z.1++[TT (c5.getD (((z.2:Int)).toNat) nz) b1,TU (c5.getD (((z.2:Int)).toNat) nz) b2]).length) 0 (fun zz=>A8 ((z.1++[TT (c5.getD (((z.2:Int)).toNat) nz) b1,TU (c5.getD (((z.2:Int)).toNat) nz) b2]).getD zz Rw.z)))]) (m:=[0,5]) A.mem.len U U) b hb))),((B.trans A).cut [0,2,12,13,14] U).mv 0 [0,5] U U U U (by simp only [β2]at h0;omega)⟩)
   (fun h1 A=>N9 10 A U U fun A=>(have e5:z.2=5:=(by have:=hJ.le;omega);have e:z.1.length=10:=(by have:=hJ.len;omega);match A.giveRow 1 0 (by omega) U U U with|⟨b,cp,A2,hG,ho,hk⟩=>JS (J:=fun x w w'=>∃(L:List Rw) (b cp:Nat),x=.sla (some ⟨b,0,none⟩) 10 cp∧(L.map tm=My∧RowsIn w.heap.size L w' [b])∧w.heap.size≤b∧CI 203 20 10 (fun zz=>A8 (L.getD zz Rw.z)) b cp w') hX (B.trans A2) (fun i e he=>CC he) U U U U ⟨z.1,b,cp,(by show SV.sla _ z.1.length cp=_;rw [e]),⟨(by have h2:=hJ.tm;rw [e5]at h2;exact h2),(RowsIn.ok _ _ _ _ hJ.rw A.mix fun b2 hb=>by have:b2=b:=(by simpa using hb);rw [this];exact ho)⟩,IW B (fun i e he=>CC he) ho,(by rw [←e];exact hG)⟩))
end Ar
namespace Ar
open Go.RowKit
set_option simprocs false
abbrev sz:List UInt8×Bool×Bool:=([],false,false)
def Nz (x:List UInt8×Bool×Bool):List SV:=[.str x.1,.bool x.2.1,.bool x.2.2]
theorem fB:(∀x,(Nz x).length=3)∧(∀x,HH 0 (Nz x)=true)∧(∀x,∃vs,AO [] (Nz x)=some vs):=⟨fun _=>rfl,fun _=>rfl,fun _=>⟨_,rfl⟩⟩
def a2:List (List UInt8×Int):=[([83,87,80],6),([76,68,65,68,68],1)]
def s4:List (List UInt8×Bool×Bool):=[([],false,false),([65],true,false),([76],false,true),([65,76],true,true)]
theorem N1:∀k,(a2.getD k nz).1.length≤100
 |0=>by decide
 |1=>by decide
 |k+2=>by simp [a2,List.getD]
theorem N2:∀k,(s4.getD k sz).1.length≤100
 |0=>by decide
 |1=>by decide
 |2=>by decide
 |3=>by decide
 |k+4=>by simp [s4,List.getD]
def V2 (x:List UInt8×Int)(y:List UInt8×Bool×Bool):In:=⟨6,0,0,0,0,0,0,0,0,x.2,y.2.1,false,y.2.2,0,0,0,false⟩
abbrev TV (x:List UInt8×Int)(y:List UInt8×Bool×Bool)(b1:Nat):Rw:=⟨(x.1++y.1)++[42],[],V2 x y,some ⟨b1,0,none⟩,[2,1,6],3⟩
def Mz:List (List UInt8×List UInt8×In×List Int):=a2.flatMap fun x=>s4.map fun y=>((x.1++y.1)++[42],[],V2 x y,[2,1,6])
structure AA (lo n:Nat)(L:List Rw)(w:World)(ks:ae):Prop where
 tm:L.map tm=Mz.take n
 rw:RowsIn lo L w ks
theorem AA.len {lo n:Nat}{L:List Rw}{w:World}{ks:ae}(h:AA lo n L w ks):L.length≤8∧(n≤8→L.length=n):=by
 have h1:=congrArg List.length h.tm
 rw [ε7,δ6]at h1
 have h2:Mz.length=8:=by decide
 omega
theorem AA.nx {lo b1 k j:Nat}{L:List Rw}{w w1:World}{ks ks1:ae}(h:AA lo (4*k+j) L w ks)(hk:k<2)(hj:j<4)(hr:RowsIn lo L w1 ks1)(hA:Acc lo [(b1,[.n9 2,.n9 1,.n9 6])] w1 ks1):AA lo (4*k+(j+1)) (L++[TV (a2.getD ((k:Int)).toNat nz) (s4.getD ((j:Int)).toNat sz) b1]) w1 ks1:=by
 refine⟨?_,fun r OB=>?_⟩
 ·rw [ζ5,h.tm,α6,α6]
  have q1:k=0∨k=1:=by omega
  have q2:j=0∨j=1∨j=2∨j=3:=by omega
  rcases q1 with e|e<;>rcases q2 with e2|e2|e2|e2<;>rw [e,e2]<;>rfl
 ·rcases ζ9.1 OB with h1|h1
  ·exact hr r h1
  ·simp only [η5,ι5,ν5]at h1
   subst h1
   exact BD (cs:=[]) [2,1,6] hA ζ4
theorem fL:Ly Tryz.prog 199 [] [] (fun x w w'=>∃(L:List Rw) (b cp:Nat),x=.sla (some ⟨b,0,none⟩) 8 cp∧(L.map tm=Mz∧RowsIn w.heap.size L w' [b])∧w.heap.size≤b∧CI 203 20 8 (fun zz=>A8 (L.getD zz Rw.z)) b cp w'):=
 EA (n:=51) (by kernel_rfl) Tryz.func199 U U U fun G w a h0 A=>N9 10 A U U fun A=>have A:=A.asT nz Ji 2 QR.1 QR.2.1 QR.2.2 a2 0 U;N9 6 A U U fun A=>have A:=AG A 12 (.agg [.str [],.bool false,.bool false]) U (fun _=>rfl);N9 1 A U U fun A=>have A:=AG A 13 (.agg [.str [65],.bool true,.bool false]) U (fun _=>rfl);N9 1 A U U fun A=>have A:=AG A 14 (.agg [.str [76],.bool false,.bool true]) U (fun _=>rfl);N9 1 A U U fun A=>have A:=AG A 15 (.agg [.str [65,76],.bool true,.bool true]) U (fun _=>rfl);N9 1 A U U fun A=>have A:=A.asT sz Nz 3 fB.1 fB.2.1 fB.2.2 s4 1 U;N9 17 A U U fun A=>have A:=A.nilRow 3 203 20 (fun zz=>A8 (([]:List Rw).getD zz Rw.z)) U (fun z=>⟨_,rfl,rfl⟩);GK (fun(z:List Rw×Nat)=>[(0,.sla none 0 0),(2,.sl 1 4 4),(3,.sl 2 z.1.length 0),(17,.sl 0 2 2),(18,.n9 ((2:Nat):Int)),(19,.n9 (z.2:Int))]) (fun(z:List Rw×Nat)=>[some (.lst 2 2 (fun zz=>Ji (a2.getD zz nz))),some (.lst 3 4 (fun zz=>Nz (s4.getD zz sz))),some (.row 203 20 z.1.length 0 (fun zz=>A8 (z.1.getD zz Rw.z)))]) (fun z w1 ks1=>z.2≤2∧AA w.heap.size (4*z.2) z.1 w1 ks1) (fun z=>2 - z.2) ([],0) (A.cut [0,2,3,17,18,19] U) ⟨by decide,⟨rfl,fun r hr=>by cases hr⟩⟩ fun z G1 a1 w1 hJ hg A B=>have OE:=hJ.1;have hR:=hJ.2.rw;
 N9 6 A U U fun A=>AU 20 A U
   (fun h1 A=>N9 14 A U (AE (by omega)<|AE (by omega)<|AB) fun A=>N9 7 A U U fun A=>have hR:=RowsIn.ok _ _ _ _ hR A.mix A.keys_own;GK (fun(y:List Rw×Nat)=>[(0,.sla none 0 0),(2,.sl 1 4 4),(3,.sl 2 y.1.length 0),(5,.ptr 3 0),(17,.sl 0 2 2),(18,.n9 ((2:Nat):Int)),(19,.n9 (z.2:Int)),(23,.sl 1 4 4),(24,.n9 ((4:Nat):Int)),(25,.n9 (y.2:Int))]) (fun(y:List Rw×Nat)=>[some (.lst 2 2 (fun zz=>Ji (a2.getD zz nz))),some (.lst 3 4 (fun zz=>Nz (s4.getD zz sz))),some (.row 203 20 y.1.length 0 (fun zz=>A8 (y.1.getD zz Rw.z))),O [.str ((a2.getD (((z.2:Int)).toNat) nz).1),.n9 ((a2.getD (((z.2:Int)).toNat) nz).2)]]) (fun y w1 ks1=>y.2≤4∧AA w.heap.size (4*z.2+y.2) y.1 w1 ks1) (fun y=>4 - y.2) (z.1,0) ((B.trans A).cut [0,2,3,5,17,18,19,23,24,25] U) ⟨β7 4,⟨hJ.2.tm,hR⟩⟩ fun y G1 a1 w1 hJ hg A B=>have hA:Acc w.heap.size [] w1 _:=Acc.nil;have hR:=hJ.2.rw;
 N9 6 A U U fun A=>AU 26 A U
     (fun h2 A=>N9 14 A U (AE (by omega)<|AE (by omega)<|AB) fun A=>N9 8 A U U fun A=>have A:=AG A 35 (.agg [.n9 6,.z9,.z9,.z9,.z9,.z9,.z9,.z9,.z9,.n9 ((a2.getD (((z.2:Int)).toNat) nz).2),.bool ((s4.getD (((y.2:Int)).toNat) sz).2.1),.bool false,.bool ((s4.getD (((y.2:Int)).toNat) sz).2.2),.z9,.z9,.z9,.bool false]) U (fun _=>rfl);N9 13 A U (AE (by have q:=N1 ((z.2:Int)).toNat;have q2:=N2 ((y.2:Int)).toNat;(try simp only [α4,β0,β2]);omega)<|AE (by have q:=N1 ((z.2:Int)).toNat;have q2:=N2 ((y.2:Int)).toNat;(try simp only [α4,β0,β2]);omega)<|AB) fun A=>L7 [.n9 2,.n9 1,.n9 6] (X:=⟨_,true⟩) hX RowsIn.ok B hA hR A U U U U fun b1 B hA hR A=>
 N9 2 A U U fun A=>have A:=A.asT Rw.z A8 20 IF.1 IF.2.1 IF.2.2 [TV (a2.getD (((z.2:Int)).toNat) nz) (s4.getD (((y.2:Int)).toNat) sz) b1] 6 U;Af A U (HV hX ((y.1++[TV (a2.getD (((z.2:Int)).toNat) nz) (s4.getD (((y.2:Int)).toNat) sz) b1]).length) (fun zz=>A8 ((y.1++[TV (a2.getD (((z.2:Int)).toNat) nz) (s4.getD (((y.2:Int)).toNat) sz) b1]).getD zz Rw.z)) U U U U (β8 _) (by have:=hJ.2.len;have:=hJ.1;omega) (by decide) α4 (fun k hk=>by show A8 _=A8 _;rw [BC hk]) (fun k hk=>by show A8 _=A8 _;rw [Br]) (fun z=>⟨_,rfl,rfl⟩) (fun k hk=>⟨_,rfl,AB⟩)) fun A=>
 N9 8 A U (AE (by omega)<|AB) fun A=>⟨(y.1++[TV (a2.getD (((z.2:Int)).toNat) nz) (s4.getD (((y.2:Int)).toNat) sz) b1],y.2+1),_,(by have:=h2;show _ - _<_ - _;omega),⟨by have:=h2;show y.2+1≤4;omega,hJ.2.nx (by omega) (by omega) (RowsIn.ok _ _ _ _ hR A.mix fun b hb=>A.keys_own b ((Bv (H:=[some (.lst 2 2 (fun zz=>Ji (a2.getD zz nz))),some (.lst 3 4 (fun zz=>Nz (s4.getD zz sz))),none,O [.str ((a2.getD (((z.2:Int)).toNat) nz).1),.n9 ((a2.getD (((z.2:Int)).toNat) nz).2)],O [.str ((s4.getD (((y.2:Int)).toNat) sz).1),.bool ((s4.getD (((y.2:Int)).toNat) sz).2.1),.bool ((s4.getD (((y.2:Int)).toNat) sz).2.2)],O [.n9 6,.z9,.z9,.z9,.z9,.z9,.z9,.z9,.z9,.n9 ((a2.getD (((z.2:Int)).toNat) nz).2),.bool ((s4.getD (((y.2:Int)).toNat) sz).2.1),.bool false,.bool ((s4.getD (((y.2:Int)).toNat) sz).2.2),.z9,.z9,.z9,.bool false],some (.lst 20 ([TV (a2.getD (((z.2:Int)).toNat) nz) (s4.getD (((y.2:Int)).toNat) sz) b1].length) (fun zz=>A8 ([TV (a2.getD (((z.2:Int)).toNat) nz) (s4.getD (((y.2:Int)).toNat) sz) b1].getD zz Rw.z))),some (.row 203 20 ((y.1++[TV (a2.getD (((z.2:Int)).toNat) nz) (s4.getD (((y.2:Int)).toNat) sz) b1]).length) 0 (fun zz=>A8 ((y.1++[TV (a2.getD (((z.2:Int)).toNat) nz) (s4.getD (((y.2:Int)).toNat) sz) b1]).getD zz Rw.z)))]) (m:=[0,1,7,3]) A.mem.len U U) b hb)) (hA.go A.mix fun b hb=>A.keys_own b ((Bv (H:=[some (.lst 2 2 (fun zz=>Ji (a2.getD zz nz))),some (.lst 3 4 (fun zz=>Nz (s4.getD zz sz))),none,O [.str ((a2.getD (((z.2:Int)).toNat) nz).1),.n9 ((a2.getD (((z.2:Int)).toNat) nz).2)],O [.str ((s4.getD (((y.2:Int)).toNat) sz).1),.bool ((s4.getD (((y.2:Int)).toNat) sz).2.1),.bool ((s4.getD (((y.2:Int)).toNat) sz).2.2)],O [.n9 6,.z9,.z9,.z9,.z9,.z9,.z9,.z9,.z9,.n9 ((a2.getD (((z.2:Int)).toNat) nz).2),.bool ((s4.getD (((y.2:Int)).toNat) sz).2.1),.bool false,.bool ((s4.getD (((y.2:Int)).toNat) sz).2.2),.z9,.z9,.z9,.bool false],some (.lst 20 ([TV (a2.getD (((z.2:Int)).toNat) nz) (s4.getD (((y.2:Int)).toNat) sz) b1].length) (fun zz=>A8 ([TV (a2.getD (((z.2:Int)).toNat) nz) (s4.getD (((y.2:Int)).toNat) sz) b1].getD zz Rw.z))),some (.row 203 20 ((y.1++[TV (a2.getD (((z.2:Int)).toNat) nz) (s4.getD (((y.2:Int)).toNat) sz) b1]).length) 0 (fun zz=>A8 ((y.1++[TV (a2.getD (((z.2:Int)).toNat) nz) (s4.getD (((y.2:Int)).toNat) sz) b1]).getD zz Rw.z)))]) (m:=[0,1,7,3]) A.mem.len U U) b hb))⟩,((B.trans A).cut [0,2,3,5,17,18,19,23,24,25] U).mv 0 [0,1,7,3] U U U U (by simp only [β2]at h0;omega)⟩)
     (fun h2 A=>N9 8 A U (AE (by omega)<|AB) fun A=>⟨(y.1,z.2+1),_,(by have:=h1;show _ - _<_ - _;omega),⟨by have:=h1;show z.2+1≤2;omega,⟨(by have q:=hJ.2.tm;have q1:=hJ.1;rw [show 4*z.2+y.2=4*(z.2+1) by omega]at q;exact q),RowsIn.ok _ _ _ _ hJ.2.rw A.mix fun b hb=>A.keys_own b ((Bv (H:=[some (.lst 2 2 (fun zz=>Ji (a2.getD zz nz))),some (.lst 3 4 (fun zz=>Nz (s4.getD zz sz))),some (.row 203 20 y.1.length 0 (fun zz=>A8 (y.1.getD zz Rw.z))),O [.str ((a2.getD (((z.2:Int)).toNat) nz).1),.n9 ((a2.getD (((z.2:Int)).toNat) nz).2)]]) (m:=[0,1,2]) A.mem.len U U) b hb)⟩⟩,((B.trans A).cut [0,2,3,17,18,19] U).mv 0 [0,1,2] U U U U (by simp only [β2]at h0;omega)⟩))
   (fun h1 A=>N9 10 A U U fun A=>(have e5:z.2=2:=(by have:=hJ.1;omega);have e:z.1.length=8:=(by have:=hJ.2.len;omega);match A.giveRow 2 0 (by omega) U U U with|⟨b,cp,A2,hG,ho,hk⟩=>JS (J:=fun x w w'=>∃(L:List Rw) (b cp:Nat),x=.sla (some ⟨b,0,none⟩) 8 cp∧(L.map tm=Mz∧RowsIn w.heap.size L w' [b])∧w.heap.size≤b∧CI 203 20 8 (fun zz=>A8 (L.getD zz Rw.z)) b cp w') hX (B.trans A2) (fun i e he=>CC he) U U U U ⟨z.1,b,cp,(by show SV.sla _ z.1.length cp=_;rw [e]),⟨(by have h2:=hJ.2.tm;rw [e5]at h2;exact h2),(RowsIn.ok _ _ _ _ hJ.2.rw A.mix fun b2 hb=>by have:b2=b:=(by simpa using hb);rw [this];exact ho)⟩,IW B (fun i e he=>CC he) ho,(by rw [←e];exact hG)⟩))
end Ar
namespace Ar
open Go.RowKit
set_option simprocs false
abbrev fz:List UInt8×Int×Int:=([],0,0)
def fM (x:List UInt8×Int×Int):List SV:=[.str x.1,.int .i64 x.2.1,.int .i64 x.2.2]
theorem tO:(∀x,(fM x).length=3)∧(∀x,HH 0 (fM x)=true)∧(∀x,∃vs,AO [] (fM x)=some vs):=⟨fun _=>rfl,fun _=>rfl,fun _=>⟨_,rfl⟩⟩
def f3:List (List UInt8×Int×Int):=[([83,89],3,3),([76,68],1,3),([83,84],2,2)]
def nG (x:List UInt8×Int×Int):In:=⟨7,0,0,0,0,0,0,0,0,0,false,false,false,x.2.1,x.2.2,0,false⟩
abbrev TW (x:List UInt8×Int×Int)(b1:Nat):Rw:=⟨[68,77,66],x.1,nG x,some ⟨b1,0,none⟩,[10],1⟩
def TX:List (List UInt8×List UInt8×In×List Int):=f3.map fun x=>([68,77,66],x.1,nG x,[10])
structure AF (lo:Nat)(z:List Rw×Nat)(w:World)(ks:ae):Prop where
 le:z.2≤3
 tm:z.1.map tm=TX.take z.2
 rw:RowsIn lo z.1 w ks
theorem AF.len {lo:Nat}{z:List Rw×Nat}{w:World}{ks:ae}(h:AF lo z w ks):z.1.length=z.2:=by
 have h1:=congrArg List.length h.tm
 rw [ε7,δ6]at h1
 have h2:TX.length=3:=by decide
 have:=h.le
 omega
theorem AF.nx {lo b1:Nat}{z:List Rw×Nat}{w w1:World}{ks ks1:ae}{l:List (Nat×List SV)}(h:AF lo z w ks)(hk:(z.2:Int)<3)(hr:RowsIn lo z.1 w1 ks1)(hA:Acc lo [(b1,[.n9 10])] w1 ks1):AF lo (z.1++[TW (f3.getD ((z.2:Int)).toNat fz) b1],z.2+1) w1 ks1:=by
 refine⟨by have:=h.le;show z.2+1≤3;omega,?_,fun r OB=>?_⟩
 ·show List.map _ (z.1++_)=_
  rw [ζ5,h.tm,α6]
  have:z.2=0∨z.2=1∨z.2=2:=by omega
  rcases this with e|e|e<;>rw [e]<;>rfl
 ·rcases ζ9.1 OB with h1|h1
  ·exact hr r h1
  ·simp only [η5,ι5,ν5]at h1
   subst h1
   exact BD (cs:=[]) [10] hA ζ4
theorem nH:Ly Tryz.prog 200 [] [] (fun x w w'=>∃(L:List Rw) (b cp:Nat),x=.sla (some ⟨b,0,none⟩) 3 cp∧(L.map tm=TX∧RowsIn w.heap.size L w' [b])∧w.heap.size≤b∧CI 203 20 3 (fun zz=>A8 (L.getD zz Rw.z)) b cp w'):=
 EA (n:=31) (by kernel_rfl) Tryz.func200 U U U fun G w a h0 A=>N9 11 A U U fun A=>have A:=A.asT fz fM 3 tO.1 tO.2.1 tO.2.2 f3 0 U;N9 17 A U U fun A=>have A:=A.nilRow 2 203 20 (fun zz=>A8 (([]:List Rw).getD zz Rw.z)) U (fun z=>⟨_,rfl,rfl⟩);GK (fun(z:List Rw×Nat)=>[(0,.sla none 0 0),(2,.sl 1 z.1.length 0),(10,.sl 0 3 3),(11,.n9 ((3:Nat):Int)),(12,.n9 (z.2:Int))]) (fun(z:List Rw×Nat)=>[some (.lst 3 3 (fun zz=>fM (f3.getD zz fz))),some (.row 203 20 z.1.length 0 (fun zz=>A8 (z.1.getD zz Rw.z)))]) (fun z w1 ks1=>AF w.heap.size z w1 ks1) (fun z=>3 - z.2) ([],0) (A.cut [0,2,10,11,12] U) ⟨by decide,rfl,fun r hr=>by cases hr⟩ fun z G1 a1 w1 hJ hg A B=>have hA:Acc w.heap.size [] w1 _:=Acc.nil;have hR:=hJ.rw;
 N9 6 A U U fun A=>AU 13 A U
   (fun h1 A=>N9 14 A U (AE (by omega)<|AE (by omega)<|AB) fun A=>N9 6 A U U fun A=>have A:=AG A 20 (.agg [.n9 7,.z9,.z9,.z9,.z9,.z9,.z9,.z9,.z9,.z9,.bool false,.bool false,.bool false,.n9 ((f3.getD (((z.2:Int)).toNat) fz).2.1),.n9 ((f3.getD (((z.2:Int)).toNat) fz).2.2),.z9,.bool false]) U (fun _=>rfl);N9 9 A U U fun A=>L7 [.n9 10] (X:=⟨_,true⟩) hX RowsIn.ok B hA hR A U U U U fun b1 B hA hR A=>
 N9 2 A U U fun A=>have A:=A.asT Rw.z A8 20 IF.1 IF.2.1 IF.2.2 [TW (f3.getD (((z.2:Int)).toNat) fz) b1] 4 U;Af A U (HV hX ((z.1++[TW (f3.getD (((z.2:Int)).toNat) fz) b1]).length) (fun zz=>A8 ((z.1++[TW (f3.getD (((z.2:Int)).toNat) fz) b1]).getD zz Rw.z)) U U U U (β8 _) (by have:=hJ.len;have:=hJ.le;omega) (by decide) α4 (fun k hk=>by show A8 _=A8 _;rw [BC hk]) (fun k hk=>by show A8 _=A8 _;rw [Br]) (fun z=>⟨_,rfl,rfl⟩) (fun k hk=>⟨_,rfl,AB⟩)) fun A=>
 N9 8 A U (AE (by omega)<|AB) fun A=>⟨(z.1++[TW (f3.getD (((z.2:Int)).toNat) fz) b1],z.2+1),_,(by have:=h1;show _ - _<_ - _;omega),(hJ.nx (l:=[]) h1 (RowsIn.ok _ _ _ _ hR A.mix fun b hb=>A.keys_own b ((Bv (H:=[some (.lst 3 3 (fun zz=>fM (f3.getD zz fz))),none,O [.str ((f3.getD (((z.2:Int)).toNat) fz).1),.n9 ((f3.getD (((z.2:Int)).toNat) fz).2.1),.n9 ((f3.getD (((z.2:Int)).toNat) fz).2.2)],O [.n9 7,.z9,.z9,.z9,.z9,.z9,.z9,.z9,.z9,.z9,.bool false,.bool false,.bool false,.n9 ((f3.getD (((z.2:Int)).toNat) fz).2.1),.n9 ((f3.getD (((z.2:Int)).toNat) fz).2.2),.z9,.bool false],some (.lst 20 ([TW (f3.getD (((z.2:Int)).toNat) fz) b1].length) (fun zz=>A8 ([TW (f3.getD (((z.2:Int)).toNat) fz) b1].getD zz Rw.z))),some (.row 203 20 ((z.1++[TW (f3.getD (((z.2:Int)).toNat) fz) b1]).length) 0 (fun zz=>A8 ((z.1++[TW (f3.getD (((z.2:Int)).toNat) fz) b1]).getD zz Rw.z)))]) (m:=[0,5]) A.mem.len U U) b hb)) (hA.go A.mix fun b hb=>A.keys_own b ((Bv (H:=[some (.lst 3 3 (fun zz=>fM (f3.getD zz fz))),none,O [.str ((f3.getD (((z.2:Int)).toNat) fz).1),.n9 ((f3.getD (((z.2:Int)).toNat) fz).2.1),.n9 ((f3.getD (((z.2:Int)).toNat) fz).2.2)],O [.n9 7,.z9,.z9,.z9,.z9,.z9,.z9,.z9,.z9,.z9,.bool false,.bool false,.bool false,.n9 ((f3.getD (((z.2:Int)).toNat) fz).2.1),.n9 ((f3.getD (((z.2:Int)).toNat) fz).2.2),.z9,.bool false],some (.lst 20 ([TW (f3.getD (((z.2:Int)).toNat) fz) b1].length) (fun zz=>A8 ([TW (f3.getD (((z.2:Int)).toNat) fz) b1].getD zz Rw.z))),some (.row 203 20 ((z.1++[TW (f3.getD (((z.2:Int)).toNat) fz) b1]).length) 0 (fun zz=>A8 ((z.1++[TW (f3.getD (((z.2:Int)).toNat) fz) b1]).getD zz Rw.z)))]) (m:=[0,5]) A.mem.len U U) b hb))),((B.trans A).cut [0,2,10,11,12] U).mv 0 [0,5] U U U U (by simp only [β2]at h0;omega)⟩)
   (fun h1 A=>N9 10 A U U fun A=>(have e5:z.2=3:=(by have:=hJ.le;omega);have e:z.1.length=3:=(by have:=hJ.len;omega);match A.giveRow 1 0 (by omega) U U U with|⟨b,cp,A2,hG,ho,hk⟩=>JS (J:=fun x w w'=>∃(L:List Rw) (b cp:Nat),x=.sla (some ⟨b,0,none⟩) 3 cp∧(L.map tm=TX∧RowsIn w.heap.size L w' [b])∧w.heap.size≤b∧CI 203 20 3 (fun zz=>A8 (L.getD zz Rw.z)) b cp w') hX (B.trans A2) (fun i e he=>CC he) U U U U ⟨z.1,b,cp,(by show SV.sla _ z.1.length cp=_;rw [e]),⟨(by have h2:=hJ.tm;rw [e5]at h2;exact h2),(RowsIn.ok _ _ _ _ hJ.rw A.mix fun b2 hb=>by have:b2=b:=(by simpa using hb);rw [this];exact ho)⟩,IW B (fun i e he=>CC he) ho,(by rw [←e];exact hG)⟩))
end Ar
namespace Ar
open Go.RowKit
set_option simprocs false
abbrev Fj (b1 b2 b3:Nat):List (Nat×List SV):=[(b3,[.str [76,68,82,42],.str [],.int .i64 4,.z9,.z9,.z9,.z9,.z9,.z9,.z9,.z9,.z9,.ff,.ff,.ff,.z9,.z9,.z9,.ff,.sla (some ⟨b1,0,none⟩) 2 2,.str [76,68,65,82,42],.str [],.int .i64 4,.z9,.z9,.z9,.z9,.z9,.z9,.z9,.z9,.z9,.tt,.ff,.ff,.z9,.z9,.z9,.ff,.sla (some ⟨b1,0,none⟩) 2 2,.str [76,68,65,80,82,42],.str [],.int .i64 4,.z9,.z9,.z9,.z9,.z9,.z9,.z9,.z9,.z9,.ff,.tt,.ff,.z9,.z9,.z9,.ff,.sla (some ⟨b1,0,none⟩) 2 2,.str [83,84,82,42],.str [],.int .i64 5,.z9,.z9,.z9,.z9,.z9,.z9,.z9,.z9,.z9,.ff,.ff,.ff,.z9,.z9,.z9,.ff,.sla (some ⟨b2,0,none⟩) 2 2,.str [83,84,76,82,42],.str [],.int .i64 5,.z9,.z9,.z9,.z9,.z9,.z9,.z9,.z9,.z9,.ff,.ff,.tt,.z9,.z9,.z9,.ff,.sla (some ⟨b2,0,none⟩) 2 2]),(b2,[.int .i64 2,.int .i64 6]),(b1,[.int .i64 1,.int .i64 6])]
theorem nI:Ly Tryz.prog 198 [] [] (fun x w w'=>∃b1 b2 b3:Nat,x=.sla (some ⟨b3,0,none⟩) 5 5∧Acc w.heap.size (Fj b1 b2 b3) w' []):=
 EA (n:=21) (by kernel_rfl) Tryz.func198 U U U fun G w a h0 A=>have B:=A;have hA:Acc w.heap.size [] w _:=Acc.nil;N9 7 A U U fun A=>Dm [.n9 1,.n9 6] (X:=⟨_,true⟩) hX B hA A U U U U fun b1 B hA A=>
 Dm [.n9 2,.n9 6] (X:=⟨_,true⟩) hX B hA A U U U U fun b2 B hA A=>
 N9 21 A U U fun A=>Dm [.str [76,68,82,42],.str [],.n9 4,.z9,.z9,.z9,.z9,.z9,.z9,.z9,.z9,.z9,.ff,.ff,.ff,.z9,.z9,.z9,.ff,.sla (some ⟨b1,0,none⟩) 2 2,.str [76,68,65,82,42],.str [],.n9 4,.z9,.z9,.z9,.z9,.z9,.z9,.z9,.z9,.z9,.tt,.ff,.ff,.z9,.z9,.z9,.ff,.sla (some ⟨b1,0,none⟩) 2 2,.str [76,68,65,80,82,42],.str [],.n9 4,.z9,.z9,.z9,.z9,.z9,.z9,.z9,.z9,.z9,.ff,.tt,.ff,.z9,.z9,.z9,.ff,.sla (some ⟨b1,0,none⟩) 2 2,.str [83,84,82,42],.str [],.n9 5,.z9,.z9,.z9,.z9,.z9,.z9,.z9,.z9,.z9,.ff,.ff,.ff,.z9,.z9,.z9,.ff,.sla (some ⟨b2,0,none⟩) 2 2,.str [83,84,76,82,42],.str [],.n9 5,.z9,.z9,.z9,.z9,.z9,.z9,.z9,.z9,.z9,.ff,.ff,.tt,.z9,.z9,.z9,.ff,.sla (some ⟨b2,0,none⟩) 2 2] (X:=⟨_,true⟩) hX B hA A U U U U fun b3 B hA A=>
 N9 4 A U U fun A=>JS (J:=fun x w w'=>∃b1 b2 b3:Nat,x=.sla (some ⟨b3,0,none⟩) 5 5∧Acc w.heap.size (Fj b1 b2 b3) w' []) hX (B.trans A) (fun i e he=>CC he) U U U U ⟨b1,b2,b3,rfl,(hA.now A).bare⟩
abbrev G8 (b1 b2 b3 b4 b5:Nat):List (Nat×List SV):=[(b5,[.str [77,79,86],.str [],.int .i64 1,.z9,.z9,.z9,.z9,.z9,.z9,.z9,.z9,.z9,.ff,.ff,.ff,.z9,.z9,.z9,.ff,.sla (some ⟨b1,0,none⟩) 2 2,.str [77,79,86],.str [],.int .i64 2,.z9,.z9,.z9,.z9,.z9,.z9,.z9,.z9,.z9,.ff,.ff,.ff,.z9,.z9,.z9,.ff,.sla (some ⟨b2,0,none⟩) 2 2,.str [73,83,66],.str [],.int .i64 8,.z9,.z9,.z9,.z9,.z9,.z9,.z9,.z9,.z9,.ff,.ff,.ff,.z9,.z9,.z9,.ff,.sla none 0 0,.str [67,66,90],.str [],.int .i64 9,.z9,.z9,.z9,.z9,.z9,.z9,.z9,.z9,.z9,.ff,.ff,.ff,.z9,.z9,.z9,.tt,.sla (some ⟨b3,0,none⟩) 2 2,.str [67,66,78,90],.str [],.int .i64 9,.z9,.z9,.z9,.z9,.z9,.z9,.z9,.z9,.z9,.ff,.ff,.ff,.z9,.z9,.z9,.ff,.sla (some ⟨b4,0,none⟩) 2 2]),(b4,[.int .i64 2,.int .i64 7]),(b3,[.int .i64 2,.int .i64 7]),(b2,[.int .i64 1,.int .i64 2]),(b1,[.int .i64 1,.int .i64 5])]
theorem nJ:Ly Tryz.prog 201 [] [] (fun x w w'=>∃b1 b2 b3 b4 b5:Nat,x=.sla (some ⟨b5,0,none⟩) 5 5∧Acc w.heap.size (G8 b1 b2 b3 b4 b5) w' []):=
 EA (n:=16) (by kernel_rfl) Tryz.func201 U U U fun G w a h0 A=>have B:=A;have hA:Acc w.heap.size [] w _:=Acc.nil;N9 8 A U U fun A=>Dm [.n9 1,.n9 5] (X:=⟨_,true⟩) hX B hA A U U U U fun b1 B hA A=>
 N9 2 A U U fun A=>Dm [.n9 1,.n9 2] (X:=⟨_,true⟩) hX B hA A U U U U fun b2 B hA A=>
 N9 4 A U U fun A=>Dm [.n9 2,.n9 7] (X:=⟨_,true⟩) hX B hA A U U U U fun b3 B hA A=>
 N9 2 A U U fun A=>Dm [.n9 2,.n9 7] (X:=⟨_,true⟩) hX B hA A U U U U fun b4 B hA A=>
 N9 1 A U U fun A=>Dm [.str [77,79,86],.str [],.n9 1,.z9,.z9,.z9,.z9,.z9,.z9,.z9,.z9,.z9,.ff,.ff,.ff,.z9,.z9,.z9,.ff,.sla (some ⟨b1,0,none⟩) 2 2,.str [77,79,86],.str [],.n9 2,.z9,.z9,.z9,.z9,.z9,.z9,.z9,.z9,.z9,.ff,.ff,.ff,.z9,.z9,.z9,.ff,.sla (some ⟨b2,0,none⟩) 2 2,.str [73,83,66],.str [],.n9 8,.z9,.z9,.z9,.z9,.z9,.z9,.z9,.z9,.z9,.ff,.ff,.ff,.z9,.z9,.z9,.ff,.sla none 0 0,.str [67,66,90],.str [],.n9 9,.z9,.z9,.z9,.z9,.z9,.z9,.z9,.z9,.z9,.ff,.ff,.ff,.z9,.z9,.z9,.tt,.sla (some ⟨b3,0,none⟩) 2 2,.str [67,66,78,90],.str [],.n9 9,.z9,.z9,.z9,.z9,.z9,.z9,.z9,.z9,.z9,.ff,.ff,.ff,.z9,.z9,.z9,.ff,.sla (some ⟨b4,0,none⟩) 2 2] (X:=⟨_,true⟩) hX B hA A U U U U fun b5 B hA A=>
 N9 4 A U U fun A=>JS (J:=fun x w w'=>∃b1 b2 b3 b4 b5:Nat,x=.sla (some ⟨b5,0,none⟩) 5 5∧Acc w.heap.size (G8 b1 b2 b3 b4 b5) w' []) hX (B.trans A) (fun i e he=>CC he) U U U U ⟨b1,b2,b3,b4,b5,rfl,(hA.now A).bare⟩
end Ar
namespace Ar
open Go.RowKit
set_option simprocs false
def Fk (b1 b2:Nat):List Rw:=[⟨[76,68,82,42],[],⟨4,0,0,0,0,0,0,0,0,0,false,false,false,0,0,0,false⟩,some ⟨b1,0,none⟩,[1,6],2⟩,⟨[76,68,65,82,42],[],⟨4,0,0,0,0,0,0,0,0,0,true,false,false,0,0,0,false⟩,some ⟨b1,0,none⟩,[1,6],2⟩,⟨[76,68,65,80,82,42],[],⟨4,0,0,0,0,0,0,0,0,0,false,true,false,0,0,0,false⟩,some ⟨b1,0,none⟩,[1,6],2⟩,⟨[83,84,82,42],[],⟨5,0,0,0,0,0,0,0,0,0,false,false,false,0,0,0,false⟩,some ⟨b2,0,none⟩,[2,6],2⟩,⟨[83,84,76,82,42],[],⟨5,0,0,0,0,0,0,0,0,0,false,false,true,0,0,0,false⟩,some ⟨b2,0,none⟩,[2,6],2⟩]
def nK:List (List UInt8×List UInt8×In×List Int):=[([76,68,82,42],[],⟨4,0,0,0,0,0,0,0,0,0,false,false,false,0,0,0,false⟩,[1,6]),([76,68,65,82,42],[],⟨4,0,0,0,0,0,0,0,0,0,true,false,false,0,0,0,false⟩,[1,6]),([76,68,65,80,82,42],[],⟨4,0,0,0,0,0,0,0,0,0,false,true,false,0,0,0,false⟩,[1,6]),([83,84,82,42],[],⟨5,0,0,0,0,0,0,0,0,0,false,false,false,0,0,0,false⟩,[2,6]),([83,84,76,82,42],[],⟨5,0,0,0,0,0,0,0,0,0,false,false,true,0,0,0,false⟩,[2,6])]
theorem TY {b1 b2 b3 lo lo2:Nat}{w:World}{ks:ae}(h:Acc lo (Fj b1 b2 b3) w ks)(D2:lo2≤lo):RowsIn lo2 (Fk b1 b2) w ks:=by
 intro r hr
 unfold Fk at hr
 simp only [η5,ι5,ν5]at hr
 rcases hr with rfl|rfl|rfl|rfl|rfl
 ·have q:=BD (b:=b1) (cs:=[]) [1,6] h (by show _∈Fj b1 b2 b3;unfold Fj;simp);exact⟨q.1,fun z hz=>β3 D2 (q.2 z hz)⟩
 ·have q:=BD (b:=b1) (cs:=[]) [1,6] h (by show _∈Fj b1 b2 b3;unfold Fj;simp);exact⟨q.1,fun z hz=>β3 D2 (q.2 z hz)⟩
 ·have q:=BD (b:=b1) (cs:=[]) [1,6] h (by show _∈Fj b1 b2 b3;unfold Fj;simp);exact⟨q.1,fun z hz=>β3 D2 (q.2 z hz)⟩
 ·have q:=BD (b:=b2) (cs:=[]) [2,6] h (by show _∈Fj b1 b2 b3;unfold Fj;simp);exact⟨q.1,fun z hz=>β3 D2 (q.2 z hz)⟩
 ·have q:=BD (b:=b2) (cs:=[]) [2,6] h (by show _∈Fj b1 b2 b3;unfold Fj;simp);exact⟨q.1,fun z hz=>β3 D2 (q.2 z hz)⟩
theorem WA (b1 b2 b3:Nat):AO [] ((Fk b1 b2).flatMap A8)=AO [] [.str [76,68,82,42],.str [],.n9 4,.z9,.z9,.z9,.z9,.z9,.z9,.z9,.z9,.z9,.ff,.ff,.ff,.z9,.z9,.z9,.ff,.sla (some ⟨b1,0,none⟩) 2 2,.str [76,68,65,82,42],.str [],.n9 4,.z9,.z9,.z9,.z9,.z9,.z9,.z9,.z9,.z9,.tt,.ff,.ff,.z9,.z9,.z9,.ff,.sla (some ⟨b1,0,none⟩) 2 2,.str [76,68,65,80,82,42],.str [],.n9 4,.z9,.z9,.z9,.z9,.z9,.z9,.z9,.z9,.z9,.ff,.tt,.ff,.z9,.z9,.z9,.ff,.sla (some ⟨b1,0,none⟩) 2 2,.str [83,84,82,42],.str [],.n9 5,.z9,.z9,.z9,.z9,.z9,.z9,.z9,.z9,.z9,.ff,.ff,.ff,.z9,.z9,.z9,.ff,.sla (some ⟨b2,0,none⟩) 2 2,.str [83,84,76,82,42],.str [],.n9 5,.z9,.z9,.z9,.z9,.z9,.z9,.z9,.z9,.z9,.ff,.ff,.tt,.z9,.z9,.z9,.ff,.sla (some ⟨b2,0,none⟩) 2 2]:=by rfl
section
variable {n:Nat}{ks:ae}{G0:Gr}{w0:World}{T:List (Nat×SV)}{H:Hp}{G:Gr}{a:Act}{w:World}{Q:ab}{K:List Fr}{ops:ah}{o:Oper}{rest:ai}
theorem Yi (A:Sy n T H ks G0 w0 G a w) (h1:Bi n ops T o=some (198,[]))
  (k:∀b1 b2 b3 vs a' w',AO [] ((Fk b1 b2).flatMap A8)=some vs→K2 b3 0 vs w' (keys H G)→RowsIn w.heap.size (Fk b1 b2) w' (keys H G)→Sy n (BN T o.dst (.sla (some ⟨b3,0,none⟩) 5 5)) H ks G0 w0 G a' w'→Goal Tryz.prog Q K (.ops ops rest) a' w'):Goal Tryz.prog Q K (.ops ops (o::rest)) a w:=by
 refine Om [] nI A h1 U U U U fun x a' w' hJ hk A'=>?_
 obtain⟨b1,b2,b3,rfl,hA⟩:=hJ
 have hA:=Ix hA hk
 obtain⟨_,vs,q1,q2⟩:=hA _ ζ4
 exact k b1 b2 b3 vs a' w' ((WA b1 b2 b3).trans q1) q2 (TY hA (β8 _)) A'
end
def Hn (b1 b2 b3 b4:Nat):List Rw:=[⟨[77,79,86],[],⟨1,0,0,0,0,0,0,0,0,0,false,false,false,0,0,0,false⟩,some ⟨b1,0,none⟩,[1,5],2⟩,⟨[77,79,86],[],⟨2,0,0,0,0,0,0,0,0,0,false,false,false,0,0,0,false⟩,some ⟨b2,0,none⟩,[1,2],2⟩,⟨[73,83,66],[],⟨8,0,0,0,0,0,0,0,0,0,false,false,false,0,0,0,false⟩,none,[],0⟩,⟨[67,66,90],[],⟨9,0,0,0,0,0,0,0,0,0,false,false,false,0,0,0,true⟩,some ⟨b3,0,none⟩,[2,7],2⟩,⟨[67,66,78,90],[],⟨9,0,0,0,0,0,0,0,0,0,false,false,false,0,0,0,false⟩,some ⟨b4,0,none⟩,[2,7],2⟩]
def nL:List (List UInt8×List UInt8×In×List Int):=[([77,79,86],[],⟨1,0,0,0,0,0,0,0,0,0,false,false,false,0,0,0,false⟩,[1,5]),([77,79,86],[],⟨2,0,0,0,0,0,0,0,0,0,false,false,false,0,0,0,false⟩,[1,2]),([73,83,66],[],⟨8,0,0,0,0,0,0,0,0,0,false,false,false,0,0,0,false⟩,[]),([67,66,90],[],⟨9,0,0,0,0,0,0,0,0,0,false,false,false,0,0,0,true⟩,[2,7]),([67,66,78,90],[],⟨9,0,0,0,0,0,0,0,0,0,false,false,false,0,0,0,false⟩,[2,7])]
theorem TZ {b1 b2 b3 b4 b5 lo lo2:Nat}{w:World}{ks:ae}(h:Acc lo (G8 b1 b2 b3 b4 b5) w ks)(D2:lo2≤lo):RowsIn lo2 (Hn b1 b2 b3 b4) w ks:=by
 intro r hr
 unfold Hn at hr
 simp only [η5,ι5,ν5]at hr
 rcases hr with rfl|rfl|rfl|rfl|rfl
 ·have q:=BD (b:=b1) (cs:=[]) [1,5] h (by show _∈G8 b1 b2 b3 b4 b5;unfold G8;simp);exact⟨q.1,fun z hz=>β3 D2 (q.2 z hz)⟩
 ·have q:=BD (b:=b2) (cs:=[]) [1,2] h (by show _∈G8 b1 b2 b3 b4 b5;unfold G8;simp);exact⟨q.1,fun z hz=>β3 D2 (q.2 z hz)⟩
 ·exact⟨.inl ⟨rfl,rfl⟩,fun q hq=>by cases hq⟩
 ·have q:=BD (b:=b3) (cs:=[]) [2,7] h (by show _∈G8 b1 b2 b3 b4 b5;unfold G8;simp);exact⟨q.1,fun z hz=>β3 D2 (q.2 z hz)⟩
 ·have q:=BD (b:=b4) (cs:=[]) [2,7] h (by show _∈G8 b1 b2 b3 b4 b5;unfold G8;simp);exact⟨q.1,fun z hz=>β3 D2 (q.2 z hz)⟩
theorem WB (b1 b2 b3 b4 b5:Nat):AO [] ((Hn b1 b2 b3 b4).flatMap A8)=AO [] [.str [77,79,86],.str [],.n9 1,.z9,.z9,.z9,.z9,.z9,.z9,.z9,.z9,.z9,.ff,.ff,.ff,.z9,.z9,.z9,.ff,.sla (some ⟨b1,0,none⟩) 2 2,.str [77,79,86],.str [],.n9 2,.z9,.z9,.z9,.z9,.z9,.z9,.z9,.z9,.z9,.ff,.ff,.ff,.z9,.z9,.z9,.ff,.sla (some ⟨b2,0,none⟩) 2 2,.str [73,83,66],.str [],.n9 8,.z9,.z9,.z9,.z9,.z9,.z9,.z9,.z9,.z9,.ff,.ff,.ff,.z9,.z9,.z9,.ff,.sla none 0 0,.str [67,66,90],.str [],.n9 9,.z9,.z9,.z9,.z9,.z9,.z9,.z9,.z9,.z9,.ff,.ff,.ff,.z9,.z9,.z9,.tt,.sla (some ⟨b3,0,none⟩) 2 2,.str [67,66,78,90],.str [],.n9 9,.z9,.z9,.z9,.z9,.z9,.z9,.z9,.z9,.z9,.ff,.ff,.ff,.z9,.z9,.z9,.ff,.sla (some ⟨b4,0,none⟩) 2 2]:=by rfl
section
variable {n:Nat}{ks:ae}{G0:Gr}{w0:World}{T:List (Nat×SV)}{H:Hp}{G:Gr}{a:Act}{w:World}{Q:ab}{K:List Fr}{ops:ah}{o:Oper}{rest:ai}
theorem Yj (A:Sy n T H ks G0 w0 G a w) (h1:Bi n ops T o=some (201,[]))
  (k:∀b1 b2 b3 b4 b5 vs a' w',AO [] ((Hn b1 b2 b3 b4).flatMap A8)=some vs→K2 b5 0 vs w' (keys H G)→RowsIn w.heap.size (Hn b1 b2 b3 b4) w' (keys H G)→Sy n (BN T o.dst (.sla (some ⟨b5,0,none⟩) 5 5)) H ks G0 w0 G a' w'→Goal Tryz.prog Q K (.ops ops rest) a' w'):Goal Tryz.prog Q K (.ops ops (o::rest)) a w:=by
 refine Om [] nJ A h1 U U U U fun x a' w' hJ hk A'=>?_
 obtain⟨b1,b2,b3,b4,b5,rfl,hA⟩:=hJ
 have hA:=Ix hA hk
 obtain⟨_,vs,q1,q2⟩:=hA _ ζ4
 exact k b1 b2 b3 b4 b5 vs a' w' ((WB b1 b2 b3 b4 b5).trans q1) q2 (TZ hA (β8 _)) A'
end
def PK:List (List UInt8×List UInt8×In×List Int):=(((My++nK)++Mz)++TX)++nL
theorem LV:Ly Tryz.prog 148 [] [] (fun x w w'=>∃(L:List Rw) (b cp:Nat),x=.agg [.str [88,48],.str [88,49],.str [88,50],.str [88,51],.str [88,52],.str [88,53],.str [88,54],.str [88,55],.str [66],.str [72],.str [87],.str [],.str [35],.str [],.str [],.str [],.sla (some ⟨b,0,none⟩) 31 cp]∧(L.map tm=PK∧RowsIn w.heap.size L w' [b])∧w.heap.size≤b∧CI 203 20 31 (fun zz=>A8 (L.getD zz Rw.z)) b cp w'):=
 EA (n:=11) (by kernel_rfl) Tryz.func148 U U U fun G w a h0 A=>N9 7 A U U fun A=>C9 [] (fJ) A U fun A=>N9 1 A U U fun A=>have hz:=A.mix.size;HN (t:=3) (F:=fun(L:List Rw) zz=>A8 (L.getD zz Rw.z)) (R:=fun L b w w'=>L.map tm=My∧RowsIn w.heap.size L w' [b]) fK A U U fun L1 e1 cp1 a1_ w1 G1 iQ D2 hk A=>have l1:L1.length=10:=(by have q:=congrArg List.length iQ.1;rw [ε7]at q;exact q);have hI:=(EF iQ.2 hk).mono hz;have B:=A;have A:=B.base;
 have hz:=β3 B.mix.size A.mix.size;Yi A U fun p1 p2 p3 vp a2_ w2 hv hL hO A=>have hI:=(RowsIn.ok _ _ _ _ hI A.mix A.keys_own).app (hO.mono hz);have lx2:(Fk p1 p2).length=5:=rfl;have l12:(L1++(Fk p1 p2)).length=15:=(by rw [α4,l1,lx2]);have B:=B.trans A;have A:=A.base;have A:=A.adoptL Rw.z A8 20 IF.1 IF.2.1 IF.2.2 (Fk p1 p2) hL hv 4 U;
 have hz:=β3 B.mix.size A.mix.size;HN (t:=5) (F:=fun(L:List Rw) zz=>A8 (L.getD zz Rw.z)) (R:=fun L b w w'=>L.map tm=Mz∧RowsIn w.heap.size L w' [b]) fL A U U fun L3 e3 cp3 a3_ w3 G3 wI D2 hk A=>have lx3:L3.length=8:=(by have q:=congrArg List.length wI.1;rw [ε7]at q;exact q);have Bu:=(EF wI.2 hk).mono hz;have hI:=(RowsIn.ok _ _ _ _ hI A.mix A.keys_own).app Bu;have l13:((L1++(Fk p1 p2))++L3).length=23:=(by rw [α4,l12,lx3]);have B:=B.trans A;have A:=A.base;
 have hz:=β3 B.mix.size A.mix.size;HN (t:=6) (F:=fun(L:List Rw) zz=>A8 (L.getD zz Rw.z)) (R:=fun L b w w'=>L.map tm=TX∧RowsIn w.heap.size L w' [b]) nH A U U fun L4 e4 cp4 a4_ w4 G4 wJ D2 hk A=>have lx4:L4.length=3:=(by have q:=congrArg List.length wJ.1;rw [ε7]at q;exact q);have Bu:=(EF wJ.2 hk).mono hz;have hI:=(RowsIn.ok _ _ _ _ hI A.mix A.keys_own).app Bu;have l14:(((L1++(Fk p1 p2))++L3)++L4).length=26:=(by rw [α4,l13,lx4]);have B:=B.trans A;have A:=A.base;
 have hz:=β3 B.mix.size A.mix.size;Yj A U fun q1 q2 q3 q4 q5 vq a5_ w5 hv hL hO A=>have hI:=(RowsIn.ok _ _ _ _ hI A.mix A.keys_own).app (hO.mono hz);have lx5:(Hn q1 q2 q3 q4).length=5:=rfl;have l15:((((L1++(Fk p1 p2))++L3)++L4)++(Hn q1 q2 q3 q4)).length=31:=(by rw [α4,l14,lx5]);have B:=B.trans A;have A:=A.base;have A:=A.adoptL Rw.z A8 20 IF.1 IF.2.1 IF.2.2 (Hn q1 q2 q3 q4) hL hv 7 U;
 N9 1 A U U fun A=>have A:=A.freeze 1 U;have A:=A.freeze 3 U;have A:=A.freeze 4 U;C9 [6,1,2,3,4,5] (V9 L1 (Fk p1 p2) L3 L4 (Hn q1 q2 q3 q4) 0 5 0 0 5 l1 l12 l13 l14) A U fun A=>match A.giveRow 7 9 (by decide) U U U with|⟨b,cp,A2,hG,ho,Pd⟩=>(have h1:=RowsIn.ok _ _ _ _ hI A2.mix A2.keys_own;have h2:=RowsIn.ok _ _ _ [b] hI A2.mix (fun b2 hb=>by have:b2=b:=(by simpa using hb);rw [this];exact ho);have Er:=IW B (fun i e he=>CC he) ho;have B:=B.trans A2;have A:=A2.base;
 N9 5 A U U fun A=>JS (J:=fun x w w'=>∃(L:List Rw) (b cp:Nat),x=.agg [.str [88,48],.str [88,49],.str [88,50],.str [88,51],.str [88,52],.str [88,53],.str [88,54],.str [88,55],.str [66],.str [72],.str [87],.str [],.str [35],.str [],.str [],.str [],.sla (some ⟨b,0,none⟩) 31 cp]∧(L.map tm=PK∧RowsIn w.heap.size L w' [b])∧w.heap.size≤b∧CI 203 20 31 (fun zz=>A8 (L.getD zz Rw.z)) b cp w') hX (B.trans A) (fun i e he=>CC he) U U U U ⟨((((L1++(Fk p1 p2))++L3)++L4)++(Hn q1 q2 q3 q4)),b,cp,rfl,⟨by rw [ζ5,ζ5,ζ5,ζ5,iQ.1,wI.1,wJ.1];rfl,h1.one h2 A.mix⟩,Er,hG.mix A.mix Pd⟩)
end Ar
section
end
namespace Ar
open Go.RowKit
set_option simprocs false
def Ek:Lg:=⟨[88,48],[88,49],[88,50],[88,51],[88,52],[88,53],[88,54],[88,55],[66],[72],[87],[],[35],[],[],[]⟩
def QV:List Rw:=PK.map YZ
theorem WC {L:List Rw}{i:In}{lb:ag}(h:L.map tm=PK):DW Ek L i lb=DW Ek QV i lb:=by
 have:=QT (g:=Ek) (L:=L) (i:=i) (lb:=lb)
 rw [Vz h]at this
 exact this.symm
theorem fN:jD Ek:=by
 refine⟨⟨fun r=>?_,by decide⟩,fun k=>?_,by decide,by decide,by decide⟩
 ·unfold GD
  split
  ·exact β7 _
  ·next h=>
   have:r.toNat=0∨r.toNat=1∨r.toNat=2∨r.toNat=3∨r.toNat=4∨r.toNat=5∨r.toNat=6∨r.toNat=7:=by
    simp only [β9,δ4]at h;omega
   rcases this with e|e|e|e|e|e|e|e<;>rw [e]<;>decide
 ·by_cases h:k<4
  ·have:k=0∨k=1∨k=2∨k=3:=by omega
   rcases this with rfl|rfl|rfl|rfl<;>decide
  ·rw [α8,γ5 (by simpa using h)];decide
theorem WD {L:List Rw}{i:In}{lb:ag}(hi:Z7 i)(hl:lb.length≤100000)(hm:L.map tm=PK):MG Ek L i lb:=V6 hm fN (by decide+kernel) (by decide+kernel) hi hl
abbrev nM:List SV:=[.str [88,48],.str [88,49],.str [88,50],.str [88,51],.str [88,52],.str [88,53],.str [88,54],.str [88,55],.str [66],.str [72],.str [87],.str [],.str [35],.str [],.str [],.str []]
theorem Yk (i:In)(lb:ag)(os:List (Nat×Obj))(hM:Ln os)(hT:PZ os)(hE:Mn os)(hp:∀L:List Rw,L.map tm=PK→MG Ek L i lb):BQ (Gl os) Tryz.prog 116 [.agg (AZ i),.str lb] [] (Rt (.tup [.str ((DW Ek QV i lb).1),.n9 ((DW Ek QV i lb).2)]) []):=
 Aa (n:=12) (by kernel_rfl) Tryz.func116 U U U fun G w a h0 hI A=>N9 8 A U U fun A=>Jc 8 BW U A fun{w2} A=>HP (fun(tail:∀(L:List Rw) {G1:Gr} {a1:Act} {w1:World},L.map tm=PK→L.length=31→I8 os L w1 (keys [O (AZ i),au L] G1)→Sy 12 [(6,.agg [.str [88,48],.str [88,49],.str [88,50],.str [88,51],.str [88,52],.str [88,53],.str [88,54],.str [88,55],.str [66],.str [72],.str [87],.str [],.str [35],.str [],.str [],.str [],.sl 1 L.length 0]),(7,.agg (AZ i)),(8,.str lb)] [O (AZ i),au L] (keys [] G) G w G1 a1 w1→wpAny Tryz.prog .any _ _ _ _ a1 w1)=>AS (rs:=[0,1,2]) (by kernel_rfl) (by decide) (Ba ⟨CS (l:=nM) (by decide+kernel) hI U LV A U U fun L _ _ _ hR DP Bu A=>have B:=A;have A:=B.base;AS (rs:=[1,2]) (by kernel_rfl) (by decide) (Ba ⟨Cg (.agg (AZ i)) U A U U fun A=>AS (rs:=[2]) (by kernel_rfl) (by decide) (Ba ⟨Cg (.str lb) U A U U fun A=>tail L hR DP (I8.ok.now A Bu) ((B.trans A).cut [6,7,8] U),
    (CM)⟩),
   (Ba ⟨Cg (.str lb) U A U U fun A=>AS (rs:=[1]) (by kernel_rfl) (by decide) (Ba ⟨Cg (.agg (AZ i)) U A U U fun A=>tail L hR DP (I8.ok.now A Bu) ((B.trans A).cut [6,7,8] U),
    (CM)⟩),
   (CM)⟩)⟩),
  (Ba ⟨Cg (.agg (AZ i)) U A U U fun A=>AS (rs:=[0,2]) (by kernel_rfl) (by decide) (Ba ⟨CS (l:=nM) (by decide+kernel) hI U LV A U U fun L _ _ _ hR DP Bu A=>have B:=A;have A:=B.base;AS (rs:=[2]) (by kernel_rfl) (by decide) (Ba ⟨Cg (.str lb) U A U U fun A=>tail L hR DP (I8.ok.now A Bu) ((B.trans A).cut [6,7,8] U),
    (CM)⟩),
   (Ba ⟨Cg (.str lb) U A U U fun A=>AS (rs:=[0]) (by kernel_rfl) (by decide) (Ba ⟨CS (l:=nM) (by decide+kernel) hI U LV A U U fun L _ _ _ hR DP Bu A=>have B:=A;have A:=B.base;tail L hR DP (I8.ok.now A Bu) ((B.trans A).cut [6,7,8] U),
    (CM)⟩),
   (CM)⟩)⟩),
  (Ba ⟨Cg (.str lb) U A U U fun A=>AS (rs:=[0,1]) (by kernel_rfl) (by decide) (Ba ⟨CS (l:=nM) (by decide+kernel) hI U LV A U U fun L _ _ _ hR DP Bu A=>have B:=A;have A:=B.base;AS (rs:=[1]) (by kernel_rfl) (by decide) (Ba ⟨Cg (.agg (AZ i)) U A U U fun A=>tail L hR DP (I8.ok.now A Bu) ((B.trans A).cut [6,7,8] U),
    (CM)⟩),
   (Ba ⟨Cg (.agg (AZ i)) U A U U fun A=>AS (rs:=[0]) (by kernel_rfl) (by decide) (Ba ⟨CS (l:=nM) (by decide+kernel) hI U LV A U U fun L _ _ _ hR DP Bu A=>have B:=A;have A:=B.base;tail L hR DP (I8.ok.now A Bu) ((B.trans A).cut [6,7,8] U),
    (CM)⟩),
   (CM)⟩)⟩),
  (CM)⟩)⟩)⟩)) (fun L {G1 a1 w1} p9 DP Bu A=>have hR:L.map tm=PK∧True:=⟨p9,trivial⟩;have B:=A;have A:=B.base;AS (rs:=[3]) (by kernel_rfl) (by decide) (Ba ⟨E4 (x:=.tup [.str ((DW Ek L i lb).1),.n9 ((DW Ek L i lb).2)]) (H':=[O (AZ i),au L]) U A U (CU [1] I8.ok Bu (Nv Ek L 0 i lb os hM hT hE (hp L hR.1)) U U U U U U U) fun A=>AS (rs:=[4,5]) (by kernel_rfl) (by decide) (Ba ⟨Cg (.str ((DW Ek L i lb).1)) U A U U fun A=>AS (rs:=[5]) (by kernel_rfl) (by decide) (Ba ⟨Cg (.int .i64 ((DW Ek L i lb).2)) U A U U fun A=>AS (rs:=[6]) (by kernel_rfl) (by decide) (Ba ⟨Cg (.str ((DW Ek L i lb).1)) U A U U fun A=>AS (rs:=[7]) (by kernel_rfl) (by decide) (Ba ⟨Cg (.int .i64 ((DW Ek L i lb).2)) U A U U fun A=>EJ (by kernel_rfl) (N9 2 A U U fun A=>R9 (B.trans A) U h0 U (by rw [←WC hR.1]<;>rfl) U),
      (CM)⟩),
     (CM)⟩),
    (CM)⟩),
   (Ba ⟨Cg (.int .i64 ((DW Ek L i lb).2)) U A U U fun A=>AS (rs:=[4]) (by kernel_rfl) (by decide) (Ba ⟨Cg (.str ((DW Ek L i lb).1)) U A U U fun A=>AS (rs:=[6]) (by kernel_rfl) (by decide) (Ba ⟨Cg (.str ((DW Ek L i lb).1)) U A U U fun A=>AS (rs:=[7]) (by kernel_rfl) (by decide) (Ba ⟨Cg (.int .i64 ((DW Ek L i lb).2)) U A U U fun A=>EJ (by kernel_rfl) (N9 2 A U U fun A=>R9 (B.trans A) U h0 U (by rw [←WC hR.1]<;>rfl) U),
      (CM)⟩),
     (CM)⟩),
    (CM)⟩),
   (CM)⟩)⟩),
  (CM)⟩))
end Ar
section
open Go.RowKit
set_option simprocs false
def El (k:Int):List UInt8:=[76]++Lib.itoa k
theorem WE (k:Int)(h1: -9223372036854775808≤k)(h2:k≤9223372036854775807):(El k).length≤22:=by
 have:=Lib.itoa_length_le k h1 h2
 unfold El;rw [α4];show 1+_≤_;omega
def GC (os:List (Nat×Obj))(cs:List AD):Dl:=fun w ks=>Gl os w ks∧AH cs w ks
theorem GC.ok {os:List (Nat×Obj)}{cs:List AD}:Dl.OK (GC os cs):=fun w ks w' ks' h m hk=>⟨Gl.ok _ _ _ _ h.1 m hk,AH.ok _ _ _ _ h.2 m hk⟩
def Z8 (i:In):Prop:=Z7 i∧ -9223372036854775808≤i.to_∧i.to_≤9223372036854775807
def DS (pe:In→Int)(cs:List AD):Bool:=cs.all fun c=>c.l.all fun i=>pe i==0
structure Q1 (pe:In→Int)(cs:List AD)(i:Nat):Prop where
 le:i≤cs.length
 ok:∀j,j<i→((cs.getD j AD.z).l.all fun i=>pe i==0)=true
structure Q2 (pe:In→Int)(c:AD)(k:Nat):Prop where
 le:k≤c.l.length
 ok:∀j,j<k→pe (c.l.getD j In.z)=0
section
variable {pe:In→Int}{cs:List AD}{c:AD}{i k:Nat}
theorem M1 (h:(k:Int)<((c.l.length:Nat):Int)):c.l.getD ((k:Int)).toNat In.z∈c.l:=by
 rw [α6,α8,β4 (by omega)];exact ι3 _
theorem M3 (h:(i:Int)<((cs.length:Nat):Int)):cs.getD ((i:Int)).toNat AD.z∈cs:=by
 rw [α6,α8,β4 (by omega)];exact ι3 _
theorem Q2.i0:Q2 pe c 0:=⟨β7 _,fun j hj=>by omega⟩
theorem Q2.nx (h:Q2 pe c k)(h1:(k:Int)<((c.l.length:Nat):Int))(h2:pe (c.l.getD ((k:Int)).toNat In.z)=0):Q2 pe c (k+1):=⟨by omega,fun j hj=>by
 by_cases e:j=k
 ·subst e;rw [α6]at h2;exact h2
 ·exact h.ok j (by omega)⟩
theorem Q2.good (h:Q2 pe c k)(h1:¬(k:Int)<((c.l.length:Nat):Int)):(c.l.all fun i=>pe i==0)=true:=by
 rw [δ3]
 intro i hi
 obtain⟨j,hj,rfl⟩:=ρ2.1 hi
 have:=h.ok j (by omega)
 rw [α8,β4 hj]at this
 exact ε5.2 this
theorem Q1.i0:Q1 pe cs 0:=⟨β7 _,fun j hj=>by omega⟩
theorem Q1.nx (h:Q1 pe cs i)(h1:(i:Int)<((cs.length:Nat):Int))(h2:((cs.getD ((i:Int)).toNat AD.z).l.all fun i=>pe i==0)=true):Q1 pe cs (i+1):=⟨by omega,fun j hj=>by
 by_cases e:j=i
 ·subst e;rw [α6]at h2;exact h2
 ·exact h.ok j (by omega)⟩
theorem Q1.good (h:Q1 pe cs i)(h1:¬(i:Int)<((cs.length:Nat):Int)):DS pe cs=true:=by
 unfold DS
 rw [δ3]
 intro c hc
 obtain⟨j,hj,rfl⟩:=ρ2.1 hc
 have:=h.ok j (by omega)
 rw [α8,β4 hj]at this
 exact this
theorem Ta (h1:(i:Int)<((cs.length:Nat):Int))(h2:(k:Int)<(((cs.getD ((i:Int)).toNat AD.z).l.length:Nat):Int))(h3:pe ((cs.getD ((i:Int)).toNat AD.z).l.getD ((k:Int)).toNat In.z)≠0):DS pe cs=false:=by
 cases hq:DS pe cs with
 |false=>rfl
 |true=>
  unfold DS at hq
  have e1:=δ3.1 hq _ (M3 h1)
  have e2:=δ3.1 e1 _ (M1 h2)
  exact absurd (ξ4 e2) h3
end
theorem tP (k:Int)(os:List (Nat×Obj))(hM:Ln os)(hT:PZ os)(hE:Mn os)(h1: -9223372036854775808≤k)(h2:k≤9223372036854775807):BQ (Gl os) Tryz.prog 84 [.n9 k] [] (Rt (.str (El k)) []):=
 Aa (n:=6) (by kernel_rfl) Tryz.func84 U U U fun G w a h0 hI A=>N9 8 A U U fun A=>I9 [] Gl.ok hI (QM k os hM hT h1 h2) A U fun A=>N9 5 A U (AE (by have:=Lib.itoa_length_le k h1 h2;(try simp only [α4,β0,β2]);omega)<|AB) fun A=>R9 A U h0 U U U
theorem H8 (cs:List AD)(cx:Nat)(tt:ag)(f1 fp f3:Nat)(pt:In→List UInt8→List UInt8)(pe:In→List UInt8→Int)(os:List (Nat×Obj))(hM:Ln os)(hT:PZ os)(hE:Mn os)(hp:∀(i:In) (lb:ag),Z7 i→lb.length≤100000→BQ (Gl os) Tryz.prog fp [.agg (Ce i),.str lb] [] (Rt (.tup [.str (pt i lb),.n9 (pe i lb)]) []))(hs:∀c∈cs,c.l.length≤9223372036854775807)(hn:cs.length≤9223372036854775807)(hR:∀c∈cs,∀i∈c.l,Z8 i):BQ (GC os cs) Tryz.prog 49 [.agg [.str tt,.fn f1 [],.fn fp [],.fn f3 []],.sl 0 cs.length cx] [an cs] (Rt (.bool (DS (fun i=>pe i (El i.to_)) cs)) [an cs]):=
 Aa (n:=37) (by kernel_rfl) Tryz.func49 U U U fun G w a h0 hI A=>N9 15 A U U fun A=>Bq (fun(i:Nat)=>[(2,.ptr 1 0),(4,.ff),(11,.sl 0 cs.length cx),(12,.n9 ((cs.length:Nat):Int)),(13,.n9 (i:Int))]) (fun(i:Nat)=>[an cs,O [.str tt,.fn f1 [],.fn fp [],.fn f3 []]]) (fun(i:Nat)=>Q1 (fun i=>pe i (El i.to_)) cs i) (fun(i:Nat)=>cs.length - i) 0 Q1.i0 ((A.cut [2,4,11,12,13] U).trunc 2 U U U (CL h0 U)) fun i hJ {G a w} A=>N9 6 A U U fun A=>AU 14 A U
   (fun h1 A=>N9 13 A U (AE (by(try have hy:=Cf hs ((i:Int)).toNat);(try have:=hK.le);(try have:=hJ.le);omega)<|AE (by(try have hy:=Cf hs ((i:Int)).toNat);(try have:=hK.le);(try have:=hJ.le);omega)<|AB) fun A=>N9 7 A U U fun A=>Bq (fun(k:Nat)=>[(2,.ptr 1 0),(4,.ff),(11,.sl 0 cs.length cx),(12,.n9 ((cs.length:Nat):Int)),(13,.n9 (i:Int)),(17,.sla ((cs.getD (((i:Int)).toNat) AD.z).ao) ((cs.getD (((i:Int)).toNat) AD.z).l.length) ((cs.getD (((i:Int)).toNat) AD.z).cp)),(18,.n9 (((cs.getD (((i:Int)).toNat) AD.z).l.length:Nat):Int)),(19,.n9 (k:Int))]) (fun(k:Nat)=>[an cs,O [.str tt,.fn f1 [],.fn fp [],.fn f3 []]]) (fun(k:Nat)=>Q2 (fun i=>pe i (El i.to_)) (cs.getD ((i:Int)).toNat AD.z) k) (fun(k:Nat)=>(cs.getD ((i:Int)).toNat AD.z).l.length - k) 0 Q2.i0 ((A.cut [2,4,11,12,13,17,18,19] U).trunc 2 U U U (CL h0 U)) fun k hK {G a w} A=>N9 6 A U U fun A=>AU 20 A U
     (fun h2 A=>N9 7 A U U fun A=>JX (ao:=(cs.getD (((i:Int)).toNat) AD.z).ao) (s:=17) (m:=(cs.getD (((i:Int)).toNat) AD.z).l.length) (f:=fun zz=>Ce ((cs.getD (((i:Int)).toNat) AD.z).l.getD zz In.z)) hX 21 17 (hI.2.at (by omega)) (by omega) A U U U U U U (AE (by(try have hy:=Cf hs ((i:Int)).toNat);(try have:=hK.le);(try have:=hJ.le);omega)<|AB) fun A=>N9 6 A U (AE (by(try have hy:=Cf hs ((i:Int)).toNat);(try have:=hK.le);(try have:=hJ.le);omega)<|AB) fun A=>GL BW [.ptr 1 2,.fn fp [],.agg (AZ ((cs.getD (((i:Int)).toNat) AD.z).l.getD (((k:Int)).toNat) In.z)),.ptr 3 15,.n9 (((cs.getD (((i:Int)).toNat) AD.z).l.getD (((k:Int)).toNat) In.z).to_),.str (El (((cs.getD (((i:Int)).toNat) AD.z).l.getD (((k:Int)).toNat) In.z).to_)),.tup [.str (pt ((cs.getD (((i:Int)).toNat) AD.z).l.getD (((k:Int)).toNat) In.z) (El (((cs.getD (((i:Int)).toNat) AD.z).l.getD (((k:Int)).toNat) In.z).to_))),.n9 (pe ((cs.getD (((i:Int)).toNat) AD.z).l.getD (((k:Int)).toNat) In.z) (El (((cs.getD (((i:Int)).toNat) AD.z).l.getD (((k:Int)).toNat) In.z).to_)))],.tup [.str (pt ((cs.getD (((i:Int)).toNat) AD.z).l.getD (((k:Int)).toNat) In.z) (El (((cs.getD (((i:Int)).toNat) AD.z).l.getD (((k:Int)).toNat) In.z).to_))),.n9 (pe ((cs.getD (((i:Int)).toNat) AD.z).l.getD (((k:Int)).toNat) In.z) (El (((cs.getD (((i:Int)).toNat) AD.z).l.getD (((k:Int)).toNat) In.z).to_)))],.str (pt ((cs.getD (((i:Int)).toNat) AD.z).l.getD (((k:Int)).toNat) In.z) (El (((cs.getD (((i:Int)).toNat) AD.z).l.getD (((k:Int)).toNat) In.z).to_))),.n9 (pe ((cs.getD (((i:Int)).toNat) AD.z).l.getD (((k:Int)).toNat) In.z) (El (((cs.getD (((i:Int)).toNat) AD.z).l.getD (((k:Int)).toNat) In.z).to_))),.str (pt ((cs.getD (((i:Int)).toNat) AD.z).l.getD (((k:Int)).toNat) In.z) (El (((cs.getD (((i:Int)).toNat) AD.z).l.getD (((k:Int)).toNat) In.z).to_))),.n9 (pe ((cs.getD (((i:Int)).toNat) AD.z).l.getD (((k:Int)).toNat) In.z) (El (((cs.getD (((i:Int)).toNat) AD.z).l.getD (((k:Int)).toNat) In.z).to_)))] [] [] 0 [([],[],[an cs,O [.str tt,.fn f1 [],.fn fp [],.fn f3 []],some (.lst 17 ((cs.getD (((i:Int)).toNat) AD.z).l.length) (fun zz=>Ce ((cs.getD (((i:Int)).toNat) AD.z).l.getD zz In.z))),O (AZ ((cs.getD (((i:Int)).toNat) AD.z).l.getD (((k:Int)).toNat) In.z))])] [[true,true,true,true,true,true,true,true,true,true,true,true]] A U U U U (by kernel_rfl) U (by kernel_rfl) ⟨⟨AJ 0 U U,⟨AJ 0 U U,⟨AJ 0 U U,⟨AJ 0 U U,⟨AJ 0 U U,⟨BB 0 U (CU [] GC.ok hI (BQ.mono (tP (((cs.getD (((i:Int)).toNat) AD.z).l.getD (((k:Int)).toNat) In.z).to_) os hM hT hE (hR _ (M3 h1) _ (M1 h2)).2.1 (hR _ (M3 h1) _ (M1 h2)).2.2) fun _ _ q=>q.1) U U U U U U U),⟨BB 0 U (CU [] GC.ok hI (BQ.mono (hp ((cs.getD (((i:Int)).toNat) AD.z).l.getD (((k:Int)).toNat) In.z) (El (((cs.getD (((i:Int)).toNat) AD.z).l.getD (((k:Int)).toNat) In.z).to_)) (hR _ (M3 h1) _ (M1 h2)).1 (β3 (WE _ (hR _ (M3 h1) _ (M1 h2)).2.1 (hR _ (M3 h1) _ (M1 h2)).2.2) (by decide))) fun _ _ q=>q.1) U U U U U U U),⟨AJ 0 U U,⟨AJ 0 U U,⟨AJ 0 U U,⟨AJ 0 U U,⟨AJ 0 U U,trivial⟩⟩⟩⟩⟩⟩⟩⟩⟩⟩⟩⟩,trivial⟩ fun A=>N9 7 A U U fun A=>FY 34 A U
      (fun h3 A=>N9 7 A U U fun A=>R9 A U h0 U (by rw [Ta (pe:=(fun i=>pe i (El i.to_))) h1 h2 h3];rfl) U)
      (fun h3 A=>N9 8 A U (AE (by(try have hy:=Cf hs ((i:Int)).toNat);(try have:=hK.le);(try have:=hJ.le);omega)<|AB) fun A=>⟨k+1,_,(by omega),(hK.nx h2 h3),((A.cut [2,4,11,12,13,17,18,19] U).trunc 2 U U U (CL h0 U))⟩))
     (fun h2 A=>N9 8 A U (AE (by(try have hy:=Cf hs ((i:Int)).toNat);(try have:=hK.le);(try have:=hJ.le);omega)<|AB) fun A=>⟨i+1,_,(by omega),(hJ.nx h1 (hK.good h2)),((A.cut [2,4,11,12,13] U).trunc 2 U U U (CL h0 U))⟩))
   (fun h1 A=>N9 9 A U U fun A=>R9 A U h0 U (by rw [hJ.good h1];rfl) U)
theorem QW:Fn Tryz.prog 80 [] [] (Rt (.sl 0 3 3) [O [.str [88,56,54],.fn 109 [],.fn 110 [],.fn 111 [],.str [82,73,83,67,86],.fn 112 [],.fn 113 [],.fn 114 [],.str [65,82,77],.fn 115 [],.fn 116 [],.fn 117 []]]):=
 AR (n:=5) (by kernel_rfl) Tryz.func80 U U U fun G w a h0 A=>N9 15 A U U fun A=>KC hX [0] A ⟨rfl,rfl⟩ U U U U U U U U h0
theorem Yl:Fn Tryz.prog 46 [.n9 1] [] (Rt (.tup [.agg [.str [88,56,54],.fn 109 [],.fn 110 [],.fn 111 []],.tt]) []):=
 AR (n:=16) (by kernel_rfl) Tryz.func46 U U U fun G w a h0 A=>N9 17 A U U fun A=>fork 9 A U
  (fun h1 A=>absurd h1 (by decide))
  (fun h1 A=>N9 5 A U U fun A=>C9 [] QW A U fun A=>N9 2 A U (AE (by decide)<|AB) fun A=>have A:=AG A 13 (.int .i64 0) U (fun _=>rfl);N9 1 A U (AE (by decide)<|AB) fun A=>have A:=AG A 14 (.ptr 1 0) U (Al 0 U);N9 6 A U U fun A=>R9 A U h0 U U U)
theorem Ym:Fn Tryz.prog 46 [.n9 2] [] (Rt (.tup [.agg [.str [82,73,83,67,86],.fn 112 [],.fn 113 [],.fn 114 []],.tt]) []):=
 AR (n:=16) (by kernel_rfl) Tryz.func46 U U U fun G w a h0 A=>N9 17 A U U fun A=>fork 9 A U
  (fun h1 A=>absurd h1 (by decide))
  (fun h1 A=>N9 5 A U U fun A=>C9 [] QW A U fun A=>N9 2 A U (AE (by decide)<|AB) fun A=>have A:=AG A 13 (.int .i64 1) U (fun _=>rfl);N9 1 A U (AE (by decide)<|AB) fun A=>have A:=AG A 14 (.ptr 1 4) U (Al 1 U);N9 6 A U U fun A=>R9 A U h0 U U U)
theorem Yn:Fn Tryz.prog 46 [.n9 3] [] (Rt (.tup [.agg [.str [65,82,77],.fn 115 [],.fn 116 [],.fn 117 []],.tt]) []):=
 AR (n:=16) (by kernel_rfl) Tryz.func46 U U U fun G w a h0 A=>N9 17 A U U fun A=>fork 9 A U
  (fun h1 A=>absurd h1 (by decide))
  (fun h1 A=>N9 5 A U U fun A=>C9 [] QW A U fun A=>N9 2 A U (AE (by decide)<|AB) fun A=>have A:=AG A 13 (.int .i64 2) U (fun _=>rfl);N9 1 A U (AE (by decide)<|AB) fun A=>have A:=AG A 14 (.ptr 1 8) U (Al 2 U);N9 6 A U U fun A=>R9 A U h0 U U U)
theorem Yo (ar:Int)(ha:¬(1≤ar∧ar≤3)):Fn Tryz.prog 46 [.n9 ar] [] (Rt (.tup [.agg [.str [],.v .nilFunc,.v .nilFunc,.v .nilFunc],.ff]) []):=
 AR (n:=16) (by kernel_rfl) Tryz.func46 U U U fun G w a h0 A=>N9 17 A U U fun A=>fork 9 A U
  (fun h1 A=>N9 9 A U U fun A=>R9 A U h0 U U U)
  (fun h1 A=>absurd h1 (by simp only [ε3,ζ1];omega))
def M4 (qu:Int):List UInt8:=if qu=1 then [101,120,105,115,116,115]else if qu=2 then [126,32,101,120,105,115,116,115]else if qu=3 then [102,111,114,97,108,108]else []
theorem WG (qu:Int):Fn Tryz.prog 50 [.n9 qu] [] (Rt (.str (M4 qu)) []):=
 AR (n:=10) (by kernel_rfl) Tryz.func50 U U U fun G w a h0 A=>N9 18 A U U fun A=>AV 4 A U
  (fun h1 A=>N9 7 A U U fun A=>R9 A U h0 U (by simp only [Am,nb,B5,Bx,M4,if_pos h1]) U)
  (fun h1 A=>N9 7 A U U fun A=>AV 6 A U
   (fun h2 A=>N9 7 A U U fun A=>R9 A U h0 U (by simp only [Am,nb,B5,Bx,M4,if_neg (h1),if_pos h2]) U)
   (fun h2 A=>N9 7 A U U fun A=>AV 8 A U
    (fun h3 A=>N9 7 A U U fun A=>R9 A U h0 U (by simp only [Am,nb,B5,Bx,M4,if_neg (h1),if_neg (h2),if_pos h3]) U)
    (fun h3 A=>N9 10 A U U fun A=>R9 A U h0 U (by simp only [Am,nb,B5,Bx,M4,if_neg (h1),if_neg (h2),if_neg (h3)]) U)))
end
section
open Go.RowKit
section
variable {P:Program}{n:Nat}{ks:ae}{G0:Gr}{w0:World}{T:List (Nat×SV)}{H:Hp}{G:Gr}{a:Act}{w w':World}{ops:ah}{o:Oper}{rest:ai}{Q:ab}{K:List Fr}
end
section
variable {P:Program}{Y:Tb}{n:Nat}{ks:ae}{G0:Gr}{w0:World}{T:List (Nat×SV)}{H:Hp}{ops:ah}{o:Oper}{rest:ai}{Q:ab}{K:List Fr}
end
section
variable {P:Program}{n:Nat}{ks:ae}{G0:Gr}{w0:World}{T:List (Nat×SV)}{H:Hp}{ops:ah}{o:Oper}
theorem fO {x y:Operand}{t e m s i q k:Nat}{cs:List SV}{p2:Nat}(BM:o.op=.slice t x (some y) none none)(hg:Av ops T o.guard=some .run)(hx:DA T x=some (.ptr i q))(hy:DA T y=some (.int .i64 (k:Int)))(hb:H[i]?=some (some (.blk cs)))(ht:OL P t m e s=true)(hk:k≤m)(h2:(if m=k then q else q+k*s)=p2):
  BG P n ops ks G0 w0 T H o (.sp (.ptr i p2) (m - k) (m - k)) H:=fun G a w A=>by
 subst h2
 have hw:=A7 (gd:=none) A hg
 obtain⟨d,op,ty,pos,af,gd⟩:=o
 simp only at BM
 subst BM
 have Bb:=A.ev hx
 have C8:=A.ev hy
 obtain⟨L,vs,hL,_,_⟩:=A.mem.ent i _ hb
 have hG:G[i]?=some (some L):=by
  cases hq:G[i]? with
  |none=>rw [hq]at hL;cases hL
  |some p=>rw [hq]at hL;simp at hL;rw [hL]
 unfold den at Bb C8
 rw [hG]at Bb
 simp only [β1]at Bb C8
 obtain⟨hu,D7⟩:=Dh ht
 refine Ad (v:=.slice (some ⟨L.b,L.pre.length+(if m=k then q else q+k*s),none⟩) (m - k) (m - k)) (w':=w) hw ?_ ⟨[],?_,by simpa using A.ms⟩
 ·have Qn:(Instr.sliceBounds false m m (some (.int .i64 (k:Int))) none none).run P w=.ok (k,m,m) w:=by
   simp [Instr.sliceBounds,μ0 (P:=P) w .i64 (k:Int) m _ (by omega) (by omega)]
  unfold execOp
  simp only [←Bb,←C8,δ0,κ7,Instr.sliceAt,γ4,ε2 hu,Instr.sureAddr,γ6,Qn,α9,DX D7]
  by_cases hc:m=k
  ·simp [hc]
  ·simp [hc,ζ3,η4]
 ·rw [ε0]
  unfold den
  have:den G (.ptr i (if m=k then q else q+k*s))=some (.pointer (some ⟨L.b,L.pre.length+(if m=k then q else q+k*s),none⟩)):=by unfold den;rw [hG]
  rw [this];rfl
end
end
section
open Go.RowKit
set_option simprocs false
def WH (r:Nat→Int):Nat→Bool
 |0=>((r 0==0)&&((r 1==0)&&((r 2==0)&&((r 3==0)&&((r 4==0)&&((r 5==0)&&((r 6==0)&&(r 7==0))))))))
 |1=>((r 8==0)&&((r 9==0)&&((r 10==0)&&((r 11==0)&&((r 12==0)&&((r 13==0)&&((r 14==0)&&(r 15==0))))))))
 |_=>((r 16==0)&&((r 17==0)&&((r 18==0)&&((r 19==0)&&((r 20==0)&&((r 21==0)&&((r 22==0)&&(r 23==0))))))))
def H9 (r:Nat→Int)(k:Nat):Bool:=(List.range (3 - k)).any fun j=> !(WH r (k+j))
structure Tc (r:Nat→Int)(k j:Nat):Prop where
 le:j≤3 - k
 ok:∀q,q<j→WH r (k+q)=true
theorem Tc.i0 {r:Nat→Int}{k:Nat}:Tc r k 0:=⟨β7 _,fun q hq=>by omega⟩
theorem Tc.nx {r:Nat→Int}{k j:Nat}(h:Tc r k j)(h1:j<3 - k)(h2:(!(WH r (k+j)))=false):Tc r k (j+1):=⟨by omega,fun q hq=>by
 by_cases e:q=j
 ·subst e;cases hz:WH r (k+q)with
  |true=>rfl
  |false=>rw [hz]at h2;cases h2
 ·exact h.ok q (by omega)⟩
theorem Tc.good {r:Nat→Int}{k j:Nat}(h:Tc r k j)(h1:¬j<3 - k):H9 r k=false:=by
 unfold H9
 rw [List.any_eq_false]
 intro q hq
 have:=h.ok q (by have:=ζ8.1 hq;omega)
 rw [this];decide
theorem LW {r:Nat→Int}{k j:Nat}(h1:j<3 - k)(h2:(!(WH r (k+j)))=true):H9 r k=true:=by
 unfold H9
 rw [κ9]
 exact⟨j,ζ8.2 h1,h2⟩
abbrev _root_.Go.Proofs.YtbbdanhpphlbpaaGreatDoor.A5 (kd:List Cn):BZ:=.lst 5 kd.length (fun zz=>cc (kd.getD zz Cn.z))
abbrev _root_.Go.Proofs.YtbbdanhpphlbpaaGreatDoor.av(kd:List Cn):Option BZ:=some (A5 kd)
theorem fP (ar:Int)(nm:ag)(mi r:Nat→Int)(cs:List AD)(cx:Nat)(qu:Int)(kd:List Cn)(ck:Nat)(hk:cs.length=1):Fn Tryz.prog 52 [.agg (BA ar nm mi r cs cx qu kd ck)] [an cs,av kd] (Rt (.bool (H9 r 1)) [an cs,av kd]):=
 AR (n:=19) (by kernel_rfl) Tryz.func52 U U U fun G w a h0 A=>N9 13 A U U fun A=>have A:=AG A 8 (.int .i64 1) U (fun _=>by rw [hk];rfl);Af A U (fO (m:=3) (s:=8) (e:=23) (k:=1) U U U U U (by kernel_rfl) (by decide) U) fun A=>N9 5 A U U fun A=>Bq (fun(j:Nat)=>[(2,.ff),(9,.sp (.ptr 2 13) 2 2),(10,.n9 ((2:Nat):Int)),(11,.n9 (j:Int))]) (fun(j:Nat)=>[an cs,av kd,O (BA ar nm mi r cs cx qu kd ck)]) (fun(j:Nat)=>Tc r 1 j) (fun(j:Nat)=>2 - j) 0 Tc.i0 ((A.cut [2,9,10,11] U).trunc 3 U U U (CL h0 U)) fun j hJ {G a w} A=>N9 6 A U U fun A=>AU 12 A U
   (fun h1 A=>N9 7 A U U fun A=>Decidable.byCases (p:=j=0) (fun e0=>have A:=A.say 11 (.int .i64 0) U (by rw [e0];rfl);N9 1 A U (AE (by(try have:=hJ.le);omega)<|AB) fun A=>have A:=AG A 13 (.ptr 2 13) U (Al 0 U);N9 12 A U U fun A=>fork 17 A U
     (fun h2 A=>N9 7 A U U fun A=>R9 A U h0 U (by rw [LW (k:=1) (j:=0) (by decide) h2];rfl) U)
     (fun h2 A=>N9 8 A U (AE (by(try have:=hJ.le);omega)<|AB) fun A=>⟨j+1,_,(by omega),(hJ.nx (by omega) (by rw [e0];exact h2)),((A.cut [2,9,10,11] U).trunc 3 U U U (CL h0 U)).sayT (by rw [e0];rfl)⟩)) fun ne0=>(have e1:j=1:=(by omega);have A:=A.say 11 (.int .i64 1) U (by rw [e1];rfl);N9 1 A U (AE (by(try have:=hJ.le);omega)<|AB) fun A=>have A:=AG A 13 (.ptr 2 21) U (Al 1 U);N9 12 A U U fun A=>fork 17 A U
     (fun h3 A=>N9 7 A U U fun A=>R9 A U h0 U (by rw [LW (k:=1) (j:=1) (by decide) h3];rfl) U)
     (fun h3 A=>N9 8 A U (AE (by(try have:=hJ.le);omega)<|AB) fun A=>⟨j+1,_,(by omega),(hJ.nx (by omega) (by rw [e1];exact h3)),((A.cut [2,9,10,11] U).trunc 3 U U U (CL h0 U)).sayT (by rw [e1];rfl)⟩)))
   (fun h1 A=>N9 9 A U U fun A=>R9 A U h0 U (by rw [hJ.good (by omega)];rfl) U)
theorem fQ (ar:Int)(nm:ag)(mi r:Nat→Int)(cs:List AD)(cx:Nat)(qu:Int)(kd:List Cn)(ck:Nat)(hk:cs.length=2):Fn Tryz.prog 52 [.agg (BA ar nm mi r cs cx qu kd ck)] [an cs,av kd] (Rt (.bool (H9 r 2)) [an cs,av kd]):=
 AR (n:=19) (by kernel_rfl) Tryz.func52 U U U fun G w a h0 A=>N9 13 A U U fun A=>have A:=AG A 8 (.int .i64 2) U (fun _=>by rw [hk];rfl);Af A U (fO (m:=3) (s:=8) (e:=23) (k:=2) U U U U U (by kernel_rfl) (by decide) U) fun A=>N9 5 A U U fun A=>Bq (fun(j:Nat)=>[(2,.ff),(9,.sp (.ptr 2 21) 1 1),(10,.n9 ((1:Nat):Int)),(11,.n9 (j:Int))]) (fun(j:Nat)=>[an cs,av kd,O (BA ar nm mi r cs cx qu kd ck)]) (fun(j:Nat)=>Tc r 2 j) (fun(j:Nat)=>1 - j) 0 Tc.i0 ((A.cut [2,9,10,11] U).trunc 3 U U U (CL h0 U)) fun j hJ {G a w} A=>N9 6 A U U fun A=>AU 12 A U
   (fun h1 A=>N9 7 A U U fun A=>(have e0:j=0:=(by omega);have A:=A.say 11 (.int .i64 0) U (by rw [e0];rfl);N9 1 A U (AE (by(try have:=hJ.le);omega)<|AB) fun A=>have A:=AG A 13 (.ptr 2 21) U (Al 0 U);N9 12 A U U fun A=>fork 17 A U
     (fun h2 A=>N9 7 A U U fun A=>R9 A U h0 U (by rw [LW (k:=2) (j:=0) (by decide) h2];rfl) U)
     (fun h2 A=>N9 8 A U (AE (by(try have:=hJ.le);omega)<|AB) fun A=>⟨j+1,_,(by omega),(hJ.nx (by omega) (by rw [e0];exact h2)),((A.cut [2,9,10,11] U).trunc 3 U U U (CL h0 U)).sayT (by rw [e0];rfl)⟩)))
   (fun h1 A=>N9 9 A U U fun A=>R9 A U h0 U (by rw [hJ.good (by omega)];rfl) U)
theorem fR (ar:Int)(nm:ag)(mi r:Nat→Int)(cs:List AD)(cx:Nat)(qu:Int)(kd:List Cn)(ck:Nat)(hk:cs.length=3):Fn Tryz.prog 52 [.agg (BA ar nm mi r cs cx qu kd ck)] [an cs,av kd] (Rt (.bool (H9 r 3)) [an cs,av kd]):=
 AR (n:=19) (by kernel_rfl) Tryz.func52 U U U fun G w a h0 A=>N9 13 A U U fun A=>have A:=AG A 8 (.int .i64 3) U (fun _=>by rw [hk];rfl);Af A U (fO (m:=3) (s:=8) (e:=23) (k:=3) U U U U U (by kernel_rfl) (by decide) U) fun A=>N9 5 A U U fun A=>Bq (fun(j:Nat)=>[(2,.ff),(9,.sp (.ptr 2 5) 0 0),(10,.n9 ((0:Nat):Int)),(11,.n9 (j:Int))]) (fun(j:Nat)=>[an cs,av kd,O (BA ar nm mi r cs cx qu kd ck)]) (fun(j:Nat)=>Tc r 3 j) (fun(j:Nat)=>0 - j) 0 Tc.i0 ((A.cut [2,9,10,11] U).trunc 3 U U U (CL h0 U)) fun j hJ {G a w} A=>N9 6 A U U fun A=>AU 12 A U
   (fun h1 A=>N9 7 A U U fun A=>absurd h1 (by omega))
   (fun h1 A=>N9 9 A U U fun A=>R9 A U h0 U (by rw [hJ.good (by omega)];rfl) U)
theorem fS (p q:Int):Fn Tryz.prog 126 [.n9 p,.n9 q] [] (Rt (.bool ((decide (0≤p))&&(decide (p<q)))) []):=
 AR (n:=12) (by kernel_rfl) Tryz.func126 U U U fun G w a h0 A=>N9 18 A U U fun A=>R9 A U h0 U U U
def N4 (kd th rg lc vl:Int):Bool:=if kd=1 then if((decide (0≤th))&&(decide (th<3)))=true then((decide (0≤rg))&&(decide (rg<8)))&&(lc==0)else false else if kd=2 then(((decide (0≤lc))&&(decide (lc<3)))&&(th==0))&&(rg==0)else if kd=3 then((kd==kd)&&((th==0)&&((rg==0)&&((lc==0)&&(vl==0)))))else if kd=4 then((kd==kd)&&((th==0)&&((rg==0)&&((lc==0)&&(vl==0)))))else if kd=5 then((kd==kd)&&((th==0)&&((rg==0)&&((lc==0)&&(vl==0)))))else false
theorem tQ (kd th rg lc vl:Int):Fn Tryz.prog 85 [.agg [.n9 kd,.n9 th,.n9 rg,.n9 lc,.n9 vl]] [] (Rt (.bool (N4 kd th rg lc vl)) []):=
 AR (n:=44) (by kernel_rfl) Tryz.func85 U U U fun G w a h0 A=>N9 20 A U U fun A=>AV 5 A U
  (fun h1 A=>N9 5 A U U fun A=>C9 [] (fS th 3) A U fun A=>N9 1 A U U fun A=>fork 10 A U
   (fun h2 A=>N9 2 A U U fun A=>C9 [] (fS rg 8) A U fun A=>N9 10 A U U fun A=>R9 A U h0 U (by simp only [Am,nb,B5,Bx,N4,if_pos h1,if_pos h2]) U)
   (fun h2 A=>N9 13 A U U fun A=>R9 A U h0 U (by simp only [Am,nb,B5,Bx,N4,if_pos h1,if_neg (α7 h2)]) U))
  (fun h1 A=>N9 7 A U U fun A=>AV 20 A U
   (fun h3 A=>N9 5 A U U fun A=>C9 [] (fS lc 3) A U fun A=>N9 14 A U U fun A=>R9 A U h0 U (by simp only [Am,nb,B5,Bx,N4,if_neg (h1),if_pos h3]) U)
   (fun h3 A=>N9 8 A U U fun A=>AV 35 A U
    (fun h4 A=>N9 15 A U U fun A=>R9 A U h0 U (by simp only [Am,nb,B5,Bx,N4,if_neg (h1),if_neg (h3),if_pos h4]) U)
    (fun h4 A=>N9 7 A U U fun A=>AV 35 A U
     (fun h5 A=>N9 15 A U U fun A=>R9 A U h0 U (by simp only [Am,nb,B5,Bx,N4,if_neg (h1),if_neg (h3),if_neg (h4),if_pos h5]) U)
     (fun h5 A=>N9 6 A U U fun A=>AV 35 A U
      (fun h6 A=>N9 12 A U U fun A=>R9 A U h0 U (by simp only [Am,nb,B5,Bx,N4,if_neg (h1),if_neg (h3),if_neg (h4),if_neg (h5),if_pos h6]) U)
      (fun h6 A=>N9 10 A U U fun A=>R9 A U h0 U (by simp only [Am,nb,B5,Bx,N4,if_neg (h1),if_neg (h3),if_neg (h4),if_neg (h5),if_neg (h6)]) U)))))
def HY (kd:Int):Int:=if kd=3 then 1 else if kd=4 then 2 else if kd=5 then 2 else 0
theorem nO (kd:Int):Fn Tryz.prog 86 [.n9 kd] [] (Rt (.int .i64 (HY kd)) []):=
 AR (n:=9) (by kernel_rfl) Tryz.func86 U U U fun G w a h0 A=>N9 18 A U U fun A=>AV 4 A U
  (fun h1 A=>N9 7 A U U fun A=>R9 A U h0 U (by simp only [Am,nb,B5,Bx,HY,if_pos h1]) U)
  (fun h1 A=>N9 8 A U U fun A=>AV 6 A U
   (fun h2 A=>N9 10 A U U fun A=>R9 A U h0 U (by simp only [Am,nb,B5,Bx,HY,if_neg (h1),if_pos h2]) U)
   (fun h2 A=>N9 6 A U U fun A=>AV 6 A U
    (fun h3 A=>N9 7 A U U fun A=>R9 A U h0 U (by simp only [Am,nb,B5,Bx,HY,if_neg (h1),if_neg (h2),if_pos h3]) U)
    (fun h3 A=>N9 10 A U U fun A=>R9 A U h0 U (by simp only [Am,nb,B5,Bx,HY,if_neg (h1),if_neg (h2),if_neg (h3)]) U)))
def QX (c:Cn):Bool:=N4 c.k c.t c.r c.l c.v
def WJ:List Cn→Int→Bool
 | [],h=>h==1
 |c::l,h=>if QX c=false∨h<HY c.k then false else WJ l (h+(1 - HY c.k))
def PL (l:List Cn):Bool:=if((l.length:Nat):Int)>32 then false else WJ l 0
theorem HR (k:Int):0≤HY k∧HY k≤2:=by unfold HY;split<;>(try split)<;>(try split)<;>omega
structure QY (kd:List Cn)(i:Nat)(h:Int):Prop where
 le:i≤kd.length
 h0:0≤h
 h1:h≤i
 eq:WJ kd 0=WJ (kd.drop i) h
section
variable {kd:List Cn}{i:Nat}{h:Int}
theorem QY.i0:QY kd 0 0:=⟨β7 _,by omega,by omega,by rw [ζ6]⟩
theorem QY.at (hI:QY kd i h)(h1:(i:Int)<((kd.length:Nat):Int)):WJ kd 0=if QX (kd.getD ((i:Int)).toNat Cn.z)=false∨h<HY (kd.getD ((i:Int)).toNat Cn.z).k then false else WJ (kd.drop (i+1)) (h+(1 - HY (kd.getD ((i:Int)).toNat Cn.z).k)):=by
 have hi:i<kd.length:=by omega
 have e:(kd.getD ((i:Int)).toNat Cn.z)=kd[i]:=by rw [α6,α8,β4 hi];rfl
 rw [hI.eq,η1 hi,WJ,e]
theorem QY.b1 (hI:QY kd i h)(h1:(i:Int)<((kd.length:Nat):Int))(h2:(!(QX (kd.getD ((i:Int)).toNat Cn.z)))=true):WJ kd 0=false:=by
 rw [hI.at h1,if_pos (.inl (by cases hq:QX (kd.getD ((i:Int)).toNat Cn.z);rfl;rw [hq]at h2;cases h2))]
theorem QY.b2 (hI:QY kd i h)(h1:(i:Int)<((kd.length:Nat):Int))(h2:h<HY (kd.getD ((i:Int)).toNat Cn.z).k):WJ kd 0=false:=by rw [hI.at h1,if_pos (.inr h2)]
theorem QY.nx (hI:QY kd i h)(h1:(i:Int)<((kd.length:Nat):Int))(h2:(!(QX (kd.getD ((i:Int)).toNat Cn.z)))=false)(h3:¬h<HY (kd.getD ((i:Int)).toNat Cn.z).k):QY kd (i+1) (h+(1 - HY (kd.getD ((i:Int)).toNat Cn.z).k)):=by
 have hn:QX (kd.getD ((i:Int)).toNat Cn.z)=true:=by cases hq:QX (kd.getD ((i:Int)).toNat Cn.z);(rw [hq]at h2;cases h2);rfl
 have hp:=HR (kd.getD ((i:Int)).toNat Cn.z).k
 have k0:=hI.h0;have k1:=hI.h1
 refine⟨by omega,by omega,by omega,?_⟩
 rw [hI.at h1,if_neg (by rintro (e|e);rw [hn]at e;cases e;exact h3 e)]
theorem QY.fi (hI:QY kd i h)(h1:¬(i:Int)<((kd.length:Nat):Int)):WJ kd 0=(h==1):=by
 rw [hI.eq,ι4 (by omega),WJ]
end
theorem N5 (kd:List Cn)(ck:Nat):Fn Tryz.prog 51 [.sl 0 kd.length ck] [av kd] (Rt (.bool (PL kd)) [av kd]):=
 AR (n:=34) (by kernel_rfl) Tryz.func51 U U U fun G w a h0 A=>N9 13 A U U fun A=>AU 8 A U
  (fun h1 A=>N9 7 A U U fun A=>R9 A U h0 U (by unfold PL;rw [if_pos h1];rfl) U)
  (fun h1 A=>N9 17 A U U fun A=>Ok (fun(i:Nat) (h:Int)=>[(2,.ff),(3,.n9 h),(9,.sl 0 kd.length ck),(10,.n9 ((kd.length:Nat):Int)),(11,.n9 (i:Int))]) (fun(i:Nat) (h:Int)=>[av kd]) (fun(i:Nat) (h:Int)=>QY kd i h) (fun(i:Nat) (h:Int)=>kd.length - i) 0 0 QY.i0 ((A.cut [2,3,9,10,11] U).trunc 1 U U U (CL h0 U)) fun i h hJ {G a w} A=>N9 6 A U U fun A=>AU 12 A U
    (fun h2 A=>N9 15 A U (AE (by(try have hp:=HR (kd.getD ((i:Int)).toNat Cn.z).k);(try have:=hJ.le);(try have:=hJ.h0);(try have:=hJ.h1);omega)<|AE (by(try have hp:=HR (kd.getD ((i:Int)).toNat Cn.z).k);(try have:=hJ.le);(try have:=hJ.h0);(try have:=hJ.h1);omega)<|AB) fun A=>N9 2 A U U fun A=>C9 [] (tQ (kd.getD (((i:Int)).toNat) Cn.z).k (kd.getD (((i:Int)).toNat) Cn.z).t (kd.getD (((i:Int)).toNat) Cn.z).r (kd.getD (((i:Int)).toNat) Cn.z).l (kd.getD (((i:Int)).toNat) Cn.z).v) A U fun A=>N9 2 A U U fun A=>fork 18 A U
     (fun h3 A=>N9 15 A U U fun A=>R9 A U h0 U (by unfold PL;rw [if_neg h1,hJ.b1 h2 h3];rfl) U)
     (fun h3 A=>N9 3 A U U fun A=>C9 [] (nO ((kd.getD (((i:Int)).toNat) Cn.z).k)) A U fun A=>N9 4 A U U fun A=>AU 24 A U
      (fun h4 A=>N9 7 A U U fun A=>R9 A U h0 U (by unfold PL;rw [if_neg h1,hJ.b2 h2 h4];rfl) U)
      (fun h4 A=>N9 7 A U U fun A=>C9 [] (nO ((kd.getD (((i:Int)).toNat) Cn.z).k)) A U fun A=>N9 6 A U (AE (by(try have hp:=HR (kd.getD ((i:Int)).toNat Cn.z).k);(try have:=hJ.le);(try have:=hJ.h0);(try have:=hJ.h1);omega)<|AE (by(try have hp:=HR (kd.getD ((i:Int)).toNat Cn.z).k);(try have:=hJ.le);(try have:=hJ.h0);(try have:=hJ.h1);omega)<|AB) fun A=>N9 4 A U (AE (by(try have hp:=HR (kd.getD ((i:Int)).toNat Cn.z).k);(try have:=hJ.le);(try have:=hJ.h0);(try have:=hJ.h1);omega)<|AB) fun A=>⟨i+1,h+(1 - HY (kd.getD ((i:Int)).toNat Cn.z).k),_,(by omega),(hJ.nx h2 h3 h4),((A.cut [2,3,9,10,11] U).trunc 1 U U U (CL h0 U))⟩)))
    (fun h2 A=>N9 11 A U U fun A=>R9 A U h0 U (by unfold PL;rw [if_neg h1,hJ.fi h2];rfl) U))
theorem QZ (ar:Int)(nm:ag)(mi r:Nat→Int)(cs:List AD)(cx:Nat)(qu:Int)(kd:List Cn)(ck:Nat)(h:1≤cs.length∧cs.length≤3):Fn Tryz.prog 52 [.agg (BA ar nm mi r cs cx qu kd ck)] [an cs,av kd] (Rt (.bool (H9 r cs.length)) [an cs,av kd]):=by
 have e:cs.length=1∨cs.length=2∨cs.length=3:=by omega
 rcases e with e|e|e
 ·have:=fP ar nm mi r cs cx qu kd ck e
  rw [show H9 r cs.length=H9 r 1 by rw [e]]
  exact this
 ·have:=fQ ar nm mi r cs cx qu kd ck e
  rw [show H9 r cs.length=H9 r 2 by rw [e]]
  exact this
 ·have:=fR ar nm mi r cs cx qu kd ck e
  rw [show H9 r cs.length=H9 r 3 by rw [e]]
  exact this
theorem Qa {cs:List AD}(h:Me cs=0):1≤cs.length∧cs.length≤3:=by
 unfold Me at h
 split at h
 ·cases h
 ·next hh=>simp only [β9,δ4]at hh;omega
def Dy (pe:In→Int)(nm:ag)(cs:List AD)(qu:Int)(kd:List Cn)(r:Nat→Int):Int:=
 if(nm.length:Int)>16 then 40 else if Dn nm=false then 40 else if Me cs≠0 then Me cs else if DS pe cs=false then 36 else
 if M4 qu=[]then 22 else if PL kd=false then 22 else if H9 r cs.length=true then 1 else 0
theorem Td (nm:ag) (mi r:Nat→Int) (cs:List AD) (cx:Nat) (qu:Int) (kd:List Cn) (ck:Nat) (os:List (Nat×Obj)) (hM:Ln os) (hT:PZ os) (hE:Mn os) (hs:∀c∈cs,c.l.length≤9223372036854775807) (hR:∀c∈cs,∀i∈c.l,Z8 i) (hn:cs.length≤9223372036854775807):BQ (GC os cs) Tryz.prog 9 [.agg (FM 1 nm mi r (.sl 0 cs.length cx) qu (.sl 1 kd.length ck))] [an cs,av kd] (Rt (.int .i64 (Dy (fun i=>(fun(i:In) (lb:ag)=>(DW EU QS i lb).2) i (El i.to_)) nm cs qu kd r)) [an cs,av kd]):=
 Aa (n:=53) (by kernel_rfl) Tryz.func9 U U U fun G w a h0 hI A=>N9 10 A U U fun A=>C9 [] Yl A U fun A=>N9 26 A U U fun A=>AU 20 A U
  (fun h1 A=>N9 14 A U U fun A=>R9 A U h0 U (by unfold Dy;rw [if_pos h1];rfl) U)
  (fun h1 A=>N9 2 A U U fun A=>I9 [] GC.ok hI (BQ.mono (Kd nm os hM hE) fun _ _ q=>q.1) A U fun A=>N9 4 A U U fun A=>fork 25 A U
   (fun h2 A=>N9 7 A U U fun A=>R9 A U h0 U (by unfold Dy;rw [if_neg h1];rw [if_pos (by revert h2;cases Dn nm<;>simp)];rfl) U)
   (fun h2 A=>N9 8 A U U fun A=>I9 [0] GC.ok hI (BQ.mono (KV cs cx hs (fun h8 h3=>Xw cs cx (fun c hc=>β3 (Ib h8 c hc) (by decide)) (by omega))) fun _ _ q=>q.2) A U fun A=>N9 15 A U U fun A=>FY 34 A U
    (fun h3 A=>N9 8 A U U fun A=>R9 A U h0 U (by unfold Dy;rw [if_neg h1];rw [if_neg (by revert h2;cases Dn nm<;>simp)];rw [if_pos h3];rfl) U)
    (fun h3 A=>N9 9 A U U fun A=>I9 [0] GC.ok hI (H8 cs cx [88,56,54] 109 110 111 (fun i lb=>(DW EU QS i lb).1) (fun i lb=>(DW EU QS i lb).2) os hM hT hE (fun i lb hi hl=>Yc i lb os hM hT hE (fun L hL=>V7 hi hl hL)) hs hn hR) A U fun A=>N9 3 A U U fun A=>fork 40 A U
     (fun h4 A=>N9 7 A U U fun A=>R9 A U h0 U (by unfold Dy;rw [if_neg h1];rw [if_neg (by revert h2;cases Dn nm<;>simp)];rw [if_neg (η6 h3)];rw [if_pos (by revert h4;cases DS _ cs<;>simp)];rfl) U)
     (fun h4 A=>N9 8 A U U fun A=>C9 [] (WG qu) A U fun A=>N9 2 A U U fun A=>AV 45 A U
      (fun h5 A=>N9 14 A U U fun A=>R9 A U h0 U (by unfold Dy;rw [if_neg h1];rw [if_neg (by revert h2;cases Dn nm<;>simp)];rw [if_neg (η6 h3)];rw [if_neg (by revert h4;cases DS _ cs<;>simp)];rw [if_pos h5];rfl) U)
      (fun h5 A=>N9 2 A U U fun A=>C9 [1] (N5 kd ck) A U fun A=>N9 4 A U U fun A=>fork 50 A U
       (fun h6 A=>N9 7 A U U fun A=>R9 A U h0 U (by unfold Dy;rw [if_neg h1];rw [if_neg (by revert h2;cases Dn nm<;>simp)];rw [if_neg (η6 h3)];rw [if_neg (by revert h4;cases DS _ cs<;>simp)];rw [if_neg h5];rw [if_pos (by revert h6;cases PL kd<;>simp)];rfl) U)
       (fun h6 A=>N9 7 A U U fun A=>C9 [0,1] (QZ 1 nm mi r cs cx qu kd ck (Qa h3)) A U fun A=>N9 2 A U U fun A=>fork 52 A U
        (fun h7 A=>N9 7 A U U fun A=>R9 A U h0 U (by unfold Dy;rw [if_neg h1];rw [if_neg (by revert h2;cases Dn nm<;>simp)];rw [if_neg (η6 h3)];rw [if_neg (by revert h4;cases DS _ cs<;>simp)];rw [if_neg h5];rw [if_neg (by revert h6;cases PL kd<;>simp)];rw [if_pos h7];rfl) U)
        (fun h7 A=>N9 9 A U U fun A=>R9 A U h0 U (by unfold Dy;rw [if_neg h1];rw [if_neg (by revert h2;cases Dn nm<;>simp)];rw [if_neg (η6 h3)];rw [if_neg (by revert h4;cases DS _ cs<;>simp)];rw [if_neg h5];rw [if_neg (by revert h6;cases PL kd<;>simp)];rw [if_neg (by rw [h7];decide)];rfl) U)))))))
theorem Te (nm:ag) (mi r:Nat→Int) (cs:List AD) (cx:Nat) (qu:Int) (kd:List Cn) (ck:Nat) (os:List (Nat×Obj)) (hM:Ln os) (hT:PZ os) (hE:Mn os) (hs:∀c∈cs,c.l.length≤9223372036854775807) (hR:∀c∈cs,∀i∈c.l,Z8 i) (hn:cs.length≤9223372036854775807):BQ (GC os cs) Tryz.prog 9 [.agg (FM 2 nm mi r (.sl 0 cs.length cx) qu (.sl 1 kd.length ck))] [an cs,av kd] (Rt (.int .i64 (Dy (fun i=>(fun(i:In) (lb:ag)=>(DW CT H7 i lb).2) i (El i.to_)) nm cs qu kd r)) [an cs,av kd]):=
 Aa (n:=53) (by kernel_rfl) Tryz.func9 U U U fun G w a h0 hI A=>N9 10 A U U fun A=>C9 [] Ym A U fun A=>N9 26 A U U fun A=>AU 20 A U
  (fun h1 A=>N9 14 A U U fun A=>R9 A U h0 U (by unfold Dy;rw [if_pos h1];rfl) U)
  (fun h1 A=>N9 2 A U U fun A=>I9 [] GC.ok hI (BQ.mono (Kd nm os hM hE) fun _ _ q=>q.1) A U fun A=>N9 4 A U U fun A=>fork 25 A U
   (fun h2 A=>N9 7 A U U fun A=>R9 A U h0 U (by unfold Dy;rw [if_neg h1];rw [if_pos (by revert h2;cases Dn nm<;>simp)];rfl) U)
   (fun h2 A=>N9 8 A U U fun A=>I9 [0] GC.ok hI (BQ.mono (KV cs cx hs (fun h8 h3=>Xw cs cx (fun c hc=>β3 (Ib h8 c hc) (by decide)) (by omega))) fun _ _ q=>q.2) A U fun A=>N9 15 A U U fun A=>FY 34 A U
    (fun h3 A=>N9 8 A U U fun A=>R9 A U h0 U (by unfold Dy;rw [if_neg h1];rw [if_neg (by revert h2;cases Dn nm<;>simp)];rw [if_pos h3];rfl) U)
    (fun h3 A=>N9 9 A U U fun A=>I9 [0] GC.ok hI (H8 cs cx [82,73,83,67,86] 112 113 114 (fun i lb=>(DW CT H7 i lb).1) (fun i lb=>(DW CT H7 i lb).2) os hM hT hE (fun i lb hi hl=>Yh i lb os hM hT hE (fun L hL=>QU hi hl hL)) hs hn hR) A U fun A=>N9 3 A U U fun A=>fork 40 A U
     (fun h4 A=>N9 7 A U U fun A=>R9 A U h0 U (by unfold Dy;rw [if_neg h1];rw [if_neg (by revert h2;cases Dn nm<;>simp)];rw [if_neg (η6 h3)];rw [if_pos (by revert h4;cases DS _ cs<;>simp)];rfl) U)
     (fun h4 A=>N9 8 A U U fun A=>C9 [] (WG qu) A U fun A=>N9 2 A U U fun A=>AV 45 A U
      (fun h5 A=>N9 14 A U U fun A=>R9 A U h0 U (by unfold Dy;rw [if_neg h1];rw [if_neg (by revert h2;cases Dn nm<;>simp)];rw [if_neg (η6 h3)];rw [if_neg (by revert h4;cases DS _ cs<;>simp)];rw [if_pos h5];rfl) U)
      (fun h5 A=>N9 2 A U U fun A=>C9 [1] (N5 kd ck) A U fun A=>N9 4 A U U fun A=>fork 50 A U
       (fun h6 A=>N9 7 A U U fun A=>R9 A U h0 U (by unfold Dy;rw [if_neg h1];rw [if_neg (by revert h2;cases Dn nm<;>simp)];rw [if_neg (η6 h3)];rw [if_neg (by revert h4;cases DS _ cs<;>simp)];rw [if_neg h5];rw [if_pos (by revert h6;cases PL kd<;>simp)];rfl) U)
       (fun h6 A=>N9 7 A U U fun A=>C9 [0,1] (QZ 2 nm mi r cs cx qu kd ck (Qa h3)) A U fun A=>N9 2 A U U fun A=>fork 52 A U
        (fun h7 A=>N9 7 A U U fun A=>R9 A U h0 U (by unfold Dy;rw [if_neg h1];rw [if_neg (by revert h2;cases Dn nm<;>simp)];rw [if_neg (η6 h3)];rw [if_neg (by revert h4;cases DS _ cs<;>simp)];rw [if_neg h5];rw [if_neg (by revert h6;cases PL kd<;>simp)];rw [if_pos h7];rfl) U)
        (fun h7 A=>N9 9 A U U fun A=>R9 A U h0 U (by unfold Dy;rw [if_neg h1];rw [if_neg (by revert h2;cases Dn nm<;>simp)];rw [if_neg (η6 h3)];rw [if_neg (by revert h4;cases DS _ cs<;>simp)];rw [if_neg h5];rw [if_neg (by revert h6;cases PL kd<;>simp)];rw [if_neg (by rw [h7];decide)];rfl) U)))))))
theorem Tf (nm:ag) (mi r:Nat→Int) (cs:List AD) (cx:Nat) (qu:Int) (kd:List Cn) (ck:Nat) (os:List (Nat×Obj)) (hM:Ln os) (hT:PZ os) (hE:Mn os) (hs:∀c∈cs,c.l.length≤9223372036854775807) (hR:∀c∈cs,∀i∈c.l,Z8 i) (hn:cs.length≤9223372036854775807):BQ (GC os cs) Tryz.prog 9 [.agg (FM 3 nm mi r (.sl 0 cs.length cx) qu (.sl 1 kd.length ck))] [an cs,av kd] (Rt (.int .i64 (Dy (fun i=>(fun(i:In) (lb:ag)=>(DW Ar.Ek Ar.QV i lb).2) i (El i.to_)) nm cs qu kd r)) [an cs,av kd]):=
 Aa (n:=53) (by kernel_rfl) Tryz.func9 U U U fun G w a h0 hI A=>N9 10 A U U fun A=>C9 [] Yn A U fun A=>N9 26 A U U fun A=>AU 20 A U
  (fun h1 A=>N9 14 A U U fun A=>R9 A U h0 U (by unfold Dy;rw [if_pos h1];rfl) U)
  (fun h1 A=>N9 2 A U U fun A=>I9 [] GC.ok hI (BQ.mono (Kd nm os hM hE) fun _ _ q=>q.1) A U fun A=>N9 4 A U U fun A=>fork 25 A U
   (fun h2 A=>N9 7 A U U fun A=>R9 A U h0 U (by unfold Dy;rw [if_neg h1];rw [if_pos (by revert h2;cases Dn nm<;>simp)];rfl) U)
   (fun h2 A=>N9 8 A U U fun A=>I9 [0] GC.ok hI (BQ.mono (KV cs cx hs (fun h8 h3=>Xw cs cx (fun c hc=>β3 (Ib h8 c hc) (by decide)) (by omega))) fun _ _ q=>q.2) A U fun A=>N9 15 A U U fun A=>FY 34 A U
    (fun h3 A=>N9 8 A U U fun A=>R9 A U h0 U (by unfold Dy;rw [if_neg h1];rw [if_neg (by revert h2;cases Dn nm<;>simp)];rw [if_pos h3];rfl) U)
    (fun h3 A=>N9 9 A U U fun A=>I9 [0] GC.ok hI (H8 cs cx [65,82,77] 115 116 117 (fun i lb=>(DW Ar.Ek Ar.QV i lb).1) (fun i lb=>(DW Ar.Ek Ar.QV i lb).2) os hM hT hE (fun i lb hi hl=>Ar.Yk i lb os hM hT hE (fun L hL=>Ar.WD hi hl hL)) hs hn hR) A U fun A=>N9 3 A U U fun A=>fork 40 A U
     (fun h4 A=>N9 7 A U U fun A=>R9 A U h0 U (by unfold Dy;rw [if_neg h1];rw [if_neg (by revert h2;cases Dn nm<;>simp)];rw [if_neg (η6 h3)];rw [if_pos (by revert h4;cases DS _ cs<;>simp)];rfl) U)
     (fun h4 A=>N9 8 A U U fun A=>C9 [] (WG qu) A U fun A=>N9 2 A U U fun A=>AV 45 A U
      (fun h5 A=>N9 14 A U U fun A=>R9 A U h0 U (by unfold Dy;rw [if_neg h1];rw [if_neg (by revert h2;cases Dn nm<;>simp)];rw [if_neg (η6 h3)];rw [if_neg (by revert h4;cases DS _ cs<;>simp)];rw [if_pos h5];rfl) U)
      (fun h5 A=>N9 2 A U U fun A=>C9 [1] (N5 kd ck) A U fun A=>N9 4 A U U fun A=>fork 50 A U
       (fun h6 A=>N9 7 A U U fun A=>R9 A U h0 U (by unfold Dy;rw [if_neg h1];rw [if_neg (by revert h2;cases Dn nm<;>simp)];rw [if_neg (η6 h3)];rw [if_neg (by revert h4;cases DS _ cs<;>simp)];rw [if_neg h5];rw [if_pos (by revert h6;cases PL kd<;>simp)];rfl) U)
       (fun h6 A=>N9 7 A U U fun A=>C9 [0,1] (QZ 3 nm mi r cs cx qu kd ck (Qa h3)) A U fun A=>N9 2 A U U fun A=>fork 52 A U
        (fun h7 A=>N9 7 A U U fun A=>R9 A U h0 U (by unfold Dy;rw [if_neg h1];rw [if_neg (by revert h2;cases Dn nm<;>simp)];rw [if_neg (η6 h3)];rw [if_neg (by revert h4;cases DS _ cs<;>simp)];rw [if_neg h5];rw [if_neg (by revert h6;cases PL kd<;>simp)];rw [if_pos h7];rfl) U)
        (fun h7 A=>N9 9 A U U fun A=>R9 A U h0 U (by unfold Dy;rw [if_neg h1];rw [if_neg (by revert h2;cases Dn nm<;>simp)];rw [if_neg (η6 h3)];rw [if_neg (by revert h4;cases DS _ cs<;>simp)];rw [if_neg h5];rw [if_neg (by revert h6;cases PL kd<;>simp)];rw [if_neg (by rw [h7];decide)];rfl) U)))))))
theorem Tg (ar:Int)(nm:ag)(mi r:Nat→Int)(cs:List AD)(cx:Nat)(qu:Int)(kd:List Cn)(ck:Nat)(ha:¬(1≤ar∧ar≤3)):Fn Tryz.prog 9 [.agg (BA ar nm mi r cs cx qu kd ck)] [an cs,av kd] (Rt (.int .i64 36) [an cs,av kd]):=
 AR (n:=53) (by kernel_rfl) Tryz.func9 U U U fun G w a h0 A=>N9 10 A U U fun A=>C9 [] (Yo ar ha) A U fun A=>N9 10 A U U fun A=>N9 12 A U U fun A=>R9 A U h0 U U U
end
section
open Go.ChangeShapes Go.WideShapes Go.ChangeAt Go.RowKit Go.Deep
theorem WK {n:Int}(h:(Lit.int .i64 n).wf=true): -9223372036854775808≤n∧n≤9223372036854775807:=by
 have h':(decide ((IntKind.i64).min≤n)&&decide (n≤(IntKind.i64).max))=true:=h
 rw [α3,δ4,δ4,show(IntKind.i64).min= -9223372036854775808 from rfl,show(IntKind.i64).max=9223372036854775807 from rfl]at h'
 exact h'
def nP (i:In):Array Value:= #[.int .i64 i.op,.int .i64 i.dst,.int .i64 i.ra,.int .i64 i.rb,.int .i64 i.imm,.int .i64 i.loc,.int .i64 i.off,.int .i64 i.ix,.int .i64 i.sz,.int .i64 i.fn,.bool i.acq,.bool i.weak,.bool i.rel,.int .i64 i.pred,.int .i64 i.succ,.int .i64 i.to_,.bool i.zero]
def qZ (i:In):List Value:=(nP i).toList
def Yp (k:Nat):Nat:=if k==10||k==11||k==12||k==16 then 4 else 3
def WL (P:Program):Option (Array Field):=match P.underlying 63 with|some (.struct fs)=>some fs|_=>none
def Z9 (P:Program):Bool:=match WL P with|some fs=>(List.range 17).all (fun k=>match fs[k]? with|some f=>f.offset==k&&f.type==Yp k|none=>false)|none=>false
theorem Qb:Z9 Tryz.prog=true:=by kernel_rfl
theorem Qc:∃fs:Array Field,Tryz.prog.underlying 63=some (.struct fs)∧∀k,k<17→∃f,fs[k]?=some f∧f.offset=k∧f.type=Yp k:=by
 have h:=Qb
 unfold Z9 at h
 cases hq:WL Tryz.prog with
 |none=>simp [hq]at h
 | some fs=>
  rw [hq]at h
  refine⟨fs,?_,fun k hk=>?_⟩
  ·unfold WL at hq
   split at hq
   ·rename_i fs' he;rw [he];cases hq;rfl
   ·cases hq
  ·have h1:=δ3.1 h k (ζ8.2 hk)
   cases hf:fs[k]? with
   |none=>simp [hf]at h1
   |some f=>rw [hf]at h1;simp only [α3,ε5]at h1;exact⟨f,rfl,h1.1,h1.2⟩
theorem Ti:Tryz.prog.cellsOf 3=1:=by kernel_rfl
theorem Qd:Tryz.prog.cellsOf 4=1:=by kernel_rfl
theorem take_one {l:aj}{k:Nat}{v:Value}(h:(l.drop k).take 1=[v]):l[k]?=some v:=by
 have:=congrArg (fun l=>l[0]?) h
 simpa using this
section
variable {H:Type}{enc:TypeId×Value→H}{W:World}{base:Nat}{spare:Nat→Bool}{held:Bool}{base':Nat}
theorem WM (cs:aj)(n:Nat)(x:DataW H×List MemPlace)(h:DataW.trod enc Tryz.prog W base' spare held n 63 cs=some x)(hl:cs.length=17):∃i:In,cs=qZ i∧Z8 i:=by
 obtain⟨fs,hu,yW⟩:=Qc
 obtain⟨xs,n,_,_,_,hlen,hx⟩:=τ1 hu h
 have int:∀k,k<17→Yp k=3→∃m:Int,cs[k]?=some (.int .i64 m)∧ -9223372036854775808≤m∧m≤9223372036854775807:=fun k hk ht=>by
  obtain⟨f,PW,ho,wK⟩:=yW k hk
  have h1:=hx k f PW
  have hl:=(ε1.1 PW).1
  rw [ho,wK,ht,Ti,β4 (by omega)]at h1
  obtain⟨m,h2,_,h3⟩:=υ8 Tryz.underlying3 h1
  exact⟨m,take_one h2,WK h3⟩
 have bool:∀k,k<17→Yp k=4→∃b:Bool,cs[k]?=some (.bool b):=fun k hk ht=>by
  obtain⟨f,PW,ho,wK⟩:=yW k hk
  have h1:=hx k f PW
  have hl:=(ε1.1 PW).1
  rw [ho,wK,ht,Qd,β4 (by omega)]at h1
  obtain⟨m,h2,_⟩:=DataW.trod_bool Tryz.underlying4 h1
  exact⟨m,take_one h2⟩
 obtain⟨c0,h0,w0⟩:=int 0 (by decide) U
 obtain⟨c1,h1,w1⟩:=int 1 (by decide) U
 obtain⟨c2,h2,w2⟩:=int 2 (by decide) U
 obtain⟨c3,h3,w3⟩:=int 3 (by decide) U
 obtain⟨c4,h4,w4⟩:=int 4 (by decide) U
 obtain⟨c5,h5,w5⟩:=int 5 (by decide) U
 obtain⟨c6,h6,w6⟩:=int 6 (by decide) U
 obtain⟨c7,h7,w7⟩:=int 7 (by decide) U
 obtain⟨c8,h8,w8⟩:=int 8 (by decide) U
 obtain⟨c9,h9,w9⟩:=int 9 (by decide) U
 obtain⟨c10,GG⟩:=bool 10 (by decide) U
 obtain⟨c11,Fq⟩:=bool 11 (by decide) U
 obtain⟨c12,OC⟩:=bool 12 (by decide) U
 obtain⟨c13,MM,w13⟩:=int 13 (by decide) U
 obtain⟨c14,Qs,w14⟩:=int 14 (by decide) U
 obtain⟨c15,SR,w15⟩:=int 15 (by decide) U
 obtain⟨c16,T0⟩:=bool 16 (by decide) U
 refine⟨⟨c0,c1,c2,c3,c4,c5,c6,c7,c8,c9,c10,c11,c12,c13,c14,c15,c16⟩,?_,⟨w4,w6⟩,w15⟩
 apply θ9
 intro k
 by_cases hk:k<17
 ·have:k=0∨k=1∨k=2∨k=3∨k=4∨k=5∨k=6∨k=7∨k=8∨k=9∨k=10∨k=11∨k=12∨k=13∨k=14∨k=15∨k=16:=by omega
  rcases this with rfl|rfl|rfl|rfl|rfl|rfl|rfl|rfl|rfl|rfl|rfl|rfl|rfl|rfl|rfl|rfl|rfl
  ·exact h0
  ·exact h1
  ·exact h2
  ·exact h3
  ·exact h4
  ·exact h5
  ·exact h6
  ·exact h7
  ·exact h8
  ·exact h9
  ·exact GG
  ·exact Fq
  ·exact OC
  ·exact MM
  ·exact Qs
  ·exact SR
  ·exact T0
 ·rw [γ5 (by omega),γ5 (by simp [qZ,nP];omega)]
theorem J5 {P:Program}{e:Nat}{d:DataW H}:∀{l:List (DataW H)},d∈l→(DataW.weightsAll P e l).all (·≤reachBytes)=true→(d.weights P e).all (·≤reachBytes)=true
 | [],h,_=>by cases h
 |x::l,h,hw=>by
  unfold DataW.weightsAll at hw
  rw [ξ3,α3]at hw
  rcases η5.1 h with rfl|h
  ·exact hw.1
  ·exact J5 h hw.2
theorem Kf {P:Program}{t:Nat}{d:DataW H}:∀{ts:ae} {l:List (DataW H)} {i:Nat},ts[i]?=some t→l[i]?=some d→(DataW.weightsEach P ts l).all (·≤reachBytes)=true→(d.weights P t).all (·≤reachBytes)=true
 | [],_,_,h,_,_=>by simp at h
 |_::_,[],_,_,h,_=>by simp at h
 |t'::ts,x::l,i,h1,h2,hw=>by
  unfold DataW.weightsEach at hw
  rw [ξ3,α3]at hw
  cases i with
  |zero=>simp at h1 h2;subst h1;subst h2;exact hw.1
  |succ i=>exact Kf (by simpa using h1) (by simpa using h2) hw.2
theorem GF {α:Type} [Inhabited α] {en:α→List Value} {Q:α→Prop} {t e s fuel:Nat} {cells:aj} {x:DataW H×List MemPlace} (ht:Tryz.prog.underlying t=some (.slice e)) (hc:Tryz.prog.cellsOf e=s) (h0:0<s)
  (MK:∀cs n x,DataW.trod enc Tryz.prog W base' spare held n e cs=some x→cs.length=s→(x.1.weights Tryz.prog e).all (·≤reachBytes)=true→∃y:α,cs=en y∧Q y)
  (hf:DataW.trod enc Tryz.prog W base' spare held fuel t cells=some x) (Hr:(x.1.weights Tryz.prog t).all (·≤reachBytes)=true):
  ∃(ao:ak) (l:List α) (cap:Nat),cells=[.slice ao l.length cap]∧(l.length≤9223372036854775807∧l.length*Tryz.prog.bytesOf e≤reachBytes)∧Sl en s W.heap.size W (.slice ao l.length cap) l∧∀y∈l,Q y:=by
 rcases open_slice ht hf with⟨Ld,_⟩|⟨a,len0,cap0,m,n,D,Pl,Ld,hb,hl,hm,vJ,qB,hx⟩
 ·exact⟨none,[],0,Ld,by simp,Sl.nil,fun y hy=>by cases hy⟩
 ·have yF:len0≤m:=by rw [vJ];split<;>omega
  have pJ:maxLen=9223372036854775807:=rfl
  rw [qB]at Hr
  unfold DataW.weights at Hr
  rw [ht]at Hr
  simp only [List.all_cons,ξ3,α3,δ4,ε7,List.length_range]at Hr
  have Er:len0*Tryz.prog.bytesOf e≤reachBytes:=β3 (θ2 _ (ν8 _ _)) Hr.1
  rw [hc]at hx
  obtain⟨Y,hY⟩:=choose_lt (α:=α) (n:=len0) (p:=fun i y=>Q y∧(en y).length=s∧∀k,k<s→W.cell? ((a.add (i*s)).add k)=(en y)[k]?) (fun i hi=>by
   obtain⟨cs',h1,h2⟩:=hx i (by omega)
   obtain⟨_,hlen,FE⟩:=World.cells?_some h1
   obtain⟨y,rfl,hq⟩:=MK cs' n _ h2 hlen (J5 (l:=(List.range len0).map D) (List.mem_map.2 ⟨i,ζ8.2 hi,rfl⟩) Hr.2.1)
   exact⟨y,hq,hlen,FE⟩)
  have hlen:((List.range len0).map Y).length=len0:=by simp
  refine⟨some a,(List.range len0).map Y,cap0,by rw [hlen];exact Ld,by rw [hlen];exact⟨by omega,Er⟩,⟨some a,cap0,by rw [hlen],by rw [hlen];exact hl,fun j x hj=>?_⟩,fun y hy=>?_⟩
  ·have SP:j<len0:=by have:=(α0.1 hj).1;simpa using this
   have qB:x=Y j:=by simp [SP]at hj;exact hj.symm
   subst qB
   obtain⟨_,iB,FE⟩:=hY j SP
   obtain⟨b,o,spot⟩:=a
   obtain⟨_,hy0,iR⟩:=hY 0 (by omega)
   have W8:=iR 0 h0
   rw [β4 (by omega)]at W8
   have qC:spot=none:=by simpa [Addr.add]using World.cell?_spot W8
   subst qC
   refine⟨b,o,rfl,?_,fun k u hu=>?_⟩
   ·have:=World.block_lt_of_cell? W _ W8
    rw [ζ3,ζ3]at this
    exact this
   ·have hk:k<s:=by have:=(α0.1 hu).1;omega
    have:=FE k hk
    rw [hu,ζ3,ζ3]at this
    exact this
  ·obtain⟨i,hi,rfl⟩:=List.mem_map.1 hy
   exact(hY i (by simpa using hi)).1
def tR (c:AD):List Value:=[.slice c.ao c.l.length c.cp]
instance:Inhabited AD:=⟨AD.z⟩
instance:Inhabited In:=⟨In.z⟩
structure nQ (W:World)(c:AD):Prop where
 sl:Sl qZ 17 W.heap.size W (.slice c.ao c.l.length c.cp) c.l
 le:c.l.length≤9223372036854775807
 wl:c.l.length*120≤reachBytes
 ok:∀i∈c.l,Z8 i
theorem WN (cs:aj)(n:Nat)(x:DataW H×List MemPlace)(h:DataW.trod enc Tryz.prog W base' spare held n 64 cs=some x)(hl:cs.length=1)(Hr:(x.1.weights Tryz.prog 64).all (·≤reachBytes)=true):∃c:AD,cs=tR c∧nQ W c:=by
 obtain⟨ao,l,cap,h1,h2,h3,h4⟩:=GF (t:=64) (e:=63) (s:=17) (by kernel_rfl) (by kernel_rfl) (by omega) (fun cs n x h hl _=>WM cs n x h hl) h Hr
 rw [show Tryz.prog.bytesOf 63=120 by kernel_rfl]at h2
 exact⟨⟨ao,l,cap⟩,h1,h3,h2.1,h2.2,h4⟩
def AI (enc:TypeId×Value→H)(W:World)(base':Nat)(spare:Nat→Bool)(held:Bool)(t s:Nat):Prop:=Tryz.prog.cellsOf t=s∧∀(cs:aj) (n:Nat) (x:DataW H×List MemPlace),DataW.trod enc Tryz.prog W base' spare held n t cs=some x→∀k,k<s→∃m:Int,cs[k]?=some (.int .i64 m)∧ -9223372036854775808≤m∧m≤9223372036854775807
theorem AI.int:AI enc W base' spare held 3 1:=⟨by kernel_rfl,fun cs n x h k hk=>by
 obtain⟨m,h2,_,h3⟩:=υ8 Tryz.underlying3 h
 obtain rfl:k=0:=by omega
 exact⟨m,by rw [h2];rfl,WK h3⟩⟩
theorem Qe {cs:aj}{o s j:Nat}(hj:j<s):((cs.drop o).take s)[j]?=cs[o+j]?:=by
 rw [γ1 hj,η0]
theorem AI.arr {t n e s:Nat}(ht:Tryz.prog.underlying t=some (.array n e))(hc:Tryz.prog.cellsOf t=n*s)(h0:0<s)(he:AI enc W base' spare held e s):AI enc W base' spare held t (n*s):=⟨hc,fun cs f x h k hk=>by
 obtain⟨xs,m,_,_,_,Tt,hx⟩:=DataW.trod_array ht h
 have hi:k / s<n:=(Nat.div_lt_iff_lt_mul h0).2 hk
 have h1:=hx (k / s) hi
 rw [he.1,β4 (by omega)]at h1
 obtain⟨z,h2,h3⟩:=he.2 _ _ _ h1 (k % s) (υ9 _ h0)
 rw [Qe (υ9 _ h0)]at h2
 have e:k / s*s+k % s=k:=by rw [Nat.mul_comm];exact Nat.div_add_mod k s
 rw [e]at h2
 exact⟨z,h2,h3⟩⟩
def M5 (P:Program)(t i:Nat):Option (Nat×Nat):=match P.underlying t with|some (.struct fs)=>(fs[i]?).map fun f=>(f.offset,f.type)|_=>none
theorem x9 {t i o u fuel:Nat}{cs:aj}{x:DataW H×List MemPlace}(h:DataW.trod enc Tryz.prog W base' spare held fuel t cs=some x)(h1:M5 Tryz.prog t i=some (o,u)):∃n z,DataW.trod enc Tryz.prog W base' spare held n u ((cs.drop o).take (Tryz.prog.cellsOf u))=some z:=by
 unfold M5 at h1
 split at h1
 ·next fs hu=>
  obtain⟨xs,m,_,_,_,Tt,hx⟩:=τ1 hu h
  obtain⟨f,PW,iC⟩:=γ8.1 h1
  cases iC
  have h5:=hx i f PW
  have XO:=(ε1.1 PW).1
  rw [β4 (by omega)]at h5
  exact⟨m,_,h5⟩
 ·cases h1
theorem AI.str {t s:Nat}(hc:Tryz.prog.cellsOf t=s)(hf:∀k,k<s→∃i o u z,M5 Tryz.prog t i=some (o,u)∧AI enc W base' spare held u z∧o≤k∧k<o+z):AI enc W base' spare held t s:=⟨hc,fun cs n x h k hk=>by
 obtain⟨i,o,u,z,h1,h2,h3,h4⟩:=hf k hk
 obtain⟨m,z',h5⟩:=x9 h h1
 rw [h2.1]at h5
 obtain⟨q,h6,h7⟩:=h2.2 _ _ _ h5 (k - o) (by omega)
 rw [Qe (by omega),show o+(k - o)=k by omega]at h6
 exact⟨q,h6,h7⟩⟩
theorem AI.cond:AI enc W base' spare held 66 5:=by
 refine AI.str (by kernel_rfl) fun k hk=>?_
 have:k=0∨k=1∨k=2∨k=3∨k=4:=by omega
 rcases this with rfl|rfl|rfl|rfl|rfl
 ·exact⟨0,0,3,1,by kernel_rfl,AI.int,by omega,by omega⟩
 ·exact⟨1,1,3,1,by kernel_rfl,AI.int,by omega,by omega⟩
 ·exact⟨2,2,3,1,by kernel_rfl,AI.int,by omega,by omega⟩
 ·exact⟨3,3,3,1,by kernel_rfl,AI.int,by omega,by omega⟩
 ·exact⟨4,4,3,1,by kernel_rfl,AI.int,by omega,by omega⟩
def tS (c:Cn):List Value:=[.int .i64 c.k,.int .i64 c.t,.int .i64 c.r,.int .i64 c.l,.int .i64 c.v]
def yA (c:Cn):Prop:= -9223372036854775808≤c.v∧c.v≤9223372036854775807
instance:Inhabited Cn:=⟨Cn.z⟩
theorem WO (cs:aj)(n:Nat)(x:DataW H×List MemPlace)(h:DataW.trod enc Tryz.prog W base' spare held n 66 cs=some x)(hl:cs.length=5):∃y:Cn,cs=tS y∧yA y:=by
 have A:=AI.cond.2 cs n x h
 obtain⟨a,ha,_⟩:=A 0 (by omega)
 obtain⟨b,hb,_⟩:=A 1 (by omega)
 obtain⟨c,hc,_⟩:=A 2 (by omega)
 obtain⟨d,hd,_⟩:=A 3 (by omega)
 obtain⟨e,he,h5⟩:=A 4 (by omega)
 refine⟨⟨a,b,c,d,e⟩,?_,h5⟩
 match cs,hl,ha,hb,hc,hd,he with
 | [u0,u1,u2,u3,u4],_,ha,hb,hc,hd,he=>simp at ha hb hc hd he;subst ha hb hc hd he;rfl
theorem fT {t i o u fuel:Nat}{cs:aj}{x:DataW H×List MemPlace}(h:DataW.trod enc Tryz.prog W base' spare held fuel t cs=some x)(Hr:(x.1.weights Tryz.prog t).all (·≤reachBytes)=true)(h1:M5 Tryz.prog t i=some (o,u)):∃n z,DataW.trod enc Tryz.prog W base' spare held n u ((cs.drop o).take (Tryz.prog.cellsOf u))=some z∧(z.1.weights Tryz.prog u).all (·≤reachBytes)=true:=by
 unfold M5 at h1
 split at h1
 ·next fs hu=>
  obtain⟨xs,m,_,qB,_,Tt,hx⟩:=τ1 hu h
  obtain⟨f,PW,iC⟩:=γ8.1 h1
  cases iC
  have h5:=hx i f PW
  have XO:=(ε1.1 PW).1
  rw [β4 (by omega)]at h5
  refine⟨m,_,h5,?_⟩
  rw [qB]at Hr
  unfold DataW.weights at Hr
  rw [hu]at Hr
  exact Kf (i:=i) (by rw [ι0];simp [PW]) (by rw [ι0,β4 (by omega)];rfl) Hr
 ·cases h1
structure Ts where (ar:Int) (nm:ag) (mi r:Nat→Int) (bo:BO) (cs:List AD) (cx:Nat) (qu:Int) (co:BO) (kd:List Cn) (ck:Nat)
def aA (y:Ts):List Value:=[.int .i64 y.ar,.string (S y.nm),.int .i64 (y.mi 0),.int .i64 (y.mi 1),.int .i64 (y.mi 2),.int .i64 (y.r 0),.int .i64 (y.r 1),.int .i64 (y.r 2),.int .i64 (y.r 3),.int .i64 (y.r 4),.int .i64 (y.r 5),.int .i64 (y.r 6),.int .i64 (y.r 7),.int .i64 (y.r 8),.int .i64 (y.r 9),.int .i64 (y.r 10),.int .i64 (y.r 11),.int .i64 (y.r 12),.int .i64 (y.r 13),.int .i64 (y.r 14),.int .i64 (y.r 15),.int .i64 (y.r 16),.int .i64 (y.r 17),.int .i64 (y.r 18),.int .i64 (y.r 19),.int .i64 (y.r 20),.int .i64 (y.r 21),.int .i64 (y.r 22),.int .i64 (y.r 23),.slice (Jo y.bo) y.cs.length y.cx,.int .i64 y.qu,.slice (Jo y.co) y.kd.length y.ck]
structure PM (W:World)(y:Ts):Prop where
 codes:Sl tR 1 W.heap.size W (.slice (Jo y.bo) y.cs.length y.cx) y.cs
 conds:Sl tS 5 W.heap.size W (.slice (Jo y.co) y.kd.length y.ck) y.kd
 code:∀c∈y.cs,nQ W c
 cond:∀c∈y.kd,yA c
 le:y.cs.length≤9223372036854775807
 lk:y.kd.length≤9223372036854775807
 ln:y.nm.length≤9223372036854775807
 wc:y.cs.length*24≤reachBytes
 wk:y.kd.length*40≤reachBytes
 wn:y.nm.length≤reachBytes
 ar: -9223372036854775808≤y.ar∧y.ar≤9223372036854775807
 qu: -9223372036854775808≤y.qu∧y.qu≤9223372036854775807
 mi:∀k,k<3→ -9223372036854775808≤y.mi k∧y.mi k≤9223372036854775807
 r:∀k,k<24→ -9223372036854775808≤y.r k∧y.r k≤9223372036854775807
def tT:List Nat:=[3,9,3,3,3,3,3,3,3,3,3,3,3,3,3,3,3,3,3,3,3,3,3,3,3,3,3,3,3,25,3,26]
theorem WQ:Tryz.prog.cellTypes Tryz.prog.depth 28=some tT:=by kernel_rfl
theorem LX {t e n cap:Nat}{ao:ak}(ht:Tryz.prog.underlying t=some (.slice e))(hv:Cell.okWide Tryz.prog W .any base t (.slice ao n cap)):∃bo:BO,ao=Jo bo:=by
 cases ao with
 |none=>exact⟨none,rfl⟩
 |some a=>
  simp only [Cell.okWide,ht,Cell.ok]at hv
  obtain⟨b,o,s⟩:=a
  have:s=none:=hv.2.2.2.1
  subst this
  exact⟨some (b,o),rfl⟩
def isStr (P:Program)(t:Nat):Bool:=match P.underlying t with|some (.struct _)=>true|_=>false
theorem fU {t:Nat}(h:isStr Tryz.prog t=true):∃fs,Tryz.prog.underlying t=some (.struct fs):=by
 unfold isStr at h
 split at h
 ·next fs he=>exact⟨fs,he⟩
 ·cases h
theorem Tj {v:Value}{d:DataW H}{ps:List MemPlace}(hv:Value.okWide Tryz.prog W .any base 28 v)(h:DataW.Trod enc Tryz.prog W base' spare held 28 v d ps)(Hr:(d.weights Tryz.prog 28).all (·≤reachBytes)=true):∃y:Ts,v=.agg (aA y).toArray∧PM W y:=by
 obtain⟨fs,hu⟩:=fU (t:=28) (by kernel_rfl)
 simp only [Value.okWide,hu]at hv
 obtain⟨ca,rfl,D7,ts,Ls,_,DV⟩:=hv
 rw [WQ]at Ls
 cases Ls
 rw [show Tryz.prog.cellsOf 28=32 by kernel_rfl]at D7
 obtain⟨fuel,hf⟩:=h
 have Tv:∀k:Nat,ca[k]?=ca.toList[k]?:=fun k=>by simp
 have hf:DataW.trod enc Tryz.prog W base' spare held fuel 28 ca.toList=some (d,ps):=by simpa [Value.cells]using hf
 have hl:ca.toList.length=32:=by simpa using D7
 have one:∀(i o u s:Nat),M5 Tryz.prog 28 i=some (o,u)→AI enc W base' spare held u s→∀k,k<s→∃m:Int,ca.toList[o+k]?=some (.int .i64 m)∧ -9223372036854775808≤m∧m≤9223372036854775807:=fun i o u s h1 h2 k hk=>by
  obtain⟨n,z,h3⟩:=x9 hf h1
  rw [h2.1]at h3
  obtain⟨m,h4,h5⟩:=h2.2 _ _ _ h3 k hk
  rw [Qe hk]at h4
  exact⟨m,h4,h5⟩
 obtain⟨ar,h0,har⟩:=one 0 0 3 1 (by kernel_rfl) AI.int 0 (by decide)
 obtain⟨qu,h30,rN⟩:=one 5 30 3 1 (by kernel_rfl) AI.int 0 (by decide)
 obtain⟨mi,jH⟩:=choose_lt (α:=Int) (n:=3) (one 2 2 22 3 (by kernel_rfl) (AI.arr (n:=3) (s:=1) (e:=3) (by kernel_rfl) (by kernel_rfl) (by decide) AI.int))
 obtain⟨r,hr⟩:=choose_lt (α:=Int) (n:=24) (one 3 5 24 24 (by kernel_rfl) (AI.arr (n:=3) (s:=8) (e:=23) (by kernel_rfl) (by kernel_rfl) (by decide) (AI.arr (n:=8) (s:=1) (e:=3) (by kernel_rfl) (by kernel_rfl) (by decide) AI.int)))
 obtain⟨n1,z1,hn,W2⟩:=fT hf Hr (i:=1) (o:=1) (u:=9) (by kernel_rfl)
 obtain⟨nm,p7,vN,XS⟩:=DataW.trod_string (by kernel_rfl) hn
 rw [show Tryz.prog.cellsOf 9=1 by kernel_rfl]at p7
 have h1:=take_one p7
 obtain⟨n2,z2,hc,hwc⟩:=fT hf Hr (i:=4) (o:=29) (u:=25) (by kernel_rfl)
 obtain⟨ao,cs,cx,iK,hle,UB,Ch⟩:=GF (t:=25) (e:=64) (s:=1) (by kernel_rfl) (by kernel_rfl) (by omega) WN hc hwc
 rw [show Tryz.prog.cellsOf 25=1 by kernel_rfl]at iK
 have yX:=take_one iK
 obtain⟨n3,z3,hk,hwk⟩:=fT hf Hr (i:=6) (o:=31) (u:=26) (by kernel_rfl)
 obtain⟨ao',kd,ck,SN,wL,hsk,wM⟩:=GF (t:=26) (e:=66) (s:=5) (by kernel_rfl) (by kernel_rfl) (by omega) (fun cs n x h hl _=>WO cs n x h hl) hk hwk
 rw [show Tryz.prog.bytesOf 64=24 by kernel_rfl]at hle
 rw [show Tryz.prog.bytesOf 66=40 by kernel_rfl]at wL
 rw [vN]at W2
 rw [show Tryz.prog.cellsOf 26=1 by kernel_rfl]at SN
 have yY:=take_one SN
 obtain⟨u,hu1,hu2⟩:=DV 29 _ ((Tv 29).trans yX)
 cases hu1
 obtain⟨bo,rfl⟩:=LX (e:=64) (by kernel_rfl) hu2
 obtain⟨u,hu3,hu4⟩:=DV 31 _ ((Tv 31).trans yY)
 cases hu3
 obtain⟨co,rfl⟩:=LX (e:=66) (by kernel_rfl) hu4
 refine⟨⟨ar,nm.data.toList,mi,r,bo,cs,cx,qu,co,kd,ck⟩,?_,UB,hsk,Ch,wM,hle.1,wL.1,?_,hle.2,wL.2,(by unfold DataW.weights at W2;simpa using W2),har,rN,fun k hk=>(jH k hk).2,fun k hk=>(hr k hk).2⟩
 ·have e:ca.toList=aA ⟨ar,nm.data.toList,mi,r,bo,cs,cx,qu,co,kd,ck⟩:=by
   apply θ9
   intro k
   by_cases hk:k<32
   ·have:k=0∨k=1∨k=2∨k=3∨k=4∨k=5∨k=6∨k=7∨k=8∨k=9∨k=10∨k=11∨k=12∨k=13∨k=14∨k=15∨k=16∨k=17∨k=18∨k=19∨k=20∨k=21∨k=22∨k=23∨k=24∨k=25∨k=26∨k=27∨k=28∨k=29∨k=30∨k=31:=by omega
    rcases this with rfl|rfl|rfl|rfl|rfl|rfl|rfl|rfl|rfl|rfl|rfl|rfl|rfl|rfl|rfl|rfl|rfl|rfl|rfl|rfl|rfl|rfl|rfl|rfl|rfl|rfl|rfl|rfl|rfl|rfl|rfl|rfl
    ·exact h0
    ·exact h1
    ·exact(jH 0 (by decide)).1
    ·exact(jH 1 (by decide)).1
    ·exact(jH 2 (by decide)).1
    ·exact(hr 0 (by decide)).1
    ·exact(hr 1 (by decide)).1
    ·exact(hr 2 (by decide)).1
    ·exact(hr 3 (by decide)).1
    ·exact(hr 4 (by decide)).1
    ·exact(hr 5 (by decide)).1
    ·exact(hr 6 (by decide)).1
    ·exact(hr 7 (by decide)).1
    ·exact(hr 8 (by decide)).1
    ·exact(hr 9 (by decide)).1
    ·exact(hr 10 (by decide)).1
    ·exact(hr 11 (by decide)).1
    ·exact(hr 12 (by decide)).1
    ·exact(hr 13 (by decide)).1
    ·exact(hr 14 (by decide)).1
    ·exact(hr 15 (by decide)).1
    ·exact(hr 16 (by decide)).1
    ·exact(hr 17 (by decide)).1
    ·exact(hr 18 (by decide)).1
    ·exact(hr 19 (by decide)).1
    ·exact(hr 20 (by decide)).1
    ·exact(hr 21 (by decide)).1
    ·exact(hr 22 (by decide)).1
    ·exact(hr 23 (by decide)).1
    ·exact yX
    ·exact h30
    ·exact yY
   ·rw [γ5 (by omega),γ5 (by simp [aA];omega)]
  rw [←e]
 ·have pJ:maxLen=9223372036854775807:=rfl
  show nm.data.toList.length≤_
  have e2:nm.data.toList.length=nm.size:=Array.length_toList
  rw [e2]
  exact XS
end
end
section
open Go.ChangeShapes Go.WideShapes Go.ChangeAt Go.RowKit
def nR (y:Ts):SV:=.agg (FM y.ar y.nm y.mi y.r (.sl 0 y.cs.length y.cx) y.qu (.sl 1 y.kd.length y.ck))
def Qf (y:Ts):Hp:=[some (.lst 1 y.cs.length (fun zz=>I7 (y.cs.getD zz AD.z))),some (.lst 5 y.kd.length (fun zz=>cc (y.kd.getD zz Cn.z)))]
def PN (y:Ts):Gr:=[Ep y.bo,Ep y.co]
section
variable {W:World}{y:Ts}
theorem aC (h:PM W y):den (PN y) (.sl 0 y.cs.length y.cx)=some (.slice (Jo y.bo) y.cs.length y.cx)∧Ag (PN y) W (Ep y.bo) (.lst 1 y.cs.length (fun zz=>I7 (y.cs.getD zz AD.z))):=
 (QP (bo:=y.bo) (enc:=tR) (f:=fun zz=>I7 (y.cs.getD zz AD.z)) h.codes (β8 _) (fun k x hx=>by show AO [] (I7 (y.cs.getD k AD.z))=_;rw [α8,hx];rfl) (fun k=>⟨_,rfl⟩)).2 [] [Ep y.co]
theorem aD (h:PM W y):den (PN y) (.sl 1 y.kd.length y.ck)=some (.slice (Jo y.co) y.kd.length y.ck)∧Ag (PN y) W (Ep y.co) (.lst 5 y.kd.length (fun zz=>cc (y.kd.getD zz Cn.z))):=
 (QP (bo:=y.co) (enc:=tS) (f:=fun zz=>cc (y.kd.getD zz Cn.z)) h.conds (β8 _) (fun k x hx=>by show AO [] (cc (y.kd.getD k Cn.z))=_;rw [α8,hx];rfl) (fun k=>⟨_,rfl⟩)).2 [Ep y.bo] []
theorem WR:∀(i:Nat) (e:BZ),(Qf y)[i]?=some (some e)→e.mut=false:=fun i e he=>by
 match i,he with
 |0,he=>cases he;rfl
 |1,he=>cases he;rfl
 |n+2,he=>simp [Qf]at he
theorem fV (h:PM W y):Mem (Qf y) (PN y) W:=⟨rfl,fun i e he=>by
  match i,he with
  |0,he=>cases he;exact(aC h).2
  |1,he=>cases he;exact(aD h).2
  |n+2,he=>simp [Qf]at he,fun i j e f L M _ hi _ hm _ _ _=>by rw [WR i e hi]at hm;cases hm⟩
theorem fW (h:PM W y):AO (PN y) [nR y]=some [.agg (aA y).toArray]:=by
 have e1:=(aC h).1
 have e2:=(aD h).1
 generalize PN y=G at e1 e2
 unfold nR aA
 simp only [AO,den,δ0]at e1 e2⊢
 rw [e1,e2]
 rfl
theorem WS (h:PM W y){ks:ae}(hk:∀b,ks.contains b=false):AH y.cs W ks:=fun c hc=>by
 obtain⟨ao,cap,hv,Pa,he⟩:=(h.code c hc).sl
 injection hv with q1 q2 q3
 refine⟨fun k=>⟨_,rfl⟩,?_⟩
 by_cases h0:c.l.length=0
 ·exact .inl h0
 ·obtain⟨b,o,e,hb,_⟩:=he 0 c.l[0] (β4 (by omega))
  refine .inr ⟨b,o,q1.trans e,hb,hk b,fun k rI=>?_⟩
  obtain⟨b',o',e',_,hr⟩:=he k c.l[k] (β4 rI)
  rw [e]at e'
  cases e'
  exact⟨qZ c.l[k],(by show AO [] (Ce (c.l.getD k In.z))=_;rw [α8,β4 rI];rfl),hr⟩
theorem Yq (h:Lib.TabIs Tryz.prog W "internal/strconv.uint64pow10" .u64 Lib.pow10Tab):∃(g:Nat) (o:Obj),W.heap[g]?=some o∧∀w:World,w.heap[g]?=some o→Lib.TabIs Tryz.prog w "internal/strconv.uint64pow10" .u64 Lib.pow10Tab:=by
 unfold Lib.TabIs World.var? at h
 cases hg:Tryz.prog.globalNamed "internal/strconv.uint64pow10" with
 |none=>rw [hg]at h;simp at h
 | some g=>
  rw [hg]at h
  cases ho:W.heap[g]? with
  |none=>simp [ho]at h
  |some o=>
   refine⟨g,o,ho,fun w hw=>?_⟩
   unfold Lib.TabIs World.var?
   rw [hg]
   simp only [τ2,ho,hw]at h⊢
   exact h
theorem Iy {b k:Nat}{v:Value}(h:W.cell? ⟨b,k,none⟩=some v):∃o,W.heap[b]?=some o∧∀w:World,w.heap[b]?=some o→w.cell? ⟨b,k,none⟩=some v:=by
 cases ho:W.heap[b]? with
 |none=>unfold World.cell? at h;simp [ho]at h
 |some o=>
  refine⟨o,rfl,fun w hw=>?_⟩
  unfold World.cell? at h⊢
  simp only [ho,hw]at h⊢
  exact h
end
end
namespace Mc
open Go.RowKit
def z7 (ar:Int):In→Int:=fun i=>if ar=1 then(DW EU QS i (El i.to_)).2 else if ar=2 then(DW CT H7 i (El i.to_)).2 else(DW Ar.Ek Ar.QV i (El i.to_)).2
def WT (ar:Int)(nm:ag)(cs:List AD)(qu:Int)(kd:List Cn)(r:Nat→Int):Int:=if 1≤ar∧ar≤3 then Dy (z7 ar) nm cs qu kd r else 36
theorem Tl (ar:Int)(nm:ag)(mi r:Nat→Int)(cs:List AD)(cx:Nat)(qu:Int)(kd:List Cn)(ck:Nat)(os:List (Nat×Obj))(hM:Ln os)(hT:PZ os)(hE:Mn os)(hs:∀c∈cs,c.l.length≤9223372036854775807)(hR:∀c∈cs,∀i∈c.l,Z8 i)(hn:cs.length≤9223372036854775807):BQ (GC os cs) Tryz.prog 9 [.agg (BA ar nm mi r cs cx qu kd ck)] [an cs,av kd] (Rt (.int .i64 (WT ar nm cs qu kd r)) [an cs,av kd]):=by
 by_cases h:1≤ar∧ar≤3
 ·have hc:ar=1∨ar=2∨ar=3:=by omega
  unfold WT
  rw [if_pos h]
  rcases hc with rfl|rfl|rfl
  ·exact Td nm mi r cs cx qu kd ck os hM hT hE hs hR hn
  ·exact Te nm mi r cs cx qu kd ck os hM hT hE hs hR hn
  ·exact Tf nm mi r cs cx qu kd ck os hM hT hE hs hR hn
 ·unfold WT
  rw [if_neg h]
  exact(Tg ar nm mi r cs cx qu kd ck h).toI
theorem tU {ar:Int}{nm:ag}{cs:List AD}{qu:Int}{kd:List Cn}{r:Nat→Int}(h:WT ar nm cs qu kd r=0):Me cs=0∧kd.length≤32:=by
 unfold WT at h
 split at h
 ·unfold Dy at h
  split at h
  ·omega
  split at h
  ·omega
  split at h
  ·next hh=>exact absurd h hh
  ·next hh=>
   refine⟨Decidable.not_not.1 hh,?_⟩
   split at h
   ·omega
   split at h
   ·omega
   split at h
   ·omega
   ·next hr=>
    have hr:PL kd=true:=by simpa using hr
    unfold PL at hr
    split at hr
    ·cases hr
    ·omega
 ·omega
section
variable {W:World}{y:Ts}
theorem nS {G:Gr}{p:Option Loc}{s n:Nat}{f:Nat→List SV}(h:Ag [] W p (.lst s n f)):Ag G W p (.lst s n f):=h
end
end Mc
namespace Mc
open Go.RowKit
set_option simprocs false
theorem nT {cs cs':List AD}(hl:cs'.length=cs.length)(he:∀k,k<cs.length→(cs'.getD k AD.z).l=(cs.getD k AD.z).l):∀k,(cs'.getD k AD.z).l=(cs.getD k AD.z).l:=fun k=>by
 by_cases hk:k<cs.length
 ·exact he k hk
 ·rw [α8,α8,γ5 (by omega),γ5 (by omega)]
theorem nU {cs cs':List AD}(hl:cs'.length=cs.length)(he:∀k,k<cs.length→(cs'.getD k AD.z).l=(cs.getD k AD.z).l):cs'.map (·.l)=cs.map (·.l):=by
 refine τ6 (by simp [hl]) fun k h1 h2=>?_
 rw [ε7]at h1 h2
 have:=he k h2
 rw [α8,α8,β4 h1,β4 h2]at this
 simpa using this
theorem WU {c d:AD}(h:c.l=d.l):GR c=GR d:=by unfold GR;rw [h]
theorem aE {cs cs':List AD}(h:cs'.map (·.l)=cs.map (·.l))(p:In→Bool):Ic p cs'=Ic p cs:=by
 unfold Ic
 have e:∀x:List AD,(x.map fun c=>FZ p c.l)=(x.map (·.l)).map (FZ p):=fun x=>by rw [τ9];rfl
 rw [e,e,h]
theorem SF {cs cs':List AD}(hl:cs'.length=cs.length)(he:∀k,k<cs.length→(cs'.getD k AD.z).l=(cs.getD k AD.z).l)(h:Me cs=0):Me cs'=0:=by
 have hA:=nT hl he
 have hm:=nU hl he
 have e1:Ia cs'=Ia cs:=by unfold Ia;rw [hl];congr 1;funext k;rw [hA k]
 have e2:JY cs'=JY cs:=by unfold JY;rw [hl];congr 1;funext k;rw [WU (hA k)]
 have e3:Ie cs'=Ie cs:=by unfold Ie;rw [aE hm,aE hm]
 unfold Me at h⊢
 rw [hl,e1,e2,e3]
 revert h
 split
 ·exact id
 ·split
  ·exact id
  ·split
   ·next k _=>rw [WU (hA k),hA k];exact id
   ·exact id
theorem GM.le {cs:List AD}{N N':Nat}{w:World}{ks:ae}(h:GM cs N w ks)(hn:N'≤N):GM cs N' w ks:=fun ks' hk=>h ks' fun b hb=>(hk b hb).elim (fun q=>.inl (by omega)) .inr
theorem nV {q n:Int}(h:0≤q∧q<n):(decide (q≥0)&&decide (q<n))=true:=by rw [η3 h.1,η3 h.2];rfl
theorem tV {q n:Int}(h:¬(0≤q∧q<n)):(decide (q≥0)&&decide (q<n))=false:=by
 by_cases h1:q≥0
 ·rw [η9 (show¬q<n by omega),Bool.and_false]
 ·rw [η9 h1,Bool.false_and]
theorem nW {a b:Int}(h:(!(a==0)||decide (b>60))=false):a=0∧b≤60:=by
 simp at h;omega
theorem nX {cs cs2:List AD}{ts:List Th}{th:Int}{m:Rg}(he:(cs2.getD th.toNat AD.z).l=(cs.getD th.toNat AD.z).l):Ak cs ts th (Hk m (ts.getD th.toNat Th.z).r ((cs.getD th.toNat AD.z).l.getD ((((ts.getD th.toNat Th.z).at_:Nat):Int)).toNat In.z))=Ak cs2 ts th (Hk m (ts.getD th.toNat Th.z).r ((cs2.getD th.toNat AD.z).l.getD ((((ts.getD th.toNat Th.z).at_:Nat):Int)).toNat In.z)):=by
 unfold Ak;rw [he]
theorem RD.as {cs:List AD}{ts ts':List Th}{tr z:List Tr}{ra:ak}{nn N:Nat}{w:World}{ks:ae}(h:RD cs ts tr z ra nn N w ks)(e:ts=ts'):RD cs ts' tr z ra nn N w ks:=e▸h
end Mc
namespace Mc
open Go.ChangeShapes Go.WideShapes Go.ChangeAt Go.RowKit Go.Deep
def nY (a:Int):List Value:=[.int .i64 a]
section
variable {H:Type}{enc:TypeId×Value→H}{W:World}{base:Nat}{spare:Nat→Bool}{held:Bool}{base':Nat}
theorem WV (cs:aj)(n:Nat)(x:DataW H×List MemPlace)(h:DataW.trod enc Tryz.prog W base' spare held n 3 cs=some x)(hl:cs.length=1):∃y:Int,cs=nY y∧True:=by
 obtain⟨m,h2,_,_⟩:=υ8 Tryz.underlying3 h
 exact⟨m,h2,trivial⟩
theorem WW {t e n cap:Nat}{ao:ak}(ht:Tryz.prog.underlying t=some (.slice e))(hv:Value.okWide Tryz.prog W .any base t (.slice ao n cap)):∃bo:BO,ao=Jo bo:=by
 cases ao with
 |none=>exact⟨none,rfl⟩
 |some a=>
  unfold Value.okWide at hv
  rw [ht]at hv
  simp only [Cell.okWide,ht,Cell.ok]at hv
  obtain⟨b,o,s⟩:=a
  have:s=none:=hv.2.2.2.1
  subst this
  exact⟨some (b,o),rfl⟩
theorem Tm {v:Value}{d:DataW H}{ps:List MemPlace}(hv:Value.okWide Tryz.prog W .any base 29 v)(h:DataW.Trod enc Tryz.prog W base' spare held 29 v d ps)(Hr:(d.weights Tryz.prog 29).all (·≤reachBytes)=true):∃(bo:BO) (l:List Int) (cap:Nat),v=.slice (Jo bo) l.length cap∧l.length*8≤reachBytes∧Sl nY 1 W.heap.size W (.slice (Jo bo) l.length cap) l:=by
 obtain⟨fuel,hf⟩:=h
 obtain⟨ao,l,cap,h1,h2,h3,_⟩:=GF (α:=Int) (en:=nY) (Q:=fun _=>True) (t:=29) (e:=3) (s:=1) (by kernel_rfl) (by kernel_rfl) (by omega) (fun cs n x h hl _=>WV cs n x h hl) hf Hr
 rw [show Tryz.prog.bytesOf 3=8 by kernel_rfl]at h2
 have hu:Tryz.prog.underlying 29=some (.slice 3):=by kernel_rfl
 obtain⟨a0,len0,cap0,rfl⟩:=okWide_slice hu hv
 simp [Value.cells]at h1
 obtain⟨rfl,rfl,rfl⟩:=h1
 obtain⟨bo,rfl⟩:=WW (t:=29) (e:=3) hu hv
 exact⟨bo,l,_,rfl,h2.2,h3⟩
end
theorem Yr {bo:BO}{n cap:Nat}{w:World}{l:List Int}(h:Sl nY 1 w.heap.size w (.slice (Jo bo) n cap) l):n=l.length∧∀(G F:Gr),den (G++Ep bo::F) (.sl G.length l.length cap)=some (.slice (Jo bo) n cap)∧Ag (G++Ep bo::F) w (Ep bo) (.lst 1 l.length (fun j=>[.int .i64 (l.getD j 0)])):=QP (f:=fun j=>[.int .i64 (l.getD j 0)]) h (β8 _) (fun k x hx=>by show AO [] [SV.int .i64 (l.getD k 0)]=_;rw [α8,hx];rfl) (fun k=>⟨_,rfl⟩)
end Mc
namespace Mc
open Go.RowKit
section
variable {W:World}{y:Ts}
theorem WX (h:∀i:Nat,i<64→W.cell? ⟨3,i,none⟩=some (.int .u8 (U7.getD i 0))):∃o,W.heap[3]?=some o∧∀w:World,w.heap[3]?=some o→∀i:Nat,i<64→w.cell? ⟨3,i,none⟩=some (.int .u8 (U7.getD i 0)):=by
 obtain⟨o,k,_⟩:=Iy (h 0 (by decide))
 refine⟨o,k,fun w hw i hi=>?_⟩
 obtain⟨o',k',c'⟩:=Iy (h i hi)
 cases k.symm.trans k'
 exact c' w hw
theorem Ys {w:World}{ks:ae}{o:Obj}(h:w.heap[3]?=some o)(hk:ks.contains 3=false)(hc:∀i:Nat,i<64→w.cell? ⟨3,i,none⟩=some (.int .u8 (U7.getD i 0))):FL w ks:=by
 have BU:3<w.heap.size:=(ε1.1 h).1
 refine⟨fun k=>⟨_,rfl⟩,.inr ⟨3,0,rfl,BU,hk,fun k Dz=>⟨[.int .u8 (U7.getD k 0)],rfl,fun q v hq=>?_⟩⟩⟩
 match q,hq with
 |0,hq=>
  simp only [ξ5,β1]at hq
  subst hq
  have:=hc k Dz
  simpa using this
 |q+1,hq=>simp at hq
theorem Tn {f:Nat} {x:SV} {v:Value} {ex:List SV} {Hx:Hp} {Gx:Gr} {vx:aj} (hx:∀G:Gr,den G x=some v) (hO:PM W y) (hT0:Lib.TabIs Tryz.prog W "internal/strconv.uint64pow10" .u64 Lib.pow10Tab) (m0:Int) (hm:W.cell? ⟨0,0,none⟩=some (.int .i64 m0)) (ev:Value) (he:W.cell? ⟨4,0,none⟩=some ev) (p6:ev=.nilIface∨∃te pe,ev=.iface te pe)
  (wN:∀i:Nat,i<64→W.cell? ⟨3,i,none⟩=some (.int .u8 (U7.getD i 0))) (hlen:Hx.length=Gx.length) (yZ:∀(i:Nat) (e:BZ),Hx[i]?=some (some e)→∃s n f,e=.lst s n f∧Ag [] W ((Gx[i]?).getD none) (.lst s n f)) (hdx:AO (PN y++Gx) ex=some vx)
  (h:∀(os:List (Nat×Obj)) (hM:∀w ks,Gl os w ks→∃m,w.cell? ⟨0,0,none⟩=some (.int .i64 m)) (hT:∀w ks,Gl os w ks→Lib.TabIs Tryz.prog w "internal/strconv.uint64pow10" .u64 Lib.pow10Tab) (hE:∀w ks,Gl os w ks→∃ev,w.cell? ⟨4,0,none⟩=some ev∧(ev=.nilIface∨∃te pe,ev=.iface te pe)) (hD:∀w ks,Gl os w ks→FL w ks),BQ (GC os y.cs) Tryz.prog f (nR y::ex) (Qf y++Hx) (Rt x (Qf y++Hx))):Calls Tryz.prog f (.agg (aA y).toArray::vx).toArray W fun e W'=>e=.returned v∧By W W':=by
 have OG:(Qf y).length=(PN y).length:=rfl
 have SQ:∀(i:Nat) (e:BZ),(Qf y++Hx)[i]?=some (some e)→e.mut=false:=fun i e hi=>by
  by_cases q:i<(Qf y).length
  ·rw [α2 q]at hi;exact WR i e hi
  ·rw [α1 (by omega)]at hi
   obtain⟨s,n,f,rfl,_⟩:=yZ _ e hi
   rfl
 have wO:Mem (Qf y++Hx) (PN y++Gx) W:=by
  refine Vt (by rw [α4,α4,OG,hlen]) fun i e hi=>⟨SQ i e hi,?_⟩
  by_cases q:i<(Qf y).length
  ·rw [α2 q]at hi
   rw [α2 (by omega)]
   have:=((fV hO).ent i e hi).more Gx
   exact this
  ·rw [α1 (by omega)]at hi
   rw [α1 (by omega),←OG]
   obtain⟨s,n,f,rfl,h2⟩:=yZ _ e hi
   exact nS h2
 obtain⟨g5,o5,k5,c5⟩:=Yq hT0
 obtain⟨o3,k3,c3⟩:=WX wN
 obtain⟨o0,k0,c0⟩:=Iy hm
 obtain⟨o1,k1,c1⟩:=Iy he
 have hk:∀k,(keys (Qf y++Hx) (PN y++Gx)).contains k=false:=fun k=>Zm SQ k
 have wC:∀k,(keys (Qf y) (PN y)).contains k=false:=fun k=>Zm WR k
 have hG:Gl [(0,o0),(4,o1),(g5,o5),(3,o3)] W (keys (Qf y++Hx) (PN y++Gx)):=fun p hp=>by
  simp only [η5,List.not_mem_nil,ν5]at hp
  rcases hp with rfl|rfl|rfl|rfl
  ·exact⟨k0,hk _⟩
  ·exact⟨k1,hk _⟩
  ·exact⟨k5,hk _⟩
  ·exact⟨k3,hk _⟩
 have iS:AH y.cs W (keys (Qf y++Hx) (PN y++Gx)):=AH.ok _ _ _ _ (WS hO wC) (CQ.refl _ _) (fun b hb=>by rw [hk b]at hb;cases hb)
 have hf:=h [(0,o0),(4,o1),(g5,o5),(3,o3)] (fun w ks hg=>⟨m0,c0 w (hg (0,o0) (by simp)).1⟩) (fun w ks hg=>c5 w (hg (g5,o5) (by simp)).1) (fun w ks hg=>⟨ev,c1 w (hg (4,o1) (by simp)).1,p6⟩) (fun w ks hg=>Ys (hg (3,o3) (by simp)).1 (hg (3,o3) (by simp)).2 (c3 w (hg (3,o3) (by simp)).1))
 have IB:AO (PN y++Gx) (nR y::ex)=some (.agg (aA y).toArray::vx):=by
  have h1:=A6 Gx [nR y] (fW hO)
  obtain⟨v1,ws,e1,e2,e3⟩:=BH h1
  cases e2
  cases e3
  exact BK e1 hdx
 refine π3 (hf.2 (PN y++Gx) W _ wO ⟨hG,iS⟩ IB) fun e W' hp=>?_
 obtain⟨v',F,h1,h2,_,h4⟩:=YW hp SQ
 rw [hx]at h1
 cases h1
 exact⟨h2,h4⟩
end
end Mc
section
open Go.RowKit
section
variable {P:Program}(w:World)
end
section
variable {P:Program}{Y:Tb}{n:Nat}{ks:ae}{G0:Gr}{w0:World}{T:List (Nat×SV)}{H:Hp}{G:Gr}{a:Act}{w:World}{Q:ab}{K:List Fr}{ops:ah}{o:Oper}{rest:ai}
theorem WY {f:Nat→List SV}{s:Nat}(hs:∀k,∃vs,AO [] (f k)=some vs∧vs.length=s){d m:Nat}{xs:aj}(h:CD f (d+m)=some xs):CD f d=some (xs.take (d*s))∧CD (fun k=>f (d+k)) m=some (xs.drop (d*s)):=by
 obtain⟨x1,e1⟩:=IJ hs d
 obtain⟨x2,e2⟩:=IJ (f:=fun k=>f (d+k)) (fun k=>hs _) m
 have:=JR m d e1 e2
 rw [h]at this
 cases this
 have hl:=DG hs e1
 rw [←hl,σ8,List.drop_left]
 exact⟨e1,e2⟩
end
end
end Go.Proofs.YtbbdanhpphlbpaaGreatDoor
