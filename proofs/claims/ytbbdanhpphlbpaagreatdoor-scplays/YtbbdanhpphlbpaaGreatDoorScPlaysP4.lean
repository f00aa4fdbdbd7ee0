/- ScPlays, part 4: the engine, contracts, theory. -/
import Derived.Test.YtbbdanhpphlbpaaGreatDoorScPlaysP3
import Derived.WalkKit
import Derived.Shelf.Small.Strs
import Derived.Shelf.Strings.Search3
import Derived.Lib.IndexMore
set_option linter.unusedVariables false
set_option linter.unusedSimpArgs false
set_option linter.unusedSectionVars false
set_option maxRecDepth 100000
set_option maxHeartbeats 2000000
namespace Go.Proofs.YtbbdanhpphlbpaaGreatDoor.Mc
open Go.RowKit
set_option simprocs false
theorem RB (s1:Int):Fn Tryz.prog 176 [.int .i64 s1] [] (Rt (.bool ((((s1==1)||(s1==2))||(s1==4))||(s1==8))) []):=
 AG (n:=17) (by kernel_rfl) Tryz.func176 rfl rfl rfl fun G w a h0 A=>M hX 25 A rfl rfl fun A=>R9 A rfl h0 rfl rfl rfl
def eE (o1:Int):Nat→Int
 |0=>0
 |j+1=>IntKind.wrap .i64 ((((BitVec.ofInt (IntKind.bits .i64) (eE o1 j))|||(BitVec.ofInt (IntKind.bits .i64) (IntKind.wrap .i64 (1*2^min ((o1+(j:Int))).toNat (IntKind.bits .i64))))).toNat:Nat):Int)
theorem Wy {o1 s1:Int}{j:Nat}(hs:s1=1∨s1=2∨s1=4∨s1=8)(ho:0≤o1∧o1≤8 - s1∧Int.tmod o1 s1=0)(hj:j=s1.toNat):eE o1 j=A7 o1 s1:=by
 subst hj
 have h1:=ho.1
 have h2:=ho.2.1
 have h3:=ho.2.2
 have h4:s1≥1:=by rcases hs with h|h|h|h<;>omega
 have h8:o1=0∨o1=1∨o1=2∨o1=3∨o1=4∨o1=5∨o1=6∨o1=7:=by omega
 rcases h8 with rfl|rfl|rfl|rfl|rfl|rfl|rfl|rfl<;>rcases hs with rfl|rfl|rfl|rfl<;>first|(exfalso;omega)|exact absurd h3 (by decide)|decide
theorem RE (o1 s1:Int)(hs:s1=1∨s1=2∨s1=4∨s1=8)(ho:0≤o1∧o1≤8 - s1∧Int.tmod o1 s1=0):Fn Tryz.prog 135 [.int .i64 o1,.int .i64 s1] [] (Rt (.int .i64 (A7 o1 s1)) []):=
 AG (n:=39) (by kernel_rfl) Tryz.func135 rfl rfl rfl fun G w a h0 A=>N9 9 A rfl rfl fun A=>C9 [] (RB s1) A rfl fun A=>N9 19 A rfl (BX<|BX<|BX<|HW (fun hg=>(by have:=ho;rcases hs with rfl|rfl|rfl|rfl<;>omega))<|BX<|BX<|BX<|BX<|BX<|HW (fun hg=>(by have:=ho;rcases hs with rfl|rfl|rfl|rfl<;>omega))<|BX<|BX<|iT) fun A=>fork 25 A rfl
  (fun h1 A=>absurd h1 (by have h1:=ho.1;have h2:=ho.2.1;have h3:=ho.2.2;rcases hs with rfl|rfl|rfl|rfl<;>simp [h3]<;>omega))
  (fun h1 A=>N9 16 A rfl rfl fun A=>have A:=AB A 6 (.int .i64 (o1+((0:Nat):Int))) rfl (fun _=>congrArg (fun z=>some (Value.int .i64 z)) (by omega));Bk (fun(j:Nat)=>[(0,.int .i64 o1),(1,.int .i64 s1),(4,.int .i64 0),(5,.int .i64 (eE o1 j)),(6,.int .i64 (o1+(j:Int)))]) (fun(j:Nat)=>[]) (fun(j:Nat)=>j≤s1.toNat) (fun(j:Nat)=>s1.toNat - j) 0 (Nat.zero_le _) ((A.cut [0,1,4,5,6] rfl).trunc 0 rfl rfl rfl (iR h0 rfl)) fun j hJ {G a w} A=>N9 10 A rfl (iU (by first|omega|(rcases hs with rfl|rfl|rfl|rfl<;>omega))<|iT) fun A=>AL 31 A rfl
    (fun h2 A=>N9 14 A rfl (iU (by first|omega|(rcases hs with rfl|rfl|rfl|rfl<;>omega))<|iT) fun A=>N9 5 A rfl (iU (by first|omega|(rcases hs with rfl|rfl|rfl|rfl<;>omega))<|iT) fun A=>⟨j+1,_,(by omega),(by omega),(((AB A 6 (.int .i64 (o1+((j+1:Nat):Int))) rfl (fun _=>congrArg (fun z=>some (Value.int .i64 z)) (by omega))).cut [0,1,4,5,6] rfl).trunc 0 rfl rfl rfl (iR h0 rfl)).sayT (by rfl)⟩)
    (fun h2 A=>N9 10 A rfl rfl fun A=>R9 A rfl h0 rfl (congrArg (SV.int .i64) (Wy hs ho (show j=s1.toNat from(by omega)))) rfl))
theorem Wz (v1 k1:Int)(hk:0≤k1∧k1<8):Fn Tryz.prog 134 [.int .i64 v1,.int .i64 k1] [] (Rt (.int .i64 (IntKind.wrap .i64 ((((BitVec.ofInt (IntKind.bits .i64) (Int.fdiv v1 (2^min ((8*k1)).toNat (IntKind.bits .i64))))&&&(BitVec.ofInt (IntKind.bits .i64) 255)).toNat:Nat):Int))) []):=
 AG (n:=10) (by kernel_rfl) Tryz.func134 rfl rfl rfl fun G w a h0 A=>N9 16 A rfl (iU (by omega)<|iU (by omega)<|iT) fun A=>R9 A rfl h0 rfl rfl rfl
def W0 (v1:Int):Nat→Int
 |0=>0
 |j+1=>IntKind.wrap .i64 ((((BitVec.ofInt (IntKind.bits .i64) (W0 v1 j))|||(BitVec.ofInt (IntKind.bits .i64) (IntKind.wrap .i64 ((IntKind.wrap .i64 ((((BitVec.ofInt (IntKind.bits .i64) (Int.fdiv v1 (2^min ((8*(0+(j:Int)))).toNat (IntKind.bits .i64))))&&&(BitVec.ofInt (IntKind.bits .i64) 255)).toNat:Nat):Int))*2^min ((8*(j:Int))).toNat (IntKind.bits .i64))))).toNat:Nat):Int)
theorem Kz (x:Int):IntKind.wrap .i64 x=if x % 18446744073709551616≥9223372036854775808 then x % 18446744073709551616 - 18446744073709551616 else x % 18446744073709551616:=by
 have h:IntKind.wrap .i64 x=if(true&&decide (x % 18446744073709551616≥9223372036854775808))=true then x % 18446744073709551616 - 18446744073709551616 else x % 18446744073709551616:=rfl
 rw [h]
 simp only [Bool.true_and,decide_eq_true_eq]
theorem Lx (x:Int):IntKind.wrap .i64 x % 18446744073709551616=x % 18446744073709551616:=by
 rw [Kz];split<;>omega
theorem Ly (x:Int):(BitVec.ofInt 64 x).toNat=(x % 18446744073709551616).toNat:=by rw [BitVec.toNat_ofInt];rfl
theorem VH (x:BitVec 64):BitVec.ofInt 64 (IntKind.wrap .i64 ((x.toNat:Nat):Int))=x:=by
 apply BitVec.eq_of_toNat_eq
 have:=x.isLt
 rw [Ly,Lx]
 omega
theorem H4 {v A:Int}{k K:Nat}(hk:(k,K)=(0,1)∨(k,K)=(8,256)∨(k,K)=(16,65536)∨(k,K)=(24,16777216)∨(k,K)=(32,4294967296)∨(k,K)=(40,1099511627776)∨(k,K)=(48,281474976710656)∨(k,K)=(56,72057594037927936))(hA:(BitVec.ofInt 64 A).toNat=(v % 18446744073709551616).toNat % K):(BitVec.ofInt 64 (IntKind.wrap .i64 ((((BitVec.ofInt 64 A)|||(BitVec.ofInt 64 (IntKind.wrap .i64 ((IntKind.wrap .i64 ((((BitVec.ofInt 64 (Int.fdiv v (2^k)))&&&(BitVec.ofInt 64 255)).toNat:Nat):Int))*2^k)))).toNat:Nat):Int))).toNat=(v % 18446744073709551616).toNat % (K*256):=by
 have hK:(2:Int)^k=(K:Int)∧2^k=K∧0<K:=by rcases hk with h|h|h|h|h|h|h|h<;>cases h<;>exact⟨by decide,by decide,by decide⟩
 rw [VH,BitVec.toNat_or,hA,hK.1]
 have hY:((BitVec.ofInt 64 (Int.fdiv v (K:Int)))&&&(BitVec.ofInt 64 255)).toNat=((v / (K:Int)) % 18446744073709551616).toNat % 256:=by
  rw [BitVec.toNat_and,Ly,show(BitVec.ofInt 64 255).toNat=2^8 - 1 from rfl,Nat.and_two_pow_sub_one_eq_mod,Int.fdiv_eq_ediv_of_nonneg _ (by omega)]
 rw [hY]
 generalize hy:((v / (K:Int)) % 18446744073709551616).toNat % 256=y
 have yV:y<256:=by rw [←hy];exact Nat.mod_lt _ (by decide)
 have e1:IntKind.wrap .i64 ((y:Nat):Int)=(y:Int):=by rw [Kz];split<;>omega
 have e2:(BitVec.ofInt 64 (IntKind.wrap .i64 ((y:Int)*(K:Int)))).toNat=K*y:=by
  rw [Ly,Lx]
  rcases hk with h|h|h|h|h|h|h|h<;>cases h<;>omega
 rw [e1,e2,Nat.or_comm]
 have e3:=Nat.two_pow_add_eq_or_of_lt (i:=k) (b:=(v % 18446744073709551616).toNat % K) (by rw [hK.2.1];exact Nat.mod_lt _ hK.2.2) y
 rw [hK.2.1]at e3
 rw [←e3]
 clear hA hY e1 e2 e3
 rcases hk with h|h|h|h|h|h|h|h<;>cases h<;>omega
theorem Zg (v:Int):∀j,j≤8→(BitVec.ofInt 64 (W0 v j)).toNat=(v % 18446744073709551616).toNat % 256^j
 |0,_=>by rw [show W0 v 0=0 from rfl,Ly];omega
 |j+1,h=>by
  have ih:=Zg v j (by omega)
  have hj:j=0∨j=1∨j=2∨j=3∨j=4∨j=5∨j=6∨j=7:=by omega
  rcases hj with rfl|rfl|rfl|rfl|rfl|rfl|rfl|rfl
  ·exact H4 (k:=0) (K:=1) (.inl rfl) ih
  ·exact H4 (k:=8) (K:=256) (.inr (.inl rfl)) ih
  ·exact H4 (k:=16) (K:=65536) (.inr (.inr (.inl rfl))) ih
  ·exact H4 (k:=24) (K:=16777216) (.inr (.inr (.inr (.inl rfl)))) ih
  ·exact H4 (k:=32) (K:=4294967296) (.inr (.inr (.inr (.inr (.inl rfl))))) ih
  ·exact H4 (k:=40) (K:=1099511627776) (.inr (.inr (.inr (.inr (.inr (.inl rfl)))))) ih
  ·exact H4 (k:=48) (K:=281474976710656) (.inr (.inr (.inr (.inr (.inr (.inr (.inl rfl))))))) ih
  ·exact H4 (k:=56) (K:=72057594037927936) (.inr (.inr (.inr (.inr (.inr (.inr (.inr rfl))))))) ih
theorem eF {v:Int}{X:BitVec 64}{k:Nat}(hX:X.toNat=2^k - 1):((BitVec.ofInt 64 (Int.fdiv v 1))&&&X).toNat=(v % 18446744073709551616).toNat % 2^k:=by
 rw [BitVec.toNat_and,Ly,hX,Nat.and_two_pow_sub_one_eq_mod,Int.fdiv_one]
theorem Zh (v:Int):∀j,∃x:BitVec 64,W0 v j=IntKind.wrap .i64 ((x.toNat:Nat):Int)
 |0=>⟨0#64,rfl⟩
 |j+1=>⟨_,rfl⟩
theorem K0 {v:Int}{X:BitVec 64}{j:Nat}(hj:j≤8)(hX:X.toNat=2^(8*j) - 1):W0 v j=IntKind.wrap .i64 ((((BitVec.ofInt 64 (Int.fdiv v 1))&&&X).toNat:Nat):Int):=by
 obtain⟨x,hx⟩:=Zh v j
 have h:=Zg v j hj
 rw [hx,VH]at h
 rw [hx,h,eF hX,Nat.pow_mul]
theorem W1 {v1 s1:Int}{j:Nat}(hs:s1=1∨s1=2∨s1=4∨s1=8)(hj:j=s1.toNat):W0 v1 j=BU v1 s1:=by
 subst hj
 rcases hs with rfl|rfl|rfl|rfl
 ·exact K0 (j:=1) (by decide) (by decide)
 ·exact K0 (j:=2) (by decide) (by decide)
 ·exact K0 (j:=4) (by decide) (by decide)
 ·exact K0 (j:=8) (by decide) (by decide)
theorem OR (v1 s1:Int)(hs:s1=1∨s1=2∨s1=4∨s1=8):Fn Tryz.prog 99 [.int .i64 v1,.z9,.int .i64 s1] [] (Rt (.int .i64 (BU v1 s1)) []):=
 AG (n:=29) (by kernel_rfl) Tryz.func99 rfl rfl rfl fun G w a h0 A=>N9 10 A rfl rfl fun A=>C9 [] (RE 0 s1 hs (by rcases hs with rfl|rfl|rfl|rfl<;>decide)) A rfl fun A=>N9 3 A rfl rfl fun A=>AN 12 A rfl
  (fun h1 A=>absurd h1 (by rcases hs with rfl|rfl|rfl|rfl<;>decide))
  (fun h1 A=>N9 15 A rfl rfl fun A=>Bk (fun(j:Nat)=>[(0,.int .i64 v1),(1,.int .i64 0),(2,.int .i64 s1),(6,.int .i64 0),(7,.int .i64 (W0 v1 j)),(8,.int .i64 (j:Int))]) (fun(j:Nat)=>[]) (fun(j:Nat)=>j≤s1.toNat) (fun(j:Nat)=>s1.toNat - j) 0 (Nat.zero_le _) ((A.cut [0,1,2,6,7,8] rfl).trunc 0 rfl rfl rfl (iR h0 rfl)) fun j hJ {G a w} A=>N9 8 A rfl rfl fun A=>AL 15 A rfl
    (fun h2 A=>N9 11 A rfl (iU (by first|omega|(rcases hs with rfl|rfl|rfl|rfl<;>omega))<|iT) fun A=>C9 [] (Wz v1 (0+(j:Int)) (by first|omega|(rcases hs with rfl|rfl|rfl|rfl<;>omega))) A rfl fun A=>N9 8 A rfl (iU (by first|omega|(rcases hs with rfl|rfl|rfl|rfl<;>omega))<|iU (by first|omega|(rcases hs with rfl|rfl|rfl|rfl<;>omega))<|iT) fun A=>N9 5 A rfl (iU (by first|omega|(rcases hs with rfl|rfl|rfl|rfl<;>omega))<|iT) fun A=>⟨j+1,_,(by omega),(by omega),((A.cut [0,1,2,6,7,8] rfl).trunc 0 rfl rfl rfl (iR h0 rfl)).sayT (by rfl)⟩)
    (fun h2 A=>N9 10 A rfl rfl fun A=>R9 A rfl h0 rfl (congrArg (SV.int .i64) (W1 hs (show j=s1.toNat from(by omega)))) rfl))
def CN (fn a1 b1:Int):Int:=if fn=1 then IntKind.wrap .i64 (a1+b1)else if fn=2 then IntKind.wrap .i64 (a1 - b1)else if fn=3 then IntKind.wrap .i64 ((((BitVec.ofInt (IntKind.bits .i64) a1)^^^(BitVec.ofInt (IntKind.bits .i64) b1)).toNat:Nat):Int)else if fn=4 then IntKind.wrap .i64 ((((BitVec.ofInt (IntKind.bits .i64) a1)&&&(BitVec.ofInt (IntKind.bits .i64) b1)).toNat:Nat):Int)else if fn=5 then IntKind.wrap .i64 ((((BitVec.ofInt (IntKind.bits .i64) a1)|||(BitVec.ofInt (IntKind.bits .i64) b1)).toNat:Nat):Int)else 0
theorem VI (fn a1 b1:Int):Fn Tryz.prog 90 [.int .i64 fn,.int .i64 a1,.int .i64 b1] [] (Rt (.int .i64 (CN fn a1 b1)) []):=
 AG (n:=33) (by kernel_rfl) Tryz.func90 rfl rfl rfl fun G w a h0 A=>M hX 18 A rfl rfl fun A=>AN 8 A rfl
  (fun h1 A=>M hX 10 A rfl rfl fun A=>R9 A rfl h0 rfl (by simp only [AX,nb,BY,BR,CN,if_pos h1]) rfl)
  (fun h1 A=>M hX 7 A rfl rfl fun A=>AN 13 A rfl
   (fun h2 A=>M hX 10 A rfl rfl fun A=>R9 A rfl h0 rfl (by simp only [AX,nb,BY,BR,CN,if_neg (h1),if_pos h2]) rfl)
   (fun h2 A=>M hX 7 A rfl rfl fun A=>AN 18 A rfl
    (fun h3 A=>M hX 10 A rfl rfl fun A=>R9 A rfl h0 rfl (by simp only [AX,nb,BY,BR,CN,if_neg (h1),if_neg (h2),if_pos h3]) rfl)
    (fun h3 A=>M hX 7 A rfl rfl fun A=>AN 23 A rfl
     (fun h4 A=>M hX 10 A rfl rfl fun A=>R9 A rfl h0 rfl (by simp only [AX,nb,BY,BR,CN,if_neg (h1),if_neg (h2),if_neg (h3),if_pos h4]) rfl)
     (fun h4 A=>M hX 7 A rfl rfl fun A=>AN 28 A rfl
      (fun h5 A=>M hX 10 A rfl rfl fun A=>R9 A rfl h0 rfl (by simp only [AX,nb,BY,BR,CN,if_neg (h1),if_neg (h2),if_neg (h3),if_neg (h4),if_pos h5]) rfl)
      (fun h5 A=>M hX 10 A rfl rfl fun A=>R9 A rfl h0 rfl (by simp only [AX,nb,BY,BR,CN,if_neg (h1),if_neg (h2),if_neg (h3),if_neg (h4),if_neg (h5)]) rfl)))))
def Gu (fn v1 a1 s1:Int):Int:=if fn=6 then BU a1 s1 else if fn=1 then BU (IntKind.wrap .i64 (v1+a1)) s1 else 0
theorem Zi (fn v1 a1 s1:Int)(hs:s1=1∨s1=2∨s1=4∨s1=8):Fn Tryz.prog 101 [.int .i64 fn,.int .i64 v1,.int .i64 a1,.int .i64 s1] [] (Rt (.int .i64 (Gu fn v1 a1 s1)) []):=
 AG (n:=22) (by kernel_rfl) Tryz.func101 rfl rfl rfl fun G w a h0 A=>M hX 18 A rfl rfl fun A=>AN 10 A rfl
  (fun h1 A=>M hX 5 A rfl rfl fun A=>C9 [] (OR a1 s1 hs) A rfl fun A=>M hX 4 A rfl rfl fun A=>R9 A rfl h0 rfl (by simp only [AX,nb,BY,BR,Gu,if_pos h1]) rfl)
  (fun h1 A=>M hX 7 A rfl rfl fun A=>AN 15 A rfl
   (fun h2 A=>M hX 7 A rfl rfl fun A=>C9 [] (OR (IntKind.wrap .i64 (v1+a1)) s1 hs) A rfl fun A=>M hX 4 A rfl rfl fun A=>R9 A rfl h0 rfl (by simp only [AX,nb,BY,BR,Gu,if_neg (h1),if_pos h2]) rfl)
   (fun h2 A=>M hX 10 A rfl rfl fun A=>R9 A rfl h0 rfl (by simp only [AX,nb,BY,BR,Gu,if_neg (h1),if_neg (h2)]) rfl))
def Gv (o1 x1 s1:Int):Int:=if(!((((s1==1)||(s1==2))||(s1==4))||(s1==8)))=true then(-1)else IntKind.wrap .i64 ((IntKind.wrap .i64 ((((BitVec.ofInt (IntKind.bits .i64) (IntKind.wrap .i64 (o1+x1)))&&&(BitVec.ofInt (IntKind.bits .i64) 7)).toNat:Nat):Int)) - (Int.tmod (IntKind.wrap .i64 ((((BitVec.ofInt (IntKind.bits .i64) (IntKind.wrap .i64 (o1+x1)))&&&(BitVec.ofInt (IntKind.bits .i64) 7)).toNat:Nat):Int)) s1))
theorem Tz (o1 x1 s1:Int):Fn Tryz.prog 136 [.int .i64 o1,.int .i64 x1,.int .i64 s1] [] (Rt (.int .i64 (Gv o1 x1 s1)) []):=
 AG (n:=20) (by kernel_rfl) Tryz.func136 rfl rfl rfl fun G w a h0 A=>M hX 9 A rfl rfl fun A=>C9 [] (RB s1) A rfl fun A=>M hX 3 A rfl rfl fun A=>fork 10 A rfl
  (fun h1 A=>M hX 7 A rfl rfl fun A=>R9 A rfl h0 rfl (by simp only [AX,nb,BY,BR,Gv,if_pos h1]) rfl)
  (fun h1 A=>M hX 23 A rfl (iU (by simp at*;omega)<|iT) fun A=>R9 A rfl h0 rfl (by simp only [AX,nb,BY,BR,Gv,if_neg (ne_true_of_eq_false h1)]) rfl)
theorem eG (x:Int):∃q:Int,IntKind.wrap .i64 ((((BitVec.ofInt (IntKind.bits .i64) x)&&&(BitVec.ofInt (IntKind.bits .i64) 7)).toNat:Nat):Int)=q∧(q=0∨q=1∨q=2∨q=3∨q=4∨q=5∨q=6∨q=7):=by
 have h:((BitVec.ofInt 64 x)&&&(BitVec.ofInt 64 7)).toNat≤7:=by
  rw [BitVec.toNat_and];exact Nat.and_le_right
 refine⟨((((BitVec.ofInt 64 x)&&&(BitVec.ofInt 64 7)).toNat:Nat):Int),?_,by omega⟩
 show IntKind.wrap .i64 ((((BitVec.ofInt 64 x)&&&(BitVec.ofInt 64 7)).toNat:Nat):Int)=_
 rw [Kz,if_neg (by omega)]
 omega
theorem RF (o1 x1:Int){s1:Int}(hs:s1=1∨s1=2∨s1=4∨s1=8):Gv o1 x1 s1=AU o1 x1 s1∧0≤AU o1 x1 s1∧AU o1 x1 s1≤8 - s1∧Int.tmod (AU o1 x1 s1) s1=0:=by
 obtain⟨q,h1,h2⟩:=eG (IntKind.wrap .i64 (o1+x1))
 unfold Gv AU
 rw [h1]
 rcases hs with rfl|rfl|rfl|rfl<;>rcases h2 with rfl|rfl|rfl|rfl|rfl|rfl|rfl|rfl<;>decide
theorem VJ (i:In):Fn Tryz.prog 89 [.agg (AS i)] [] (Rt (.bool (((i.op==4)||(i.op==5))||(i.op==6))) []):=
 AG (n:=16) (by kernel_rfl) Tryz.func89 rfl rfl rfl fun G w a h0 A=>N9 25 A rfl rfl fun A=>R9 A rfl h0 rfl rfl rfl
theorem VK (i:In):Fn Tryz.prog 61 [.agg (AS i)] [] (Rt (.bool ((i.op==4)||(i.op==6))) []):=
 AG (n:=11) (by kernel_rfl) Tryz.func61 rfl rfl rfl fun G w a h0 A=>N9 20 A rfl rfl fun A=>R9 A rfl h0 rfl rfl rfl
theorem Zj (i:In):Fn Tryz.prog 98 [.agg (AS i)] [] (Rt (.bool ((i.op==5)||(i.op==6))) []):=
 AG (n:=11) (by kernel_rfl) Tryz.func98 rfl rfl rfl fun G w a h0 A=>N9 20 A rfl rfl fun A=>R9 A rfl h0 rfl rfl rfl
theorem RG (o1 x1 s1:Int)(hs:s1=1∨s1=2∨s1=4∨s1=8):Fn Tryz.prog 136 [.int .i64 o1,.int .i64 x1,.int .i64 s1] [] (Rt (.int .i64 (AU o1 x1 s1)) []):=by
 rw [←(RF o1 x1 hs).1];exact Tz o1 x1 s1
theorem RH (i:In)(x1:Int)(hs:i.sz=1∨i.sz=2∨i.sz=4∨i.sz=8):Fn Tryz.prog 96 [.agg (AS i),.int .i64 x1] [] (Rt (.agg [.int .i64 i.loc,.int .i64 (A7 (AU i.off x1 i.sz) i.sz)]) []):=
 AG (n:=17) (by kernel_rfl) Tryz.func96 rfl rfl rfl fun G w a h0 A=>N9 7 A rfl rfl fun A=>Aq hX BK [(7,.int .i64 (AU i.off x1 i.sz)),(10,.int .i64 (A7 (AU i.off x1 i.sz) i.sz))] [] A rfl rfl rfl rfl (by kernel_rfl) (AV _ _) ⟨.inl ⟨_,_,rfl,rfl,RG i.off x1 i.sz hs⟩,⟨.inl ⟨_,_,rfl,rfl,RE (AU i.off x1 i.sz) i.sz hs (RF _ _ hs).2⟩,trivial⟩⟩ fun A=>N9 2 A rfl rfl fun A=>R9 A rfl h0 rfl rfl rfl
end Go.Proofs.YtbbdanhpphlbpaaGreatDoor.Mc
namespace Go.Proofs.YtbbdanhpphlbpaaGreatDoor.Mc
open Go.RowKit
set_option simprocs false
abbrev Mv:Type:=Int×Int×Int
abbrev pV (v:Mv):List SV:=[.int .i64 v.1,.int .i64 v.2.1,.int .i64 v.2.2,.z9]
abbrev E7 (l:List Mv):Nat→List SV:=fun zz=>pV (l.getD zz (0,0,0))
abbrev _root_.Go.Proofs.YtbbdanhpphlbpaaGreatDoor.A5 (ts:List Th)(k:Int):Th:=ts.getD ((k).toNat) Th.z
def Bs (cs:List AD)(ts:List Th):Nat→List Mv
 |0=>[]
 |k+1=>Bs cs ts k++(if(((A5 ts (k:Int)).at_:Nat):Int)=(((cs.getD (((k:Int)).toNat) AD.z).l.length:Nat):Int)then []else [(2,(k:Int),(((A5 ts (k:Int)).at_:Nat):Int))])
theorem Ic (cs:List AD)(ts:List Th):∀k,(Bs cs ts k).length≤k
 |0=>Nat.le_refl _
 |k+1=>by
  have h:=Ic cs ts k
  unfold Bs
  rw [List.length_append]
  split<;>simp<;>omega
theorem RI {cs:List AD}{ts:List Th}:∀{n k:Nat},k<(Bs cs ts n).length→∃t:Nat,t<n∧(Bs cs ts n).getD k (0,0,0)=(2,(t:Int),((ts.getD t Th.z).at_:Int))∧(ts.getD t Th.z).at_≠(cs.getD t AD.z).l.length
 |0,k,h=>by cases h
 | n+1,k,h=>by
  unfold Bs at h⊢
  by_cases hk:k<(Bs cs ts n).length
  ·obtain⟨t,h1,h2,h3⟩:=RI hk
   exact⟨t,by omega,by rw [List.getD_eq_getElem?_getD,List.getElem?_append_left hk,←List.getD_eq_getElem?_getD];exact h2,h3⟩
  ·by_cases e:(((A5 ts (n:Int)).at_:Nat):Int)=(((cs.getD (((n:Int)).toNat) AD.z).l.length:Nat):Int)
   ·rw [if_pos e,List.append_nil]at h;exact absurd h hk
   ·rw [if_neg e,List.length_append]at h
    refine⟨n,by omega,?_,fun h2=>e (congrArg (fun z:Nat=>(z:Int)) h2)⟩
    have:k=(Bs cs ts n).length:=by simp at h;omega
    subst this
    rw [if_neg e]
    simp [List.getD]
theorem VL {l:List Mv}{x:Mv}{k:Nat}(h:k<l.length):(l++[x]).getD k (0,0,0)=l.getD k (0,0,0):=by simp [List.getD,List.getElem?_append_left h]
theorem eI (l:List Mv)(x:Mv):(l++[x]).length=l.length+1:=by simp
theorem gJ (q:Nat)(l:List Mv)(x:Mv):SV.sl q (l.length+1) 0=SV.sl q (l++[x]).length 0:=by rw [eI]
theorem VM {l:List Mv}{x:Mv}:(l++[x]).getD l.length (0,0,0)=x:=by simp [List.getD]
theorem _root_.Go.Proofs.YtbbdanhpphlbpaaGreatDoor.Sy.mvA {n:Nat}{ks:List Nat}{G0:Gr}{w0:World}{T:List (Nat×SV)}{H:Hp}{G:Gr}{a:Act}{w:World}{E:Nat}(q t:Nat){l l':List Mv}(e:l'=l)(A:Sy n T H ks G0 w0 G a w)(hq:lg H q=some (some (.row E 4 l.length 0 (E7 l))))(ht:look T t=some (.sl q l.length 0)):Sy n ((t,.sl q l'.length 0)::T) (Br H q (some (.row E 4 l'.length 0 (E7 l')))) ks G0 w0 G a w:=by
 subst e
 have hs:Br H q (some (.row E 4 l'.length 0 (E7 l')))=H:=by
  rw [Ah]at hq
  rw [Ag]
  apply List.ext_getElem?
  intro j
  by_cases hj:j=q
  ·subst hj;rw [List.getElem?_set_self (List.getElem?_eq_some_iff.1 hq).1,hq]
  ·rw [List.getElem?_set_ne (Ne.symm hj)]
 rw [hs]
 exact A.say t _ ht rfl
abbrev _root_.Go.Proofs.YtbbdanhpphlbpaaGreatDoor.BB (i:Nat)(m:Nat→Int):List SV:=[.ptr i 0,.int .i64 (m 0),.int .i64 (m 1),.int .i64 (m 2)]
theorem YX (m:Nat→Int)(cs:List AD)(ts:List Th)(nn:Nat)(hC:Ai cs ts nn)(kP:nn≤3):Bi (AH cs) Tryz.prog 21 [.ptr 0 0] [some (.blk (BB 1 m)),some (.blk [.sl 2 nn 0]),some (AZ cs ts nn)] (Rt (.sl 3 ((Bs cs ts nn).length) 0) [some (.blk (BB 1 m)),some (.blk [.sl 2 nn 0]),some (AZ cs ts nn),some (.row 44 4 ((Bs cs ts nn).length) 0 (E7 (Bs cs ts nn)))]):=
 Ab (n:=38) (by kernel_rfl) Tryz.func21 rfl rfl rfl fun G w a h0 hI A=>N9 12 A rfl rfl fun A=>have A:=A.nilRow 3 44 4 (E7 []) rfl (fun z=>⟨_,rfl,rfl⟩);N9 5 A rfl rfl fun A=>C9 [1,2] (J6 cs ts nn) A rfl fun A=>N9 4 A rfl rfl fun A=>Bk (fun(k:Nat)=>[(0,.ptr 0 0),(2,.sla none 0 0),(3,.sl 3 ((Bs cs ts k).length) 0),(11,.int .i64 ((nn:Nat):Int)),(12,.int .i64 (k:Int))]) (fun(k:Nat)=>[some (.blk (BB 1 m)),some (.blk [.sl 2 nn 0]),some (AZ cs ts nn),some (.row 44 4 ((Bs cs ts k).length) 0 (E7 (Bs cs ts k)))]) (fun(k:Nat)=>k≤nn) (fun(k:Nat)=>nn - k) 0 (Nat.zero_le _) ((A.cut [0,2,3,11,12] rfl).trunc 4 rfl rfl rfl (iR h0 rfl)) fun k hK {G a w} A=>N9 6 A rfl rfl fun A=>AL 13 A rfl
   (fun h1 A=>N9 18 A rfl rfl fun A=>I9 [1,2] AH.ok hI (I7 cs ts nn (k:Int) hC (by omega)) A rfl fun A=>N9 13 A rfl rfl fun A=>Dc 24 A rfl
    (fun h2 A=>N9 9 A rfl rfl fun A=>C9 [1,2] (VD cs ts nn (k:Int) (by omega)) A rfl fun A=>N9 2 A rfl rfl fun A=>TT hX ((Bs cs ts k).length+1) (E7 ((Bs cs ts k)++[(2,(k:Int),(((A5 ts (k:Int)).at_:Nat):Int))])) A rfl rfl rfl rfl (by have:=Ic cs ts k;first|omega|(simp only [List.length_append,List.length_cons,List.length_nil];omega)) rfl (fun q hq=>by show pV _=pV _;rw [VL hq]) (by show pV _=_;rw [VM]) (fun z=>⟨_,rfl,rfl⟩) fun A=>have A:=(A.rowAs 6 (((Bs cs ts k)++[(2,(k:Int),(((A5 ts (k:Int)).at_:Nat):Int))]).length) (E7 ((Bs cs ts k)++[(2,(k:Int),(((A5 ts (k:Int)).at_:Nat):Int))])) rfl (eI _ _) (fun q hq=>rfl) (fun z=>⟨_,rfl,rfl⟩)).say 35 (.sl 6 (((Bs cs ts k)++[(2,(k:Int),(((A5 ts (k:Int)).at_:Nat):Int))]).length) 0) rfl (gJ _ _ _);N9 8 A rfl (iU (by omega)<|iT) fun A=>⟨k+1,_,(by omega),(by omega),(((Sy.mvA 6 3 (show(Bs cs ts (k+1))=((Bs cs ts k)++[(2,(k:Int),(((A5 ts (k:Int)).at_:Nat):Int))]) by show _++_=_;rw [if_neg h2]) A rfl rfl).cut [0,2,3,11,12] rfl).mv 3 [6] rfl rfl rfl rfl (by simp only [List.length_cons,List.length_nil]at h0;omega)).sayT (by rfl)⟩)
    (fun h2 A=>N9 8 A rfl (iU (by omega)<|iT) fun A=>⟨k+1,_,(by omega),(by omega),(((Sy.mvA 3 3 (show(Bs cs ts (k+1))=(Bs cs ts k) by show _++_=_;rw [if_pos h2];simp only [List.append_nil]) A rfl rfl).cut [0,2,3,11,12] rfl).trunc 4 rfl rfl rfl (iR h0 rfl)).sayT (by rfl)⟩))
   (fun h1 A=>N9 4 A rfl rfl fun A=>have lC:k=nn:=(by omega);have A:=Sy.mvA 3 3 (l':=Bs cs ts nn) (by rw [lC]) A rfl rfl;N9 6 A rfl rfl fun A=>Mj hX [3] A ⟨rfl,rfl⟩ rfl rfl rfl rfl rfl rfl rfl rfl h0)
theorem W2 (m:Nat→Int)(cs:List AD)(ts:List Th)(nn:Nat)(q:Int)(hq:0≤q∧q<3):Fn Tryz.prog 44 [.ptr 0 0,.int .i64 q] [some (.blk (BB 1 m)),some (.blk [.sl 2 nn 0]),some (AZ cs ts nn)] (Rt (.int .i64 (m (q).toNat)) [some (.blk (BB 1 m)),some (.blk [.sl 2 nn 0]),some (AZ cs ts nn)]):=
 AG (n:=10) (by kernel_rfl) Tryz.func44 rfl rfl rfl fun G w a h0 A=>N9 11 A rfl rfl fun A=>AW A rfl (Tt (l:=[.ptr 1 0]) (r:=[]) (I:=fun _ _=>True) (fun _ _ _ _ _ _ _=>trivial) trivial (Zd m q hq).toI rfl rfl rfl rfl rfl) fun A=>N9 4 A rfl rfl fun A=>R9 A rfl h0 rfl rfl rfl
theorem VN (m:Nat→Int)(cs:List AD)(ts:List Th)(nn:Nat)(q:Int)(hq:¬(0≤q∧q<3)):Fn Tryz.prog 44 [.ptr 0 0,.int .i64 q] [some (.blk (BB 1 m)),some (.blk [.sl 2 nn 0]),some (AZ cs ts nn)] (Rt (.int .i64 0) [some (.blk (BB 1 m)),some (.blk [.sl 2 nn 0]),some (AZ cs ts nn)]):=
 AG (n:=10) (by kernel_rfl) Tryz.func44 rfl rfl rfl fun G w a h0 A=>N9 11 A rfl rfl fun A=>AW A rfl (Tt (l:=[.ptr 1 0]) (r:=[]) (I:=fun _ _=>True) (fun _ _ _ _ _ _ _=>trivial) trivial (Zf m q hq).toI rfl rfl rfl rfl rfl) fun A=>N9 4 A rfl rfl fun A=>R9 A rfl h0 rfl rfl rfl
end Go.Proofs.YtbbdanhpphlbpaaGreatDoor.Mc
namespace Go.Proofs.YtbbdanhpphlbpaaGreatDoor
open Go.RowKit
abbrev Gw (f m:Rg):List SV:=[.int .i64 (f 0),.int .i64 (f 1),.int .i64 (f 2),.int .i64 (f 3),.int .i64 (f 4),.int .i64 (f 5),.int .i64 (f 6),.int .i64 (f 7),.int .i64 (f 8),.int .i64 (f 9),.int .i64 (f 10),.int .i64 (f 11),.int .i64 (f 12),.int .i64 (f 13),.int .i64 (f 14),.int .i64 (f 15),.int .i64 (f 16),.int .i64 (f 17),.int .i64 (f 18),.int .i64 (f 19),.int .i64 (f 20),.int .i64 (f 21),.int .i64 (f 22),.int .i64 (f 23),.int .i64 (m 0),.int .i64 (m 1),.int .i64 (m 2)]
abbrev cM (r:Rg):List SV:=[.int .i64 (r 0),.int .i64 (r 1),.int .i64 (r 2),.int .i64 (r 3),.int .i64 (r 4),.int .i64 (r 5),.int .i64 (r 6),.int .i64 (r 7)]
def RJ (f:Rg)(t:Nat)(r:Rg):Rg:=fun j=>if 8*t≤j∧j<8*t+8 then r (j - 8*t)else f j
theorem W3 {p p':SV}{s m k:Nat}{j:Int}{G:Gr}(h:den G p=den G p'):den G (.ix p s m j k)=den G (.ix p' s m j k):=by
 unfold den;rw [h]
theorem Zk {i q a b:Nat}(h:8*a+b=q){G:Gr}:den G (.ix (.ix (.ptr i 0) 8 3 (a:Int) 0) 1 8 (b:Int) 0)=den G (.ptr i q):=by
 rw [W3 (B8 (q:=8*a) a (by omega) G)]
 exact B8 b (by omega) G
section
variable {P:Program}{Y:Tb}{n:Nat}{ks:List Nat}{G0:Gr}{w0:World}{T:List (Nat×SV)}{H:Hp}{G:Gr}{a:Act}{w:World}{ops:Array Oper}{o:Oper}
theorem eJ {x y:Operand}{ty i:Nat}{t j v:Int}{f m:Rg}{ti:TI}(hX:Y.ok P=true)(jG:o.op=.store ty x y)(hg:iY ops T o.guard=some .run)(hx:jR T x=some (.ix (.ix (.ptr i 0) 8 3 t 0) 1 8 j 0))(hy:jR T y=some (.int .i64 v))(hH:lg H i=some (some (.blk (Gw f m))))(kO:Y.get ty=some ti)(jS:ti.row=none)(jD:ti.one=true)(ht:0≤t∧t<3)(hj:0≤j∧j<8):
  Aw P n ops ks G0 w0 T H o (.tup []) (Br H i (some (.blk (Gw (BA f (8*t.toNat+j.toNat) v) m)))):=fun G a w A=>by
 have hw:=An (gd:=none) A hg
 obtain⟨d,op,ty',pos,af,gd⟩:=o
 simp only at jG
 subst jG
 have jB:=A.ev hx
 have jN:=A.ev hy
 have key:∀p k:Nat,t=(p:Int)→j=(k:Int)→(∀q:List SV,sp (8*p+k) (Gw f m) [.int .i64 v]=some q→q=Gw (BA f (8*t.toNat+j.toNat) v) m)→(∃q,sp (8*p+k) (Gw f m) [.int .i64 v]=some q)→BG P ops {dst:=d,op:=.store ty x y,type:=ty',pos:=pos,after:=af,guard:=gd} a w fun v' w'=>∃F,den (G++F) (.tup [])=some v'∧Ms (Br H i (some (.blk (Gw (BA f (8*t.toNat+j.toNat) v) m)))) ks G0 w0 (G++F) w':=by
  intro p k hp hk hr ⟨q,hq⟩
  have e:=hr q hq
  rw [hp,hk,Zk rfl]at jB
  have hs:Cu ⟨Y,true⟩ H ty (.ptr i (8*p+k)) (.int .i64 v)=some (i,q,[]):=by
   have ht:Tx.get ⟨Y,true⟩ ty=some ti:=kO
   simp only [Cu,hH,ht,jS,jD,hq]
   rfl
  refine DF (X:=⟨Y,true⟩) hX A hs iT jB jN rfl rfl hw fun cs L vs' w' a1 a2 a3 a4 a5=>⟨[],rfl,?_⟩
  subst e
  simpa using (A.turn a1 a2 a3 a4 a5).ms
 have l8:j=0∨j=1∨j=2∨j=3∨j=4∨j=5∨j=6∨j=7:=by omega
 rcases YW ht with rfl|rfl|rfl
 ·rcases l8 with rfl|rfl|rfl|rfl|rfl|rfl|rfl|rfl
  ·exact key 0 0 rfl rfl (fun q h=>(Option.some.inj h).symm) ⟨_,rfl⟩
  ·exact key 0 1 rfl rfl (fun q h=>(Option.some.inj h).symm) ⟨_,rfl⟩
  ·exact key 0 2 rfl rfl (fun q h=>(Option.some.inj h).symm) ⟨_,rfl⟩
  ·exact key 0 3 rfl rfl (fun q h=>(Option.some.inj h).symm) ⟨_,rfl⟩
  ·exact key 0 4 rfl rfl (fun q h=>(Option.some.inj h).symm) ⟨_,rfl⟩
  ·exact key 0 5 rfl rfl (fun q h=>(Option.some.inj h).symm) ⟨_,rfl⟩
  ·exact key 0 6 rfl rfl (fun q h=>(Option.some.inj h).symm) ⟨_,rfl⟩
  ·exact key 0 7 rfl rfl (fun q h=>(Option.some.inj h).symm) ⟨_,rfl⟩
 ·rcases l8 with rfl|rfl|rfl|rfl|rfl|rfl|rfl|rfl
  ·exact key 1 0 rfl rfl (fun q h=>(Option.some.inj h).symm) ⟨_,rfl⟩
  ·exact key 1 1 rfl rfl (fun q h=>(Option.some.inj h).symm) ⟨_,rfl⟩
  ·exact key 1 2 rfl rfl (fun q h=>(Option.some.inj h).symm) ⟨_,rfl⟩
  ·exact key 1 3 rfl rfl (fun q h=>(Option.some.inj h).symm) ⟨_,rfl⟩
  ·exact key 1 4 rfl rfl (fun q h=>(Option.some.inj h).symm) ⟨_,rfl⟩
  ·exact key 1 5 rfl rfl (fun q h=>(Option.some.inj h).symm) ⟨_,rfl⟩
  ·exact key 1 6 rfl rfl (fun q h=>(Option.some.inj h).symm) ⟨_,rfl⟩
  ·exact key 1 7 rfl rfl (fun q h=>(Option.some.inj h).symm) ⟨_,rfl⟩
 ·rcases l8 with rfl|rfl|rfl|rfl|rfl|rfl|rfl|rfl
  ·exact key 2 0 rfl rfl (fun q h=>(Option.some.inj h).symm) ⟨_,rfl⟩
  ·exact key 2 1 rfl rfl (fun q h=>(Option.some.inj h).symm) ⟨_,rfl⟩
  ·exact key 2 2 rfl rfl (fun q h=>(Option.some.inj h).symm) ⟨_,rfl⟩
  ·exact key 2 3 rfl rfl (fun q h=>(Option.some.inj h).symm) ⟨_,rfl⟩
  ·exact key 2 4 rfl rfl (fun q h=>(Option.some.inj h).symm) ⟨_,rfl⟩
  ·exact key 2 5 rfl rfl (fun q h=>(Option.some.inj h).symm) ⟨_,rfl⟩
  ·exact key 2 6 rfl rfl (fun q h=>(Option.some.inj h).symm) ⟨_,rfl⟩
  ·exact key 2 7 rfl rfl (fun q h=>(Option.some.inj h).symm) ⟨_,rfl⟩
theorem Zl {x y:Operand}{ty i:Nat}{t:Int}{r f m:Rg}{ti:TI}(hX:Y.ok P=true)(jG:o.op=.store ty x y)(hg:iY ops T o.guard=some .run)(hx:jR T x=some (.ix (.ptr i 0) 8 3 t 0))(hy:jR T y=some (.agg (cM r)))(hH:lg H i=some (some (.blk (Gw f m))))(kO:Y.get ty=some ti)(jS:ti.row=some 8)(ht:0≤t∧t<3):
  Aw P n ops ks G0 w0 T H o (.tup []) (Br H i (some (.blk (Gw (RJ f t.toNat r) m)))):=fun G a w A=>by
 have hw:=An (gd:=none) A hg
 obtain⟨d,op,ty',pos,af,gd⟩:=o
 simp only at jG
 subst jG
 have jB:=A.ev hx
 have jN:=A.ev hy
 have key:∀p:Nat,t=(p:Int)→(∀q:List SV,sp (8*p) (Gw f m) (cM r)=some q→q=Gw (RJ f t.toNat r) m)→(∃q,sp (8*p) (Gw f m) (cM r)=some q)→BG P ops {dst:=d,op:=.store ty x y,type:=ty',pos:=pos,after:=af,guard:=gd} a w fun v' w'=>∃F,den (G++F) (.tup [])=some v'∧Ms (Br H i (some (.blk (Gw (RJ f t.toNat r) m)))) ks G0 w0 (G++F) w':=by
  intro p hp hr ⟨q,hq⟩
  have e:=hr q hq
  rw [hp,B8 (q:=8*p) p (by omega)]at jB
  have hs:Cu ⟨Y,true⟩ H ty (.ptr i (8*p)) (.agg (cM r))=some (i,q,[]):=by
   have ht:Tx.get ⟨Y,true⟩ ty=some ti:=kO
   simp only [Cu,hH,ht,jS,hq]
   rfl
  refine DF (X:=⟨Y,true⟩) hX A hs iT jB jN rfl rfl hw fun cs L vs' w' a1 a2 a3 a4 a5=>⟨[],rfl,?_⟩
  subst e
  simpa using (A.turn a1 a2 a3 a4 a5).ms
 rcases YW ht with rfl|rfl|rfl
 ·exact key 0 rfl (fun q h=>(Option.some.inj h).symm) ⟨_,rfl⟩
 ·exact key 1 rfl (fun q h=>(Option.some.inj h).symm) ⟨_,rfl⟩
 ·exact key 2 rfl (fun q h=>(Option.some.inj h).symm) ⟨_,rfl⟩
theorem Jk {x:Operand}{ty i q:Nat}{j:Int}{cs:List SV}{v:Nat→SV}{ti:TI}(hX:Y.ok P=true)(jG:o.op=.load ty x)(hg:iY ops T o.guard=some .run)(hx:jR T x=some (.ix (.ptr i q) 1 3 j 0))(hH:lg H i=some (some (.blk cs)))(kO:Y.get ty=some ti)(jS:ti.row=none)(jD:ti.one=true)(hj:0≤j∧j<3)(hc:∀k,k<3→lg cs (q+k)=some (v k)):
  Aw P n ops ks G0 w0 T H o (v j.toNat) H:=fun G a w A=>by
 have hw:=An (gd:=none) A hg
 obtain⟨d,op,ty',pos,af,gd⟩:=o
 simp only at jG
 subst jG
 have jB:=A.ev hx
 have key:∀k:Nat,j=(k:Int)→k<3→v j.toNat=v k→BG P ops {dst:=d,op:=.load ty x,type:=ty',pos:=pos,after:=af,guard:=gd} a w fun v' w'=>∃F,den (G++F) (v j.toNat)=some v'∧Ms H ks G0 w0 (G++F) w':=by
  intro k hk h3 e
  have hr:=hc k h3
  rw [hk,B8 (q:=q+k) k (by omega)]at jB
  have hs:Do ⟨Y,true⟩ H ty (.ptr i (q+k))=some (v k,[]):=by
   have ht:Tx.get ⟨Y,true⟩ ty=some ti:=kO
   simp only [Do,FH,hH,Jb,CZ,ht,jS,jD,hr,cond_true]
  obtain⟨z,hz,h3⟩:=EP (X:=⟨Y,true⟩) (P:=P) (ops:=ops) (d:=d) (ty:=ty') (pos:=pos) (af:=af) (gd:=gd) (x:=x) hX A hs jB
  rw [e]
  exact h3 (fun p hp=>by cases hp) rfl hw _ ⟨[],by simpa using hz,by simpa using A.ms⟩
 rcases YW hj with rfl|rfl|rfl
 ·exact key 0 rfl (by decide) rfl
 ·exact key 1 rfl (by decide) rfl
 ·exact key 2 rfl (by decide) rfl
theorem eK {x y:Operand}{ty i q:Nat}{j v:Int}{cs:List SV}{cs':Nat→List SV}{ti:TI}(hX:Y.ok P=true)(jG:o.op=.store ty x y)(hg:iY ops T o.guard=some .run)(hx:jR T x=some (.ix (.ptr i q) 1 3 j 0))(hy:jR T y=some (.int .i64 v))(hH:lg H i=some (some (.blk cs)))(kO:Y.get ty=some ti)(jS:ti.row=none)(jD:ti.one=true)(hj:0≤j∧j<3)(hc:∀k,k<3→sp (q+k) cs [.int .i64 v]=some (cs' k)){H':Hp}(o8:Br H i (some (.blk (cs' j.toNat)))=H'):
  Aw P n ops ks G0 w0 T H o (.tup []) H':=fun G a w A=>by
 subst o8
 have hw:=An (gd:=none) A hg
 obtain⟨d,op,ty',pos,af,gd⟩:=o
 simp only at jG
 subst jG
 have jB:=A.ev hx
 have jN:=A.ev hy
 have key:∀k:Nat,j=(k:Int)→k<3→cs' j.toNat=cs' k→BG P ops {dst:=d,op:=.store ty x y,type:=ty',pos:=pos,after:=af,guard:=gd} a w fun v' w'=>∃F,den (G++F) (.tup [])=some v'∧Ms (Br H i (some (.blk (cs' j.toNat)))) ks G0 w0 (G++F) w':=by
  intro k hk h3 e
  have hr:=hc k h3
  rw [hk,B8 (q:=q+k) k (by omega)]at jB
  have hs:Cu ⟨Y,true⟩ H ty (.ptr i (q+k)) (.int .i64 v)=some (i,cs' k,[]):=by
   have ht:Tx.get ⟨Y,true⟩ ty=some ti:=kO
   simp only [Cu,hH,ht,jS,jD,hr]
   rfl
  rw [e]
  refine DF (X:=⟨Y,true⟩) hX A hs iT jB jN rfl rfl hw fun cs L vs' w' a1 a2 a3 a4 a5=>⟨[],rfl,?_⟩
  simpa using (A.turn a1 a2 a3 a4 a5).ms
 rcases YW hj with rfl|rfl|rfl
 ·exact key 0 rfl (by decide) rfl
 ·exact key 1 rfl (by decide) rfl
 ·exact key 2 rfl (by decide) rfl
end
def J8 (R:Nat→Rg)(n:Nat):Rg:=fun j=>if j / 8<n then R (j / 8) (j % 8)else 0
def PK (R:Nat→Rg)(n k:Nat):Rg:=fun j=>if j / 8<n∨(j / 8=n∧j % 8<k)then R (j / 8) (j % 8)else 0
theorem Zm (R:Nat→Rg)(n:Nat):PK R n 0=J8 R n:=by
 funext j;unfold PK J8
 by_cases h:j / 8<n
 ·rw [if_pos h,if_pos (.inl h)]
 ·rw [if_neg h,if_neg (by omega)]
theorem Zn (R:Nat→Rg)(n:Nat):PK R n 8=J8 R (n+1):=by
 funext j;unfold PK J8
 by_cases h:j / 8<n+1
 ·rw [if_pos h,if_pos (by omega)]
 ·rw [if_neg h,if_neg (by omega)]
theorem W4 (R:Nat→Rg)(n k:Nat)(hk:k<8):BA (PK R n k) (8*n+k) (R n k)=PK R n (k+1):=by
 funext j;unfold BA PK
 by_cases h:j=8*n+k
 ·subst h
  have h1:(8*n+k) / 8=n:=by omega
  have h2:(8*n+k) % 8=k:=by omega
  rw [if_pos rfl,if_pos (by omega),h1,h2]
 ·rw [if_neg h]
  by_cases h2:j / 8<n∨(j / 8=n∧j % 8<k)
  ·rw [if_pos h2,if_pos (by omega)]
  ·rw [if_neg h2,if_neg (by omega)]
theorem W5 (R:Nat→Rg)(n:Nat):RJ (J8 R n) n (R n)=J8 R (n+1):=by
 funext j;unfold RJ J8
 by_cases h:8*n≤j∧j<8*n+8
 ·have h1:j / 8=n:=by omega
  have h2:j % 8=j - 8*n:=by omega
  rw [if_pos h,if_pos (by omega),h1,h2]
 ·rw [if_neg h]
  by_cases h2:j / 8<n
  ·rw [if_pos h2,if_pos (by omega)]
  ·rw [if_neg h2,if_neg (by omega)]
end Go.Proofs.YtbbdanhpphlbpaaGreatDoor
namespace Go.Proofs.YtbbdanhpphlbpaaGreatDoor.Mc
open Go.RowKit
set_option simprocs false
theorem W6 (cs:List AD)(ts:List Th)(nn:Nat)(th g:Int)(jU:0≤th∧th<((nn:Nat):Int))(hg:0≤g∧g<8):Fn Tryz.prog 41 [.ptr 0 0,.int .i64 th,.int .i64 g] [some (.blk [.sl 1 nn 0]),some (AZ cs ts nn)] (Rt (.int .i64 ([((ts.getD ((th).toNat) Th.z).r 0),((ts.getD ((th).toNat) Th.z).r 1),((ts.getD ((th).toNat) Th.z).r 2),((ts.getD ((th).toNat) Th.z).r 3),((ts.getD ((th).toNat) Th.z).r 4),((ts.getD ((th).toNat) Th.z).r 5),((ts.getD ((th).toNat) Th.z).r 6),((ts.getD ((th).toNat) Th.z).r 7)].getD (g).toNat 0)) [some (.blk [.sl 1 nn 0]),some (AZ cs ts nn)]):=
 AG (n:=21) (by kernel_rfl) Tryz.func41 rfl rfl rfl fun G w a h0 A=>N9 16 A rfl rfl fun A=>fork 12 A rfl
  (fun h1 A=>absurd h1 (by simp;omega))
  (fun h1 A=>N9 7 A rfl rfl fun A=>C9 [0,1] (Q0 cs ts nn th jU) A rfl fun A=>N9 1 A rfl rfl fun A=>AW A rfl (ZS rfl rfl rfl rfl (by omega)) fun A=>N9 7 A rfl (iU (by omega)<|iU (by omega)<|iU (by omega)<|iU (by omega)<|iU (by omega)<|iT) fun A=>R9 A rfl h0 rfl rfl rfl)
end Go.Proofs.YtbbdanhpphlbpaaGreatDoor.Mc
namespace Go.Proofs.YtbbdanhpphlbpaaGreatDoor.Mc
open Go.RowKit
set_option simprocs false
abbrev Fq (ts:List Th):Nat→Rg:=fun k=>(ts.getD k Th.z).r
theorem eM {r:Rg}{g:Int}(h:0≤g∧g<8):[(r 0),(r 1),(r 2),(r 3),(r 4),(r 5),(r 6),(r 7)].getD g.toNat 0=r g.toNat:=by
 have:g=0∨g=1∨g=2∨g=3∨g=4∨g=5∨g=6∨g=7:=by omega
 rcases this with rfl|rfl|rfl|rfl|rfl|rfl|rfl|rfl<;>rfl
theorem W7 (cs:List AD)(ts:List Th)(nn:Nat)(th g:Int)(jU:0≤th∧th<((nn:Nat):Int))(hg:0≤g∧g<8):Fn Tryz.prog 41 [.ptr 0 0,.int .i64 th,.int .i64 g] [some (.blk [.sl 1 nn 0]),some (AZ cs ts nn)] (Rt (.int .i64 (Fq ts th.toNat g.toNat)) [some (.blk [.sl 1 nn 0]),some (AZ cs ts nn)]):=by
 have h:=W6 cs ts nn th g jU hg
 rw [eM hg]at h
 exact h
theorem Zo (m:Nat→Int)(cs:List AD)(ts:List Th)(nn:Nat)(kP:nn≤3):Fn Tryz.prog 70 [.ptr 0 1,.ptr 1 0] [some (.blk (BB 1 m)),some (.blk [.sl 2 nn 0]),some (AZ cs ts nn)] (Rt (.agg (Gw (J8 (Fq ts) nn) m)) [some (.blk (BB 1 m)),some (.blk [.sl 2 nn 0]),some (AZ cs ts nn)]):=
 AG (n:=32) (by kernel_rfl) Tryz.func70 rfl rfl rfl fun G w a h0 A=>N9 17 A rfl rfl fun A=>have A:=A.sayH (H':=[some (.blk (BB 1 m)),some (.blk [.sl 2 nn 0]),some (AZ cs ts nn),some (.blk [.z9,.z9,.z9,.z9,.z9,.z9,.z9,.z9,.z9,.z9,.z9,.z9,.z9,.z9,.z9,.z9,.z9,.z9,.z9,.z9,.z9,.z9,.z9,.z9,.z9,.z9,.z9]),some (.blk (Gw (J8 (Fq ts) 0) m))]) (by rfl);N9 2 A rfl rfl fun A=>C9 [1,2] (J6 cs ts nn) A rfl fun A=>N9 4 A rfl rfl fun A=>Bk (fun(k:Nat)=>[(1,.ptr 1 0),(4,.ptr 3 0),(5,.ptr 4 0),(13,.int .i64 ((nn:Nat):Int)),(14,.int .i64 (k:Int))]) (fun(k:Nat)=>[some (.blk (BB 1 m)),some (.blk [.sl 2 nn 0]),some (AZ cs ts nn),some (.blk [.z9,.z9,.z9,.z9,.z9,.z9,.z9,.z9,.z9,.z9,.z9,.z9,.z9,.z9,.z9,.z9,.z9,.z9,.z9,.z9,.z9,.z9,.z9,.z9,.z9,.z9,.z9]),some (.blk (Gw (J8 (Fq ts) k) m))]) (fun(k:Nat)=>k≤nn) (fun(k:Nat)=>nn - k) 0 (Nat.zero_le _) ((A.cut [1,4,5,13,14] rfl).trunc 5 rfl rfl rfl (iR h0 rfl)) fun k hK {G a w} A=>N9 6 A rfl rfl fun A=>AL 15 A rfl
   (fun h1 A=>N9 12 A rfl rfl fun A=>have A:=A.sayH (H':=[some (.blk (BB 1 m)),some (.blk [.sl 2 nn 0]),some (AZ cs ts nn),some (.blk [.z9,.z9,.z9,.z9,.z9,.z9,.z9,.z9,.z9,.z9,.z9,.z9,.z9,.z9,.z9,.z9,.z9,.z9,.z9,.z9,.z9,.z9,.z9,.z9,.z9,.z9,.z9]),some (.blk (Gw (PK (Fq ts) k 0) m))]) (by rw [Zm]);N9 5 A rfl rfl fun A=>Bk (fun(j:Nat)=>[(1,.ptr 1 0),(4,.ptr 3 0),(5,.ptr 4 0),(6,.int .i64 (k:Int)),(13,.int .i64 ((nn:Nat):Int)),(14,.int .i64 (k:Int)),(17,.int .i64 (j:Int))]) (fun(j:Nat)=>[some (.blk (BB 1 m)),some (.blk [.sl 2 nn 0]),some (AZ cs ts nn),some (.blk [.z9,.z9,.z9,.z9,.z9,.z9,.z9,.z9,.z9,.z9,.z9,.z9,.z9,.z9,.z9,.z9,.z9,.z9,.z9,.z9,.z9,.z9,.z9,.z9,.z9,.z9,.z9]),some (.blk (Gw (PK (Fq ts) k j) m))]) (fun(j:Nat)=>j≤8) (fun(j:Nat)=>8 - j) 0 (Nat.zero_le _) ((A.cut [1,4,5,6,13,14,17] rfl).trunc 5 rfl rfl rfl (iR h0 rfl)) fun j hJ {G a w} A=>N9 6 A rfl rfl fun A=>AL 18 A rfl
     (fun h2 A=>N9 11 A rfl rfl fun A=>Aq hX BK [] [(5,.int .i64 (Fq ts ((k:Int)).toNat ((j:Int)).toNat),[some (.blk (BB 1 m)),some (.blk [.sl 2 nn 0]),some (AZ cs ts nn),some (.blk [.z9,.z9,.z9,.z9,.z9,.z9,.z9,.z9,.z9,.z9,.z9,.z9,.z9,.z9,.z9,.z9,.z9,.z9,.z9,.z9,.z9,.z9,.z9,.z9,.z9,.z9,.z9]),some (.blk (Gw (PK (Fq ts) k j) m))]),(9,.tup [],[some (.blk (BB 1 m)),some (.blk [.sl 2 nn 0]),some (AZ cs ts nn),some (.blk [.z9,.z9,.z9,.z9,.z9,.z9,.z9,.z9,.z9,.z9,.z9,.z9,.z9,.z9,.z9,.z9,.z9,.z9,.z9,.z9,.z9,.z9,.z9,.z9,.z9,.z9,.z9]),some (.blk (Gw (BA (PK (Fq ts) k j) (8*((k:Int)).toNat+((j:Int)).toNat) (Fq ts ((k:Int)).toNat ((j:Int)).toNat)) m))])] A rfl (iU (by omega)<|iU (by omega)<|iU (by omega)<|iU (by omega)<|iT) rfl rfl (by kernel_rfl) ⟨DV [1,2] (W7 cs ts nn (k:Int) (j:Int) (by omega) (by omega)) rfl rfl rfl rfl rfl rfl rfl,⟨eJ (i:=4) (f:=PK (Fq ts) k j) (m:=m) hX rfl rfl rfl rfl rfl rfl rfl rfl (by omega) (by omega),trivial⟩⟩ trivial fun A=>N9 6 A rfl (iU (by omega)<|iT) fun A=>⟨j+1,_,(by omega),(by omega),(((A.sayH (H':=[some (.blk (BB 1 m)),some (.blk [.sl 2 nn 0]),some (AZ cs ts nn),some (.blk [.z9,.z9,.z9,.z9,.z9,.z9,.z9,.z9,.z9,.z9,.z9,.z9,.z9,.z9,.z9,.z9,.z9,.z9,.z9,.z9,.z9,.z9,.z9,.z9,.z9,.z9,.z9]),some (.blk (Gw (PK (Fq ts) k (j+1)) m))]) (by rw [←W4 (Fq ts) k j (by omega)];rfl)).cut [1,4,5,6,13,14,17] rfl).trunc 5 rfl rfl rfl (iR h0 rfl)).sayT (by rfl)⟩)
     (fun h2 A=>N9 4 A rfl rfl fun A=>have xM:j=8:=(by omega);have A:=A.sayH (H':=[some (.blk (BB 1 m)),some (.blk [.sl 2 nn 0]),some (AZ cs ts nn),some (.blk [.z9,.z9,.z9,.z9,.z9,.z9,.z9,.z9,.z9,.z9,.z9,.z9,.z9,.z9,.z9,.z9,.z9,.z9,.z9,.z9,.z9,.z9,.z9,.z9,.z9,.z9,.z9]),some (.blk (Gw (J8 (Fq ts) (k+1)) m))]) (by rw [xM,Zn]);N9 4 A rfl (iU (by omega)<|iT) fun A=>⟨k+1,_,(by omega),(by omega),((A.cut [1,4,5,13,14] rfl).trunc 5 rfl rfl rfl (iR h0 rfl)).sayT (by rfl)⟩))
   (fun h1 A=>N9 4 A rfl rfl fun A=>have lC:k=nn:=(by omega);have A:=A.sayH (H':=[some (.blk (BB 1 m)),some (.blk [.sl 2 nn 0]),some (AZ cs ts nn),some (.blk [.z9,.z9,.z9,.z9,.z9,.z9,.z9,.z9,.z9,.z9,.z9,.z9,.z9,.z9,.z9,.z9,.z9,.z9,.z9,.z9,.z9,.z9,.z9,.z9,.z9,.z9,.z9]),some (.blk (Gw (J8 (Fq ts) nn) m))]) (by rw [lC]);N9 6 A rfl rfl fun A=>R9 A rfl h0 rfl rfl rfl)
theorem eN (m:Nat→Int)(cs:List AD)(ts:List Th)(nn:Nat)(kP:nn≤3):Fn Tryz.prog 23 [.ptr 0 0] [some (.blk (BB 1 m)),some (.blk [.sl 2 nn 0]),some (AZ cs ts nn)] (Rt (.agg (Gw (J8 (Fq ts) nn) m)) [some (.blk (BB 1 m)),some (.blk [.sl 2 nn 0]),some (AZ cs ts nn)]):=
 AG (n:=11) (by kernel_rfl) Tryz.func23 rfl rfl rfl fun G w a h0 A=>N9 6 A rfl rfl fun A=>Aq hX BK [] [(7,.agg (Gw (J8 (Fq ts) nn) m),[some (.blk (BB 1 m)),some (.blk [.sl 2 nn 0]),some (AZ cs ts nn),some (.blk [.z9,.z9,.z9,.z9,.z9,.z9,.z9,.z9,.z9,.z9,.z9,.z9,.z9,.z9,.z9,.z9,.z9,.z9,.z9,.z9,.z9,.z9,.z9,.z9,.z9,.z9,.z9])])] A rfl rfl rfl rfl (by kernel_rfl) ⟨DV [0,1,2] (Zo m cs ts nn kP) rfl rfl rfl rfl rfl rfl rfl,⟨trivial,trivial⟩⟩ trivial fun A=>N9 2 A rfl rfl fun A=>R9 A rfl h0 rfl rfl rfl
end Go.Proofs.YtbbdanhpphlbpaaGreatDoor.Mc
namespace Go.Proofs.YtbbdanhpphlbpaaGreatDoor.Mc
open Go.RowKit
set_option simprocs false
def TI (cs:List AD):Dd:=fun w ks=>AH cs w ks∧Hj w ks
theorem TI.ok {cs:List AD}:Dd.OK (TI cs):=fun w ks w' ks' h m hk=>⟨AH.ok _ _ _ _ h.1 m hk,AK.ok _ _ _ _ h.2 m hk⟩
abbrev _root_.Go.Proofs.YtbbdanhpphlbpaaGreatDoor.AT (cs:List AD)(ts:List Th)(k:Int):In:=(cs.getD ((k).toNat) AD.z).l.getD ((((A5 ts k).at_:Nat):Int)).toNat In.z
theorem RK (cs:List AD)(ts:List Th)(nn:Nat)(th lc o s:Int)(hC:Ai cs ts nn)(jU:0≤th∧th<((nn:Nat):Int))(h1:OI (AT cs ts th)=lc)(h2:OJ (A5 ts th).r (AT cs ts th)=Bf o s):Bi (AH cs) Tryz.prog 92 [.ptr 0 0,.int .i64 th] [some (.blk [.sl 1 nn 0]),some (AZ cs ts nn)] (Rt (.tup [.agg [.int .i64 lc,.int .i64 (Bf o s)],.int .i64 (FO (A5 ts th).r (AT cs ts th)),.bool (CE (AT cs ts th))]) [some (.blk [.sl 1 nn 0]),some (AZ cs ts nn)]):=by
 have h:=OM cs ts nn th hC jU
 rw [h1,h2]at h
 exact h
abbrev FC (r:Rg)(i:In):Int:=AU i.off (CV r i.ix 0) i.sz
theorem Zp {p s:Int}(hs:s=1∨s=2∨s=4∨s=8)(h:0≤p∧p≤8 - s∧Int.tmod p s=0):OS p s:=by
 obtain⟨h1,h2,h3⟩:=h
 unfold OS
 rcases hs with rfl|rfl|rfl|rfl
 ·omega
 ·have:p=0∨p=1∨p=2∨p=3∨p=4∨p=5∨p=6:=by omega
  rcases this with rfl|rfl|rfl|rfl|rfl|rfl|rfl<;>first|(exact absurd h3 (by decide))|omega
 ·have:p=0∨p=1∨p=2∨p=3∨p=4:=by omega
  rcases this with rfl|rfl|rfl|rfl|rfl<;>first|(exact absurd h3 (by decide))|omega
 ·omega
theorem RL {o s:Int}(h:OS o s):AU o 0 s=o:=by
 rcases h with⟨rfl,rfl⟩|⟨rfl,rfl⟩|⟨rfl,rfl⟩|⟨rfl,rfl⟩|⟨rfl,rfl⟩|⟨rfl,rfl⟩|⟨rfl,rfl⟩|⟨rfl,rfl⟩|⟨rfl,rfl⟩|⟨rfl,rfl⟩|⟨rfl,rfl⟩|⟨rfl,rfl⟩|⟨rfl,rfl⟩|⟨rfl,rfl⟩|⟨rfl,rfl⟩<;>decide+kernel
theorem M7 {i:In}(h:PB i=true):0≤i.loc∧i.loc<3:=by
 unfold PB Bl at h
 split at h
 ·split at h
  ·omega
  ·cases h
 ·cases h
theorem T0 {i:In}(h:Kv i=true)(ho:i.op=4∨i.op=5∨i.op=6):0≤i.loc∧i.loc<3:=by
 unfold Kv BN at h
 rw [if_neg (by omega),if_neg (by omega),if_neg (by omega)]at h
 rcases ho with ho|ho|ho
 ·rw [if_pos ho]at h
  split at h
  ·rw [Bool.and_eq_true]at h;exact M7 h.1
  ·cases h
 ·rw [if_neg (by omega),if_pos ho]at h
  split at h
  ·exact M7 h
  ·cases h
 ·rw [if_neg (by omega),if_neg (by omega),if_pos ho]at h
  split at h
  ·split at h
   ·rw [Bool.and_eq_true]at h;exact M7 h.1
   ·cases h
  ·cases h
theorem E6.loc {l:List In}(h:E6 l){k:Nat}(hk:k<l.length)(ho:(l.getD k In.z).op=4∨(l.getD k In.z).op=5∨(l.getD k In.z).op=6):0≤(l.getD k In.z).loc∧(l.getD k In.z).loc<3:=T0 (D9 (h.r k hk)).1 ho
theorem Dv {r:Rg}{i:In}(hs:i.sz=1∨i.sz=2∨i.sz=4∨i.sz=8):OS (FC r i) i.sz:=Zp hs (RF i.off (CV r i.ix 0) hs).2
theorem OT {r:Rg}{i:In}(hm:CE i=true)(hs:i.sz=1∨i.sz=2∨i.sz=4∨i.sz=8):OJ r i=Bf (FC r i) i.sz:=by
 unfold OJ Bf
 rw [hm,RL (Dv hs)];rfl
theorem Fi {i:In}(hm:CE i=true):OI i=i.loc:=by unfold OI;rw [hm];rfl
theorem JC {i:In}(hm:CE i=true):i.op=4∨i.op=5∨i.op=6:=by unfold CE at hm;simp at hm;omega
abbrev OU (i:In):Bool:=(i.op==5)||(i.op==6)
def JZ (m r:Rg)(i:In):Int:=if CE i=true then Ak (m i.loc.toNat) (FC r i) i.sz else 0
def Ex (m r:Rg)(i:In):Rg:=if CE i=true then(if OU i=true then BA m i.loc.toNat (A8 (m i.loc.toNat) (FC r i) i.sz (Fp i (Ak (m i.loc.toNat) (FC r i) i.sz) (FO r i)))else m)else m
theorem eO (m:Nat→Int)(cs:List AD)(ts:List Th)(nn:Nat)(th:Int)(hC:Ai cs ts nn)(jU:0≤th∧th<((nn:Nat):Int))(hm:CE (AT cs ts th)=false):Bi (TI cs) Tryz.prog 59 [.ptr 0 0,.int .i64 th] [some (.blk (BB 1 m)),some (.blk [.sl 2 nn 0]),some (AZ cs ts nn)] (Rt (.int .i64 0) [some (.blk (BB 1 m)),some (.blk [.sl 2 nn 0]),some (AZ cs ts nn)]):=
 Ab (n:=38) (by kernel_rfl) Tryz.func59 rfl rfl rfl fun G w a h0 hI A=>N9 12 A rfl rfl fun A=>I9 [1,2] AH.ok hI.1 (OM cs ts nn th hC jU) A rfl fun A=>N9 17 A rfl rfl fun A=>fork 21 A rfl
  (fun h1 A=>N9 7 A rfl rfl fun A=>R9 A rfl h0 rfl rfl rfl)
  (fun h1 A=>absurd h1 (by rw [hm];decide))
theorem eP (m:Nat→Int)(cs:List AD)(ts:List Th)(nn:Nat)(th lc o s:Int)(hC:Ai cs ts nn)(jU:0≤th∧th<((nn:Nat):Int))(hm:CE (AT cs ts th)=true)(qR:OI (AT cs ts th)=lc)(rA:OJ (A5 ts th).r (AT cs ts th)=Bf o s)(hl:0≤lc∧lc<3)(hO:OS o s)(hs:(AT cs ts th).sz=1∨(AT cs ts th).sz=2∨(AT cs ts th).sz=4∨(AT cs ts th).sz=8)(hw:OU (AT cs ts th)=false):Bi (TI cs) Tryz.prog 59 [.ptr 0 0,.int .i64 th] [some (.blk (BB 1 m)),some (.blk [.sl 2 nn 0]),some (AZ cs ts nn)] (Rt (.int .i64 (Ak (m lc.toNat) o s)) [some (.blk (BB 1 m)),some (.blk [.sl 2 nn 0]),some (AZ cs ts nn)]):=
 Ab (n:=38) (by kernel_rfl) Tryz.func59 rfl rfl rfl fun G w a h0 hI A=>N9 12 A rfl rfl fun A=>I9 [1,2] AH.ok hI.1 (RK cs ts nn th lc o s hC jU qR rA) A rfl fun A=>N9 17 A rfl rfl fun A=>fork 21 A rfl
  (fun h1 A=>absurd h1 (by rw [hm];decide))
  (fun h1 A=>N9 10 A rfl rfl fun A=>I9 [1,2] AH.ok hI.1 (I7 cs ts nn th hC jU) A rfl fun A=>N9 9 A rfl rfl fun A=>Aq hX BK [] [(6,.int .i64 (Ak (m lc.toNat) o s),[some (.blk (BB 1 m)),some (.blk [.sl 2 nn 0]),some (AZ cs ts nn),some (.blk [.int .i64 lc,.int .i64 (Bf o s)]),some (.blk (AS (AT cs ts th)))])] A rfl rfl rfl rfl (by kernel_rfl) ⟨Tt (l:=[.ptr 1 0]) (r:=[]) AK.ok hI.2 (eC m (AT cs ts th) lc o s (FO (A5 ts th).r (AT cs ts th)) hl hO hs hw) rfl rfl rfl rfl rfl,trivial⟩ trivial fun A=>N9 2 A rfl rfl fun A=>R9 A rfl h0 rfl rfl rfl)
theorem eQ (m:Nat→Int)(cs:List AD)(ts:List Th)(nn:Nat)(th lc o s:Int)(hC:Ai cs ts nn)(jU:0≤th∧th<((nn:Nat):Int))(hm:CE (AT cs ts th)=true)(qR:OI (AT cs ts th)=lc)(rA:OJ (A5 ts th).r (AT cs ts th)=Bf o s)(hl:0≤lc∧lc<3)(hO:OS o s)(hs:(AT cs ts th).sz=1∨(AT cs ts th).sz=2∨(AT cs ts th).sz=4∨(AT cs ts th).sz=8)(hw:OU (AT cs ts th)=true):Bi (TI cs) Tryz.prog 59 [.ptr 0 0,.int .i64 th] [some (.blk (BB 1 m)),some (.blk [.sl 2 nn 0]),some (AZ cs ts nn)] (Rt (.int .i64 (Ak (m lc.toNat) o s)) [some (.blk [.ptr 1 0,.int .i64 ((BA m lc.toNat (A8 (m lc.toNat) o s (Fp (AT cs ts th) (Ak (m lc.toNat) o s) (FO (A5 ts th).r (AT cs ts th))))) 0),.int .i64 ((BA m lc.toNat (A8 (m lc.toNat) o s (Fp (AT cs ts th) (Ak (m lc.toNat) o s) (FO (A5 ts th).r (AT cs ts th))))) 1),.int .i64 ((BA m lc.toNat (A8 (m lc.toNat) o s (Fp (AT cs ts th) (Ak (m lc.toNat) o s) (FO (A5 ts th).r (AT cs ts th))))) 2)]),some (.blk [.sl 2 nn 0]),some (AZ cs ts nn)]):=
 Ab (n:=38) (by kernel_rfl) Tryz.func59 rfl rfl rfl fun G w a h0 hI A=>N9 12 A rfl rfl fun A=>I9 [1,2] AH.ok hI.1 (RK cs ts nn th lc o s hC jU qR rA) A rfl fun A=>N9 17 A rfl rfl fun A=>fork 21 A rfl
  (fun h1 A=>absurd h1 (by rw [hm];decide))
  (fun h1 A=>N9 10 A rfl rfl fun A=>I9 [1,2] AH.ok hI.1 (I7 cs ts nn th hC jU) A rfl fun A=>N9 9 A rfl rfl fun A=>Aq hX BK [] [(6,.int .i64 (Ak (m lc.toNat) o s),[some (.blk [.ptr 1 0,.int .i64 ((BA m lc.toNat (A8 (m lc.toNat) o s (Fp (AT cs ts th) (Ak (m lc.toNat) o s) (FO (A5 ts th).r (AT cs ts th))))) 0),.int .i64 ((BA m lc.toNat (A8 (m lc.toNat) o s (Fp (AT cs ts th) (Ak (m lc.toNat) o s) (FO (A5 ts th).r (AT cs ts th))))) 1),.int .i64 ((BA m lc.toNat (A8 (m lc.toNat) o s (Fp (AT cs ts th) (Ak (m lc.toNat) o s) (FO (A5 ts th).r (AT cs ts th))))) 2)]),some (.blk [.sl 2 nn 0]),some (AZ cs ts nn),some (.blk [.int .i64 lc,.int .i64 (Bf o s)]),some (.blk (AS (AT cs ts th)))])] A rfl rfl rfl rfl (by kernel_rfl) ⟨Tt (l:=[.ptr 1 0]) (r:=[]) AK.ok hI.2 (eD m (AT cs ts th) lc o s (FO (A5 ts th).r (AT cs ts th)) hl hO hs hw) rfl rfl rfl rfl rfl,trivial⟩ trivial fun A=>N9 2 A rfl rfl fun A=>R9 A rfl h0 rfl rfl rfl)
theorem to_ (m:Nat→Int)(cs:List AD)(ts:List Th)(nn:Nat)(th:Int)(hC:Ai cs ts nn)(jU:0≤th∧th<((nn:Nat):Int))(lQ:(A5 ts th).at_<(cs.getD ((th).toNat) AD.z).l.length):Bi (TI cs) Tryz.prog 59 [.ptr 0 0,.int .i64 th] [some (.blk (BB 1 m)),some (.blk [.sl 2 nn 0]),some (AZ cs ts nn)] (Rt (.int .i64 (JZ m (A5 ts th).r (AT cs ts th))) [some (.blk [.ptr 1 0,.int .i64 ((Ex m (A5 ts th).r (AT cs ts th)) 0),.int .i64 ((Ex m (A5 ts th).r (AT cs ts th)) 1),.int .i64 ((Ex m (A5 ts th).r (AT cs ts th)) 2)]),some (.blk [.sl 2 nn 0]),some (AZ cs ts nn)]):=by
 have kT:=hC.r th.toNat (by have:=hC.m;omega)
 have qU:Tg (AT cs ts th):=kT.snd lQ
 cases hm:CE (AT cs ts th)with
 |false=>
  have h:=eO m cs ts nn th hC jU hm
  unfold JZ Ex
  rw [if_neg (ne_true_of_eq_false hm),if_neg (ne_true_of_eq_false hm)]
  exact h
 | true=>
  have j9:=kT.szs lQ (JC hm)
  have mO:0≤(AT cs ts th).loc∧(AT cs ts th).loc<3:=kT.loc lQ (JC hm)
  cases hw:OU (AT cs ts th)with
  |false=>
   have h:=eP m cs ts nn th _ _ _ hC jU hm (Fi hm) (OT hm j9) mO (Dv j9) j9 hw
   unfold JZ Ex
   rw [if_pos hm,if_pos hm,if_neg (ne_true_of_eq_false hw)]
   exact h
  |true=>
   have h:=eQ m cs ts nn th _ _ _ hC jU hm (Fi hm) (OT hm j9) mO (Dv j9) j9 hw
   unfold JZ Ex
   rw [if_pos hm,if_pos hm,if_pos hw]
   exact h
theorem isT {a b:Nat}(h:a<b):(!(((a:Nat):Int)==((b:Nat):Int)))=true:=by simp;omega
theorem W8 (cs:List AD)(ts:List Th)(nn:Nat)(th old:Int)(hC:Ai cs ts nn)(jU:0≤th∧th<((nn:Nat):Int))(lQ:(A5 ts th).at_<(cs.getD ((th).toNat) AD.z).l.length):Bi (AH cs) Tryz.prog 58 [.ptr 0 0,.int .i64 th,.int .i64 old] [some (.blk [.sl 1 nn 0]),some (AZ cs ts nn)] (Rt .tt [some (.blk [.sl 1 nn 0]),some (AZ cs (CC cs ts th old) nn)]):=
 M6 (Tl cs ts nn th old hC jU) (fun{G}=>congrArg (fun b=>some (Value.bool b)) (isT lQ))
theorem gK (m:Nat→Int)(cs:List AD)(ts:List Th)(nn:Nat)(i th:Int)(hC:Ai cs ts nn)(kP:nn≤3)(jU:0≤th∧th<((nn:Nat):Int))(lQ:(A5 ts th).at_<(cs.getD ((th).toNat) AD.z).l.length)(hi:0≤i∧i<(((Bs cs ts nn).length:Nat):Int))(oR:((Bs cs ts nn).getD (i).toNat (0,0,0)).2.1=th):Bi (TI cs) Tryz.prog 15 [.ptr 0 0,.int .i64 i] [some (.blk (BB 1 m)),some (.blk [.sl 2 nn 0]),some (AZ cs ts nn)] (Rt (.tt) [some (.blk [.ptr 1 0,.int .i64 ((Ex m (A5 ts th).r (AT cs ts th)) 0),.int .i64 ((Ex m (A5 ts th).r (AT cs ts th)) 1),.int .i64 ((Ex m (A5 ts th).r (AT cs ts th)) 2)]),some (.blk [.sl 2 nn 0]),some (.row 125 10 nn 0 (fun zz=>GJ (cs.getD zz AD.z) ((CC cs ts th (JZ m (A5 ts th).r (AT cs ts th))).getD zz Th.z)))]):=
 Ab (n:=31) (by kernel_rfl) Tryz.func15 rfl rfl rfl fun G w a h0 hI A=>N9 8 A rfl rfl fun A=>I9 [0,1,2] AH.ok hI.1 (YX m cs ts nn hC kP) A rfl fun A=>N9 16 A rfl rfl fun A=>fork 16 A rfl
  (fun h1 A=>absurd h1 (by simp;omega))
  (fun h1 A=>N9 10 A rfl (iU (by omega)<|iU (by omega)<|iU (by omega)<|iT) fun A=>have A:=AB A 21 (.int .i64 th) rfl (fun _=>congrArg (fun z=>some (Value.int .i64 z)) oR);N9 4 A rfl rfl fun A=>Aq hX BK [] [(7,.int .i64 (JZ m (A5 ts th).r (AT cs ts th)),[some (.blk [.ptr 1 0,.int .i64 ((Ex m (A5 ts th).r (AT cs ts th)) 0),.int .i64 ((Ex m (A5 ts th).r (AT cs ts th)) 1),.int .i64 ((Ex m (A5 ts th).r (AT cs ts th)) 2)]),some (.blk [.sl 2 nn 0]),some (AZ cs ts nn),some (.row 44 4 ((Bs cs ts nn).length) 0 (E7 (Bs cs ts nn)))]),(8,.tt,[some (.blk [.ptr 1 0,.int .i64 ((Ex m (A5 ts th).r (AT cs ts th)) 0),.int .i64 ((Ex m (A5 ts th).r (AT cs ts th)) 1),.int .i64 ((Ex m (A5 ts th).r (AT cs ts th)) 2)]),some (.blk [.sl 2 nn 0]),some (.row 125 10 nn 0 (fun zz=>GJ (cs.getD zz AD.z) ((CC cs ts th (JZ m (A5 ts th).r (AT cs ts th))).getD zz Th.z))),some (.row 44 4 ((Bs cs ts nn).length) 0 (E7 (Bs cs ts nn)))])] A rfl rfl rfl rfl (by kernel_rfl) ⟨C8 [0,1,2] TI.ok hI (to_ m cs ts nn th hC jU lQ) rfl rfl rfl rfl rfl rfl rfl,⟨C8 [1,2] AH.ok hI.1 (W8 cs ts nn th (JZ m (A5 ts th).r (AT cs ts th)) hC jU lQ) rfl rfl rfl rfl rfl rfl rfl,trivial⟩⟩ trivial fun A=>N9 2 A rfl rfl fun A=>R9 A rfl h0 rfl rfl rfl)
theorem Zq (m:Nat→Int)(cs:List AD)(ts:List Th)(nn:Nat)(i:Int)(hC:Ai cs ts nn)(kP:nn≤3)(hi:¬(0≤i∧i<(((Bs cs ts nn).length:Nat):Int))):Bi (TI cs) Tryz.prog 15 [.ptr 0 0,.int .i64 i] [some (.blk (BB 1 m)),some (.blk [.sl 2 nn 0]),some (AZ cs ts nn)] (Rt (.ff) [some (.blk (BB 1 m)),some (.blk [.sl 2 nn 0]),some (AZ cs ts nn)]):=
 Ab (n:=31) (by kernel_rfl) Tryz.func15 rfl rfl rfl fun G w a h0 hI A=>N9 8 A rfl rfl fun A=>I9 [0,1,2] AH.ok hI.1 (YX m cs ts nn hC kP) A rfl fun A=>N9 16 A rfl rfl fun A=>fork 16 A rfl
  (fun h1 A=>N9 7 A rfl rfl fun A=>R9 A rfl h0 rfl rfl rfl)
  (fun h1 A=>absurd h1 (by simp;omega))
theorem Zr (m:Nat→Int)(cs:List AD)(ts:List Th)(nn:Nat)(hC:Ai cs ts nn)(kP:nn≤3):Bi (TI cs) Tryz.prog 22 [.ptr 0 0] [some (.blk (BB 1 m)),some (.blk [.sl 2 nn 0]),some (AZ cs ts nn)] (Rt (.bool ((((Bs cs ts nn).length:Nat):Int)==0)) [some (.blk (BB 1 m)),some (.blk [.sl 2 nn 0]),some (AZ cs ts nn)]):=
 Ab (n:=7) (by kernel_rfl) Tryz.func22 rfl rfl rfl fun G w a h0 hI A=>N9 8 A rfl rfl fun A=>I9 [0,1,2] AH.ok hI.1 (YX m cs ts nn hC kP) A rfl fun A=>N9 6 A rfl rfl fun A=>R9 A rfl h0 rfl rfl rfl
end Go.Proofs.YtbbdanhpphlbpaaGreatDoor.Mc
namespace Go.Proofs.YtbbdanhpphlbpaaGreatDoor
open Go.RowKit
abbrev BV:=BitVec 64
def vB (b:BV):Int:=b.toInt
theorem K1 (b:BV):IntKind.wrap .i64 ((b.toNat:Nat):Int)=vB b:=by
 unfold vB
 rw [IntKind.wrap_i64,BitVec.toInt_eq_toNat_bmod,Int.bmod_def]
 have:=b.isLt
 simp only [Nat.reducePow]at*
 omega
theorem Dw (b:BV):BitVec.ofInt (IntKind.bits .i64) (vB b)=b:=BitVec.ofInt_toInt
theorem VO (x y:BV):IntKind.wrap .i64 ((((BitVec.ofInt (IntKind.bits .i64) (vB x))|||(BitVec.ofInt (IntKind.bits .i64) (vB y))).toNat:Nat):Int)=vB (x|||y):=by
 rw [Dw,Dw];exact K1 _
theorem M8 (x y:BV):IntKind.wrap .i64 ((((BitVec.ofInt (IntKind.bits .i64) (vB x))&&&(BitVec.ofInt (IntKind.bits .i64) (vB y))).toNat:Nat):Int)=vB (x&&&y):=by
 rw [Dw,Dw];exact K1 _
theorem PL (x y:BV):IntKind.wrap .i64 ((((BitVec.ofInt (IntKind.bits .i64) (vB x))&&& ~~~ (BitVec.ofInt (IntKind.bits .i64) (vB y))).toNat:Nat):Int)=vB (x&&& ~~~y):=by
 rw [Dw,Dw];exact K1 _
theorem Gy {x:Int}(h: -9223372036854775808≤x∧x≤9223372036854775807):vB (BitVec.ofInt 64 x)=x:=by
 unfold vB
 rw [BitVec.toInt_ofInt,Int.bmod_def]
 simp only [Nat.reducePow]
 omega
theorem M9 (m:BV)(k:Nat)(hk:k<64):Int.fdiv (vB m) (2^min k (IntKind.bits .i64))=vB (m.sshiftRight k):=by
 have hr:min k (IntKind.bits .i64)=k:=by show min k 64=_;omega
 rw [hr]
 unfold vB
 rw [BitVec.toInt_sshiftRight,Int.shiftRight_eq_div_pow,Int.fdiv_eq_ediv_of_nonneg _ (by exact Int.le_of_lt (Int.pow_pos (by decide)))]
 push_cast;rfl
end Go.Proofs.YtbbdanhpphlbpaaGreatDoor
namespace Go.Proofs.YtbbdanhpphlbpaaGreatDoor.Mc
open Go.RowKit
set_option simprocs false
set_option simprocs true in
theorem K2 (m:BV)(k:Nat)(hk:k<64):IntKind.wrap .i64 (vB m*2^min k (IntKind.bits .i64))=vB (m <<< k):=by
 have hr:min k (IntKind.bits .i64)=k:=by show min k 64=_;omega
 rw [hr,IntKind.wrap_i64]
 have h2:BitVec.ofInt 64 (vB m*2^k)=m <<< k:=by
  rw [BitVec.ofInt_mul,BitVec.shiftLeft_eq_mul_twoPow]
  congr 1
  ·exact BitVec.ofInt_toInt
  ·exact BitVec.eq_of_toNat_eq (by
    rw [show((2:Int)^k)=((2^k:Nat):Int) by push_cast;rfl,BitVec.ofInt_natCast]
    simp)
 rw [←h2]
 unfold vB
 rw [BitVec.toInt_ofInt,Int.bmod_def]
 simp only [Nat.reducePow]
 omega
structure FP (o s:Int)(k n:Nat)(L:BV):Prop where
 c:(!(((((((s==1)||(s==2))||(s==4))||(s==8))&&(decide (o≥0)))&&(decide (o≤(IntKind.wrap .i64 (8 - s)))))&&((Int.tmod o s)==0)))=false
 sh:(IntKind.wrap .i64 (8*o)).toNat=k
 m:IntKind.wrap .i64 ((IntKind.wrap .i64 (1*2^min ((IntKind.wrap .i64 (8*s))).toNat (IntKind.bits .i64))) - 1)=vB L
 b:∀i,i<64→L.getLsbD i=decide (i<n)
 h:k+n≤64
 p:0<n
theorem FP.get {o s:Int}{k n:Nat}{L:BV}(h:FP o s k n L)(X:BV):Ak (vB X) o s=vB (X.sshiftRight k&&&L):=by
 have:=h.h;have:=h.p
 unfold Ak
 rw [if_neg (by rw [h.c];decide),h.sh,M9 X k (by omega),h.m,M8]
theorem FP.put {o s:Int}{k n:Nat}{L:BV}(h:FP o s k n L)(a:Int)(X:BV):A8 a o s (vB X)=vB ((BitVec.ofInt 64 a&&& ~~~(L <<< k))|||((X <<< k)&&&(L <<< k))):=by
 have:=h.h;have:=h.p
 unfold A8
 rw [if_neg (by rw [h.c];decide),h.sh,h.m,K2 L k (by omega),K2 X k (by omega),M8,show BitVec.ofInt (IntKind.bits .i64) a=BitVec.ofInt (IntKind.bits .i64) (vB (BitVec.ofInt 64 a))from(Dw _).symm,PL,VO]
theorem FP.low {s:Int}{n:Nat}{L:BV}(h:FP 0 s 0 n L)(X:BV):BU (vB X) s=vB (X&&&L):=by
 have e:=h.get X
 rw [BitVec.sshiftRight_zero]at e
 exact e
abbrev L1:BV:=255#64
abbrev L2:BV:=65535#64
abbrev L4:BV:=4294967295#64
abbrev L8:BV:=BitVec.allOnes 64
theorem FP.mk1 {o:Int}(k:Nat)(h:(!(((((((1:Int)==1)||((1:Int)==2))||((1:Int)==4))||((1:Int)==8))&&(decide (o≥0)))&&(decide (o≤(IntKind.wrap .i64 (8 - 1))))&&((Int.tmod o 1)==0)))=false)(hk:(IntKind.wrap .i64 (8*o)).toNat=k)(h2:k≤56):FP o 1 k 8 L1:=⟨h,hk,by decide+kernel,by decide+kernel,by omega,by decide⟩
theorem FP.mk2 {o:Int}(k:Nat)(h:(!(((((((2:Int)==1)||((2:Int)==2))||((2:Int)==4))||((2:Int)==8))&&(decide (o≥0)))&&(decide (o≤(IntKind.wrap .i64 (8 - 2))))&&((Int.tmod o 2)==0)))=false)(hk:(IntKind.wrap .i64 (8*o)).toNat=k)(h2:k≤48):FP o 2 k 16 L2:=⟨h,hk,by decide+kernel,by decide+kernel,by omega,by decide⟩
theorem FP.mk4 {o:Int}(k:Nat)(h:(!(((((((4:Int)==1)||((4:Int)==2))||((4:Int)==4))||((4:Int)==8))&&(decide (o≥0)))&&(decide (o≤(IntKind.wrap .i64 (8 - 4))))&&((Int.tmod o 4)==0)))=false)(hk:(IntKind.wrap .i64 (8*o)).toNat=k)(h2:k≤32):FP o 4 k 32 L4:=⟨h,hk,by decide+kernel,by decide+kernel,by omega,by decide⟩
theorem gL:FP 0 8 0 64 L8:=⟨by decide,by decide,by decide+kernel,by decide+kernel,by omega,by decide⟩
end Go.Proofs.YtbbdanhpphlbpaaGreatDoor.Mc
namespace Go.Proofs.YtbbdanhpphlbpaaGreatDoor.Mc
open Go.RowKit
set_option simprocs false
theorem Zs (v1 k1:Int)(hk:0≤k1∧k1<8):Fn Tryz.prog 134 [.int .i64 v1,.int .i64 k1] [] (Rt (.int .i64 (IntKind.wrap .i64 ((((BitVec.ofInt (IntKind.bits .i64) (Int.fdiv v1 (2^min ((8*k1)).toNat (IntKind.bits .i64))))&&&(BitVec.ofInt (IntKind.bits .i64) 255)).toNat:Nat):Int))) []):=
 AG (n:=10) (by kernel_rfl) Tryz.func134 rfl rfl rfl fun G w a h0 A=>N9 16 A rfl (iU (by omega)<|iU (by omega)<|iT) fun A=>R9 A rfl h0 rfl rfl rfl
def P9 (a1 b1 m1:Int):Nat→Int
 |0=>0
 |k+1=>if(IntKind.wrap .i64 ((((BitVec.ofInt (IntKind.bits .i64) (Int.fdiv m1 (2^min ((k:Int)).toNat (IntKind.bits .i64))))&&&(BitVec.ofInt (IntKind.bits .i64) 1)).toNat:Nat):Int))=1 then IntKind.wrap .i64 ((((BitVec.ofInt (IntKind.bits .i64) (P9 a1 b1 m1 k))|||(BitVec.ofInt (IntKind.bits .i64) (IntKind.wrap .i64 ((IntKind.wrap .i64 ((((BitVec.ofInt (IntKind.bits .i64) (Int.fdiv b1 (2^min ((8*(k:Int))).toNat (IntKind.bits .i64))))&&&(BitVec.ofInt (IntKind.bits .i64) 255)).toNat:Nat):Int))*2^min ((8*(k:Int))).toNat (IntKind.bits .i64))))).toNat:Nat):Int)else IntKind.wrap .i64 ((((BitVec.ofInt (IntKind.bits .i64) (P9 a1 b1 m1 k))|||(BitVec.ofInt (IntKind.bits .i64) (IntKind.wrap .i64 ((IntKind.wrap .i64 ((((BitVec.ofInt (IntKind.bits .i64) (Int.fdiv a1 (2^min ((8*(k:Int))).toNat (IntKind.bits .i64))))&&&(BitVec.ofInt (IntKind.bits .i64) 255)).toNat:Nat):Int))*2^min ((8*(k:Int))).toNat (IntKind.bits .i64))))).toNat:Nat):Int)
theorem VQ {a1 b1 m1:Int}{k:Nat}(h:(IntKind.wrap .i64 ((((BitVec.ofInt (IntKind.bits .i64) (Int.fdiv m1 (2^min ((k:Int)).toNat (IntKind.bits .i64))))&&&(BitVec.ofInt (IntKind.bits .i64) 1)).toNat:Nat):Int))=1):IntKind.wrap .i64 ((((BitVec.ofInt (IntKind.bits .i64) (P9 a1 b1 m1 k))|||(BitVec.ofInt (IntKind.bits .i64) (IntKind.wrap .i64 ((IntKind.wrap .i64 ((((BitVec.ofInt (IntKind.bits .i64) (Int.fdiv b1 (2^min ((8*(k:Int))).toNat (IntKind.bits .i64))))&&&(BitVec.ofInt (IntKind.bits .i64) 255)).toNat:Nat):Int))*2^min ((8*(k:Int))).toNat (IntKind.bits .i64))))).toNat:Nat):Int)=P9 a1 b1 m1 (k+1):=by show _=ite _ _ _;rw [if_pos h]
theorem VR {a1 b1 m1:Int}{k:Nat}(h:(IntKind.wrap .i64 ((((BitVec.ofInt (IntKind.bits .i64) (Int.fdiv m1 (2^min ((k:Int)).toNat (IntKind.bits .i64))))&&&(BitVec.ofInt (IntKind.bits .i64) 1)).toNat:Nat):Int))≠1):IntKind.wrap .i64 ((((BitVec.ofInt (IntKind.bits .i64) (P9 a1 b1 m1 k))|||(BitVec.ofInt (IntKind.bits .i64) (IntKind.wrap .i64 ((IntKind.wrap .i64 ((((BitVec.ofInt (IntKind.bits .i64) (Int.fdiv a1 (2^min ((8*(k:Int))).toNat (IntKind.bits .i64))))&&&(BitVec.ofInt (IntKind.bits .i64) 255)).toNat:Nat):Int))*2^min ((8*(k:Int))).toNat (IntKind.bits .i64))))).toNat:Nat):Int)=P9 a1 b1 m1 (k+1):=by show _=ite _ _ _;rw [if_neg h]
theorem eR (a1 b1 m1:Int):Fn Tryz.prog 94 [.int .i64 a1,.int .i64 b1,.int .i64 m1] [] (Rt (.int .i64 (P9 a1 b1 m1 8)) []):=
 AG (n:=32) (by kernel_rfl) Tryz.func94 rfl rfl rfl fun G w a h0 A=>N9 17 A rfl rfl fun A=>Bk (fun(k:Nat)=>[(0,.int .i64 a1),(1,.int .i64 b1),(2,.int .i64 m1),(6,.int .i64 0),(7,.int .i64 (P9 a1 b1 m1 k)),(8,.int .i64 (k:Int))]) (fun(k:Nat)=>[]) (fun(k:Nat)=>k≤8) (fun(k:Nat)=>8 - k) 0 (Nat.zero_le _) ((A.cut [0,1,2,6,7,8] rfl).trunc 0 rfl rfl rfl (iR h0 rfl)) fun k hK {G a w} A=>N9 7 A rfl rfl fun A=>AL 11 A rfl
   (fun h1 A=>N9 9 A rfl rfl fun A=>C9 [] (Zs a1 (k:Int) (by omega)) A rfl fun A=>N9 13 A rfl (iU (by omega)<|iT) fun A=>AN 21 A rfl
    (fun h2 A=>N9 4 A rfl rfl fun A=>C9 [] (Zs b1 (k:Int) (by omega)) A rfl fun A=>N9 14 A rfl (iU (by omega)<|iU (by omega)<|iT) fun A=>N9 5 A rfl (iU (by omega)<|iT) fun A=>⟨k+1,_,(by omega),(by omega),(((AB A 7 (.int .i64 (P9 a1 b1 m1 (k+1))) rfl (fun _=>congrArg (fun z=>some (Value.int .i64 z)) (VQ h2))).cut [0,1,2,6,7,8] rfl).trunc 0 rfl rfl rfl (iR h0 rfl)).sayT (by rfl)⟩)
    (fun h2 A=>N9 14 A rfl (iU (by omega)<|iU (by omega)<|iT) fun A=>N9 5 A rfl (iU (by omega)<|iT) fun A=>⟨k+1,_,(by omega),(by omega),(((AB A 7 (.int .i64 (P9 a1 b1 m1 (k+1))) rfl (fun _=>congrArg (fun z=>some (Value.int .i64 z)) (VR h2))).cut [0,1,2,6,7,8] rfl).trunc 0 rfl rfl rfl (iR h0 rfl)).sayT (by rfl)⟩))
   (fun h1 A=>N9 10 A rfl rfl fun A=>R9 A rfl h0 rfl (by have e:k=8:=(by omega);subst e;rfl) rfl)
theorem RM {o s:Int}(h:OS o s):∀j:Nat,j<8→kK (Bf o s) (j:Int)=if o≤(j:Int)∧(j:Int)<o+s then 1 else 0:=by
 rcases h with⟨rfl,rfl⟩|⟨rfl,rfl⟩|⟨rfl,rfl⟩|⟨rfl,rfl⟩|⟨rfl,rfl⟩|⟨rfl,rfl⟩|⟨rfl,rfl⟩|⟨rfl,rfl⟩|⟨rfl,rfl⟩|⟨rfl,rfl⟩|⟨rfl,rfl⟩|⟨rfl,rfl⟩|⟨rfl,rfl⟩|⟨rfl,rfl⟩|⟨rfl,rfl⟩<;>decide+kernel
theorem RN {o s:Int}(h:OS o s):0≤o∧1≤s∧o+s≤8:=by unfold OS at h;omega
theorem Zt {m1:Int}{k:Nat}(h:(decide ((k:Int)<7)&&(kK m1 (k:Int)==0))=true)(hK:k≤7∧∀j:Nat,j<k→kK m1 (j:Int)=0):k+1≤7∧∀j:Nat,j<k+1→kK m1 (j:Int)=0:=by
 rw [Bool.and_eq_true,decide_eq_true_eq,beq_iff_eq]at h
 refine⟨by omega,fun j hj=>?_⟩
 by_cases e:j=k
 ·subst e;exact h.2
 ·exact hK.2 j (by omega)
theorem W9 {o s m1:Int}{k:Nat}(h:(decide ((k:Int)<7)&&(kK m1 (k:Int)==0))=false)(hK:k≤7∧∀j:Nat,j<k→kK m1 (j:Int)=0)(hO:OS o s)(hm:m1=Bf o s):(k:Int)=o:=by
 subst hm
 have hb:=RM hO
 have hr:=RN hO
 by_cases e:(k:Int)=o
 ·exact e
 ·exfalso
  by_cases i7:(k:Int)<o
  ·have h1:kK (Bf o s) (k:Int)=0:=by rw [hb k (by omega),if_neg (by omega)]
   rw [h1,decide_eq_true (by omega)]at h
   cases h
  ·have h1:=hK.2 o.toNat (by omega)
   rw [hb o.toNat (by omega),if_pos (by omega)]at h1
   cases h1
def VS (A B:BV)(p:Nat→Bool):Nat→BV
 |0=>0#64
 |k+1=>VS A B p k|||(((if p k=true then B else A).sshiftRight (8*k)&&&255#64) <<< (8*k))
theorem Zu {k:Nat}(hk:k<8):(8*(k:Int)).toNat=8*k:=by omega
theorem RO (Y X:BV){k:Nat}(hk:k<8):IntKind.wrap .i64 ((((BitVec.ofInt (IntKind.bits .i64) (vB Y))|||(BitVec.ofInt (IntKind.bits .i64) (IntKind.wrap .i64 ((IntKind.wrap .i64 ((((BitVec.ofInt (IntKind.bits .i64) (Int.fdiv (vB X) (2^min ((8*(k:Int))).toNat (IntKind.bits .i64))))&&&(BitVec.ofInt (IntKind.bits .i64) 255)).toNat:Nat):Int))*2^min ((8*(k:Int))).toNat (IntKind.bits .i64))))).toNat:Nat):Int)=vB (Y|||((X.sshiftRight (8*k)&&&255#64) <<< (8*k))):=by
 rw [Zu hk,M9 X (8*k) (by omega),show BitVec.ofInt (IntKind.bits .i64) 255=BitVec.ofInt (IntKind.bits .i64) (vB 255#64)from by decide+kernel,M8,K2 _ (8*k) (by omega),VO]
theorem OV {A B:BV}{m:Int}{p:Nat→Bool}(hp:∀k:Nat,k<8→(kK m (k:Int)=1↔p k=true)):∀k,k≤8→P9 (vB A) (vB B) m k=vB (VS A B p k)
 |0,_=>by show(0:Int)=vB 0#64;decide+kernel
 | k+1,h=>by
  have ih:=OV (A:=A) (B:=B) hp k (by omega)
  by_cases hq:kK m (k:Int)=1
  ·rw [←VQ hq,ih,RO _ B (by omega)]
   show _=vB (VS A B p k|||(((if p k=true then B else A).sshiftRight (8*k)&&&255#64) <<< (8*k)))
   rw [if_pos ((hp k (by omega)).1 hq)]
  ·rw [←VR hq,ih,RO _ A (by omega)]
   show _=vB (VS A B p k|||(((if p k=true then B else A).sshiftRight (8*k)&&&255#64) <<< (8*k)))
   rw [if_neg (fun h2=>hq ((hp k (by omega)).2 h2))]
theorem eS:∀j:Nat,j<64→(255#64:BV).getLsbD j=decide (j<8):=by decide+kernel
set_option simprocs true in
theorem OW (A B:BV)(p:Nat→Bool)(i:Nat)(hi:i<64):∀k,k≤8→(VS A B p k).getLsbD i=(decide (i<8*k)&&(if p (i / 8)=true then B else A).getLsbD i)
 |0,_=>by simp [VS]
 | k+1,h=>by
  unfold VS
  rw [BitVec.getLsbD_or,OW A B p i hi k (by omega),BitVec.getLsbD_shiftLeft,BitVec.getLsbD_and,BitVec.getLsbD_sshiftRight]
  by_cases h1:i<8*k
  ·simp [h1,hi,show i<8*(k+1) by omega]
  ·have e2:8*k+(i - 8*k)=i:=by omega
   rw [eS (i - 8*k) (by omega),e2,if_pos hi,decide_eq_false (show¬64≤i - 8*k by omega),decide_eq_false h1,decide_eq_true hi]
   by_cases h2:i<8*(k+1)
   ·have e:i / 8=k:=by omega
    rw [e,decide_eq_true h2,decide_eq_true (show i - 8*k<8 by omega)]
    simp
   ·rw [decide_eq_false h2,decide_eq_false (show¬i - 8*k<8 by omega)]
    simp
theorem XA (A B M:BV)(p:Nat→Bool)(hM:∀i,i<64→M.getLsbD i=p (i / 8)):VS A B p 8=(A&&& ~~~M)|||(B&&&M):=by
 apply BitVec.eq_of_getLsbD_eq
 intro i hi
 rw [OW A B p i hi 8 (Nat.le_refl _),decide_eq_true (show i<8*8 by omega),BitVec.getLsbD_or,BitVec.getLsbD_and,BitVec.getLsbD_and,BitVec.getLsbD_not,hM i hi,decide_eq_true hi]
 cases p (i / 8)
 ·rw [if_neg (by decide)];simp
 ·rw [if_pos rfl];simp
abbrev inr (x:Int):Prop:= -9223372036854775808≤x∧x≤9223372036854775807
theorem Lz (x:Int):inr (IntKind.wrap .i64 x):=by rw [IntKind.wrap_i64];constructor<;>omega
theorem VT {o s:Int}(hO:OS o s):∃L,FP o s (8*o.toNat) (8*s.toNat) L∧FP 0 s 0 (8*s.toNat) L:=by
 rcases hO with⟨rfl,rfl⟩|⟨rfl,rfl⟩|⟨rfl,rfl⟩|⟨rfl,rfl⟩|⟨rfl,rfl⟩|⟨rfl,rfl⟩|⟨rfl,rfl⟩|⟨rfl,rfl⟩|⟨rfl,rfl⟩|⟨rfl,rfl⟩|⟨rfl,rfl⟩|⟨rfl,rfl⟩|⟨rfl,rfl⟩|⟨rfl,rfl⟩|⟨rfl,rfl⟩
 ·exact⟨L1,FP.mk1 0 (by decide) (by decide) (by decide),FP.mk1 0 (by decide) (by decide) (by decide)⟩
 ·exact⟨L1,FP.mk1 8 (by decide) (by decide) (by decide),FP.mk1 0 (by decide) (by decide) (by decide)⟩
 ·exact⟨L1,FP.mk1 16 (by decide) (by decide) (by decide),FP.mk1 0 (by decide) (by decide) (by decide)⟩
 ·exact⟨L1,FP.mk1 24 (by decide) (by decide) (by decide),FP.mk1 0 (by decide) (by decide) (by decide)⟩
 ·exact⟨L1,FP.mk1 32 (by decide) (by decide) (by decide),FP.mk1 0 (by decide) (by decide) (by decide)⟩
 ·exact⟨L1,FP.mk1 40 (by decide) (by decide) (by decide),FP.mk1 0 (by decide) (by decide) (by decide)⟩
 ·exact⟨L1,FP.mk1 48 (by decide) (by decide) (by decide),FP.mk1 0 (by decide) (by decide) (by decide)⟩
 ·exact⟨L1,FP.mk1 56 (by decide) (by decide) (by decide),FP.mk1 0 (by decide) (by decide) (by decide)⟩
 ·exact⟨L2,FP.mk2 0 (by decide) (by decide) (by decide),FP.mk2 0 (by decide) (by decide) (by decide)⟩
 ·exact⟨L2,FP.mk2 16 (by decide) (by decide) (by decide),FP.mk2 0 (by decide) (by decide) (by decide)⟩
 ·exact⟨L2,FP.mk2 32 (by decide) (by decide) (by decide),FP.mk2 0 (by decide) (by decide) (by decide)⟩
 ·exact⟨L2,FP.mk2 48 (by decide) (by decide) (by decide),FP.mk2 0 (by decide) (by decide) (by decide)⟩
 ·exact⟨L4,FP.mk4 0 (by decide) (by decide) (by decide),FP.mk4 0 (by decide) (by decide) (by decide)⟩
 ·exact⟨L4,FP.mk4 32 (by decide) (by decide) (by decide),FP.mk4 0 (by decide) (by decide) (by decide)⟩
 ·exact⟨L8,gL,gL⟩
theorem XB {o s a x:Int}(hO:OS o s)(ha:inr a)(hx:inr x):P9 a (IntKind.wrap .i64 (x*2^min (8*o).toNat (IntKind.bits .i64))) (Bf o s) 8=A8 a o s x:=by
 obtain⟨L,h,_⟩:=VT hO
 have hr:=RN hO
 have hh:=h.h
 have hp:=h.p
 conv=>lhs;rw [←Gy ha,←Gy hx]
 conv=>rhs;rw [←Gy hx]
 have e:(8*o).toNat=8*o.toNat:=by omega
 have h1:∀k:Nat,k<8→(kK (Bf o s) (k:Int)=1↔(fun j=>decide (o.toNat≤j∧j<o.toNat+s.toNat)) k=true):=fun k hk=>by
  rw [RM hO k hk]
  by_cases q:o≤(k:Int)∧(k:Int)<o+s
  ·rw [if_pos q];simp only [true_iff,decide_eq_true_eq];omega
  ·rw [if_neg q];simp only [decide_eq_true_eq];constructor
   ·intro h2;cases h2
   ·intro h2;exact absurd h2 (by omega)
 have h2:∀i,i<64→(L <<< (8*o.toNat)).getLsbD i=(fun j=>decide (o.toNat≤j∧j<o.toNat+s.toNat)) (i / 8):=fun i hi=>by
  rw [BitVec.getLsbD_shiftLeft]
  by_cases q:8*o.toNat≤i
  ·rw [h.b (i - 8*o.toNat) (by omega),decide_eq_true hi,decide_eq_false (show¬i<8*o.toNat by omega),Bool.not_false,Bool.true_and,Bool.true_and]
   apply decide_eq_decide.2
   omega
  ·rw [decide_eq_true (show i<8*o.toNat by omega),Bool.not_true,Bool.and_false,Bool.false_and]
   exact(decide_eq_false (by omega)).symm
 rw [e,K2 _ (8*o.toNat) (by omega),OV h1 8 (Nat.le_refl _),XA _ _ (L <<< (8*o.toNat)) _ h2,h.put]
theorem RP {o s m:Int}(hO:OS o s)(hm:inr m):BU (Int.fdiv m (2^min (8*o).toNat (IntKind.bits .i64))) s=Ak m o s∧BU (Ak m o s) s=Ak m o s:=by
 obtain⟨L,h,h0⟩:=VT hO
 have hr:=RN hO
 have hh:=h.h
 have hp:=h.p
 have e:(8*o).toNat=8*o.toNat:=by omega
 rw [←Gy hm,e,M9 _ (8*o.toNat) (by omega),h0.low,h.get,h0.low,BitVec.and_assoc,BitVec.and_self]
 exact⟨rfl,rfl⟩
theorem JD (v s:Int):inr (BU v s):=by
 unfold BU;split
 ·decide
 ·exact Lz _
theorem RQ (f v a s:Int):inr (Hz f v a s):=by
 unfold Hz
 split
 ·exact JD _ _
 ·split
  ·exact JD _ _
  ·decide
theorem RR {v:Int}(o s x:Int)(h:inr v):inr (A8 v o s x):=by
 unfold A8;split
 ·exact h
 ·exact Lz _
theorem VU (o s m1:Int)(hO:OS o s)(hm:m1=Bf o s):Fn Tryz.prog 95 [.int .i64 m1] [] (Rt (.int .i64 o) []):=
 AG (n:=16) (by kernel_rfl) Tryz.func95 rfl rfl rfl fun G w a h0 A=>N9 12 A rfl rfl fun A=>Bk (fun(k:Nat)=>[(0,.int .i64 m1),(2,.int .i64 0),(3,.int .i64 (k:Int))]) (fun(k:Nat)=>[]) (fun(k:Nat)=>k≤7∧∀j:Nat,j<k→kK m1 (j:Int)=0) (fun(k:Nat)=>8 - k) 0 ⟨Nat.zero_le _,fun j h=>absurd h (Nat.not_lt_zero _)⟩ ((A.cut [0,2,3] rfl).trunc 0 rfl rfl rfl (iR h0 rfl)) fun k hK {G a w} A=>N9 14 A rfl (BX<|BX<|HW (fun hg=>(by omega))<|BX<|BX<|BX<|iT) fun A=>fork 12 A rfl
   (fun h1 A=>N9 10 A rfl (iU (by omega)<|iT) fun A=>⟨k+1,_,(by omega),(Zt h1 hK),((A.cut [0,2,3] rfl).trunc 0 rfl rfl rfl (iR h0 rfl)).sayT (by rfl)⟩)
   (fun h1 A=>N9 10 A rfl rfl fun A=>R9 A rfl h0 rfl (congrArg (SV.int .i64) (W9 h1 hK hO hm)) rfl)
end Go.Proofs.YtbbdanhpphlbpaaGreatDoor.Mc
namespace Go.Proofs.YtbbdanhpphlbpaaGreatDoor
open Go.RowKit
section
variable {P:Program}{Y:Tb}{n:Nat}{ks:List Nat}{G0:Gr}{w0:World}{T:List (Nat×SV)}{H:Hp}{G:Gr}{a:Act}{w:World}{ops:Array Oper}{o:Oper}{Q:Exit→Act→World→Prop}{K:List Fr}{pos:Pos}
theorem Jl {x:Operand}{b q:Nat}(jG:o.op=.nilCheck x)(hg:iY ops T o.guard=some .run)(hx:jR T x=some (E3 b q)):Aw P n ops ks G0 w0 T H o (E3 b q) H:=fun G a w A=>by
 have hw:=An (gd:=none) A hg
 obtain⟨d,op,ty,pos,af,gd⟩:=o
 simp only at jG
 subst jG
 have jB:=A.ev hx
 unfold den at jB
 exact Ef hw (by rw [←Option.some.inj jB]) ⟨[],rfl,by simpa using A.ms⟩
theorem Jm {x:Operand}{t fi b q off:Nat}(jG:o.op=.fieldAddr t x fi)(hg:iY ops T o.guard=some .run)(hx:jR T x=some (E3 b q))(hf:C2 P t fi=some off):Aw P n ops ks G0 w0 T H o (E3 b (q+off)) H:=fun G a w A=>by
 have hw:=An (gd:=none) A hg
 obtain⟨d,op,ty,pos,af,gd⟩:=o
 simp only at jG
 subst jG
 have jB:=A.ev hx
 unfold den at jB
 simp only [Option.some.injEq]at jB
 exact DS hw jB.symm hf ⟨[],rfl,by simpa using A.ms⟩
theorem S4 {x:Operand}{ty s b q0 q:Nat}{f:Nat→List SV}{r:List SV}{v:SV}{z:Value}(hX:Y.ok P=true)(jG:o.op=.load ty x)(hg:iY ops T o.guard=some .run)(hx:jR T x=some (E3 b (q0+q)))(h0:AK (some ⟨b,q0,none⟩) s 1 f w0 ks)(hr:f 0=r)(hc:CZ ⟨Y,true⟩ ty r q=some v)(hv:den [] v=some z):Aw P n ops ks G0 w0 T H o v H:=fun G a w A=>by
 have h1:=AK.ok w0 ks w ks h0 A.mix (fun b hb=>.inl hb)
 rcases h1.2 with q|⟨b',q',hb,_,_,h4⟩
 ·omega
 have hw:=An (gd:=none) A hg
 obtain⟨d,op,ty,pos,af,gd⟩:=o
 simp only at jG
 subst jG
 have jB:=A.ev hx
 unfold den at jB
 simp only [Option.some.injEq]at jB
 obtain⟨vs,v1,v2⟩:=h4 0 (by omega)
 rw [hr]at v1
 have e:b'=b∧q'=q0:=by
  have:=Option.some.inj hb
  simp only [Addr.mk.injEq]at this
  exact⟨this.1.symm,this.2.1.symm⟩
 obtain⟨rfl,rfl⟩:=e
 have v3:AE G r=some vs:=by simpa using Al G r v1
 have v4:den G v=some z:=by simpa using AP G v hv
 exact Eg (X:=⟨Y,true⟩) hX hc v3 v4 v2 hw (by rw [←jB];simp) ⟨[],by simpa using v4,by simpa using A.ms⟩
end
section
variable {P:Program}{n:Nat}{ks:List Nat}{G0:Gr}{w0:World}{T:List (Nat×SV)}{H:Hp}{G:Gr}{a:Act}{w:World}{ops:Array Oper}{o:Oper}{Q:Exit→Act→World→Prop}{pre:World→Prop}{i fuel:Nat}{listed:Array Bool}
theorem Fj {f:Nat} {args az:List SV} {H' l:Hp} {ks':List Nat} {J:SV→World→World→Prop} (m:List Nat) (ho:ops[i]?=some o) (hf:MS P f args H' ks' pre J) (A:Sy n T H ks G0 w0 G a w) (hp:pre w) (jM:I3 H G ks') (hk:∀b,ks'.contains b=true→ks.contains b=true∨w0.heap.size≤b) (h1:BS n ops T o=some (f,az)) (h2:DU m args=some az) (h3:Cm m H'=some l) (h4:Ca H m=some l) (h5:JY m=true)
  (k:∀{x a' w'},CR ks' w w'→J x w w'→Sy n (Ay T o.dst x) H ks G0 w0 G a' w'→wpAny P .any ops Q fuel (listed.setIfInBounds i true) a' w'):wpOp P ops Q i (wpAny P .any ops Q fuel (listed.setIfInBounds i true)) a w:=by
 obtain⟨hd,us,hu,lK⟩:=Cb (P:=P) (ops:=ops) A h1 hf.1
 obtain⟨p1,p2,p3⟩:=Co h4
 obtain⟨r1,r2⟩:=Cr h3
 have hm:∀j∈m,j<G.length:=fun j hj=>by rw [←A.mem.len];exact p2 j hj
 have hM:=A.mem.sub h4 h3 h5
 have mJ:AE (AY m G) args=some us:=by rw [Ck hm args h2];exact hu
 have tY:I3 H' (AY m G) ks':=fun i e L q1 q2 q3=>by
  obtain⟨f,s1,s2⟩:=r2 i _ q1
  obtain⟨f',rfl⟩:=CS s2
  have hi:i<m.length:=by rw [←p1];exact(List.getElem?_eq_some_iff.1 s1).1
  have hj:m[i]?=some m[i]:=by simp [hi]
  rw [BD hm hj]at q2
  rw [p3 i _ hj]at s1
  exact jM _ f' L s1 q2 fun h=>q3 ((BE s2).2.1 h)
 refine JA ho (lK (hf.2.2 _ w us hM tY hp mJ) fun e w' he=>?_)
 obtain⟨x,v,e1,rfl,hg,hJ⟩:=he
 exact⟨v,rfl,k hg hJ (Sy.put (A.mixed hg jM hk) hd (by simpa using AP G x e1))⟩
end
theorem FQ.lst {L:Loc}{cs:List SV}{pb:Option (Nat×Nat)}{ps:List Int}{w:World}{ks:List Nat}(h:FQ L cs pb ps w)(hk:ks.contains L.b=false):AK (some ⟨L.b,L.pre.length,none⟩) (cs.length+1) 1 (fun _=>cs++[.v (J7 pb ps.length)]) w ks:=by
 obtain⟨vs,oP,hb⟩:=h.blk
 have hd:AE [] (cs++[.v (J7 pb ps.length)])=some (vs++[J7 pb ps.length]):=Fh rfl oP
 obtain⟨L',us,e1,e2,e3⟩:=Ae.range (G:=[]) (w:=w) (p:=some L) (cs:=cs++[.v (J7 pb ps.length)]) ⟨L,_,rfl,hd,hb⟩
 cases e1
 refine⟨fun k=>⟨_,hd⟩,.inr ⟨L.b,L.pre.length,rfl,hb.lt,hk,fun k hk=>⟨us,e2,?_⟩⟩⟩
 have uG:k=0:=by omega
 subst uG
 simpa using e3
end Go.Proofs.YtbbdanhpphlbpaaGreatDoor
namespace Go.Proofs.YtbbdanhpphlbpaaGreatDoor.Mc
open Go.RowKit
set_option simprocs false
def E8 (r:Rg)(i:In):Int:=if((i.op==5)&&(decide (i.ra<0)))=true then i.imm else CV r i.ra 0
theorem VV (l:List In)(ao:Option Addr)(cp:Nat)(at_:Int)(r:Rg)(ps:List Int)(g:Int)(hg: -1≤g∧g<8):Fn Tryz.prog 97 [.ptr 0 0,.int .i64 g] [some (.blk (EG (.sla ao l.length cp) r at_ (.sl 1 ps.length 0))),some (.row 3 1 ps.length 0 (DX ps))] (Rt (.int .i64 (CV r g 0)) [some (.blk (EG (.sla ao l.length cp) r at_ (.sl 1 ps.length 0))),some (.row 3 1 ps.length 0 (DX ps))]):=
 AG (n:=13) (by kernel_rfl) Tryz.func97 rfl rfl rfl fun G w a h0 A=>N9 12 A rfl rfl fun A=>AL 6 A rfl
  (fun h1 A=>N9 7 A rfl rfl fun A=>R9 A rfl h0 rfl (by unfold CV;rw [if_pos (by omega)]<;>rfl) rfl)
  (fun h1 A=>N9 10 A rfl (iU (by omega)<|iT) fun A=>AW A rfl (PH (r:=r) hX rfl rfl rfl rfl rfl rfl rfl (by omega)) fun A=>N9 4 A rfl rfl fun A=>R9 A rfl h0 rfl (by unfold CV;rw [if_neg (by omega)]<;>rfl) rfl)
theorem VW (l:List In)(ao:Option Addr)(cp:Nat)(at_:Int)(r:Rg)(ps:List Int)(i:In)(ha: -1≤i.ra∧i.ra<8):Fn Tryz.prog 100 [.ptr 0 0,.agg (AS i)] [some (.blk (EG (.sla ao l.length cp) r at_ (.sl 1 ps.length 0))),some (.row 3 1 ps.length 0 (DX ps))] (Rt (.int .i64 (E8 r i)) [some (.blk (EG (.sla ao l.length cp) r at_ (.sl 1 ps.length 0))),some (.row 3 1 ps.length 0 (DX ps))]):=
 AG (n:=19) (by kernel_rfl) Tryz.func100 rfl rfl rfl fun G w a h0 A=>N9 19 A rfl rfl fun A=>fork 12 A rfl
  (fun h1 A=>N9 9 A rfl rfl fun A=>R9 A rfl h0 rfl (by unfold E8;rw [h1]<;>rfl) rfl)
  (fun h1 A=>N9 8 A rfl rfl fun A=>C9 [0,1] (VV l ao cp at_ r ps i.ra (by omega)) A rfl fun A=>N9 4 A rfl rfl fun A=>R9 A rfl h0 rfl (by unfold E8;rw [h1]<;>rfl) rfl)
theorem Zv (l:List In)(ao:Option Addr)(cp:Nat)(at_:Int)(r:Rg)(ps:List Int)(i:In)(hs:i.sz=1∨i.sz=2∨i.sz=4∨i.sz=8)(hx: -1≤i.ix∧i.ix<8):Fn Tryz.prog 63 [.ptr 0 0,.agg (AS i)] [some (.blk (EG (.sla ao l.length cp) r at_ (.sl 1 ps.length 0))),some (.row 3 1 ps.length 0 (DX ps))] (Rt (.agg [.int .i64 i.loc,.int .i64 (A7 (AU i.off (CV r i.ix 0) i.sz) i.sz)]) [some (.blk (EG (.sla ao l.length cp) r at_ (.sl 1 ps.length 0))),some (.row 3 1 ps.length 0 (DX ps))]):=
 AG (n:=11) (by kernel_rfl) Tryz.func63 rfl rfl rfl fun G w a h0 A=>N9 7 A rfl rfl fun A=>Aq hX BK [(5,.agg [.int .i64 i.loc,.int .i64 (A7 (AU i.off (CV r i.ix 0) i.sz) i.sz)])] [(4,.int .i64 (CV r i.ix 0),[some (.blk (EG (.sla ao l.length cp) r at_ (.sl 1 ps.length 0))),some (.row 3 1 ps.length 0 (DX ps)),some (.blk (AS i)),some (.blk [.z9,.z9])])] A rfl rfl rfl rfl (by kernel_rfl) ⟨DV [0,1] (VV l ao cp at_ r ps i.ix hx) rfl rfl rfl rfl rfl rfl rfl,⟨trivial,trivial⟩⟩ ⟨.inl ⟨_,_,rfl,rfl,RH i (CV r i.ix 0) hs⟩,trivial⟩ fun A=>N9 2 A rfl rfl fun A=>R9 A rfl h0 rfl rfl rfl
end Go.Proofs.YtbbdanhpphlbpaaGreatDoor.Mc
namespace Go.Proofs.YtbbdanhpphlbpaaGreatDoor.Mc
open Go.RowKit
set_option simprocs false
def Zw (L:Loc)(l:List In)(ao:Option Addr)(cp:Nat)(s:Th)(pb:Option (Nat×Nat)):SV→World→World→Prop:=fun _ w w'=>∃pb' ps',FQ L (PJ (.sla ao l.length cp) s.r ((s.at_:Nat):Int)) pb' ps' w'∧ps'.length≤s.at_∧∀b,(F4 pb').contains b=true→(L.b::F4 pb).contains b=true∨w.heap.size≤b
theorem Hk {L:Loc}{l:List In}{ao:Option Addr}{cp:Nat}{s z:Th}{pb:Option (Nat×Nat)}{ps':List Int}{x:SV}{w w':World}(h:∃pb',FQ L (PJ (.sla ao l.length cp) z.r ((z.at_:Nat):Int)) pb' ps' w'∧∀b,(F4 pb').contains b=true→(L.b::F4 pb).contains b=true∨w.heap.size≤b)(e:s=z)(hl:ps'.length≤z.at_):Zw L l ao cp s pb x w w':=by
 subst e;obtain⟨pb',h1,h2⟩:=h;exact⟨pb',ps',h1,hl,h2⟩
theorem L0 {H:Hp}{i:Nat}{e:Option A6}(h:lg H i=some e):Br H i e=H:=by
 rw [Ah]at h
 rw [Ag]
 apply List.ext_getElem?
 intro j
 by_cases hj:j=i
 ·subst hj;rw [List.getElem?_set_self (List.getElem?_eq_some_iff.1 h).1,h]
 ·rw [List.getElem?_set_ne (Ne.symm hj)]
section
variable {n:Nat}{ks:List Nat}{G0:Gr}{w0:World}{T:List (Nat×SV)}{H:Hp}{G:Gr}{a:Act}{w:World}
theorem _root_.Go.Proofs.YtbbdanhpphlbpaaGreatDoor.Sy.thSay (A:Sy n T H ks G0 w0 G a w)(i q:Nat){c:SV}{r r':Rg}{at_ at':Int}{m m':Nat}{ps:List Int}{H':Hp}(hi:lg H i=some (some (.blk (EG c r at_ (.sl q m 0)))))(hq:lg H q=some (some (.row 3 1 m 0 (DX ps))))(hr:r'=r)(ha:at'=at_)(hm:m'=m)(hH:Br (Br H q (some (.row 3 1 m' 0 (DX ps)))) i (some (.blk (EG c r' at' (.sl q m' 0))))=H'):Sy n T H' ks G0 w0 G a w:=by
 subst hr;subst ha;subst hm
 rw [L0 hq,L0 hi]at hH
 subst hH
 exact A
theorem _root_.Go.Proofs.YtbbdanhpphlbpaaGreatDoor.Sy.at_pre (A:Sy n T H ks G0 w0 G a w){i:Nat}{L:Loc}(h:G0[i]?=some (some L)):G[i]?=some (some L):=by
 obtain⟨F,hF⟩:=A.pre
 rw [hF,List.getElem?_append_left (List.getElem?_eq_some_iff.1 h).1];exact h
end
abbrev BF (l:List In)(z:Th):In:=l.getD (((z.at_:Nat):Int)).toNat In.z
theorem OX {l:List In}{z:Th}(hc:E6 l)(i7:z.at_<l.length){R:Rg}{A:Int}(hR:GQ z.r (BF l z)=R)(hA:Ee ((z.at_:Nat):Int) z.r (BF l z)=A):(FB l z).r=R∧(((FB l z).at_:Nat):Int)=A:=by
 have hr:=IY (z:=z) hc i7
 have yW:Ee ((z.at_:Nat):Int) z.r (l.getD z.at_ In.z)=A:=hA
 refine⟨hR,?_⟩
 show(((Ee ((z.at_:Nat):Int) z.r (l.getD z.at_ In.z)).toNat:Nat):Int)=A
 omega
structure PI (l:List In)(s z:Th)(ps:List Int):Prop where
 si:SI l s z
 pl:ps.length≤z.at_
theorem PI.nx {l:List In}{s z:Th}{ps:List Int}(h:PI l s z ps)(hc:E6 l)(i7:z.at_<l.length)(lQ:GH (BF l z)=false)(x:Int):PI l s (FB l z) (ps++[x])∧l.length - (FB l z).at_<l.length - z.at_:=by
 have h1:=h.si.nx hc (by omega) (by rw [lQ];rfl)
 have h2:=h.pl
 exact⟨⟨h1.1,by rw [List.length_append];show ps.length+1≤_;omega⟩,h1.2⟩
theorem OY (l:List In) (ao:Option Addr) (cp:Nat) (s:Th) (L:Loc) (pb:Option (Nat×Nat)) (ps:List Int) (hc:E6 l) (jY:s.at_≤l.length) (pD:ps.length≤s.at_):MS Tryz.prog 54 [.v (.pointer (some ⟨L.b,L.pre.length,none⟩))] [] (L.b::F4 pb) (fun w=>FQ L (PJ (.sla ao l.length cp) s.r ((s.at_:Nat):Int)) pb ps w∧Em ao l w (L.b::F4 pb)) (Zw L l ao cp (EF l s) pb):=
 FN (n:=133) (by kernel_rfl) Tryz.func54 rfl rfl rfl (fun i e h=>by rw [List.getElem?_nil]at h;cases h) fun G w a h0 ho hp A=>VF 0 A hp.1 rfl rfl fun A nO uH=>have B:=A;have A:=B.base;have h0:=B.mem.len;have hI:=AK.ok _ _ _ _ hp.2 (CR.refl _ _) uH;VG 1 0 (cs:=PJ (.sla ao l.length cp) s.r ((s.at_:Nat):Int)) (H':=[none,some (.blk (EG (.sla ao l.length cp) s.r ((s.at_:Nat):Int) (.sl 2 ps.length 0))),some (.row 3 1 ps.length 0 (DX ps))]) A rfl rfl rfl rfl fun A=>N9 7 A rfl rfl fun A=>Lk (fun(z:Th) (ps1:List Int)=>[(0,.ptr 1 0),(2,.ff)]) (fun(z:Th) (ps1:List Int)=>[none,some (.blk (EG (.sla ao l.length cp) z.r ((z.at_:Nat):Int) (.sl 2 ps1.length 0))),some (.row 3 1 ps1.length 0 (DX ps1))]) (fun(z:Th) (ps1:List Int)=>PI l s z ps1) (fun(z:Th) (ps1:List Int)=>l.length - z.at_) s ps ⟨SI.i0 jY,pD⟩ ((A.cut [0,2] rfl).trunc 3 rfl rfl rfl (iR h0 rfl)) fun z ps1 hJ {G a w} A=>N9 2 A rfl rfl fun A=>Aq hX BK [] [] A rfl rfl rfl rfl (by kernel_rfl) (AV _ _) trivial fun A=>N9 1 A rfl rfl fun A=>AL 14 A rfl
   (fun h1 A=>N9 5 A rfl rfl fun A=>have i7:z.at_<l.length:=(by omega);have hs:Tg (BF l z):=hc.snd i7;have hn:=hc.n;have lB:=hJ.pl;Hh BK [.ptr 1 0,.ptr 1 0,.ptr 1 0,.sla ao l.length cp,.ptr 1 0,.ptr 1 0,.ptr 1 9,.int .i64 ((z.at_:Nat):Int),.v (.pointer (P8 ao 17 ((z.at_:Nat):Int))),.agg (AS (BF l z)),.ptr 3 0,.tup []] [10,11] [3] 1 [([],[3],[none,some (.blk (EG (.sla ao l.length cp) z.r ((z.at_:Nat):Int) (.sl 2 ps1.length 0))),some (.row 3 1 ps1.length 0 (DX ps1)),none]),([10],[],[none,some (.blk (EG (.sla ao l.length cp) z.r ((z.at_:Nat):Int) (.sl 2 ps1.length 0))),some (.row 3 1 ps1.length 0 (DX ps1)),some (.blk [.z9,.z9,.z9,.z9,.z9,.z9,.z9,.z9,.z9,.z9,.ff,.ff,.ff,.z9,.z9,.z9,.ff])]),([10,11],[],[none,some (.blk (EG (.sla ao l.length cp) z.r ((z.at_:Nat):Int) (.sl 2 ps1.length 0))),some (.row 3 1 ps1.length 0 (DX ps1)),some (.blk (AS (BF l z)))])] [[true,true,true,true,true,true,true,true,true,true,true,false],[true,true,true,true,true,true,true,true,true,true,false,true],[false,false,false,false,false,false,false,false,false,false,false,false]] A rfl rfl rfl rfl (by kernel_rfl) rfl (by kernel_rfl) ⟨⟨iV 0 rfl rfl,⟨iV 0 rfl rfl,⟨iV 0 rfl rfl,⟨iV 0 rfl rfl,⟨iV 0 rfl rfl,⟨iV 0 rfl rfl,⟨iV 0 rfl rfl,⟨iV 0 rfl rfl,⟨BT 0 rfl (GF (e:=63) rfl rfl rfl rfl hI (by kernel_rfl) (by omega)),⟨BT 0 rfl (M1 (CD (BF l z)) hX rfl rfl rfl hI (by omega) rfl rfl),⟨⟨_,_,_,_,1,rfl,rfl,rfl,rfl,Da 3 (X:=⟨_,true⟩) hX rfl rfl (Mt h0 rfl) rfl rfl rfl rfl⟩,trivial⟩⟩⟩⟩⟩⟩⟩⟩⟩⟩⟩,⟨⟨iV 1 rfl rfl,⟨iV 1 rfl rfl,⟨iV 1 rfl rfl,⟨iV 1 rfl rfl,⟨iV 1 rfl rfl,⟨iV 1 rfl rfl,⟨iV 1 rfl rfl,⟨iV 1 rfl rfl,⟨BT 1 rfl (GF (e:=63) rfl rfl rfl rfl hI (by kernel_rfl) (by omega)),⟨BT 1 rfl (M1 (CD (BF l z)) hX rfl rfl rfl hI (by omega) rfl rfl),⟨BT 2 rfl (Aj (X:=⟨_,true⟩) (out:=.upd 3 (AS (BF l z)) _) hX rfl rfl),trivial⟩⟩⟩⟩⟩⟩⟩⟩⟩⟩⟩,⟨trivial,trivial⟩⟩⟩ fun A=>N9 5 A rfl rfl fun A=>C9 [] (VJ (BF l z)) A rfl fun A=>N9 12 A rfl rfl fun A=>fork 36 A rfl
    (fun h2 A=>N9 7 A rfl rfl fun A=>kV hX (B.trans A) rfl rfl rfl rfl (Hk (Sy.giveT (B.trans A) 1 2 (A.at_pre nO) rfl rfl rfl rfl) (hJ.si.fin (fun q=>by rw [show GH (l.getD z.at_ In.z)=true from h2]at q;cases q.2)) hJ.pl))
    (fun h2 A=>N9 4 A rfl rfl fun A=>Aq hX BK [] [(10,.sl 5 (ps1.length+1) 0,[none,some (.blk (EG (.sla ao l.length cp) z.r ((z.at_:Nat):Int) (.sl 2 ps1.length 0))),none,some (.blk (AS (BF l z))),some (.blk [.int .i64 ((z.at_:Nat):Int)]),some (.row 3 1 (ps1.length+1) 0 (DX (ps1++[((z.at_:Nat):Int)])))])] A rfl rfl rfl rfl (by kernel_rfl) ⟨trivial,⟨Ll (i:=2) hX (ps1.length+1) (DX (ps1++[((z.at_:Nat):Int)])) rfl rfl rfl rfl (by omega) rfl (fun k hk=>by show [SV.int .i64 _]=[SV.int .i64 _];rw [i6 hk]) (by show [SV.int .i64 _]=_;rw [Dt]) (fun z=>⟨_,rfl,rfl⟩),⟨trivial,trivial⟩⟩⟩ trivial fun A=>N9 14 A rfl (iU (by omega)<|iT) fun A=>N9 12 A rfl rfl fun A=>AN 59 A rfl
     (fun h3 A=>N9 1 A rfl rfl fun A=>Aq hX BK [] [(8,.tup [],[none,some (.blk (EG (.sla ao l.length cp) (BA z.r ((BF l z).dst).toNat ((BF l z).imm)) (((z.at_:Nat):Int)+1) (.sl 5 (ps1.length+1) 0))),none,some (.blk (AS (BF l z))),some (.blk [.int .i64 ((z.at_:Nat):Int)]),some (.row 3 1 (ps1.length+1) 0 (DX (ps1++[((z.at_:Nat):Int)])))])] A rfl (iU (by first|exact hs.d (by omega)|exact hs.a (by omega)|(have hb:=hs.b (by omega);omega)|omega)<|iT) rfl rfl (by kernel_rfl) ⟨PG (i:=1) (r:=z.r) hX rfl rfl rfl rfl rfl rfl rfl rfl (by first|exact hs.d (by omega)|exact hs.a (by omega)|(have hb:=hs.b (by omega);omega)|omega),trivial⟩ trivial fun A=>N9 2 A rfl rfl fun A=>⟨FB l z,ps1++[((z.at_:Nat):Int)],_,(hJ.nx hc i7 h2 ((z.at_:Nat):Int)).2,(hJ.nx hc i7 h2 ((z.at_:Nat):Int)).1,(((A.thSay 1 5 (r':=(FB l z).r) (at':=(((FB l z).at_:Nat):Int)) (m':=(ps1++[((z.at_:Nat):Int)]).length) rfl rfl (OX hc i7 (by unfold GQ;rw [if_pos h3]) (by unfold Ee;rw [if_neg (by omega)])).1 (OX hc i7 (by unfold GQ;rw [if_pos h3]) (by unfold Ee;rw [if_neg (by omega)])).2 (by rw [List.length_append];rfl) rfl).cut [0,2] rfl).mv 2 [5] rfl rfl rfl rfl (by simp only [List.length_cons,List.length_nil]at h0;omega))⟩)
     (fun h3 A=>N9 7 A rfl rfl fun A=>AN 69 A rfl
      (fun h4 A=>N9 1 A rfl rfl fun A=>Hh BK [.ptr 1 0,.ptr 3 1,.int .i64 ((BF l z).dst),.ptr 1 0,.ptr 3 2,.int .i64 ((BF l z).ra),.ptr 1 0,.ptr 1 1,.ix (.ptr 1 1) 1 8 ((BF l z).ra) 0,.int .i64 (z.r ((BF l z).ra).toNat),.ptr 1 0,.ptr 1 1,.ix (.ptr 1 1) 1 8 ((BF l z).dst) 0,.tup []] [13] [] 0 [([],[],[none,some (.blk (EG (.sla ao l.length cp) z.r (((z.at_:Nat):Int)+1) (.sl 5 (ps1.length+1) 0))),none,some (.blk (AS (BF l z))),some (.blk [.int .i64 ((z.at_:Nat):Int)]),some (.row 3 1 (ps1.length+1) 0 (DX (ps1++[((z.at_:Nat):Int)])))]),([13],[],[none,some (.blk (EG (.sla ao l.length cp) (BA z.r ((BF l z).dst).toNat (z.r ((BF l z).ra).toNat)) (((z.at_:Nat):Int)+1) (.sl 5 (ps1.length+1) 0))),none,some (.blk (AS (BF l z))),some (.blk [.int .i64 ((z.at_:Nat):Int)]),some (.row 3 1 (ps1.length+1) 0 (DX (ps1++[((z.at_:Nat):Int)])))])] [[true,true,true,true,true,true,true,true,true,true,true,true,true,true],[false,false,false,false,false,false,false,false,false,false,true,true,false,false]] A rfl rfl rfl rfl (by kernel_rfl) rfl (by kernel_rfl) ⟨⟨iV 0 rfl rfl,⟨iV 0 rfl rfl,⟨iV 0 rfl rfl,⟨iV 0 rfl rfl,⟨iV 0 rfl rfl,⟨iV 0 rfl rfl,⟨iV 0 rfl rfl,⟨iV 0 rfl rfl,⟨iV 0 rfl (iU (by first|exact hs.d (by omega)|exact hs.a (by omega)|(have hb:=hs.b (by omega);omega)|omega)<|iT),⟨BT 0 rfl (PH (r:=z.r) hX rfl rfl rfl rfl rfl rfl rfl (by first|exact hs.d (by omega)|exact hs.a (by omega)|(have hb:=hs.b (by omega);omega)|omega)),⟨iV 0 rfl rfl,⟨iV 0 rfl rfl,⟨iV 0 rfl (iU (by first|exact hs.d (by omega)|exact hs.a (by omega)|(have hb:=hs.b (by omega);omega)|omega)<|iT),⟨BT 1 rfl (PG (i:=1) (r:=z.r) hX rfl rfl rfl rfl rfl rfl rfl rfl (by first|exact hs.d (by omega)|exact hs.a (by omega)|(have hb:=hs.b (by omega);omega)|omega)),trivial⟩⟩⟩⟩⟩⟩⟩⟩⟩⟩⟩⟩⟩⟩,⟨⟨iV 1 rfl rfl,⟨iV 1 rfl rfl,trivial⟩⟩,trivial⟩⟩ fun A=>N9 2 A rfl rfl fun A=>⟨FB l z,ps1++[((z.at_:Nat):Int)],_,(hJ.nx hc i7 h2 ((z.at_:Nat):Int)).2,(hJ.nx hc i7 h2 ((z.at_:Nat):Int)).1,(((A.thSay 1 5 (r':=(FB l z).r) (at':=(((FB l z).at_:Nat):Int)) (m':=(ps1++[((z.at_:Nat):Int)]).length) rfl rfl (OX hc i7 (by unfold GQ;rw [if_neg (by omega),if_pos h4]) (by unfold Ee;rw [if_neg (by omega)])).1 (OX hc i7 (by unfold GQ;rw [if_neg (by omega),if_pos h4]) (by unfold Ee;rw [if_neg (by omega)])).2 (by rw [List.length_append];rfl) rfl).cut [0,2] rfl).mv 2 [5] rfl rfl rfl rfl (by simp only [List.length_cons,List.length_nil]at h0;omega))⟩)
      (fun h4 A=>N9 7 A rfl rfl fun A=>AN 84 A rfl
       (fun h5 A=>N9 16 A rfl rfl fun A=>AL 90 A rfl
        (fun h6 A=>N9 1 A rfl rfl fun A=>Hh BK [.ptr 1 0,.ptr 3 3,.int .i64 ((BF l z).rb),.ptr 1 0,.ptr 1 1,.ix (.ptr 1 1) 1 8 ((BF l z).rb) 0,.int .i64 (z.r ((BF l z).rb).toNat),.int .i64 (z.r ((BF l z).rb).toNat)] [] [] 0 [([],[],[none,some (.blk (EG (.sla ao l.length cp) z.r (((z.at_:Nat):Int)+1) (.sl 5 (ps1.length+1) 0))),none,some (.blk (AS (BF l z))),some (.blk [.int .i64 ((z.at_:Nat):Int)]),some (.row 3 1 (ps1.length+1) 0 (DX (ps1++[((z.at_:Nat):Int)])))])] [[true,true,true,true,true,true,true,true]] A rfl rfl rfl rfl (by kernel_rfl) rfl (by kernel_rfl) ⟨⟨iV 0 rfl rfl,⟨iV 0 rfl rfl,⟨iV 0 rfl rfl,⟨iV 0 rfl rfl,⟨iV 0 rfl rfl,⟨iV 0 rfl (iU (by first|exact hs.d (by omega)|exact hs.a (by omega)|(have hb:=hs.b (by omega);omega)|omega)<|iT),⟨BT 0 rfl (PH (r:=z.r) hX rfl rfl rfl rfl rfl rfl rfl (by first|exact hs.d (by omega)|exact hs.a (by omega)|(have hb:=hs.b (by omega);omega)|omega)),⟨iV 0 rfl rfl,trivial⟩⟩⟩⟩⟩⟩⟩⟩,trivial⟩ fun A=>N9 1 A rfl rfl fun A=>Hh BK [.ptr 1 0,.ptr 3 1,.int .i64 ((BF l z).dst),.ptr 3 9,.int .i64 ((BF l z).fn),.ptr 1 0,.ptr 3 2,.int .i64 ((BF l z).ra),.ptr 1 0,.ptr 1 1,.ix (.ptr 1 1) 1 8 ((BF l z).ra) 0,.int .i64 (z.r ((BF l z).ra).toNat),.int .i64 (z.r ((BF l z).rb).toNat),.int .i64 (CN ((BF l z).fn) (z.r ((BF l z).ra).toNat) (z.r ((BF l z).rb).toNat)),.ptr 1 0,.ptr 1 1,.ix (.ptr 1 1) 1 8 ((BF l z).dst) 0,.tup []] [17] [] 0 [([],[],[none,some (.blk (EG (.sla ao l.length cp) z.r (((z.at_:Nat):Int)+1) (.sl 5 (ps1.length+1) 0))),none,some (.blk (AS (BF l z))),some (.blk [.int .i64 ((z.at_:Nat):Int)]),some (.row 3 1 (ps1.length+1) 0 (DX (ps1++[((z.at_:Nat):Int)])))]),([17],[],[none,some (.blk [.sla ao l.length cp,.int .i64 ((BA z.r ((BF l z).dst).toNat (CN ((BF l z).fn) (z.r ((BF l z).ra).toNat) (z.r ((BF l z).rb).toNat))) 0),.int .i64 ((BA z.r ((BF l z).dst).toNat (CN ((BF l z).fn) (z.r ((BF l z).ra).toNat) (z.r ((BF l z).rb).toNat))) 1),.int .i64 ((BA z.r ((BF l z).dst).toNat (CN ((BF l z).fn) (z.r ((BF l z).ra).toNat) (z.r ((BF l z).rb).toNat))) 2),.int .i64 ((BA z.r ((BF l z).dst).toNat (CN ((BF l z).fn) (z.r ((BF l z).ra).toNat) (z.r ((BF l z).rb).toNat))) 3),.int .i64 ((BA z.r ((BF l z).dst).toNat (CN ((BF l z).fn) (z.r ((BF l z).ra).toNat) (z.r ((BF l z).rb).toNat))) 4),.int .i64 ((BA z.r ((BF l z).dst).toNat (CN ((BF l z).fn) (z.r ((BF l z).ra).toNat) (z.r ((BF l z).rb).toNat))) 5),.int .i64 ((BA z.r ((BF l z).dst).toNat (CN ((BF l z).fn) (z.r ((BF l z).ra).toNat) (z.r ((BF l z).rb).toNat))) 6),.int .i64 ((BA z.r ((BF l z).dst).toNat (CN ((BF l z).fn) (z.r ((BF l z).ra).toNat) (z.r ((BF l z).rb).toNat))) 7),.int .i64 (((z.at_:Nat):Int)+1),.sl 5 (ps1.length+1) 0]),none,some (.blk (AS (BF l z))),some (.blk [.int .i64 ((z.at_:Nat):Int)]),some (.row 3 1 (ps1.length+1) 0 (DX (ps1++[((z.at_:Nat):Int)])))])] [[true,true,true,true,true,true,true,true,true,true,true,true,true,true,true,true,true,true],[false,false,false,false,false,false,false,false,false,false,false,false,false,false,true,true,false,false]] A rfl rfl rfl rfl (by kernel_rfl) rfl (by kernel_rfl) ⟨⟨iV 0 rfl rfl,⟨iV 0 rfl rfl,⟨iV 0 rfl rfl,⟨iV 0 rfl rfl,⟨iV 0 rfl rfl,⟨iV 0 rfl rfl,⟨iV 0 rfl rfl,⟨iV 0 rfl rfl,⟨iV 0 rfl rfl,⟨iV 0 rfl rfl,⟨iV 0 rfl (iU (by first|exact hs.d (by omega)|exact hs.a (by omega)|(have hb:=hs.b (by omega);omega)|omega)<|iT),⟨BT 0 rfl (PH (r:=z.r) hX rfl rfl rfl rfl rfl rfl rfl (by first|exact hs.d (by omega)|exact hs.a (by omega)|(have hb:=hs.b (by omega);omega)|omega)),⟨iV 0 rfl rfl,⟨BT 0 rfl (CG rfl rfl (VI ((BF l z).fn) (z.r ((BF l z).ra).toNat) (z.r ((BF l z).rb).toNat))),⟨iV 0 rfl rfl,⟨iV 0 rfl rfl,⟨iV 0 rfl (iU (by first|exact hs.d (by omega)|exact hs.a (by omega)|(have hb:=hs.b (by omega);omega)|omega)<|iT),⟨BT 1 rfl (PG (i:=1) (r:=z.r) hX rfl rfl rfl rfl rfl rfl rfl rfl (by first|exact hs.d (by omega)|exact hs.a (by omega)|(have hb:=hs.b (by omega);omega)|omega)),trivial⟩⟩⟩⟩⟩⟩⟩⟩⟩⟩⟩⟩⟩⟩⟩⟩⟩⟩,⟨⟨iV 1 rfl rfl,⟨iV 1 rfl rfl,trivial⟩⟩,trivial⟩⟩ fun A=>N9 2 A rfl rfl fun A=>⟨FB l z,ps1++[((z.at_:Nat):Int)],_,(hJ.nx hc i7 h2 ((z.at_:Nat):Int)).2,(hJ.nx hc i7 h2 ((z.at_:Nat):Int)).1,(((A.thSay 1 5 (r':=(FB l z).r) (at':=(((FB l z).at_:Nat):Int)) (m':=(ps1++[((z.at_:Nat):Int)]).length) rfl rfl (OX hc i7 (by unfold GQ CV;rw [if_neg (by omega),if_neg (by omega),if_pos h5,if_neg (by have hb:=hs.b (by omega);omega)]<;>rfl) (by unfold Ee;rw [if_neg (by omega)])).1 (OX hc i7 (by unfold GQ CV;rw [if_neg (by omega),if_neg (by omega),if_pos h5,if_neg (by have hb:=hs.b (by omega);omega)]<;>rfl) (by unfold Ee;rw [if_neg (by omega)])).2 (by rw [List.length_append];rfl) rfl).cut [0,2] rfl).mv 2 [5] rfl rfl rfl rfl (by simp only [List.length_cons,List.length_nil]at h0;omega))⟩)
        (fun h6 A=>N9 3 A rfl rfl fun A=>Hh BK [.ptr 1 0,.ptr 3 1,.int .i64 ((BF l z).dst),.ptr 3 9,.int .i64 ((BF l z).fn),.ptr 1 0,.ptr 3 2,.int .i64 ((BF l z).ra),.ptr 1 0,.ptr 1 1,.ix (.ptr 1 1) 1 8 ((BF l z).ra) 0,.int .i64 (z.r ((BF l z).ra).toNat),.int .i64 ((BF l z).imm),.int .i64 (CN ((BF l z).fn) (z.r ((BF l z).ra).toNat) ((BF l z).imm)),.ptr 1 0,.ptr 1 1,.ix (.ptr 1 1) 1 8 ((BF l z).dst) 0,.tup []] [17] [] 0 [([],[],[none,some (.blk (EG (.sla ao l.length cp) z.r (((z.at_:Nat):Int)+1) (.sl 5 (ps1.length+1) 0))),none,some (.blk (AS (BF l z))),some (.blk [.int .i64 ((z.at_:Nat):Int)]),some (.row 3 1 (ps1.length+1) 0 (DX (ps1++[((z.at_:Nat):Int)])))]),([17],[],[none,some (.blk [.sla ao l.length cp,.int .i64 ((BA z.r ((BF l z).dst).toNat (CN ((BF l z).fn) (z.r ((BF l z).ra).toNat) ((BF l z).imm))) 0),.int .i64 ((BA z.r ((BF l z).dst).toNat (CN ((BF l z).fn) (z.r ((BF l z).ra).toNat) ((BF l z).imm))) 1),.int .i64 ((BA z.r ((BF l z).dst).toNat (CN ((BF l z).fn) (z.r ((BF l z).ra).toNat) ((BF l z).imm))) 2),.int .i64 ((BA z.r ((BF l z).dst).toNat (CN ((BF l z).fn) (z.r ((BF l z).ra).toNat) ((BF l z).imm))) 3),.int .i64 ((BA z.r ((BF l z).dst).toNat (CN ((BF l z).fn) (z.r ((BF l z).ra).toNat) ((BF l z).imm))) 4),.int .i64 ((BA z.r ((BF l z).dst).toNat (CN ((BF l z).fn) (z.r ((BF l z).ra).toNat) ((BF l z).imm))) 5),.int .i64 ((BA z.r ((BF l z).dst).toNat (CN ((BF l z).fn) (z.r ((BF l z).ra).toNat) ((BF l z).imm))) 6),.int .i64 ((BA z.r ((BF l z).dst).toNat (CN ((BF l z).fn) (z.r ((BF l z).ra).toNat) ((BF l z).imm))) 7),.int .i64 (((z.at_:Nat):Int)+1),.sl 5 (ps1.length+1) 0]),none,some (.blk (AS (BF l z))),some (.blk [.int .i64 ((z.at_:Nat):Int)]),some (.row 3 1 (ps1.length+1) 0 (DX (ps1++[((z.at_:Nat):Int)])))])] [[true,true,true,true,true,true,true,true,true,true,true,true,true,true,true,true,true,true],[false,false,false,false,false,false,false,false,false,false,false,false,false,false,true,true,false,false]] A rfl rfl rfl rfl (by kernel_rfl) rfl (by kernel_rfl) ⟨⟨iV 0 rfl rfl,⟨iV 0 rfl rfl,⟨iV 0 rfl rfl,⟨iV 0 rfl rfl,⟨iV 0 rfl rfl,⟨iV 0 rfl rfl,⟨iV 0 rfl rfl,⟨iV 0 rfl rfl,⟨iV 0 rfl rfl,⟨iV 0 rfl rfl,⟨iV 0 rfl (iU (by first|exact hs.d (by omega)|exact hs.a (by omega)|(have hb:=hs.b (by omega);omega)|omega)<|iT),⟨BT 0 rfl (PH (r:=z.r) hX rfl rfl rfl rfl rfl rfl rfl (by first|exact hs.d (by omega)|exact hs.a (by omega)|(have hb:=hs.b (by omega);omega)|omega)),⟨iV 0 rfl rfl,⟨BT 0 rfl (CG rfl rfl (VI ((BF l z).fn) (z.r ((BF l z).ra).toNat) ((BF l z).imm))),⟨iV 0 rfl rfl,⟨iV 0 rfl rfl,⟨iV 0 rfl (iU (by first|exact hs.d (by omega)|exact hs.a (by omega)|(have hb:=hs.b (by omega);omega)|omega)<|iT),⟨BT 1 rfl (PG (i:=1) (r:=z.r) hX rfl rfl rfl rfl rfl rfl rfl rfl (by first|exact hs.d (by omega)|exact hs.a (by omega)|(have hb:=hs.b (by omega);omega)|omega)),trivial⟩⟩⟩⟩⟩⟩⟩⟩⟩⟩⟩⟩⟩⟩⟩⟩⟩⟩,⟨⟨iV 1 rfl rfl,⟨iV 1 rfl rfl,trivial⟩⟩,trivial⟩⟩ fun A=>N9 2 A rfl rfl fun A=>⟨FB l z,ps1++[((z.at_:Nat):Int)],_,(hJ.nx hc i7 h2 ((z.at_:Nat):Int)).2,(hJ.nx hc i7 h2 ((z.at_:Nat):Int)).1,(((A.thSay 1 5 (r':=(FB l z).r) (at':=(((FB l z).at_:Nat):Int)) (m':=(ps1++[((z.at_:Nat):Int)]).length) rfl rfl (OX hc i7 (by unfold GQ CV;rw [if_neg (by omega),if_neg (by omega),if_pos h5,if_pos (by have hb:=hs.b (by omega);omega)]<;>rfl) (by unfold Ee;rw [if_neg (by omega)])).1 (OX hc i7 (by unfold GQ CV;rw [if_neg (by omega),if_neg (by omega),if_pos h5,if_pos (by have hb:=hs.b (by omega);omega)]<;>rfl) (by unfold Ee;rw [if_neg (by omega)])).2 (by rw [List.length_append];rfl) rfl).cut [0,2] rfl).mv 2 [5] rfl rfl rfl rfl (by simp only [List.length_cons,List.length_nil]at h0;omega))⟩))
       (fun h5 A=>N9 7 A rfl rfl fun A=>AN 115 A rfl
        (fun h7 A=>N9 2 A rfl rfl fun A=>Hh BK [.ptr 1 0,.ptr 3 2,.int .i64 ((BF l z).ra),.ptr 1 0,.ptr 1 1,.ix (.ptr 1 1) 1 8 ((BF l z).ra) 0,.int .i64 (z.r ((BF l z).ra).toNat),.bool ((z.r ((BF l z).ra).toNat)==0),.ptr 3 16,.bool ((BF l z).zero),.bool (((z.r ((BF l z).ra).toNat)==0)==((BF l z).zero))] [] [] 0 [([],[],[none,some (.blk (EG (.sla ao l.length cp) z.r (((z.at_:Nat):Int)+1) (.sl 5 (ps1.length+1) 0))),none,some (.blk (AS (BF l z))),some (.blk [.int .i64 ((z.at_:Nat):Int)]),some (.row 3 1 (ps1.length+1) 0 (DX (ps1++[((z.at_:Nat):Int)])))])] [[true,true,true,true,true,true,true,true,true,true,true]] A rfl rfl rfl rfl (by kernel_rfl) rfl (by kernel_rfl) ⟨⟨iV 0 rfl rfl,⟨iV 0 rfl rfl,⟨iV 0 rfl rfl,⟨iV 0 rfl rfl,⟨iV 0 rfl rfl,⟨iV 0 rfl (iU (by first|exact hs.d (by omega)|exact hs.a (by omega)|(have hb:=hs.b (by omega);omega)|omega)<|iT),⟨BT 0 rfl (PH (r:=z.r) hX rfl rfl rfl rfl rfl rfl rfl (by first|exact hs.d (by omega)|exact hs.a (by omega)|(have hb:=hs.b (by omega);omega)|omega)),⟨iV 0 rfl rfl,⟨iV 0 rfl rfl,⟨iV 0 rfl rfl,⟨iV 0 rfl rfl,trivial⟩⟩⟩⟩⟩⟩⟩⟩⟩⟩⟩,trivial⟩ fun A=>N9 1 A rfl rfl fun A=>AN 127 A rfl
         (fun h8 A=>N9 11 A rfl rfl fun A=>⟨FB l z,ps1++[((z.at_:Nat):Int)],_,(hJ.nx hc i7 h2 ((z.at_:Nat):Int)).2,(hJ.nx hc i7 h2 ((z.at_:Nat):Int)).1,(((A.thSay 1 5 (r':=(FB l z).r) (at':=(((FB l z).at_:Nat):Int)) (m':=(ps1++[((z.at_:Nat):Int)]).length) rfl rfl (OX hc i7 (by unfold GQ;rw [if_neg (by omega),if_neg (by omega),if_neg (by omega)]) (by unfold Ee;rw [if_pos h7,if_pos h8])).1 (OX hc i7 (by unfold GQ;rw [if_neg (by omega),if_neg (by omega),if_neg (by omega)]) (by unfold Ee;rw [if_pos h7,if_pos h8])).2 (by rw [List.length_append];rfl) rfl).cut [0,2] rfl).mv 2 [5] rfl rfl rfl rfl (by simp only [List.length_cons,List.length_nil]at h0;omega))⟩)
         (fun h8 A=>N9 4 A rfl rfl fun A=>⟨FB l z,ps1++[((z.at_:Nat):Int)],_,(hJ.nx hc i7 h2 ((z.at_:Nat):Int)).2,(hJ.nx hc i7 h2 ((z.at_:Nat):Int)).1,(((A.thSay 1 5 (r':=(FB l z).r) (at':=(((FB l z).at_:Nat):Int)) (m':=(ps1++[((z.at_:Nat):Int)]).length) rfl rfl (OX hc i7 (by unfold GQ;rw [if_neg (by omega),if_neg (by omega),if_neg (by omega)]) (by unfold Ee;rw [if_pos h7,if_neg h8])).1 (OX hc i7 (by unfold GQ;rw [if_neg (by omega),if_neg (by omega),if_neg (by omega)]) (by unfold Ee;rw [if_pos h7,if_neg h8])).2 (by rw [List.length_append];rfl) rfl).cut [0,2] rfl).mv 2 [5] rfl rfl rfl rfl (by simp only [List.length_cons,List.length_nil]at h0;omega))⟩))
        (fun h7 A=>N9 4 A rfl rfl fun A=>⟨FB l z,ps1++[((z.at_:Nat):Int)],_,(hJ.nx hc i7 h2 ((z.at_:Nat):Int)).2,(hJ.nx hc i7 h2 ((z.at_:Nat):Int)).1,(((A.thSay 1 5 (r':=(FB l z).r) (at':=(((FB l z).at_:Nat):Int)) (m':=(ps1++[((z.at_:Nat):Int)]).length) rfl rfl (OX hc i7 (by unfold GQ;rw [if_neg (by omega),if_neg (by omega),if_neg (by omega)]) (by unfold Ee;rw [if_neg (by omega)])).1 (OX hc i7 (by unfold GQ;rw [if_neg (by omega),if_neg (by omega),if_neg (by omega)]) (by unfold Ee;rw [if_neg (by omega)])).2 (by rw [List.length_append];rfl) rfl).cut [0,2] rfl).mv 2 [5] rfl rfl rfl rfl (by simp only [List.length_cons,List.length_nil]at h0;omega))⟩))))))
   (fun h1 A=>N9 9 A rfl rfl fun A=>kV hX (B.trans A) rfl rfl rfl rfl (Hk (Sy.giveT (B.trans A) 1 2 (A.at_pre nO) rfl rfl rfl rfl) (hJ.si.fin (fun q=>h1 (by omega))) hJ.pl))
end Go.Proofs.YtbbdanhpphlbpaaGreatDoor.Mc
namespace Go.Proofs.YtbbdanhpphlbpaaGreatDoor.Mc
open Go.RowKit
set_option simprocs false
theorem JE {a:Int}(h:(((a==4)||(a==5))||(a==6))=true):a=4∨a=5∨a=6:=by simp at h;omega
theorem NA {a:Int}(h:((a==4)||(a==6))=true):a=4∨a=6:=by simp at h;omega
end Go.Proofs.YtbbdanhpphlbpaaGreatDoor.Mc
namespace Go.Proofs.YtbbdanhpphlbpaaGreatDoor.Mc
open Go.RowKit
set_option simprocs false
section
variable {P:Program}{n:Nat}{ks:List Nat}{G0:Gr}{w0:World}{T:List (Nat×SV)}{H:Hp}{ops:Array Oper}{o:Oper}
theorem eT {x:Operand}{i s m q:Nat}{j:Int}{f:Nat→List SV}(jG:o.op=.nilCheck x)(hg:iY ops T o.guard=some .run)(hx:jR T x=some (.el i s j q))(hi:lg H i=some (some (.lst s m f)))(hj:j.toNat<m):Aw P n ops ks G0 w0 T H o (.el i s j q) H:=fun G a w A=>by
 have hw:=An (gd:=none) A hg
 obtain⟨d,op,ty,pos,af,gd⟩:=o
 simp only at jG
 subst jG
 have jB:=A.ev hx
 rw [Ah]at hi
 obtain⟨L,q1⟩:∃L,(G[i]?).getD none=some L:=by
  rcases(A.mem.ent i _ hi).2 with h|⟨L,q1,_⟩
  ·omega
  ·exact⟨L,q1⟩
 have hp:G[i]?=some (some L):=by
  cases hq:G[i]? with
  |none=>rw [hq]at q1;cases q1
  |some p=>rw [hq]at q1;simp only [Option.getD_some]at q1;rw [q1]
 have kZ:den G (.el i s j q)=some (.pointer (some ⟨L.b,L.pre.length+j.toNat*s+q,none⟩)):=by unfold den;rw [hp];rfl
 rw [kZ]at jB
 exact Ef hw (by rw [←Option.some.inj jB]) ⟨[],by simpa using kZ,by simpa using A.ms⟩
end
theorem eU {r:Rg}{g:Int}(h:0≤g∧g<8):r g.toNat=[(r 0),(r 1),(r 2),(r 3),(r 4),(r 5),(r 6),(r 7)].getD g.toNat 0:=by
 rcases ZL h with rfl|rfl|rfl|rfl|rfl|rfl|rfl|rfl<;>rfl
theorem XD (l:List In)(ao:Option Addr)(cp:Nat)(at_:Int)(r:Rg)(pv:Value)(g:Int)(hg: -1≤g∧g<8):Fn Tryz.prog 97 [.el 0 11 0 0,.int .i64 g] [some (.lst 11 1 (fun _=>EG (.sla ao l.length cp) r at_ (.v pv)))] (Rt (.int .i64 (CV r g 0)) [some (.lst 11 1 (fun _=>EG (.sla ao l.length cp) r at_ (.v pv)))]):=
 AG (n:=13) (by kernel_rfl) Tryz.func97 rfl rfl rfl fun G w a h0 A=>N9 12 A rfl rfl fun A=>AL 6 A rfl
  (fun h1 A=>N9 7 A rfl rfl fun A=>R9 A rfl h0 rfl (by unfold CV;rw [if_pos (by omega)]<;>rfl) rfl)
  (fun h1 A=>N9 7 A rfl rfl fun A=>AW A rfl (eT rfl rfl rfl rfl (by decide)) fun A=>N9 7 A rfl (iU (by omega)<|iU (by omega)<|iU (by omega)<|iU (by omega)<|iU (by omega)<|iT) fun A=>R9 A rfl h0 rfl (by unfold CV;rw [if_neg (by omega),eU (r:=r) (g:=g) (by omega)]<;>rfl) rfl)
theorem XE (l:List In)(ao:Option Addr)(cp:Nat)(at_:Int)(r:Rg)(pv:Value)(i:In)(hs:i.sz=1∨i.sz=2∨i.sz=4∨i.sz=8)(hx: -1≤i.ix∧i.ix<8):Fn Tryz.prog 63 [.el 0 11 0 0,.agg (AS i)] [some (.lst 11 1 (fun _=>EG (.sla ao l.length cp) r at_ (.v pv)))] (Rt (.agg [.int .i64 i.loc,.int .i64 (A7 (AU i.off (CV r i.ix 0) i.sz) i.sz)]) [some (.lst 11 1 (fun _=>EG (.sla ao l.length cp) r at_ (.v pv)))]):=
 AG (n:=11) (by kernel_rfl) Tryz.func63 rfl rfl rfl fun G w a h0 A=>N9 7 A rfl rfl fun A=>Aq hX BK [(5,.agg [.int .i64 i.loc,.int .i64 (A7 (AU i.off (CV r i.ix 0) i.sz) i.sz)])] [(4,.int .i64 (CV r i.ix 0),[some (.lst 11 1 (fun _=>EG (.sla ao l.length cp) r at_ (.v pv))),some (.blk (AS i)),some (.blk [.z9,.z9])])] A rfl rfl rfl rfl (by kernel_rfl) ⟨DV [0] (XD l ao cp at_ r pv i.ix hx) rfl rfl rfl rfl rfl rfl rfl,⟨trivial,trivial⟩⟩ ⟨.inl ⟨_,_,rfl,rfl,RH i (CV r i.ix 0) hs⟩,trivial⟩ fun A=>N9 2 A rfl rfl fun A=>R9 A rfl h0 rfl rfl rfl
end Go.Proofs.YtbbdanhpphlbpaaGreatDoor.Mc
namespace Go.Proofs.YtbbdanhpphlbpaaGreatDoor.Mc
open Go.RowKit
set_option simprocs false
abbrev dS (tv:Nat→Value)(m:Rg)(nn:Nat)(ra:Option Addr)(rc:Nat):List SV:=[.v (tv 0),.v (tv 1),.v (tv 2),.v (tv 3),.v (tv 4),.v (tv 5),.v (tv 6),.v (tv 7),.v (tv 8),.v (tv 9),.v (tv 10),.v (tv 11),.v (tv 12),.v (tv 13),.v (tv 14),.v (tv 15),.v (tv 16),.v (tv 17),.v (tv 18),.v (tv 19),.v (tv 20),.v (tv 21),.v (tv 22),.v (tv 23),.v (tv 24),.v (tv 25),.v (tv 26),.v (tv 27),.v (tv 28),.v (tv 29),.v (tv 30),.v (tv 31),.sla ra nn rc,.int .i64 (m 0),.int .i64 (m 1),.int .i64 (m 2),.sla none 0 0,.sla none 0 0,.sla none 0 0,.ff]
def Zx (cs:List AD)(ts:List Th)(nn:Nat)(bs bo:Nat→Nat)(da:Nat→Option Addr)(dp:Nat→Nat)(pv:Nat→Value):Dd:=fun w ks=>AH cs w ks∧∀k,k<nn→AK (some ⟨bs k,bo k,none⟩) 11 1 (fun _=>EG (.sla (da k) (cs.getD k AD.z).l.length (dp k)) (ts.getD k Th.z).r (((ts.getD k Th.z).at_:Nat):Int) (.v (pv k))) w ks∧Em (da k) (cs.getD k AD.z).l w ks
theorem Zx.ok {cs:List AD}{ts:List Th}{nn:Nat}{bs bo:Nat→Nat}{da:Nat→Option Addr}{dp:Nat→Nat}{pv:Nat→Value}:Dd.OK (Zx cs ts nn bs bo da dp pv):=fun w ks w' ks' h m hk=>⟨AH.ok _ _ _ _ h.1 m hk,fun k jQ=>⟨AK.ok _ _ _ _ (h.2 k jQ).1 m hk,AK.ok _ _ _ _ (h.2 k jQ).2 m hk⟩⟩
def K3 (cs:List AD)(ts:List Th)(nn:Nat)(ra:Option Addr)(bs bo:Nat→Nat)(da:Nat→Option Addr)(dp:Nat→Nat)(pv:Nat→Value):Dd:=fun w ks=>AK ra 1 nn (fun k=>[.v (.pointer (some ⟨bs k,bo k,none⟩))]) w ks∧Zx cs ts nn bs bo da dp pv w ks
theorem K3.ok {cs:List AD}{ts:List Th}{nn:Nat}{ra:Option Addr}{bs bo:Nat→Nat}{da:Nat→Option Addr}{dp:Nat→Nat}{pv:Nat→Value}:Dd.OK (K3 cs ts nn ra bs bo da dp pv):=fun w ks w' ks' h m hk=>⟨AK.ok _ _ _ _ h.1 m hk,Zx.ok _ _ _ _ h.2 m hk⟩
theorem VX {cs:List AD}{ts:List Th}{k:Nat}(h:Bs cs ts k=[])(e:(((ts.getD ((k:Int)).toNat Th.z).at_:Nat):Int)=(((cs.getD ((k:Int)).toNat AD.z).l.length:Nat):Int)):Bs cs ts (k+1)=[]:=by
 show _++_=_;rw [h,if_pos e];rfl
theorem RS {cs:List AD}{ts:List Th}{k:Nat}(e:¬(((ts.getD ((k:Int)).toNat Th.z).at_:Nat):Int)=(((cs.getD ((k:Int)).toNat AD.z).l.length:Nat):Int)):∀{n:Nat},k<n→Bs cs ts n≠[]
 |0,h=>by cases h
 |n+1,h=>fun h2=>by
  have h3:Bs cs ts n++_=[]:=h2
  rw [List.append_eq_nil_iff]at h3
  by_cases hk:k=n
  ·subst hk;rw [if_neg e]at h3;cases h3.2
  ·exact RS e (by omega) h3.1
theorem RT (tv:Nat→Value)(m:Nat→Int)(cs:List AD)(ts:List Th)(nn:Nat)(ra:Option Addr)(rc:Nat)(bs bo:Nat→Nat)(da:Nat→Option Addr)(dp:Nat→Nat)(pv:Nat→Value)(th:Int)(rW:0≤th∧th<((nn:Nat):Int)):Bi (K3 cs ts nn ra bs bo da dp pv) Tryz.prog 57 [.ptr 0 0,.int .i64 th] [some (.blk (dS tv m nn ra rc))] (Rt (.bool (decide ((((A5 ts th).at_:Nat):Int)<(((cs.getD ((th).toNat) AD.z).l.length:Nat):Int)))) [some (.blk (dS tv m nn ra rc))]):=
 Ab (n:=27) (by kernel_rfl) Tryz.func57 rfl rfl rfl fun G w a h0 hI A=>N9 6 A rfl rfl fun A=>have jU:AK (some ⟨bs (th).toNat,bo (th).toNat,none⟩) 11 1 (fun _=>EG (.sla (da (th).toNat) (cs.getD ((th).toNat) AD.z).l.length (dp (th).toNat)) (A5 ts th).r (((A5 ts th).at_:Nat):Int) (.v (pv (th).toNat))) _ _:=(hI.2.2 (th).toNat (by omega)).1;have jP:Em (da (th).toNat) (cs.getD ((th).toNat) AD.z).l _ _:=(hI.2.2 (th).toNat (by omega)).2;Hh BK [.ptr 0 0,.ptr 0 0,.ptr 0 32,.sla ra nn rc,.int .i64 th,.v (.pointer (P8 ra 1 th)),.v (.pointer (some ⟨bs (th).toNat,bo (th).toNat,none⟩)),.v (.pointer (some ⟨bs (th).toNat,bo (th).toNat,none⟩)),.v (.pointer (some ⟨bs (th).toNat,bo (th).toNat+9,none⟩)),.int .i64 (((A5 ts th).at_:Nat):Int),.ptr 0 0,.ptr 0 0,.ptr 0 32,.sla ra nn rc,.int .i64 th,.v (.pointer (P8 ra 1 th)),.v (.pointer (some ⟨bs (th).toNat,bo (th).toNat,none⟩)),.v (.pointer (some ⟨bs (th).toNat,bo (th).toNat,none⟩)),.v (.pointer (some ⟨bs (th).toNat,bo (th).toNat+0,none⟩)),.sla (da (th).toNat) ((cs.getD ((th).toNat) AD.z).l.length) (dp (th).toNat),.int .i64 (((cs.getD ((th).toNat) AD.z).l.length:Nat):Int),.bool (decide ((((A5 ts th).at_:Nat):Int)<(((cs.getD ((th).toNat) AD.z).l.length:Nat):Int))),.bool (decide ((((A5 ts th).at_:Nat):Int)<(((cs.getD ((th).toNat) AD.z).l.length:Nat):Int)))] [] [] 0 [([],[],[some (.blk (dS tv m nn ra rc))])] [[true,true,true,true,true,true,true,true,true,true,true,true,true,true,true,true,true,true,true,true,true,true,true]] A rfl rfl rfl rfl (by kernel_rfl) rfl (by kernel_rfl) ⟨⟨iV 0 rfl rfl,⟨iV 0 rfl rfl,⟨iV 0 rfl rfl,⟨BT 0 rfl (Aj (X:=⟨_,true⟩) (out:=.val (.sla ra nn rc) []) hX rfl iT),⟨iV 0 rfl rfl,⟨BT 0 rfl (GF (e:=99) rfl rfl rfl rfl hI.1 (by kernel_rfl) (by omega)),⟨BT 0 rfl (Kx (q:=0) (r:=[.v (.pointer (some ⟨bs (th).toNat,bo (th).toNat,none⟩))]) (v:=.v (.pointer (some ⟨bs (th).toNat,bo (th).toNat,none⟩))) hX rfl rfl rfl hI.1 (by omega) rfl rfl rfl),⟨BT 0 rfl (Jl rfl rfl rfl),⟨BT 0 rfl (Jm rfl rfl rfl (by kernel_rfl)),⟨BT 0 rfl (S4 (q:=9) (v:=.int .i64 (((A5 ts th).at_:Nat):Int)) hX rfl rfl rfl jU rfl rfl rfl),⟨iV 0 rfl rfl,⟨iV 0 rfl rfl,⟨iV 0 rfl rfl,⟨BT 0 rfl (Aj (X:=⟨_,true⟩) (out:=.val (.sla ra nn rc) []) hX rfl iT),⟨iV 0 rfl rfl,⟨BT 0 rfl (GF (e:=99) rfl rfl rfl rfl hI.1 (by kernel_rfl) (by omega)),⟨BT 0 rfl (Kx (q:=0) (r:=[.v (.pointer (some ⟨bs (th).toNat,bo (th).toNat,none⟩))]) (v:=.v (.pointer (some ⟨bs (th).toNat,bo (th).toNat,none⟩))) hX rfl rfl rfl hI.1 (by omega) rfl rfl rfl),⟨BT 0 rfl (Jl rfl rfl rfl),⟨BT 0 rfl (Jm rfl rfl rfl (by kernel_rfl)),⟨BT 0 rfl (S4 (q:=0) (v:=.sla (da (th).toNat) ((cs.getD ((th).toNat) AD.z).l.length) (dp (th).toNat)) hX rfl rfl rfl jU rfl rfl rfl),⟨iV 0 rfl rfl,⟨iV 0 rfl rfl,⟨iV 0 rfl rfl,trivial⟩⟩⟩⟩⟩⟩⟩⟩⟩⟩⟩⟩⟩⟩⟩⟩⟩⟩⟩⟩⟩⟩⟩,trivial⟩ fun A=>N9 2 A rfl rfl fun A=>R9 A rfl h0 rfl rfl rfl
theorem Zy (tv:Nat→Value)(m:Nat→Int)(cs:List AD)(ts:List Th)(nn:Nat)(ra:Option Addr)(rc:Nat)(bs bo:Nat→Nat)(da:Nat→Option Addr)(dp:Nat→Nat)(pv:Nat→Value)(hC:Ai cs ts nn)(kP:nn≤3):Bi (K3 cs ts nn ra bs bo da dp pv) Tryz.prog 14 [.ptr 0 0] [some (.blk (dS tv m nn ra rc))] (Rt (.sl 1 ((Bs cs ts nn).length) 0) [some (.blk (dS tv m nn ra rc)),some (.row 44 4 ((Bs cs ts nn).length) 0 (E7 (Bs cs ts nn)))]):=
 Ab (n:=86) (by kernel_rfl) Tryz.func14 rfl rfl rfl fun G w a h0 hI A=>N9 12 A rfl rfl fun A=>have A:=A.nilRow 3 44 4 (E7 []) rfl (fun z=>⟨_,rfl,rfl⟩);N9 5 A rfl rfl fun A=>Bk (fun(k:Nat)=>[(0,.ptr 0 0),(2,.sla none 0 0),(3,.sl 1 ((Bs cs ts k).length) 0),(4,.int .i64 (k:Int))]) (fun(k:Nat)=>[some (.blk (dS tv m nn ra rc)),some (.row 44 4 ((Bs cs ts k).length) 0 (E7 (Bs cs ts k)))]) (fun(k:Nat)=>k≤nn) (fun(k:Nat)=>nn - k) 0 (Nat.zero_le _) ((A.cut [0,2,3,4] rfl).trunc 2 rfl rfl rfl (iR h0 rfl)) fun k hK {G a w} A=>N9 7 A rfl rfl fun A=>AW A rfl (Aj (X:=⟨_,true⟩) (out:=.val (.sla ra nn rc) []) hX rfl iT) fun A=>N9 4 A rfl rfl fun A=>AL 12 A rfl
   (fun h1 A=>N9 7 A rfl rfl fun A=>have lC:((k:Int)).toNat<nn:=(by omega);have jU:AK (some ⟨bs ((k:Int)).toNat,bo ((k:Int)).toNat,none⟩) 11 1 (fun _=>EG (.sla (da ((k:Int)).toNat) (cs.getD (((k:Int)).toNat) AD.z).l.length (dp ((k:Int)).toNat)) (A5 ts (k:Int)).r (((A5 ts (k:Int)).at_:Nat):Int) (.v (pv ((k:Int)).toNat))) _ _:=(hI.2.2 ((k:Int)).toNat (by omega)).1;have jP:Em (da ((k:Int)).toNat) (cs.getD (((k:Int)).toNat) AD.z).l _ _:=(hI.2.2 ((k:Int)).toNat (by omega)).2;have qG:(A5 ts (k:Int)).at_≤(cs.getD (((k:Int)).toNat) AD.z).l.length:=hC.a ((k:Int)).toNat (by have:=hC.m;omega);N9 3 A rfl rfl fun A=>I9 [0] K3.ok hI (RT tv m cs ts nn ra rc bs bo da dp pv (k:Int) (by omega)) A rfl fun A=>N9 2 A rfl rfl fun A=>AL 17 A rfl
    (fun h2 A=>N9 2 A rfl rfl fun A=>Hh BK [.ptr 0 0,.ptr 0 0,.ptr 0 32,.sla ra nn rc,.int .i64 (k:Int),.v (.pointer (P8 ra 1 (k:Int))),.v (.pointer (some ⟨bs ((k:Int)).toNat,bo ((k:Int)).toNat,none⟩)),.v (.pointer (some ⟨bs ((k:Int)).toNat,bo ((k:Int)).toNat,none⟩)),.v (.pointer (some ⟨bs ((k:Int)).toNat,bo ((k:Int)).toNat+0,none⟩)),.sla (da ((k:Int)).toNat) ((cs.getD (((k:Int)).toNat) AD.z).l.length) (dp ((k:Int)).toNat),.ptr 0 0,.ptr 0 0,.ptr 0 32,.sla ra nn rc,.int .i64 (k:Int),.v (.pointer (P8 ra 1 (k:Int))),.v (.pointer (some ⟨bs ((k:Int)).toNat,bo ((k:Int)).toNat,none⟩)),.v (.pointer (some ⟨bs ((k:Int)).toNat,bo ((k:Int)).toNat,none⟩)),.v (.pointer (some ⟨bs ((k:Int)).toNat,bo ((k:Int)).toNat+9,none⟩)),.int .i64 (((A5 ts (k:Int)).at_:Nat):Int),.v (.pointer (P8 (da ((k:Int)).toNat) 17 (((A5 ts (k:Int)).at_:Nat):Int))),.v (.pointer (cL (da ((k:Int)).toNat) 17 (((A5 ts (k:Int)).at_:Nat):Int) 0)),.int .i64 ((AT cs ts (k:Int)).op),.int .i64 ((AT cs ts (k:Int)).op)] [] [] 0 [([],[],[some (.blk (dS tv m nn ra rc)),some (.row 44 4 ((Bs cs ts k).length) 0 (E7 (Bs cs ts k)))])] [[true,true,true,true,true,true,true,true,true,true,true,true,true,true,true,true,true,true,true,true,true,true,true,true]] A rfl rfl rfl rfl (by kernel_rfl) rfl (by kernel_rfl) ⟨⟨iV 0 rfl rfl,⟨iV 0 rfl rfl,⟨iV 0 rfl rfl,⟨BT 0 rfl (Aj (X:=⟨_,true⟩) (out:=.val (.sla ra nn rc) []) hX rfl iT),⟨iV 0 rfl rfl,⟨BT 0 rfl (GF (e:=99) rfl rfl rfl rfl hI.1 (by kernel_rfl) (by omega)),⟨BT 0 rfl (Kx (q:=0) (r:=[.v (.pointer (some ⟨bs ((k:Int)).toNat,bo ((k:Int)).toNat,none⟩))]) (v:=.v (.pointer (some ⟨bs ((k:Int)).toNat,bo ((k:Int)).toNat,none⟩))) hX rfl rfl rfl hI.1 (by omega) rfl rfl rfl),⟨BT 0 rfl (Jl rfl rfl rfl),⟨BT 0 rfl (Jm rfl rfl rfl (by kernel_rfl)),⟨BT 0 rfl (S4 (q:=0) (v:=.sla (da ((k:Int)).toNat) ((cs.getD (((k:Int)).toNat) AD.z).l.length) (dp ((k:Int)).toNat)) hX rfl rfl rfl jU rfl rfl rfl),⟨iV 0 rfl rfl,⟨iV 0 rfl rfl,⟨iV 0 rfl rfl,⟨BT 0 rfl (Aj (X:=⟨_,true⟩) (out:=.val (.sla ra nn rc) []) hX rfl iT),⟨iV 0 rfl rfl,⟨BT 0 rfl (GF (e:=99) rfl rfl rfl rfl hI.1 (by kernel_rfl) (by omega)),⟨BT 0 rfl (Kx (q:=0) (r:=[.v (.pointer (some ⟨bs ((k:Int)).toNat,bo ((k:Int)).toNat,none⟩))]) (v:=.v (.pointer (some ⟨bs ((k:Int)).toNat,bo ((k:Int)).toNat,none⟩))) hX rfl rfl rfl hI.1 (by omega) rfl rfl rfl),⟨BT 0 rfl (Jl rfl rfl rfl),⟨BT 0 rfl (Jm rfl rfl rfl (by kernel_rfl)),⟨BT 0 rfl (S4 (q:=9) (v:=.int .i64 (((A5 ts (k:Int)).at_:Nat):Int)) hX rfl rfl rfl jU rfl rfl rfl),⟨BT 0 rfl (GF (e:=63) rfl rfl rfl rfl jP (by kernel_rfl) (by omega)),⟨BT 0 rfl (dY rfl rfl rfl jP (by omega) (by kernel_rfl)),⟨BT 0 rfl (Kx (r:=CD (AT cs ts (k:Int))) (v:=.int .i64 ((AT cs ts (k:Int)).op)) hX rfl rfl rfl jP (by omega) rfl rfl rfl),⟨iV 0 rfl rfl,trivial⟩⟩⟩⟩⟩⟩⟩⟩⟩⟩⟩⟩⟩⟩⟩⟩⟩⟩⟩⟩⟩⟩⟩⟩,trivial⟩ fun A=>N9 8 A rfl (iU (by omega)<|iT) fun A=>AW A rfl (Jk (v:=fun _=>.sla none 0 0) hX rfl rfl rfl rfl rfl rfl rfl (by omega) (fun k hk=>match k,hk with|0,_=>rfl|1,_=>rfl|2,_=>rfl)) fun A=>N9 2 A rfl rfl fun A=>have A:=AB A 48 (.tt) rfl (fun _=>rfl);N9 17 A rfl rfl fun A=>AW A rfl (Aj (X:=⟨_,true⟩) (out:=.val (.sla ra nn rc) []) hX rfl iT) fun A=>N9 1 A rfl rfl fun A=>AW A rfl (GF (e:=99) rfl rfl rfl rfl hI.1 (by kernel_rfl) (by omega)) fun A=>AW A rfl (Kx (q:=0) (r:=[.v (.pointer (some ⟨bs ((k:Int)).toNat,bo ((k:Int)).toNat,none⟩))]) (v:=.v (.pointer (some ⟨bs ((k:Int)).toNat,bo ((k:Int)).toNat,none⟩))) hX rfl rfl rfl hI.1 (by omega) rfl rfl rfl) fun A=>AW A rfl (Jl rfl rfl rfl) fun A=>AW A rfl (Jm rfl rfl rfl (by kernel_rfl)) fun A=>AW A rfl (S4 (q:=9) (v:=.int .i64 (((A5 ts (k:Int)).at_:Nat):Int)) hX rfl rfl rfl jU rfl rfl rfl) fun A=>N9 2 A rfl rfl fun A=>TT hX ((Bs cs ts k).length+1) (E7 ((Bs cs ts k)++[(2,(k:Int),(((A5 ts (k:Int)).at_:Nat):Int))])) A rfl rfl rfl rfl (by have:=Ic cs ts k;first|omega|(simp only [List.length_append,List.length_cons,List.length_nil];omega)) rfl (fun q hq=>by show pV _=pV _;rw [VL hq]) (by show pV _=_;rw [VM]) (fun z=>⟨_,rfl,rfl⟩) fun A=>have A:=(A.rowAs 3 (((Bs cs ts k)++[(2,(k:Int),(((A5 ts (k:Int)).at_:Nat):Int))]).length) (E7 ((Bs cs ts k)++[(2,(k:Int),(((A5 ts (k:Int)).at_:Nat):Int))])) rfl (eI _ _) (fun q hq=>rfl) (fun z=>⟨_,rfl,rfl⟩)).say 71 (.sl 3 (((Bs cs ts k)++[(2,(k:Int),(((A5 ts (k:Int)).at_:Nat):Int))]).length) 0) rfl (gJ _ _ _);N9 10 A rfl (iU (by omega)<|iT) fun A=>AW A rfl (Jk (v:=fun _=>.sla none 0 0) hX rfl rfl rfl rfl rfl rfl rfl (by omega) (fun k hk=>match k,hk with|0,_=>rfl|1,_=>rfl|2,_=>rfl)) fun A=>N9 2 A rfl rfl fun A=>have A:=AB A 79 (.ff) rfl (fun _=>rfl);N9 11 A rfl (iU (by omega)<|iT) fun A=>⟨k+1,_,(by omega),(by omega),(((Sy.mvA 3 3 (show(Bs cs ts (k+1))=((Bs cs ts k)++[(2,(k:Int),(((A5 ts (k:Int)).at_:Nat):Int))]) by show _++_=_;rw [if_neg (by omega)]) A rfl rfl).cut [0,2,3,4] rfl).mv 1 [3] rfl rfl rfl rfl (by simp only [List.length_cons,List.length_nil]at h0;omega)).sayT (by rfl)⟩)
    (fun h2 A=>N9 10 A rfl (iU (by omega)<|iT) fun A=>AW A rfl (Jk (v:=fun _=>.sla none 0 0) hX rfl rfl rfl rfl rfl rfl rfl (by omega) (fun k hk=>match k,hk with|0,_=>rfl|1,_=>rfl|2,_=>rfl)) fun A=>N9 2 A rfl rfl fun A=>have A:=AB A 79 (.ff) rfl (fun _=>rfl);N9 11 A rfl (iU (by omega)<|iT) fun A=>⟨k+1,_,(by omega),(by omega),(((Sy.mvA 1 3 (show(Bs cs ts (k+1))=(Bs cs ts k) by show _++_=_;rw [if_pos (by omega)];simp only [List.append_nil]) A rfl rfl).cut [0,2,3,4] rfl).trunc 2 rfl rfl rfl (iR h0 rfl)).sayT (by rfl)⟩))
   (fun h1 A=>N9 4 A rfl rfl fun A=>have lC:k=nn:=(by omega);have A:=Sy.mvA 1 3 (l':=Bs cs ts nn) (by rw [lC]) A rfl rfl;N9 6 A rfl rfl fun A=>Mj hX [1] A ⟨rfl,rfl⟩ rfl rfl rfl rfl rfl rfl rfl rfl h0)
theorem Zz (tv:Nat→Value)(m:Nat→Int)(cs:List AD)(ts:List Th)(nn:Nat)(ra:Option Addr)(rc:Nat)(bs bo:Nat→Nat)(da:Nat→Option Addr)(dp:Nat→Nat)(pv:Nat→Value)(hC:Ai cs ts nn)(kP:nn≤3)(uI:Bs cs ts nn=[]):Bi (K3 cs ts nn ra bs bo da dp pv) Tryz.prog 55 [.ptr 0 0] [some (.blk (dS tv m nn ra rc))] (Rt (.tt) [some (.blk (dS tv m nn ra rc))]):=
 Ab (n:=26) (by kernel_rfl) Tryz.func55 rfl rfl rfl fun G w a h0 hI A=>N9 12 A rfl rfl fun A=>Bk (fun(k:Nat)=>[(0,.ptr 0 0),(2,.ff),(3,.int .i64 (k:Int))]) (fun(k:Nat)=>[some (.blk (dS tv m nn ra rc))]) (fun(k:Nat)=>k≤nn∧Bs cs ts k=[]) (fun(k:Nat)=>nn - k) 0 ⟨Nat.zero_le _,rfl⟩ ((A.cut [0,2,3] rfl).trunc 1 rfl rfl rfl (iR h0 rfl)) fun k hK {G a w} A=>N9 7 A rfl rfl fun A=>AW A rfl (Aj (X:=⟨_,true⟩) (out:=.val (.sla ra nn rc) []) hX rfl iT) fun A=>N9 4 A rfl rfl fun A=>AL 10 A rfl
   (fun h1 A=>N9 6 A rfl rfl fun A=>have lC:((k:Int)).toNat<nn:=(by omega);have jU:AK (some ⟨bs ((k:Int)).toNat,bo ((k:Int)).toNat,none⟩) 11 1 (fun _=>EG (.sla (da ((k:Int)).toNat) (cs.getD (((k:Int)).toNat) AD.z).l.length (dp ((k:Int)).toNat)) (A5 ts (k:Int)).r (((A5 ts (k:Int)).at_:Nat):Int) (.v (pv ((k:Int)).toNat))) _ _:=(hI.2.2 ((k:Int)).toNat (by omega)).1;have jP:Em (da ((k:Int)).toNat) (cs.getD (((k:Int)).toNat) AD.z).l _ _:=(hI.2.2 ((k:Int)).toNat (by omega)).2;have qG:(A5 ts (k:Int)).at_≤(cs.getD (((k:Int)).toNat) AD.z).l.length:=hC.a ((k:Int)).toNat (by have:=hC.m;omega);N9 3 A rfl rfl fun A=>I9 [0] K3.ok hI (RT tv m cs ts nn ra rc bs bo da dp pv (k:Int) (by omega)) A rfl fun A=>N9 1 A rfl rfl fun A=>AL 16 A rfl
    (fun h2 A=>absurd uI (RS (k:=k) (by have q:=h2;unfold A5 at q;omega) (show k<nn by omega)))
    (fun h2 A=>have uJ:(((A5 ts (k:Int)).at_:Nat):Int)=(((cs.getD (((k:Int)).toNat) AD.z).l.length:Nat):Int):=(by omega);N9 5 A rfl (iU (by omega)<|iT) fun A=>AW A rfl (Jk (v:=fun _=>.sla none 0 0) hX rfl rfl rfl rfl rfl rfl rfl (by omega) (fun k hk=>match k,hk with|0,_=>rfl|1,_=>rfl|2,_=>rfl)) fun A=>N9 2 A rfl rfl fun A=>have A:=AB A 24 (.ff) rfl (fun _=>rfl);N9 12 A rfl (iU (by omega)<|iT) fun A=>⟨k+1,_,(by omega),⟨(by omega),VX hK.2 uJ⟩,((A.cut [0,2,3] rfl).trunc 1 rfl rfl rfl (iR h0 rfl)).sayT (by rfl)⟩))
   (fun h1 A=>N9 4 A rfl rfl fun A=>have lC:k=nn:=(by omega);have rX:Bs cs ts nn=[]:=(by rw [←lC];exact hK.2);N9 5 A rfl rfl fun A=>R9 A rfl h0 rfl rfl rfl)
theorem Z0 (tv:Nat→Value)(m:Nat→Int)(cs:List AD)(ts:List Th)(nn:Nat)(ra:Option Addr)(rc:Nat)(bs bo:Nat→Nat)(da:Nat→Option Addr)(dp:Nat→Nat)(pv:Nat→Value)(hC:Ai cs ts nn)(kP:nn≤3)(uI:Bs cs ts nn≠[]):Bi (K3 cs ts nn ra bs bo da dp pv) Tryz.prog 55 [.ptr 0 0] [some (.blk (dS tv m nn ra rc))] (Rt (.ff) [some (.blk (dS tv m nn ra rc))]):=
 Ab (n:=26) (by kernel_rfl) Tryz.func55 rfl rfl rfl fun G w a h0 hI A=>N9 12 A rfl rfl fun A=>Bk (fun(k:Nat)=>[(0,.ptr 0 0),(2,.ff),(3,.int .i64 (k:Int))]) (fun(k:Nat)=>[some (.blk (dS tv m nn ra rc))]) (fun(k:Nat)=>k≤nn∧Bs cs ts k=[]) (fun(k:Nat)=>nn - k) 0 ⟨Nat.zero_le _,rfl⟩ ((A.cut [0,2,3] rfl).trunc 1 rfl rfl rfl (iR h0 rfl)) fun k hK {G a w} A=>N9 7 A rfl rfl fun A=>AW A rfl (Aj (X:=⟨_,true⟩) (out:=.val (.sla ra nn rc) []) hX rfl iT) fun A=>N9 4 A rfl rfl fun A=>AL 10 A rfl
   (fun h1 A=>N9 6 A rfl rfl fun A=>have lC:((k:Int)).toNat<nn:=(by omega);have jU:AK (some ⟨bs ((k:Int)).toNat,bo ((k:Int)).toNat,none⟩) 11 1 (fun _=>EG (.sla (da ((k:Int)).toNat) (cs.getD (((k:Int)).toNat) AD.z).l.length (dp ((k:Int)).toNat)) (A5 ts (k:Int)).r (((A5 ts (k:Int)).at_:Nat):Int) (.v (pv ((k:Int)).toNat))) _ _:=(hI.2.2 ((k:Int)).toNat (by omega)).1;have jP:Em (da ((k:Int)).toNat) (cs.getD (((k:Int)).toNat) AD.z).l _ _:=(hI.2.2 ((k:Int)).toNat (by omega)).2;have qG:(A5 ts (k:Int)).at_≤(cs.getD (((k:Int)).toNat) AD.z).l.length:=hC.a ((k:Int)).toNat (by have:=hC.m;omega);N9 3 A rfl rfl fun A=>I9 [0] K3.ok hI (RT tv m cs ts nn ra rc bs bo da dp pv (k:Int) (by omega)) A rfl fun A=>N9 1 A rfl rfl fun A=>AL 16 A rfl
    (fun h2 A=>N9 8 A rfl rfl fun A=>N9 10 A rfl rfl fun A=>R9 A rfl h0 rfl rfl rfl)
    (fun h2 A=>N9 5 A rfl (iU (by omega)<|iT) fun A=>AW A rfl (Jk (v:=fun _=>.sla none 0 0) hX rfl rfl rfl rfl rfl rfl rfl (by omega) (fun k hk=>match k,hk with|0,_=>rfl|1,_=>rfl|2,_=>rfl)) fun A=>N9 2 A rfl rfl fun A=>have A:=AB A 24 (.ff) rfl (fun _=>rfl);N9 12 A rfl (iU (by omega)<|iT) fun A=>⟨k+1,_,(by omega),⟨(by omega),VX hK.2 (by have q:=h2;have p:=qG;unfold A5 at q p;omega)⟩,((A.cut [0,2,3] rfl).trunc 1 rfl rfl rfl (iR h0 rfl)).sayT (by rfl)⟩))
   (fun h1 A=>N9 4 A rfl rfl fun A=>have lC:k=nn:=(by omega);have rX:Bs cs ts nn=[]:=(by rw [←lC];exact hK.2);N9 5 A rfl rfl fun A=>R9 A rfl h0 rfl (absurd rX uI) rfl)
theorem eV (tv:Nat→Value)(m:Nat→Int)(cs:List AD)(ts:List Th)(nn:Nat)(ra:Option Addr)(rc:Nat)(bs bo:Nat→Nat)(da:Nat→Option Addr)(dp:Nat→Nat)(pv:Nat→Value)(hC:Ai cs ts nn)(kP:nn≤3):Bi (K3 cs ts nn ra bs bo da dp pv) Tryz.prog 55 [.ptr 0 0] [some (.blk (dS tv m nn ra rc))] (Rt (.bool ((((Bs cs ts nn).length:Nat):Int)==0)) [some (.blk (dS tv m nn ra rc))]):=by
 by_cases h:Bs cs ts nn=[]
 ·refine M6 (Zz tv m cs ts nn ra rc bs bo da dp pv hC kP h) (fun{G}=>?_)
  rw [h];rfl
 ·refine M6 (Z0 tv m cs ts nn ra rc bs bo da dp pv hC kP h) (fun{G}=>?_)
  have hl:(((Bs cs ts nn).length:Nat):Int)≠0:=fun e=>h (List.eq_nil_of_length_eq_zero (by omega))
  exact congrArg (fun b=>some (Value.bool b)) (beq_eq_false_iff_ne.2 hl).symm
theorem Z1 (tv:Nat→Value)(m:Nat→Int)(cs:List AD)(ts:List Th)(nn:Nat)(ra:Option Addr)(rc:Nat)(bs bo:Nat→Nat)(da:Nat→Option Addr)(dp:Nat→Nat)(pv:Nat→Value)(kP:nn≤3):Bi (K3 cs ts nn ra bs bo da dp pv) Tryz.prog 56 [.ptr 0 0] [some (.blk (dS tv m nn ra rc))] (Rt (.agg (Gw (J8 (Fq ts) nn) m)) [some (.blk (dS tv m nn ra rc))]):=
 Ab (n:=33) (by kernel_rfl) Tryz.func56 rfl rfl rfl fun G w a h0 hI A=>N9 18 A rfl rfl fun A=>have A:=A.sayH (H':=[some (.blk (dS tv m nn ra rc)),some (.blk [.z9,.z9,.z9,.z9,.z9,.z9,.z9,.z9,.z9,.z9,.z9,.z9,.z9,.z9,.z9,.z9,.z9,.z9,.z9,.z9,.z9,.z9,.z9,.z9,.z9,.z9,.z9]),some (.blk (Gw (J8 (Fq ts) 0) m))]) (by rfl);N9 5 A rfl rfl fun A=>Bk (fun(k:Nat)=>[(0,.ptr 0 0),(2,.ptr 1 0),(3,.ptr 2 0),(4,.int .i64 (k:Int))]) (fun(k:Nat)=>[some (.blk (dS tv m nn ra rc)),some (.blk [.z9,.z9,.z9,.z9,.z9,.z9,.z9,.z9,.z9,.z9,.z9,.z9,.z9,.z9,.z9,.z9,.z9,.z9,.z9,.z9,.z9,.z9,.z9,.z9,.z9,.z9,.z9]),some (.blk (Gw (J8 (Fq ts) k) m))]) (fun(k:Nat)=>k≤nn) (fun(k:Nat)=>nn - k) 0 (Nat.zero_le _) ((A.cut [0,2,3,4] rfl).trunc 3 rfl rfl rfl (iR h0 rfl)) fun k hK {G a w} A=>N9 7 A rfl rfl fun A=>AW A rfl (Aj (X:=⟨_,true⟩) (out:=.val (.sla ra nn rc) []) hX rfl iT) fun A=>N9 4 A rfl rfl fun A=>AL 16 A rfl
   (fun h1 A=>N9 5 A rfl rfl fun A=>have lC:((k:Int)).toNat<nn:=(by omega);have jU:AK (some ⟨bs ((k:Int)).toNat,bo ((k:Int)).toNat,none⟩) 11 1 (fun _=>EG (.sla (da ((k:Int)).toNat) (cs.getD (((k:Int)).toNat) AD.z).l.length (dp ((k:Int)).toNat)) (A5 ts (k:Int)).r (((A5 ts (k:Int)).at_:Nat):Int) (.v (pv ((k:Int)).toNat))) _ _:=(hI.2.2 ((k:Int)).toNat (by omega)).1;have jP:Em (da ((k:Int)).toNat) (cs.getD (((k:Int)).toNat) AD.z).l _ _:=(hI.2.2 ((k:Int)).toNat (by omega)).2;N9 5 A rfl rfl fun A=>AW A rfl (Aj (X:=⟨_,true⟩) (out:=.val (.sla ra nn rc) []) hX rfl iT) fun A=>N9 1 A rfl rfl fun A=>AW A rfl (GF (e:=99) rfl rfl rfl rfl hI.1 (by kernel_rfl) (by omega)) fun A=>AW A rfl (Kx (q:=0) (r:=[.v (.pointer (some ⟨bs ((k:Int)).toNat,bo ((k:Int)).toNat,none⟩))]) (v:=.v (.pointer (some ⟨bs ((k:Int)).toNat,bo ((k:Int)).toNat,none⟩))) hX rfl rfl rfl hI.1 (by omega) rfl rfl rfl) fun A=>AW A rfl (Jl rfl rfl rfl) fun A=>AW A rfl (Jm rfl rfl rfl (by kernel_rfl)) fun A=>AW A rfl (S4 (q:=1) (v:=.agg [.int .i64 (Fq ts ((k:Int)).toNat 0),.int .i64 (Fq ts ((k:Int)).toNat 1),.int .i64 (Fq ts ((k:Int)).toNat 2),.int .i64 (Fq ts ((k:Int)).toNat 3),.int .i64 (Fq ts ((k:Int)).toNat 4),.int .i64 (Fq ts ((k:Int)).toNat 5),.int .i64 (Fq ts ((k:Int)).toNat 6),.int .i64 (Fq ts ((k:Int)).toNat 7)]) hX rfl rfl rfl jU rfl rfl rfl) fun A=>N9 2 A rfl (iU (by omega)<|iT) fun A=>AW A rfl (Zl (i:=2) (r:=Fq ts ((k:Int)).toNat) (f:=J8 (Fq ts) k) (m:=m) hX rfl rfl rfl rfl rfl rfl rfl (by omega)) fun A=>N9 8 A rfl (iU (by omega)<|iT) fun A=>⟨k+1,_,(by omega),(by omega),(((A.sayH (H':=[some (.blk (dS tv m nn ra rc)),some (.blk [.z9,.z9,.z9,.z9,.z9,.z9,.z9,.z9,.z9,.z9,.z9,.z9,.z9,.z9,.z9,.z9,.z9,.z9,.z9,.z9,.z9,.z9,.z9,.z9,.z9,.z9,.z9]),some (.blk (Gw (J8 (Fq ts) (k+1)) m))]) (by rw [←W5 (Fq ts) k];rfl)).cut [0,2,3,4] rfl).trunc 3 rfl rfl rfl (iR h0 rfl)).sayT (by rfl)⟩)
   (fun h1 A=>N9 4 A rfl rfl fun A=>have lC:k=nn:=(by omega);have A:=A.sayH (H':=[some (.blk (dS tv m nn ra rc)),some (.blk [.z9,.z9,.z9,.z9,.z9,.z9,.z9,.z9,.z9,.z9,.z9,.z9,.z9,.z9,.z9,.z9,.z9,.z9,.z9,.z9,.z9,.z9,.z9,.z9,.z9,.z9,.z9]),some (.blk (Gw (J8 (Fq ts) nn) m))]) (by rw [lC]);N9 6 A rfl rfl fun A=>R9 A rfl h0 rfl rfl rfl)
theorem Z2 (a o s v:Int)(hO:OS o s)(ha:inr a)(hv:inr v):Fn Tryz.prog 94 [.int .i64 a,.int .i64 (IntKind.wrap .i64 (v*2^min (8*o).toNat (IntKind.bits .i64))),.int .i64 (Bf o s)] [] (Rt (.int .i64 (A8 a o s v)) []):=by
 have h:=eR a (IntKind.wrap .i64 (v*2^min (8*o).toNat (IntKind.bits .i64))) (Bf o s)
 rw [XB hO ha hv]at h
 exact h
theorem eW (tv:Nat→Value)(m:Nat→Int)(nn:Nat)(ra:Option Addr)(rc:Nat)(th lc o s:Int)(hl:0≤lc∧lc<3)(hO:OS o s)(rW:0≤th∧th<3):Fn Tryz.prog 62 [.ptr 0 0,.int .i64 th,.agg [.int .i64 lc,.int .i64 (Bf o s)]] [some (.blk (dS tv m nn ra rc))] (Rt (.int .i64 (Int.fdiv (m (lc).toNat) (2^min (8*o).toNat (IntKind.bits .i64)))) [some (.blk (dS tv m nn ra rc))]):=
 AG (n:=62) (by kernel_rfl) Tryz.func62 rfl rfl rfl fun G w a h0 A=>N9 7 A rfl rfl fun A=>Hh BK [.ptr 0 0,.ptr 1 0,.int .i64 lc,.ptr 0 0,.ptr 0 33,.ix (.ptr 0 33) 1 3 lc 0,.int .i64 (m (lc).toNat),.int .i64 (m (lc).toNat)] [] [] 0 [([],[],[some (.blk (dS tv m nn ra rc)),some (.blk [.int .i64 lc,.int .i64 (Bf o s)])])] [[true,true,true,true,true,true,true,true]] A rfl rfl rfl rfl (by kernel_rfl) rfl (by kernel_rfl) ⟨⟨iV 0 rfl rfl,⟨iV 0 rfl rfl,⟨iV 0 rfl rfl,⟨iV 0 rfl rfl,⟨iV 0 rfl rfl,⟨iV 0 rfl (iU (by have:=Gt hO;omega)<|iT),⟨BT 0 rfl (Jk (v:=fun k=>.int .i64 (m k)) hX rfl rfl rfl rfl rfl rfl rfl (by have:=Gt hO;omega) (fun k hk=>match k,hk with|0,_=>rfl|1,_=>rfl|2,_=>rfl)),⟨iV 0 rfl rfl,trivial⟩⟩⟩⟩⟩⟩⟩⟩,trivial⟩ fun A=>N9 8 A rfl rfl fun A=>Bk (fun(k:Nat)=>[(0,.ptr 0 0),(1,.int .i64 th),(5,.ptr 1 0),(6,.int .i64 0),(7,.int .i64 (m (lc).toNat)),(8,.int .i64 (k:Int))]) (fun(k:Nat)=>[some (.blk (dS tv m nn ra rc)),some (.blk [.int .i64 lc,.int .i64 (Bf o s)])]) (fun(k:Nat)=>k≤1) (fun(k:Nat)=>1 - k) 0 (Nat.zero_le _) ((A.cut [0,1,5,6,7,8] rfl).trunc 2 rfl rfl rfl (iR h0 rfl)) fun k hK {G a w} A=>N9 9 A rfl (iU (by have:=Gt hO;omega)<|iT) fun A=>AW A rfl (Jk (v:=fun _=>.sla none 0 0) hX rfl rfl rfl rfl rfl rfl rfl (by have:=Gt hO;omega) (fun k hk=>match k,hk with|0,_=>rfl|1,_=>rfl|2,_=>rfl)) fun A=>N9 2 A rfl rfl fun A=>have A:=AB A 25 (.ff) rfl (fun _=>congrArg (fun b=>some (Value.bool b)) (decide_eq_false (by omega)));N9 10 A rfl rfl fun A=>C9 [] (VU o s (Bf o s) hO rfl) A rfl fun A=>N9 6 A rfl (iU (by have:=Gt hO;omega)<|iU (by have:=Gt hO;omega)<|iT) fun A=>R9 A rfl h0 rfl rfl rfl
theorem VY (tv:Nat→Value)(m:Nat→Int)(nn:Nat)(ra:Option Addr)(rc:Nat)(lc o s v:Int)(hl:0≤lc∧lc<3)(hO:OS o s)(ha:inr (m (lc).toNat))(hv:inr v):Fn Tryz.prog 60 [.ptr 0 0,.agg [.int .i64 lc,.int .i64 (Bf o s),.int .i64 v]] [some (.blk (dS tv m nn ra rc))] (Rt (.tup []) [some (.blk (dS tv (BA m (lc).toNat (A8 (m (lc).toNat) o s v)) nn ra rc))]):=
 AG (n:=31) (by kernel_rfl) Tryz.func60 rfl rfl rfl fun G w a h0 A=>N9 5 A rfl rfl fun A=>Hh BK [.ptr 0 0,.ptr 1 0,.ptr 1 0,.int .i64 lc,.ptr 0 0,.ptr 1 0,.ptr 1 0,.int .i64 lc,.ptr 0 0,.ptr 0 33,.ix (.ptr 0 33) 1 3 lc 0,.int .i64 (m (lc).toNat),.ptr 1 2,.int .i64 v,.ptr 1 0,.ptr 1 1,.int .i64 (Bf o s),.int .i64 o,.int .i64 (8*o),.int .i64 (IntKind.wrap .i64 (v*2^min ((8*o)).toNat (IntKind.bits .i64))),.ptr 1 0,.ptr 1 1,.int .i64 (Bf o s),.int .i64 (A8 (m (lc).toNat) o s v),.ptr 0 0,.ptr 0 33,.ix (.ptr 0 33) 1 3 lc 0,.tup []] [27] [] 0 [([],[],[some (.blk (dS tv m nn ra rc)),some (.blk [.int .i64 lc,.int .i64 (Bf o s),.int .i64 v])]),([27],[],[some (.blk (dS tv (BA m (lc).toNat (A8 (m (lc).toNat) o s v)) nn ra rc)),some (.blk [.int .i64 lc,.int .i64 (Bf o s),.int .i64 v])])] [[true,true,true,true,true,true,true,true,true,true,true,true,true,true,true,true,true,true,true,true,true,true,true,true,true,true,true,true],[false,false,false,false,false,false,false,false,false,false,false,false,false,false,false,false,false,false,false,false,false,false,false,false,true,true,false,false]] A rfl rfl rfl rfl (by kernel_rfl) rfl (by kernel_rfl) ⟨⟨iV 0 rfl rfl,⟨iV 0 rfl rfl,⟨iV 0 rfl rfl,⟨iV 0 rfl rfl,⟨iV 0 rfl rfl,⟨iV 0 rfl rfl,⟨iV 0 rfl rfl,⟨iV 0 rfl rfl,⟨iV 0 rfl rfl,⟨iV 0 rfl rfl,⟨iV 0 rfl (iU (by have:=Gt hO;omega)<|iT),⟨BT 0 rfl (Jk (v:=fun k=>.int .i64 (m k)) hX rfl rfl rfl rfl rfl rfl rfl (by have:=Gt hO;omega) (fun k hk=>match k,hk with|0,_=>rfl|1,_=>rfl|2,_=>rfl)),⟨iV 0 rfl rfl,⟨iV 0 rfl rfl,⟨iV 0 rfl rfl,⟨iV 0 rfl rfl,⟨iV 0 rfl rfl,⟨BT 0 rfl (CG rfl rfl (VU o s (Bf o s) hO rfl)),⟨iV 0 rfl (iU (by have:=Gt hO;omega)<|iT),⟨iV 0 rfl (iU (by have:=Gt hO;omega)<|iT),⟨iV 0 rfl rfl,⟨iV 0 rfl rfl,⟨iV 0 rfl rfl,⟨BT 0 rfl (CG rfl rfl (Z2 (m (lc).toNat) o s v hO ha hv)),⟨iV 0 rfl rfl,⟨iV 0 rfl rfl,⟨iV 0 rfl (iU (by have:=Gt hO;omega)<|iT),⟨BT 1 rfl (eK (cs':=fun k=>(dS tv (BA m k (A8 (m (lc).toNat) o s v)) nn ra rc)) hX rfl rfl rfl rfl rfl rfl rfl rfl (by have:=Gt hO;omega) (fun k hk=>match k,hk with|0,_=>rfl|1,_=>rfl|2,_=>rfl) rfl),trivial⟩⟩⟩⟩⟩⟩⟩⟩⟩⟩⟩⟩⟩⟩⟩⟩⟩⟩⟩⟩⟩⟩⟩⟩⟩⟩⟩⟩,⟨⟨iV 1 rfl rfl,⟨iV 1 rfl rfl,trivial⟩⟩,trivial⟩⟩ fun A=>Df (R9 A rfl h0 rfl rfl rfl)
end Go.Proofs.YtbbdanhpphlbpaaGreatDoor.Mc
namespace Go.Proofs.YtbbdanhpphlbpaaGreatDoor.Mc
open Go.RowKit
set_option simprocs false
def T2 (i:In):Int:=if(((i.op==4)||(i.op==5))||(i.op==6))=true then i.loc else 0
def T3 (r:Rg)(i:In):Int:=if(((i.op==4)||(i.op==5))||(i.op==6))=true then A7 (AU i.off (CV r i.ix 0) i.sz) i.sz else 0
def LK (i:In)(old:Int):Int:=if((i.op==4)||(i.op==6))=true then BU old i.sz else 0
def RU (r:Rg)(i:In)(old:Int):Int:=if i.op=6 then Gu i.fn (BU old i.sz) (E8 r i) i.sz else if i.op=5 then BU (E8 r i) i.sz else 0
abbrev YY (r:Rg)(i:In)(p a old:Int):List SV:=[.z9,.int .i64 p,.int .i64 a,.int .i64 i.op,.int .i64 (T2 i),.int .i64 (T3 r i),.bool ((i.op==4)||(i.op==6)),.bool ((i.op==5)||(i.op==6)),.int .i64 (LK i old),.int .i64 (RU r i old),.bool i.acq,.bool i.weak,.bool i.rel,.int .i64 i.pred,.int .i64 i.succ]
def qY (l:List In)(ao:Option Addr)(cp:Nat)(s:Th)(L:Loc)(pb:Option (Nat×Nat))(ps:List Int)(old:Int):SV→World→World→Prop:=fun x w w'=>Zw L l ao cp ⟨s.at_+1,Hi s.r (AJ l s) old⟩ pb x w w'∧x=.agg (YY s.r (AJ l s) ((ps.length:Nat):Int) ((s.at_:Nat):Int) old)
abbrev F5 (l:List In)(s:Th)(old:Int):Rg:=BA s.r ((AJ l s).dst).toNat (BU old ((AJ l s).sz))
theorem T4 (l:List In)(ao:Option Addr)(cp:Nat)(s:Th)(L:Loc)(pb:Option (Nat×Nat))(ps:List Int)(old:Int)(hc:E6 l)(i7:s.at_<l.length)(pD:ps.length≤s.at_):MS Tryz.prog 64 [.v (.pointer (some ⟨L.b,L.pre.length,none⟩)),.int .i64 old] [] (L.b::F4 pb) (fun w=>FQ L (PJ (.sla ao l.length cp) s.r ((s.at_:Nat):Int)) pb ps w∧Em ao l w (L.b::F4 pb)) (qY l ao cp s L pb ps old):=
 FN (n:=111) (by kernel_rfl) Tryz.func64 rfl rfl rfl (fun i e h=>by rw [List.getElem?_nil]at h;cases h) fun G w a h0 ho hp A=>have hs:Tg (AJ l s):=hc.snd i7;have hn:=hc.n;VF 0 A hp.1 rfl rfl fun A nO uH=>have B:=A;have A:=B.base;have h0:=B.mem.len;have hI:=AK.ok _ _ _ _ hp.2 (CR.refl _ _) uH;VG 1 0 (cs:=PJ (.sla ao l.length cp) s.r ((s.at_:Nat):Int)) (H':=[none,some (.blk [.sla ao l.length cp,.int .i64 (s.r 0),.int .i64 (s.r 1),.int .i64 (s.r 2),.int .i64 (s.r 3),.int .i64 (s.r 4),.int .i64 (s.r 5),.int .i64 (s.r 6),.int .i64 (s.r 7),.int .i64 ((s.at_:Nat):Int),.sl 2 ps.length 0]),some (.row 3 1 ps.length 0 (DX ps))]) A rfl rfl rfl rfl fun A=>N9 6 A rfl rfl fun A=>Hh BK [.ptr 1 0,.ptr 1 0,.ptr 1 0,.sla ao l.length cp,.ptr 1 0,.ptr 1 0,.ptr 1 9,.int .i64 ((s.at_:Nat):Int),.v (.pointer (P8 ao 17 ((s.at_:Nat):Int))),.agg (AS (AJ l s)),.ptr 4 0,.tup []] [10,11] [4] 1 [([],[4],[none,some (.blk [.sla ao l.length cp,.int .i64 (s.r 0),.int .i64 (s.r 1),.int .i64 (s.r 2),.int .i64 (s.r 3),.int .i64 (s.r 4),.int .i64 (s.r 5),.int .i64 (s.r 6),.int .i64 (s.r 7),.int .i64 ((s.at_:Nat):Int),.sl 2 ps.length 0]),some (.row 3 1 ps.length 0 (DX ps)),some (.blk [.z9,.z9,.z9,.z9,.z9,.z9,.ff,.ff,.z9,.z9,.ff,.ff,.ff,.z9,.z9]),none]),([10],[],[none,some (.blk [.sla ao l.length cp,.int .i64 (s.r 0),.int .i64 (s.r 1),.int .i64 (s.r 2),.int .i64 (s.r 3),.int .i64 (s.r 4),.int .i64 (s.r 5),.int .i64 (s.r 6),.int .i64 (s.r 7),.int .i64 ((s.at_:Nat):Int),.sl 2 ps.length 0]),some (.row 3 1 ps.length 0 (DX ps)),some (.blk [.z9,.z9,.z9,.z9,.z9,.z9,.ff,.ff,.z9,.z9,.ff,.ff,.ff,.z9,.z9]),some (.blk [.z9,.z9,.z9,.z9,.z9,.z9,.z9,.z9,.z9,.z9,.ff,.ff,.ff,.z9,.z9,.z9,.ff])]),([10,11],[],[none,some (.blk [.sla ao l.length cp,.int .i64 (s.r 0),.int .i64 (s.r 1),.int .i64 (s.r 2),.int .i64 (s.r 3),.int .i64 (s.r 4),.int .i64 (s.r 5),.int .i64 (s.r 6),.int .i64 (s.r 7),.int .i64 ((s.at_:Nat):Int),.sl 2 ps.length 0]),some (.row 3 1 ps.length 0 (DX ps)),some (.blk [.z9,.z9,.z9,.z9,.z9,.z9,.ff,.ff,.z9,.z9,.ff,.ff,.ff,.z9,.z9]),some (.blk (AS (AJ l s)))])] [[true,true,true,true,true,true,true,true,true,true,true,false],[true,true,true,true,true,true,true,true,true,true,false,true],[false,false,false,false,false,false,false,false,false,false,false,false]] A rfl rfl rfl rfl (by kernel_rfl) rfl (by kernel_rfl) ⟨⟨iV 0 rfl rfl,⟨iV 0 rfl rfl,⟨iV 0 rfl rfl,⟨iV 0 rfl rfl,⟨iV 0 rfl rfl,⟨iV 0 rfl rfl,⟨iV 0 rfl rfl,⟨iV 0 rfl rfl,⟨BT 0 rfl (GF (e:=63) rfl rfl rfl rfl hI (by kernel_rfl) (by omega)),⟨BT 0 rfl (M1 (CD (AJ l s)) hX rfl rfl rfl hI (by omega) rfl rfl),⟨⟨_,_,_,_,1,rfl,rfl,rfl,rfl,Da 4 (X:=⟨_,true⟩) hX rfl rfl (Mt h0 rfl) rfl rfl rfl rfl⟩,trivial⟩⟩⟩⟩⟩⟩⟩⟩⟩⟩⟩,⟨⟨iV 1 rfl rfl,⟨iV 1 rfl rfl,⟨iV 1 rfl rfl,⟨iV 1 rfl rfl,⟨iV 1 rfl rfl,⟨iV 1 rfl rfl,⟨iV 1 rfl rfl,⟨iV 1 rfl rfl,⟨BT 1 rfl (GF (e:=63) rfl rfl rfl rfl hI (by kernel_rfl) (by omega)),⟨BT 1 rfl (M1 (CD (AJ l s)) hX rfl rfl rfl hI (by omega) rfl rfl),⟨BT 2 rfl (Aj (X:=⟨_,true⟩) (out:=.upd 4 (AS (AJ l s)) _) hX rfl rfl),trivial⟩⟩⟩⟩⟩⟩⟩⟩⟩⟩⟩,⟨trivial,trivial⟩⟩⟩ fun A=>N9 2 A rfl rfl fun A=>Aq hX BK [(22,.bool (((AJ l s).op==4)||((AJ l s).op==6))),(24,.bool (((AJ l s).op==5)||((AJ l s).op==6)))] [] A rfl rfl rfl rfl (by kernel_rfl) (AV _ _) ⟨.inl ⟨_,_,rfl,rfl,VK (AJ l s)⟩,⟨.inl ⟨_,_,rfl,rfl,Zj (AJ l s)⟩,trivial⟩⟩ fun A=>N9 5 A rfl rfl fun A=>C9 [] (VJ (AJ l s)) A rfl fun A=>N9 2 A rfl rfl fun A=>fork 44 A rfl
  (fun h1 A=>N9 4 A rfl rfl fun A=>C9 [1,2] (Zv l ao cp ((s.at_:Nat):Int) s.r ps (AJ l s) (by have q3:=JE h1;exact hc.szs i7 (by show _∨_∨_;first|exact q3|(have q4:(AJ l s).op=4∨(AJ l s).op=5∨(AJ l s).op=6:=(by omega);exact q4))) (by have q3:=JE h1;exact hs.x (by first|exact q3|omega))) A rfl fun A=>N9 11 A rfl rfl fun A=>fork 50 A rfl
   (fun h2 A=>N9 5 A rfl rfl fun A=>C9 [] (OR old ((AJ l s).sz) (by have q3:=JE h1;have q2:=NA h2;exact hc.szs i7 (by show _∨_∨_;first|exact q3|(have q4:(AJ l s).op=4∨(AJ l s).op=5∨(AJ l s).op=6:=(by omega);exact q4)))) A rfl fun A=>N9 12 A rfl rfl fun A=>AN 58 A rfl
    (fun h3 A=>False.elim (by simp only [Bool.or_eq_true,Bool.or_eq_false_iff,beq_iff_eq,beq_eq_false_iff_ne,ne_eq]at h1 h2;omega))
    (fun h3 A=>N9 11 A rfl rfl fun A=>AN 68 A rfl
     (fun h4 A=>N9 1 A rfl rfl fun A=>Aq hX BK [(9,.int .i64 (Gu ((AJ l s).fn) (BU old ((AJ l s).sz)) (E8 s.r (AJ l s)) ((AJ l s).sz)))] [(6,.int .i64 (E8 s.r (AJ l s)),[none,some (.blk [.sla ao l.length cp,.int .i64 (s.r 0),.int .i64 (s.r 1),.int .i64 (s.r 2),.int .i64 (s.r 3),.int .i64 (s.r 4),.int .i64 (s.r 5),.int .i64 (s.r 6),.int .i64 (s.r 7),.int .i64 ((s.at_:Nat):Int),.sl 2 ps.length 0]),some (.row 3 1 ps.length 0 (DX ps)),some (.blk [.z9,.z9,.z9,.z9,.z9,.z9,.ff,.ff,.z9,.z9,.ff,.ff,.ff,.z9,.z9]),some (.blk (AS (AJ l s))),some (.blk [.z9,.int .i64 ((ps.length:Nat):Int),.int .i64 ((s.at_:Nat):Int),.int .i64 ((AJ l s).op),.int .i64 ((AJ l s).loc),.int .i64 (A7 (AU (AJ l s).off (CV s.r (AJ l s).ix 0) (AJ l s).sz) (AJ l s).sz),.bool (((AJ l s).op==4)||((AJ l s).op==6)),.bool (((AJ l s).op==5)||((AJ l s).op==6)),.int .i64 (BU old ((AJ l s).sz)),.z9,.bool ((AJ l s).acq),.bool ((AJ l s).weak),.bool ((AJ l s).rel),.int .i64 ((AJ l s).pred),.int .i64 ((AJ l s).succ)])])] A rfl rfl rfl rfl (by kernel_rfl) ⟨DV [1,2] (VW l ao cp ((s.at_:Nat):Int) s.r ps (AJ l s) (by have q3:=JE h1;have q2:=NA h2;first|(have h5:=hs.a5 (by omega);omega)|(have h6:=hs.a (by omega);omega))) rfl rfl rfl rfl rfl rfl rfl,⟨trivial,trivial⟩⟩ ⟨.inl ⟨_,_,rfl,rfl,Zi ((AJ l s).fn) (BU old ((AJ l s).sz)) (E8 s.r (AJ l s)) ((AJ l s).sz) (by have q3:=JE h1;have q2:=NA h2;exact hc.szs i7 (by show _∨_∨_;first|exact q3|(have q4:(AJ l s).op=4∨(AJ l s).op=5∨(AJ l s).op=6:=(by omega);exact q4)))⟩,trivial⟩ fun A=>N9 8 A rfl rfl fun A=>fork 81 A rfl
      (fun h5 A=>N9 1 A rfl rfl fun A=>Aq hX BK [] [(8,.tup [],[none,some (.blk [.sla ao l.length cp,.int .i64 ((F5 l s old) 0),.int .i64 ((F5 l s old) 1),.int .i64 ((F5 l s old) 2),.int .i64 ((F5 l s old) 3),.int .i64 ((F5 l s old) 4),.int .i64 ((F5 l s old) 5),.int .i64 ((F5 l s old) 6),.int .i64 ((F5 l s old) 7),.int .i64 ((s.at_:Nat):Int),.sl 2 ps.length 0]),some (.row 3 1 ps.length 0 (DX ps)),some (.blk [.z9,.z9,.z9,.z9,.z9,.z9,.ff,.ff,.z9,.z9,.ff,.ff,.ff,.z9,.z9]),some (.blk (AS (AJ l s))),some (.blk [.z9,.int .i64 ((ps.length:Nat):Int),.int .i64 ((s.at_:Nat):Int),.int .i64 ((AJ l s).op),.int .i64 ((AJ l s).loc),.int .i64 (A7 (AU (AJ l s).off (CV s.r (AJ l s).ix 0) (AJ l s).sz) (AJ l s).sz),.bool (((AJ l s).op==4)||((AJ l s).op==6)),.bool (((AJ l s).op==5)||((AJ l s).op==6)),.int .i64 (BU old ((AJ l s).sz)),.int .i64 (Gu ((AJ l s).fn) (BU old ((AJ l s).sz)) (E8 s.r (AJ l s)) ((AJ l s).sz)),.bool ((AJ l s).acq),.bool ((AJ l s).weak),.bool ((AJ l s).rel),.int .i64 ((AJ l s).pred),.int .i64 ((AJ l s).succ)])])] A rfl (iU (by have q3:=JE h1;have q2:=NA h2;first|exact hs.d (by omega)|omega)<|iT) rfl rfl (by kernel_rfl) ⟨PG (i:=1) (r:=s.r) hX rfl rfl rfl rfl rfl rfl rfl rfl (by have q3:=JE h1;have q2:=NA h2;first|exact hs.d (by omega)|omega),trivial⟩ trivial fun A=>N9 2 A rfl rfl fun A=>Aq hX BK [] [(10,.sl 7 (ps.length+1) 0,[none,some (.blk [.sla ao l.length cp,.int .i64 ((F5 l s old) 0),.int .i64 ((F5 l s old) 1),.int .i64 ((F5 l s old) 2),.int .i64 ((F5 l s old) 3),.int .i64 ((F5 l s old) 4),.int .i64 ((F5 l s old) 5),.int .i64 ((F5 l s old) 6),.int .i64 ((F5 l s old) 7),.int .i64 ((s.at_:Nat):Int),.sl 2 ps.length 0]),none,some (.blk [.z9,.z9,.z9,.z9,.z9,.z9,.ff,.ff,.z9,.z9,.ff,.ff,.ff,.z9,.z9]),some (.blk (AS (AJ l s))),some (.blk [.z9,.int .i64 ((ps.length:Nat):Int),.int .i64 ((s.at_:Nat):Int),.int .i64 ((AJ l s).op),.int .i64 ((AJ l s).loc),.int .i64 (A7 (AU (AJ l s).off (CV s.r (AJ l s).ix 0) (AJ l s).sz) (AJ l s).sz),.bool (((AJ l s).op==4)||((AJ l s).op==6)),.bool (((AJ l s).op==5)||((AJ l s).op==6)),.int .i64 (BU old ((AJ l s).sz)),.int .i64 (Gu ((AJ l s).fn) (BU old ((AJ l s).sz)) (E8 s.r (AJ l s)) ((AJ l s).sz)),.bool ((AJ l s).acq),.bool ((AJ l s).weak),.bool ((AJ l s).rel),.int .i64 ((AJ l s).pred),.int .i64 ((AJ l s).succ)]),some (.blk [.int .i64 ((s.at_:Nat):Int)]),some (.row 3 1 (ps.length+1) 0 (DX (ps++[((s.at_:Nat):Int)])))])] A rfl rfl rfl rfl (by kernel_rfl) ⟨trivial,⟨Ll (i:=2) hX (ps.length+1) (DX (ps++[((s.at_:Nat):Int)])) rfl rfl rfl rfl (by omega) rfl (fun k hk=>by show [SV.int .i64 _]=[SV.int .i64 _];rw [i6 hk]) (by show [SV.int .i64 _]=_;rw [Dt]) (fun z=>⟨_,rfl,rfl⟩),⟨trivial,trivial⟩⟩⟩ trivial fun A=>N9 14 A rfl (iU (by omega)<|iT) fun A=>N9 6 A rfl rfl fun A=>have A:=A.thSay 1 7 (r':=Hi s.r (AJ l s) old) (at':=(((s.at_+1:Nat):Nat):Int)) (m':=(ps++[((s.at_:Nat):Int)]).length) rfl rfl (by unfold Hi;rw [if_pos h5]) (by omega) (by rw [List.length_append];rfl) rfl;kV (J:=qY l ao cp s L pb ps old) hX (B.trans A) rfl rfl rfl rfl ⟨Hk (z:=⟨s.at_+1,Hi s.r (AJ l s) old⟩) (Sy.giveT (B.trans A) 1 7 (A.at_pre nO) rfl rfl rfl rfl) rfl (by rw [List.length_append];show ps.length+1≤s.at_+1;omega),(by simp only [AX,YY,T2,T3,LK,RU,if_pos h1,if_pos h2,if_neg h3,if_pos h4,if_pos h5])⟩)
      (fun h5 A=>False.elim (by simp only [Bool.or_eq_true,Bool.or_eq_false_iff,beq_iff_eq,beq_eq_false_iff_ne,ne_eq]at h1 h2 h5;omega)))
     (fun h4 A=>N9 10 A rfl rfl fun A=>fork 81 A rfl
      (fun h6 A=>N9 1 A rfl rfl fun A=>Aq hX BK [] [(8,.tup [],[none,some (.blk [.sla ao l.length cp,.int .i64 ((F5 l s old) 0),.int .i64 ((F5 l s old) 1),.int .i64 ((F5 l s old) 2),.int .i64 ((F5 l s old) 3),.int .i64 ((F5 l s old) 4),.int .i64 ((F5 l s old) 5),.int .i64 ((F5 l s old) 6),.int .i64 ((F5 l s old) 7),.int .i64 ((s.at_:Nat):Int),.sl 2 ps.length 0]),some (.row 3 1 ps.length 0 (DX ps)),some (.blk [.z9,.z9,.z9,.z9,.z9,.z9,.ff,.ff,.z9,.z9,.ff,.ff,.ff,.z9,.z9]),some (.blk (AS (AJ l s))),some (.blk [.z9,.int .i64 ((ps.length:Nat):Int),.int .i64 ((s.at_:Nat):Int),.int .i64 ((AJ l s).op),.int .i64 ((AJ l s).loc),.int .i64 (A7 (AU (AJ l s).off (CV s.r (AJ l s).ix 0) (AJ l s).sz) (AJ l s).sz),.bool (((AJ l s).op==4)||((AJ l s).op==6)),.bool (((AJ l s).op==5)||((AJ l s).op==6)),.int .i64 (BU old ((AJ l s).sz)),.z9,.bool ((AJ l s).acq),.bool ((AJ l s).weak),.bool ((AJ l s).rel),.int .i64 ((AJ l s).pred),.int .i64 ((AJ l s).succ)])])] A rfl (iU (by have q3:=JE h1;have q2:=NA h2;first|exact hs.d (by omega)|omega)<|iT) rfl rfl (by kernel_rfl) ⟨PG (i:=1) (r:=s.r) hX rfl rfl rfl rfl rfl rfl rfl rfl (by have q3:=JE h1;have q2:=NA h2;first|exact hs.d (by omega)|omega),trivial⟩ trivial fun A=>N9 2 A rfl rfl fun A=>Aq hX BK [] [(10,.sl 7 (ps.length+1) 0,[none,some (.blk [.sla ao l.length cp,.int .i64 ((F5 l s old) 0),.int .i64 ((F5 l s old) 1),.int .i64 ((F5 l s old) 2),.int .i64 ((F5 l s old) 3),.int .i64 ((F5 l s old) 4),.int .i64 ((F5 l s old) 5),.int .i64 ((F5 l s old) 6),.int .i64 ((F5 l s old) 7),.int .i64 ((s.at_:Nat):Int),.sl 2 ps.length 0]),none,some (.blk [.z9,.z9,.z9,.z9,.z9,.z9,.ff,.ff,.z9,.z9,.ff,.ff,.ff,.z9,.z9]),some (.blk (AS (AJ l s))),some (.blk [.z9,.int .i64 ((ps.length:Nat):Int),.int .i64 ((s.at_:Nat):Int),.int .i64 ((AJ l s).op),.int .i64 ((AJ l s).loc),.int .i64 (A7 (AU (AJ l s).off (CV s.r (AJ l s).ix 0) (AJ l s).sz) (AJ l s).sz),.bool (((AJ l s).op==4)||((AJ l s).op==6)),.bool (((AJ l s).op==5)||((AJ l s).op==6)),.int .i64 (BU old ((AJ l s).sz)),.z9,.bool ((AJ l s).acq),.bool ((AJ l s).weak),.bool ((AJ l s).rel),.int .i64 ((AJ l s).pred),.int .i64 ((AJ l s).succ)]),some (.blk [.int .i64 ((s.at_:Nat):Int)]),some (.row 3 1 (ps.length+1) 0 (DX (ps++[((s.at_:Nat):Int)])))])] A rfl rfl rfl rfl (by kernel_rfl) ⟨trivial,⟨Ll (i:=2) hX (ps.length+1) (DX (ps++[((s.at_:Nat):Int)])) rfl rfl rfl rfl (by omega) rfl (fun k hk=>by show [SV.int .i64 _]=[SV.int .i64 _];rw [i6 hk]) (by show [SV.int .i64 _]=_;rw [Dt]) (fun z=>⟨_,rfl,rfl⟩),⟨trivial,trivial⟩⟩⟩ trivial fun A=>N9 14 A rfl (iU (by omega)<|iT) fun A=>N9 6 A rfl rfl fun A=>have A:=A.thSay 1 7 (r':=Hi s.r (AJ l s) old) (at':=(((s.at_+1:Nat):Nat):Int)) (m':=(ps++[((s.at_:Nat):Int)]).length) rfl rfl (by unfold Hi;rw [if_pos h6]) (by omega) (by rw [List.length_append];rfl) rfl;kV (J:=qY l ao cp s L pb ps old) hX (B.trans A) rfl rfl rfl rfl ⟨Hk (z:=⟨s.at_+1,Hi s.r (AJ l s) old⟩) (Sy.giveT (B.trans A) 1 7 (A.at_pre nO) rfl rfl rfl rfl) rfl (by rw [List.length_append];show ps.length+1≤s.at_+1;omega),(by simp only [AX,YY,T2,T3,LK,RU,if_pos h1,if_pos h2,if_neg h3,if_neg h4,if_pos h6])⟩)
      (fun h6 A=>False.elim (by simp only [Bool.or_eq_true,Bool.or_eq_false_iff,beq_iff_eq,beq_eq_false_iff_ne,ne_eq]at h1 h2 h6;omega)))))
   (fun h2 A=>N9 11 A rfl rfl fun A=>AN 58 A rfl
    (fun h7 A=>N9 1 A rfl rfl fun A=>Aq hX BK [(5,.int .i64 (BU (E8 s.r (AJ l s)) ((AJ l s).sz)))] [(2,.int .i64 (E8 s.r (AJ l s)),[none,some (.blk [.sla ao l.length cp,.int .i64 (s.r 0),.int .i64 (s.r 1),.int .i64 (s.r 2),.int .i64 (s.r 3),.int .i64 (s.r 4),.int .i64 (s.r 5),.int .i64 (s.r 6),.int .i64 (s.r 7),.int .i64 ((s.at_:Nat):Int),.sl 2 ps.length 0]),some (.row 3 1 ps.length 0 (DX ps)),some (.blk [.z9,.z9,.z9,.z9,.z9,.z9,.ff,.ff,.z9,.z9,.ff,.ff,.ff,.z9,.z9]),some (.blk (AS (AJ l s))),some (.blk [.z9,.int .i64 ((ps.length:Nat):Int),.int .i64 ((s.at_:Nat):Int),.int .i64 ((AJ l s).op),.int .i64 ((AJ l s).loc),.int .i64 (A7 (AU (AJ l s).off (CV s.r (AJ l s).ix 0) (AJ l s).sz) (AJ l s).sz),.bool (((AJ l s).op==4)||((AJ l s).op==6)),.bool (((AJ l s).op==5)||((AJ l s).op==6)),.z9,.z9,.bool ((AJ l s).acq),.bool ((AJ l s).weak),.bool ((AJ l s).rel),.int .i64 ((AJ l s).pred),.int .i64 ((AJ l s).succ)])])] A rfl rfl rfl rfl (by kernel_rfl) ⟨DV [1,2] (VW l ao cp ((s.at_:Nat):Int) s.r ps (AJ l s) (by have q3:=JE h1;first|(have h5:=hs.a5 (by omega);omega)|(have h6:=hs.a (by omega);omega))) rfl rfl rfl rfl rfl rfl rfl,⟨trivial,trivial⟩⟩ ⟨.inl ⟨_,_,rfl,rfl,OR (E8 s.r (AJ l s)) ((AJ l s).sz) (by have q3:=JE h1;exact hc.szs i7 (by show _∨_∨_;first|exact q3|(have q4:(AJ l s).op=4∨(AJ l s).op=5∨(AJ l s).op=6:=(by omega);exact q4)))⟩,trivial⟩ fun A=>N9 9 A rfl rfl fun A=>AN 68 A rfl
     (fun h8 A=>False.elim (by simp only [Bool.or_eq_true,Bool.or_eq_false_iff,beq_iff_eq,beq_eq_false_iff_ne,ne_eq]at h1 h2;omega))
     (fun h8 A=>N9 10 A rfl rfl fun A=>fork 81 A rfl
      (fun h9 A=>False.elim (by simp only [Bool.or_eq_true,Bool.or_eq_false_iff,beq_iff_eq,beq_eq_false_iff_ne,ne_eq]at h1 h2 h9;omega))
      (fun h9 A=>N9 4 A rfl rfl fun A=>Aq hX BK [] [(10,.sl 7 (ps.length+1) 0,[none,some (.blk [.sla ao l.length cp,.int .i64 (s.r 0),.int .i64 (s.r 1),.int .i64 (s.r 2),.int .i64 (s.r 3),.int .i64 (s.r 4),.int .i64 (s.r 5),.int .i64 (s.r 6),.int .i64 (s.r 7),.int .i64 ((s.at_:Nat):Int),.sl 2 ps.length 0]),none,some (.blk [.z9,.z9,.z9,.z9,.z9,.z9,.ff,.ff,.z9,.z9,.ff,.ff,.ff,.z9,.z9]),some (.blk (AS (AJ l s))),some (.blk [.z9,.int .i64 ((ps.length:Nat):Int),.int .i64 ((s.at_:Nat):Int),.int .i64 ((AJ l s).op),.int .i64 ((AJ l s).loc),.int .i64 (A7 (AU (AJ l s).off (CV s.r (AJ l s).ix 0) (AJ l s).sz) (AJ l s).sz),.bool (((AJ l s).op==4)||((AJ l s).op==6)),.bool (((AJ l s).op==5)||((AJ l s).op==6)),.z9,.int .i64 (BU (E8 s.r (AJ l s)) ((AJ l s).sz)),.bool ((AJ l s).acq),.bool ((AJ l s).weak),.bool ((AJ l s).rel),.int .i64 ((AJ l s).pred),.int .i64 ((AJ l s).succ)]),some (.blk [.int .i64 ((s.at_:Nat):Int)]),some (.row 3 1 (ps.length+1) 0 (DX (ps++[((s.at_:Nat):Int)])))])] A rfl rfl rfl rfl (by kernel_rfl) ⟨trivial,⟨Ll (i:=2) hX (ps.length+1) (DX (ps++[((s.at_:Nat):Int)])) rfl rfl rfl rfl (by omega) rfl (fun k hk=>by show [SV.int .i64 _]=[SV.int .i64 _];rw [i6 hk]) (by show [SV.int .i64 _]=_;rw [Dt]) (fun z=>⟨_,rfl,rfl⟩),⟨trivial,trivial⟩⟩⟩ trivial fun A=>N9 14 A rfl (iU (by omega)<|iT) fun A=>N9 6 A rfl rfl fun A=>have A:=A.thSay 1 7 (r':=Hi s.r (AJ l s) old) (at':=(((s.at_+1:Nat):Nat):Int)) (m':=(ps++[((s.at_:Nat):Int)]).length) rfl rfl (by unfold Hi;rw [if_neg (ne_true_of_eq_false h9)]) (by omega) (by rw [List.length_append];rfl) rfl;kV (J:=qY l ao cp s L pb ps old) hX (B.trans A) rfl rfl rfl rfl ⟨Hk (z:=⟨s.at_+1,Hi s.r (AJ l s) old⟩) (Sy.giveT (B.trans A) 1 7 (A.at_pre nO) rfl rfl rfl rfl) rfl (by rw [List.length_append];show ps.length+1≤s.at_+1;omega),(by simp only [AX,YY,T2,T3,LK,RU,if_pos h1,if_neg (ne_true_of_eq_false h2),if_pos h7,if_neg h8,if_neg (ne_true_of_eq_false h9)])⟩)))
    (fun h7 A=>False.elim (by simp only [Bool.or_eq_true,Bool.or_eq_false_iff,beq_iff_eq,beq_eq_false_iff_ne,ne_eq]at h1 h2;omega))))
  (fun h1 A=>N9 10 A rfl rfl fun A=>fork 50 A rfl
   (fun kH A=>False.elim (by simp only [Bool.or_eq_true,Bool.or_eq_false_iff,beq_iff_eq,beq_eq_false_iff_ne,ne_eq]at h1 kH;omega))
   (fun kH A=>N9 11 A rfl rfl fun A=>AN 58 A rfl
    (fun kF A=>False.elim (by simp only [Bool.or_eq_true,Bool.or_eq_false_iff,beq_iff_eq,beq_eq_false_iff_ne,ne_eq]at h1 kH;omega))
    (fun kF A=>N9 11 A rfl rfl fun A=>AN 68 A rfl
     (fun mA A=>False.elim (by simp only [Bool.or_eq_true,Bool.or_eq_false_iff,beq_iff_eq,beq_eq_false_iff_ne,ne_eq]at h1 kH;omega))
     (fun mA A=>N9 10 A rfl rfl fun A=>fork 81 A rfl
      (fun lU A=>False.elim (by simp only [Bool.or_eq_true,Bool.or_eq_false_iff,beq_iff_eq,beq_eq_false_iff_ne,ne_eq]at h1 kH lU;omega))
      (fun lU A=>N9 4 A rfl rfl fun A=>Aq hX BK [] [(10,.sl 7 (ps.length+1) 0,[none,some (.blk [.sla ao l.length cp,.int .i64 (s.r 0),.int .i64 (s.r 1),.int .i64 (s.r 2),.int .i64 (s.r 3),.int .i64 (s.r 4),.int .i64 (s.r 5),.int .i64 (s.r 6),.int .i64 (s.r 7),.int .i64 ((s.at_:Nat):Int),.sl 2 ps.length 0]),none,some (.blk [.z9,.z9,.z9,.z9,.z9,.z9,.ff,.ff,.z9,.z9,.ff,.ff,.ff,.z9,.z9]),some (.blk (AS (AJ l s))),some (.blk [.z9,.int .i64 ((ps.length:Nat):Int),.int .i64 ((s.at_:Nat):Int),.int .i64 ((AJ l s).op),.z9,.z9,.bool (((AJ l s).op==4)||((AJ l s).op==6)),.bool (((AJ l s).op==5)||((AJ l s).op==6)),.z9,.z9,.bool ((AJ l s).acq),.bool ((AJ l s).weak),.bool ((AJ l s).rel),.int .i64 ((AJ l s).pred),.int .i64 ((AJ l s).succ)]),some (.blk [.int .i64 ((s.at_:Nat):Int)]),some (.row 3 1 (ps.length+1) 0 (DX (ps++[((s.at_:Nat):Int)])))])] A rfl rfl rfl rfl (by kernel_rfl) ⟨trivial,⟨Ll (i:=2) hX (ps.length+1) (DX (ps++[((s.at_:Nat):Int)])) rfl rfl rfl rfl (by omega) rfl (fun k hk=>by show [SV.int .i64 _]=[SV.int .i64 _];rw [i6 hk]) (by show [SV.int .i64 _]=_;rw [Dt]) (fun z=>⟨_,rfl,rfl⟩),⟨trivial,trivial⟩⟩⟩ trivial fun A=>N9 14 A rfl (iU (by omega)<|iT) fun A=>N9 6 A rfl rfl fun A=>have A:=A.thSay 1 7 (r':=Hi s.r (AJ l s) old) (at':=(((s.at_+1:Nat):Nat):Int)) (m':=(ps++[((s.at_:Nat):Int)]).length) rfl rfl (by unfold Hi;rw [if_neg (ne_true_of_eq_false lU)]) (by omega) (by rw [List.length_append];rfl) rfl;kV (J:=qY l ao cp s L pb ps old) hX (B.trans A) rfl rfl rfl rfl ⟨Hk (z:=⟨s.at_+1,Hi s.r (AJ l s) old⟩) (Sy.giveT (B.trans A) 1 7 (A.at_pre nO) rfl rfl rfl rfl) rfl (by rw [List.length_append];show ps.length+1≤s.at_+1;omega),(by simp only [AX,YY,T2,T3,LK,RU,if_neg (ne_true_of_eq_false h1),if_neg (ne_true_of_eq_false kH),if_neg kF,if_neg mA,if_neg (ne_true_of_eq_false lU)])⟩)))))
end Go.Proofs.YtbbdanhpphlbpaaGreatDoor.Mc
namespace Go.Proofs.YtbbdanhpphlbpaaGreatDoor.Mc
open Go.RowKit
theorem JF {L:Loc}{cs:List SV}{pb:Option (Nat×Nat)}{ps:List Int}{w w':World}{ks:List Nat}(h:FQ L cs pb ps w)(m:CR ks w w')(hk:∀b,(L.b::F4 pb).contains b=true→ks.contains b=false):FQ L cs pb ps w':=by
 obtain⟨vs,h1,h2⟩:=h.blk
 refine⟨⟨vs,h1,h2.mix m (hk _ (by simp))⟩,?_,h.ne⟩
 cases pb with
 |none=>exact h.path
 | some q=>
  obtain⟨g1,xs,g2,g3⟩:Bm 3 1 ps.length (DX ps) q.1 q.2 w:=h.path
  exact⟨g1,xs,g2,KY g3 m (fun k hv=>by
   have:k=q.1:=by simpa [Value.ownBlock]using hv.symm
   subst this
   exact hk _ (by simp [F4]))⟩
theorem Fk {L:Loc}{cs:List SV}{pb:Option (Nat×Nat)}{ps:List Int}{w:World}(h:FQ L cs pb ps w):∀b,(L.b::F4 pb).contains b=true→b<w.heap.size:=fun b hb=>by
 obtain⟨vs,h1,h2⟩:=h.blk
 cases pb with
 |none=>
  have:b=L.b:=by simpa [F4]using hb
  subst this;exact h2.lt
 |some q=>
  obtain⟨g1,xs,g2,g3⟩:Bm 3 1 ps.length (DX ps) q.1 q.2 w:=h.path
  have:b=L.b∨b=q.1:=by simpa [F4]using hb
  rcases this with rfl|rfl
  ·exact h2.lt
  ·exact(KV g3 _ (by simp [Value.ownBlock])).2
structure Tr where (L:Loc) (pb:Option (Nat×Nat)) (ps:List Int)
def Tr.z:Tr:=⟨⟨0,[],[],0⟩,none,[]⟩
abbrev Tr.bl (t:Tr):List Nat:=t.L.b::F4 t.pb
structure JT (cs:List AD)(ts:List Th)(tr:List Tr)(N:Nat)(w:World)(ks:List Nat):Prop where
 out:∀k,k<tr.length→FQ (tr.getD k Tr.z).L (PJ (.sla (cs.getD k AD.z).ao (cs.getD k AD.z).l.length (cs.getD k AD.z).cp) (ts.getD k Th.z).r (((ts.getD k Th.z).at_:Nat):Int)) (tr.getD k Tr.z).pb (tr.getD k Tr.z).ps w
 len:∀k,k<tr.length→(tr.getD k Tr.z).ps.length≤(ts.getD k Th.z).at_
 lo:∀k,k<tr.length→∀b,(tr.getD k Tr.z).bl.contains b=true→N≤b∧ks.contains b=false
 ap:∀j k,j<tr.length→k<tr.length→j≠k→∀b,(tr.getD j Tr.z).bl.contains b=true→(tr.getD k Tr.z).bl.contains b=false
theorem JT.ok {cs:List AD}{ts:List Th}{tr:List Tr}{N:Nat}:Dd.OK (JT cs ts tr N):=fun w ks w' ks' h m hk=>by
 have hm:∀k,k<tr.length→∀b,(tr.getD k Tr.z).bl.contains b=true→ks.contains b=false:=fun k hk b hb=>(h.lo k hk b hb).2
 refine⟨fun k jQ=>JF (h.out k jQ) m (hm k jQ),h.len,fun k jQ b hb=>⟨(h.lo k jQ b hb).1,?_⟩,h.ap⟩
 cases hz:ks'.contains b with
 |false=>rfl
 |true=>
  rcases hk b hz with q|q
  ·rw [hm k jQ b hb]at q;cases q
  ·have:=Fk (h.out k jQ) b hb;omega
theorem JT.set {cs:List AD}{ts:List Th}{tr:List Tr}{N j:Nat}{w w':World}{ks:List Nat}{s':Th}{x:SV}(h:JT cs ts tr N w ks)(hj:j<tr.length)(mP:tr.length≤ts.length)(hN:N≤w.heap.size)(nV:∀b,ks.contains b=true→b<w.heap.size)(m:CR (tr.getD j Tr.z).bl w w')(hJ:Zw (tr.getD j Tr.z).L (cs.getD j AD.z).l (cs.getD j AD.z).ao (cs.getD j AD.z).cp s' (tr.getD j Tr.z).pb x w w'):
  ∃pb ps,JT cs (ts.set j s') (tr.set j ⟨(tr.getD j Tr.z).L,pb,ps⟩) N w' ks∧∀b,((tr.getD j Tr.z).L.b::F4 pb).contains b=true→(tr.getD j Tr.z).bl.contains b=true∨w.heap.size≤b:=by
 obtain⟨pb,ps,h1,h2,h3⟩:=hJ
 have lg:∀{α:Type} (l:List α) (x d:α),j<l.length→(l.set j x).getD j d=x:=fun l x d hl=>by simp [List.getD,hl]
 have ln:∀{α:Type} (l:List α) (x d:α) (k:Nat),k≠j→(l.set j x).getD k d=l.getD k d:=fun l x d k hk=>by simp [List.getD,List.getElem?_set_ne (Ne.symm hk)]
 have hb:∀b,((tr.getD j Tr.z).L.b::F4 pb).contains b=true→(tr.getD j Tr.z).bl.contains b=true∨w.heap.size≤b:=fun b hb=>by
  rw [List.contains_cons,Bool.or_eq_true]at hb
  rcases hb with hb|hb
  ·exact .inl (by rw [List.contains_cons,hb];rfl)
  ·exact h3 b hb
 refine⟨pb,ps,⟨?_,?_,?_,?_⟩,hb⟩
 ·intro k hk
  rw [List.length_set]at hk
  by_cases e:k=j
  ·subst e;rw [lg _ _ _ hk,lg _ _ _ (by omega)];exact h1
  ·rw [ln _ _ _ k e,ln _ _ _ k e]
   exact JF (h.out k hk) m (h.ap k j hk hj e)
 ·intro k hk
  rw [List.length_set]at hk
  by_cases e:k=j
  ·subst e;rw [lg _ _ _ hk,lg _ _ _ (by omega)];exact h2
  ·rw [ln _ _ _ k e,ln _ _ _ k e];exact h.len k hk
 ·intro k hk b lH
  rw [List.length_set]at hk
  by_cases e:k=j
  ·subst e
   rw [lg _ _ _ hk]at lH
   rcases hb b lH with q|q
   ·exact h.lo k hk b q
   ·refine⟨by omega,?_⟩
    cases hz:ks.contains b with
    |false=>rfl
    |true=>have:=nV b hz;omega
  ·rw [ln _ _ _ k e]at lH;exact h.lo k hk b lH
 ·intro i k hi hk oZ b lH
  rw [List.length_set]at hi hk
  by_cases e:i=j
  ·subst e
   rw [lg _ _ _ hi]at lH
   rw [ln _ _ _ k (Ne.symm oZ)]
   rcases hb b lH with q|q
   ·exact h.ap i k hi hk oZ b q
   ·cases hz:(tr.getD k Tr.z).bl.contains b with
    |false=>rfl
    |true=>have:=Fk (h.out k hk) b hz;omega
  ·rw [ln _ _ _ i e]at lH
   by_cases e2:k=j
   ·subst e2
    rw [lg _ _ _ hk]
    cases hz:((tr.getD k Tr.z).L.b::F4 pb).contains b with
    |false=>rfl
    |true=>
     rcases hb b hz with q|q
     ·have:=h.ap i k hi hk oZ b lH;rw [q]at this;cases this
     ·have:=Fk (h.out i hi) b lH;omega
   ·rw [ln _ _ _ k e2];exact h.ap i k hi hk oZ b lH
theorem JT.add {cs:List AD}{ts:List Th}{tr:List Tr}{N:Nat}{w:World}{ks:List Nat}{t:Tr}(h:JT cs ts tr N w ks)(ho:FQ t.L (PJ (.sla (cs.getD tr.length AD.z).ao (cs.getD tr.length AD.z).l.length (cs.getD tr.length AD.z).cp) (ts.getD tr.length Th.z).r (((ts.getD tr.length Th.z).at_:Nat):Int)) t.pb t.ps w)(hl:t.ps.length≤(ts.getD tr.length Th.z).at_)(hb:∀b,t.bl.contains b=true→N≤b∧ks.contains b=false)(ha:∀k,k<tr.length→∀b,(tr.getD k Tr.z).bl.contains b=true→t.bl.contains b=false):JT cs ts (tr++[t]) N w ks:=by
 have gl:∀k,k<tr.length→(tr++[t]).getD k Tr.z=tr.getD k Tr.z:=fun k hk=>by simp [List.getD,List.getElem?_append_left hk]
 have gn:(tr++[t]).getD tr.length Tr.z=t:=by simp [List.getD]
 have cse:∀k,k<(tr++[t]).length→k<tr.length∨k=tr.length:=fun k hk=>by simp at hk;omega
 refine⟨fun k hk=>?_,fun k hk=>?_,fun k hk=>?_,fun j k hj hk kQ b lH=>?_⟩
 ·rcases cse k hk with q|rfl
  ·rw [gl k q];exact h.out k q
  ·rw [gn];exact ho
 ·rcases cse k hk with q|rfl
  ·rw [gl k q];exact h.len k q
  ·rw [gn];exact hl
 ·rcases cse k hk with q|rfl
  ·rw [gl k q];exact h.lo k q
  ·rw [gn];exact hb
 ·rcases cse j hj with q|rfl
  ·rw [gl j q]at lH
   rcases cse k hk with q2|rfl
   ·rw [gl k q2];exact h.ap j k q q2 kQ b lH
   ·rw [gn];exact ha j q b lH
  ·rw [gn]at lH
   rcases cse k hk with q2|rfl
   ·rw [gl k q2]
    cases hz:(tr.getD k Tr.z).bl.contains b with
    |false=>rfl
    |true=>rw [ha k q2 b hz]at lH;cases lH
   ·exact absurd rfl kQ
theorem JT.i0 {cs:List AD}{ts:List Th}{N:Nat}{w:World}{ks:List Nat}:JT cs ts [] N w ks:=⟨fun k hk=>(by cases hk),fun k hk=>(by cases hk),fun k hk=>(by cases hk),fun j k hj=>(by cases hj)⟩
def T5 (H:Hp):Bool:=H.all fun x=>match x with|some e=>e.mut|none=>true
theorem Gz {H:Hp}{G:Gr}{w:World}(h:Mem H G w){b:Nat}(hb:(keys H G).contains b=true):b<w.heap.size:=by
 obtain⟨i,e,L,h1,h2,h3,h4⟩:=mem_keys.1 hb
 have:=h.ent i e h1
 rw [h3]at this
 rw [←h4];exact Ae.lt this (At h2)
def OZ (H:Hp)(G:Gr)(N:Nat):Prop:=∀(i:Nat) (e:A6) (L:Loc),H[i]?=some (some e)→e.mut=false→G[i]?=some (some L)→¬e.empty→L.b<N
theorem gM {H0 H:Hp}{G0 G:Gr}{w0:World}(k:Nat)(hM:Mem H0 G0 w0)(hp:∃F,G=G0++F)(ht:H.take k=H0.take k)(hm:T5 (H.drop k)=true):OZ H G w0.heap.size:=fun i e L h1 h2 h3 h4=>by
 by_cases hi:i<k
 ·have h5:H0[i]?=some (some e):=by
   have:(H.take k)[i]?=(H0.take k)[i]?:=by rw [ht]
   rw [List.getElem?_take_of_lt hi,List.getElem?_take_of_lt hi]at this
   rw [←this];exact h1
  obtain⟨F,rfl⟩:=hp
  rw [List.getElem?_append_left (by rw [←hM.len];exact(List.getElem?_eq_some_iff.1 h5).1)]at h3
  have h6:=hM.ent i e h5
  rw [h3]at h6
  exact Ae.lt h6 h4
 ·exfalso
  have h5:(H.drop k)[i - k]?=some (some e):=by rw [List.getElem?_drop,show k+(i - k)=i by omega];exact h1
  have:=List.all_eq_true.1 hm _ (List.mem_of_getElem? h5)
  simp only at this;rw [h2]at this;cases this
section
variable {cs cs2:List AD}{ts:List Th}{tr z:List Tr}{N nn:Nat}{w w':World}{ks:List Nat}
theorem JT.off {H:Hp}{G:Gr}(h:JT cs ts tr N w (keys H G))(i7:OZ H G N){j:Nat}(hj:j<tr.length):I3 H G (tr.getD j Tr.z).bl:=fun i e L q1 q2 q3=>by
 cases hz:(tr.getD j Tr.z).bl.contains L.b with
 |false=>rfl
 |true=>
  obtain⟨h1,h2⟩:=h.lo j hj _ hz
  cases hm:e.mut with
  |true=>rw [mem_keys.2 ⟨i,e,L,q1,hm,q2,rfl⟩]at h2;cases h2
  |false=>have:=i7 i e L q1 hm q2 q3;omega
theorem JT.mixo (h:JT cs ts tr N w ks){bs:List Nat}(m:CR bs w w')(hd:∀k,k<tr.length→∀b,(tr.getD k Tr.z).bl.contains b=true→bs.contains b=false):JT cs ts tr N w' ks:=⟨fun k hk=>JF (h.out k hk) m (hd k hk),h.len,h.lo,h.ap⟩
theorem JT.get (h:JT cs ts tr N w ks){j:Nat}(hj:j<tr.length){s:Th}(e:ts.getD j Th.z=s){L:Loc}(eL:(tr.getD j Tr.z).L=L):FQ L (PJ (.sla (cs.getD j AD.z).ao (cs.getD j AD.z).l.length (cs.getD j AD.z).cp) s.r ((s.at_:Nat):Int)) (tr.getD j Tr.z).pb (tr.getD j Tr.z).ps w:=by
 subst e;subst eL;exact h.out j hj
theorem JT.look2 (h:JT cs ts tr N w ks)(rY:AH cs2 w ks)(hc:AH cs w ks)(hn:tr.length=nn)(hl:nn≤cs.length)(heq:∀k,k<nn→(cs2.getD k AD.z).l=(cs.getD k AD.z).l)(hL:∀k,k<nn→(tr.getD k Tr.z).L=(z.getD k Tr.z).L):Zx cs2 ts nn (fun k=>(z.getD k Tr.z).L.b) (fun k=>(z.getD k Tr.z).L.pre.length) (fun k=>(cs.getD k AD.z).ao) (fun k=>(cs.getD k AD.z).cp) (fun k=>J7 (tr.getD k Tr.z).pb (tr.getD k Tr.z).ps.length) w ks:=
 ⟨rY,fun k hk=>by
  rw [heq k hk]
  have h1:=(h.out k (by omega)).lst (h.lo k (by omega) _ (by simp)).2
  rw [hL k hk]at h1
  exact⟨h1,hc.at (by omega)⟩⟩
theorem RV (hC:AH cs w ks){n:Nat}{T:List (Nat×SV)}{H:Hp}{G0 G:Gr}{a:Act}(A:Sy n T H ks G0 w G a w'){k:Nat}(hk:k<cs.length){bs:List Nat}(hb:∀b,bs.contains b=true→w.heap.size≤b):Em (cs.getD k AD.z).ao (cs.getD k AD.z).l w' bs:=
 AK.ok _ _ _ _ (hC.at hk) A.mix fun b h=>.inr (hb b h)
end
theorem VZ {P:Program} {n:Nat} {ks:List Nat} {G0:Gr} {w0:World} {T:List (Nat×SV)} {H:Hp} {G:Gr} {a:Act} {w:World} {Q:Prop} (i t:Nat) {cs:List SV} {vs:List Value} {H':Hp} (A:Sy n T H ks G0 w0 G a w) (hi:lg H i=some (some (.blk cs))) (hc:AE [] cs=some vs) (ht:look T t=some (.ptr i 0)) (hH:Br H i none=H')
  (k:∀L:Loc,Sy n ((t,E3 L.b L.pre.length)::T) H' ks G0 w0 G a w→DR w L.b (L.pre++vs++L.post).toArray L.t→(keys H' G).contains L.b=false→I3 H' G [L.b]→(ks.contains L.b=true∨w0.heap.size≤L.b)→G[i]?=some (some L)→Q):Q:=by
 subst hH
 rw [Ah]at hi
 obtain⟨L,us,p1,p2,p3⟩:=A.mem.ent i _ hi
 have j0:G[i]?=some (some L):=by
  cases hz:G[i]? with
  |none=>rw [hz]at p1;cases p1
  |some p=>rw [hz]at p1;simp only [Option.getD_some]at p1;rw [p1]
 have hu:us=vs:=by
  have:AE G cs=some vs:=by simpa using Al G cs hc
  rw [this]at p2;exact(Option.some.inj p2).symm
 subst hu
 have hold:∀(j:Nat) (e:A6),(Br H i none)[j]?=some (some e)→j≠i∧H[j]?=some (some e):=by
  intro j e h
  rw [Ag]at h
  by_cases hj:j=i
  ·subst hj;rw [List.getElem?_set_self (List.getElem?_eq_some_iff.1 hi).1]at h;cases h
  ·rw [List.getElem?_set_ne (Ne.symm hj)]at h;exact⟨hj,h⟩
 have jM:I3 (Br H i none) G [L.b]:=fun j e M q1 q2 q3=>by
  obtain⟨k1,k2⟩:=hold j e q1
  have:=A.mem.sep i j _ e L M (Ne.symm k1) hi k2 rfl j0 q2 q3
  simp [Ne.symm this]
 refine k L ((A.hide i).slotEq t ht (by unfold den;rw [j0];rfl)) p3 ?_ jM (A.own i _ L hi rfl j0) j0
 cases hz:(keys (Br H i none) G).contains L.b with
 |false=>rfl
 |true=>
  obtain⟨j,e,M,g1,g2,g3,g4⟩:=mem_keys.1 hz
  have:=jM j e M g1 g3 (At g2)
  rw [g4]at this
  simp at this
theorem RW {G:Gr}{i:Nat}{L:Loc}(h:G[i]?=some (some L)):AE G [E3 L.b L.pre.length]=AE G [.ptr i 0]:=by
 unfold AE AE den;rw [h];rfl
theorem RX {H:Hp}{G F:Gr}{r:Hp}(hl:H.length=G.length){b:Nat}(h:(keys H G).contains b=true):(keys (H++r) (G++F)).contains b=true:=by
 obtain⟨i,e,L,h1,h2,h3,h4⟩:=mem_keys.1 h
 have hi:=(List.getElem?_eq_some_iff.1 h1).1
 exact mem_keys.2 ⟨i,e,L,by rw [List.getElem?_append_left hi];exact h1,h2,by rw [List.getElem?_append_left (by omega)];exact h3,h4⟩
section
variable {n:Nat}{ks:List Nat}{G0:Gr}{w0:World}{T:List (Nat×SV)}{H:Hp}{G:Gr}{a:Act}{w:World}{ops:Array Oper}{o:Oper}{rest:List Oper}{Q:Exit→Act→World→Prop}{K:List Fr}{cs cs2:List AD}{ts:List Th}{tr z:List Tr}{nn:Nat}
theorem Z3 {nB:Nat} {TB:List (Nat×SV)} {Gr_:Gr} {aB:Act} {wr:World} {rg:Nat→Rg} {cells:List SV} (t:Nat) (B:Sy nB TB H ks G0 w0 Gr_ aB wr) (A:Sy n T (H++[some (.blk cells)]) (keys H Gr_) Gr_ wr G a w) (hz:JT cs (Ac cs rg) z w0.heap.size wr (keys H Gr_)) (hk:z.length<cs.length) (hC:AH cs w0 ks) (hc:E6 (cs.getD z.length AD.z).l) (i7:OZ (H++[none]) G w0.heap.size)
  (xN:cells=PJ (.sla (cs.getD z.length AD.z).ao (cs.getD z.length AD.z).l.length (cs.getD z.length AD.z).cp) (rg z.length) 0++[.sla none 0 0]) (ht:look T t=some (.ptr H.length 0))
  (h1:∀L:Loc,BS n ops ((t,E3 L.b L.pre.length)::T) o=some (54,[E3 L.b L.pre.length]))
  (k:∀L pb ps {a' w' x},JT cs (Ac cs rg) (z++[⟨L,pb,ps⟩]) w0.heap.size w' (keys (H++[none]) G)→G[H.length]?=some (some L)→Sy n (Ay ((t,E3 L.b L.pre.length)::T) o.dst x) (H++[none]) ks G0 w0 G a' w'→Goal Tryz.prog Q K (.ops ops rest) a' w'):Goal Tryz.prog Q K (.ops ops (o::rest)) a w:=by
 subst xN
 have xO:=B.mem.len
 have lQ:Br (H++[some (A6.blk (PJ (.sla (cs.getD z.length AD.z).ao (cs.getD z.length AD.z).l.length (cs.getD z.length AD.z).cp) (rg z.length) 0++[.sla none 0 0]))]) H.length none=H++[none]:=by rw [Ag];simp
 have mW:lg (H++[some (A6.blk (PJ (.sla (cs.getD z.length AD.z).ao (cs.getD z.length AD.z).l.length (cs.getD z.length AD.z).cp) (rg z.length) 0++[.sla none 0 0]))]) H.length=some (some (.blk (PJ (.sla (cs.getD z.length AD.z).ao (cs.getD z.length AD.z).l.length (cs.getD z.length AD.z).cp) (rg z.length) 0++[.sla none 0 0]))):=by rw [Ah];simp
 refine VZ (P:=Tryz.prog) H.length t (vs:=[.slice (cs.getD z.length AD.z).ao (cs.getD z.length AD.z).l.length (cs.getD z.length AD.z).cp,.int .i64 (rg z.length 0),.int .i64 (rg z.length 1),.int .i64 (rg z.length 2),.int .i64 (rg z.length 3),.int .i64 (rg z.length 4),.int .i64 (rg z.length 5),.int .i64 (rg z.length 6),.int .i64 (rg z.length 7),.int .i64 0,.slice none 0 0]) A mW rfl ht lQ fun L A2 xP sT jM jX j0=>?_
 have sU:(keys H Gr_).contains L.b=false:=by
  cases hq:(keys H Gr_).contains L.b with
  |false=>rfl
  |true=>
   obtain⟨F,hF⟩:=A2.pre
   have:=RX (r:=[none]) (F:=F) xO hq
   rw [←hF,sT]at this;cases this
 have yX:wr.heap.size≤L.b:=jX.elim (fun h=>by rw [sU]at h;cases h) id
 have hN:=B.mix.size
 have sM:=JT.ok.now A2 hz
 have pF:∀k,k<z.length→∀b,(z.getD k Tr.z).bl.contains b=true→[L.b].contains b=false:=fun k jQ b hb=>by
  have:=Fk (hz.out k jQ) b hb
  have:b≠L.b:=by omega
  simp [this]
 have jO:∀b,[L.b].contains b=true→w0.heap.size≤b:=fun b hb=>by
  have:b=L.b:=by simpa using hb
  omega
 have A3:=B.trans A2
 refine J3 [] (OY (cs.getD z.length AD.z).l (cs.getD z.length AD.z).ao (cs.getD z.length AD.z).cp ⟨0,rg z.length⟩ L none [] hc (Nat.zero_le _) (Nat.zero_le _)) A3 ⟨⟨⟨_,rfl,xP⟩,rfl,fun q h=>by cases h⟩,RV hC A3 hk jO⟩ jM (fun b hb=>.inr (jO b hb)) (h1 L) rfl rfl rfl rfl fun{x a' w'} hm hJ A'=>?_
 obtain⟨pb,ps,j1,j2,j3⟩:=hJ
 have mD:=sM.mixo hm pF
 refine k L pb ps (mD.add (t:=⟨L,pb,ps⟩) ?_ ?_ (fun b hb=>?_) (fun q hq b hb=>?_)) j0 A'
 ·show FQ L _ pb ps w'
  rw [Ib hk];exact j1
 ·rw [Ib hk];exact j2
 ·rw [List.contains_cons,Bool.or_eq_true]at hb
  rcases hb with hb|hb
  ·have:b=L.b:=by simpa using hb
   subst this
   exact⟨by omega,sT⟩
  ·rcases j3 b hb with q|q
   ·have:b=L.b:=by simpa [F4]using q
    subst this
    exact⟨by omega,sT⟩
   ·have hw:=A3.mix.size
    refine⟨by omega,?_⟩
    cases hq:(keys (H++[none]) G).contains b with
    |false=>rfl
    |true=>have:=Gz A2.mem hq;omega
 ·have yY:=Fk (hz.out q hq) b hb
  have n5:=Fk (sM.out q hq) b hb
  cases hx:(Tr.mk L pb ps).bl.contains b with
  |false=>rfl
  | true=>
   rw [List.contains_cons,Bool.or_eq_true]at hx
   rcases hx with hx|hx
   ·have:b=L.b:=by simpa using hx
    omega
   ·rcases j3 b hx with q|q
    ·have:b=L.b:=by simpa [F4]using q
     omega
    ·omega
end
theorem Fl {cs2:List AD}{ts:List Th}{j old:Int}{l:List In}(he:(cs2.getD j.toNat AD.z).l=l)(h:(ts.getD j.toNat Th.z).at_<l.length):(ts.set j.toNat ⟨(ts.getD j.toNat Th.z).at_+1,Hi (ts.getD j.toNat Th.z).r (l.getD (((ts.getD j.toNat Th.z).at_:Nat):Int).toNat In.z) old⟩).set j.toNat (EF l ⟨(ts.getD j.toNat Th.z).at_+1,Hi (ts.getD j.toNat Th.z).r (l.getD (((ts.getD j.toNat Th.z).at_:Nat):Int).toNat In.z) old⟩)=CC cs2 ts j old:=by
 unfold CC Qu
 rw [he,if_neg (by omega),List.set_set];rfl
theorem JT.as {cs:List AD}{ts ts':List Th}{tr:List Tr}{N:Nat}{w:World}{ks:List Nat}(h:JT cs ts tr N w ks)(e:ts=ts'):JT cs ts' tr N w ks:=e▸h
theorem JT.mv {cs:List AD}{ts:List Th}{tr:List Tr}{N:Nat}{w:World}{H H' l:Hp}{G:Gr}{m:List Nat}(h:JT cs ts tr N w (keys H G))(hlen:H.length=G.length)(h1:Ca H m=some l)(h2:Cm m H'=some l):JT cs ts tr N w (keys H' (AY m G)):=JT.ok _ _ _ _ h (CR.refl _ _) (fun b hb=>.inl (BQ hlen h1 h2 b hb))
theorem JT.take {cs:List AD}{ts:List Th}{tr:List Tr}{N:Nat}{w:World}{H:Hp}{G:Gr}(k:Nat)(h:JT cs ts tr N w (keys H G)):JT cs ts tr N w (keys (H.take k) (G.take k)):=JT.ok _ _ _ _ h (CR.refl _ _) (fun b hb=>.inl (by
 obtain⟨i,e,L,h1,h2,h3,h4⟩:=mem_keys.1 hb
 rw [List.getElem?_take]at h1 h3
 split at h1
 ·next hi=>rw [if_pos hi]at h3;exact mem_keys.2 ⟨i,e,L,h1,h2,h3,h4⟩
 ·cases h1))
theorem FR {cs Ez:List AD}{rg:Nat→Rg}(hl:Ez.length=cs.length)(he:∀k,k<cs.length→(Ez.getD k AD.z).l=(cs.getD k AD.z).l):Ac cs rg=Ac Ez rg:=by
 unfold Ac;rw [hl];apply List.map_congr_left;intro k hk;rw [he k (List.mem_range.1 hk)]
theorem iE {z:List Tr}{t:Tr}{k:Nat}(h:k<z.length):(z++[t]).getD k Tr.z=z.getD k Tr.z:=by simp [List.getD,List.getElem?_append_left h]
theorem iF {z:List Tr}{t:Tr}:(z++[t]).getD z.length Tr.z=t:=by simp [List.getD]
theorem XF {α:Type}{l:List α}{j k:Nat}{x d:α}(h:k≠j):(l.set j x).getD k d=l.getD k d:=by simp [List.getD,List.getElem?_set_ne (Ne.symm h)]
theorem XG {α:Type}{l:List α}{j:Nat}{x d:α}(h:j<l.length):(l.set j x).getD j d=x:=by simp [List.getD,h]
def Di (tr:List Tr):List Nat:=tr.flatMap Tr.bl
theorem Cp {tr:List Tr}{b:Nat}:(Di tr).contains b=true↔∃k,k<tr.length∧(tr.getD k Tr.z).bl.contains b=true:=by
 unfold Di
 rw [List.contains_iff_mem,List.mem_flatMap]
 constructor
 ·rintro ⟨t,h1,h2⟩
  obtain⟨k,hk,rfl⟩:=List.mem_iff_getElem.1 h1
  refine⟨k,hk,?_⟩
  rw [List.getD_eq_getElem?_getD,List.getElem?_eq_getElem hk,Option.getD_some]
  exact List.contains_iff_mem.2 h2
 ·rintro ⟨k,hk,h⟩
  rw [List.getD_eq_getElem?_getD,List.getElem?_eq_getElem hk,Option.getD_some]at h
  exact⟨tr[k],List.getElem_mem hk,List.contains_iff_mem.1 h⟩
section
variable {cs cs2:List AD}{ts:List Th}{tr z:List Tr}{N nn:Nat}{w w':World}{ks:List Nat}
theorem JT.one (jt:JT cs ts tr N w ks)(ln:tr.length=nn)(hl:∀k,k<nn→(tr.getD k Tr.z).L=(z.getD k Tr.z).L){j:Nat}(hj:j<nn)(mP:ts.length=nn)(hN:N≤w.heap.size)(nV:∀b,ks.contains b=true→b<w.heap.size){s':Th}{x:SV}(m:CR (tr.getD j Tr.z).bl w w')(hJ:Zw (tr.getD j Tr.z).L (cs.getD j AD.z).l (cs.getD j AD.z).ao (cs.getD j AD.z).cp s' (tr.getD j Tr.z).pb x w w'):
  ∃tr',JT cs (ts.set j s') tr' N w' ks∧tr'.length=nn∧(∀k,k<nn→(tr'.getD k Tr.z).L=(z.getD k Tr.z).L)∧∀b,(Di tr').contains b=true→(Di tr).contains b=true∨w.heap.size≤b:=by
 obtain⟨pb,ps,h,hb⟩:=jt.set (by omega) (by omega) hN nV m hJ
 refine⟨_,h,by rw [List.length_set];exact ln,fun k hk=>?_,fun b lH=>?_⟩
 ·by_cases e:k=j
  ·subst e;rw [I6 (by omega)];exact hl k hk
  ·rw [Qz e];exact hl k hk
 ·obtain⟨k,hk,h2⟩:=Cp.1 lH
  rw [List.length_set]at hk
  by_cases e:k=j
  ·subst e
   rw [XG hk]at h2
   rcases hb b h2 with q|q
   ·exact .inl (Cp.2 ⟨k,hk,q⟩)
   ·exact .inr q
  ·rw [XF e]at h2
   exact .inl (Cp.2 ⟨k,hk,h2⟩)
end
section
variable {n:Nat}{ks:List Nat}{G0:Gr}{w0:World}{T:List (Nat×SV)}{H:Hp}{G:Gr}{a:Act}{w:World}{ops:Array Oper}{o:Oper}{rest:List Oper}{Q:Exit→Act→World→Prop}{K:List Fr}{cs cs2:List AD}{ts:List Th}{tr z:List Tr}{nn N:Nat}
theorem Z4 (A:Sy n T H ks G0 w0 G a w)(jt:JT cs ts tr N w (keys H G)){j:Nat}(hj:j<tr.length)(hm:T5 H=true):I3 H G (tr.getD j Tr.z).bl:=
 Wf A (fun b hb=>(jt.lo j hj b hb).2) (fun i e L h1 h2 h3 h4=>by
  have:=List.all_eq_true.1 hm _ (List.mem_of_getElem? h1)
  simp only at this;rw [h2]at this;cases this)
theorem Va (A:Sy n T H ks G0 w0 G a w) (hC:AH cs w0 ks) (nV:∀b,(Di tr).contains b=true→ks.contains b=true∨w0.heap.size≤b) (jt:JT cs ts tr N w (keys H G)) (hN:N≤w.heap.size) (ln:tr.length=nn) (hl:∀k,k<nn→(tr.getD k Tr.z).L=(z.getD k Tr.z).L) {j:Nat} (hj:j<nn) (mP:ts.length=nn) (lT:nn≤cs.length) (hm:T5 H=true) (hc:E6 (cs.getD j AD.z).l) (old:Int) {s:Th} (hs:ts.getD j Th.z=s) (jY:s.at_<(cs.getD j AD.z).l.length)
  (h1:BS n ops T o=some (64,[E3 (z.getD j Tr.z).L.b (z.getD j Tr.z).L.pre.length,.int .i64 old]))
  (k:∀tr' (p:Int) {a' w'},JT cs (ts.set j ⟨s.at_+1,Hi s.r ((cs.getD j AD.z).l.getD (((s.at_:Nat):Int)).toNat In.z) old⟩) tr' N w' (keys H G)→tr'.length=nn→(∀k,k<nn→(tr'.getD k Tr.z).L=(z.getD k Tr.z).L)→(∀b,(Di tr').contains b=true→ks.contains b=true∨w0.heap.size≤b)→Sy n (Ay T o.dst (.agg (YY s.r ((cs.getD j AD.z).l.getD (((s.at_:Nat):Int)).toNat In.z) p ((s.at_:Nat):Int) old))) H ks G0 w0 G a' w'→Goal Tryz.prog Q K (.ops ops rest) a' w'):Goal Tryz.prog Q K (.ops ops (o::rest)) a w:=by
 have nJ:j<tr.length:=by omega
 have eL:=hl j hj
 rw [←eL]at h1
 have kY:∀b,(tr.getD j Tr.z).bl.contains b=true→ks.contains b=true∨w0.heap.size≤b:=fun b hb=>nV b (Cp.2 ⟨j,nJ,hb⟩)
 have jP:Em (cs.getD j AD.z).ao (cs.getD j AD.z).l w (tr.getD j Tr.z).bl:=AK.ok _ _ _ _ (hC.at (by omega)) A.mix kY
 refine J3 [] (T4 (cs.getD j AD.z).l (cs.getD j AD.z).ao (cs.getD j AD.z).cp s (tr.getD j Tr.z).L (tr.getD j Tr.z).pb (tr.getD j Tr.z).ps old hc jY (by have:=jt.len j nJ;rw [hs]at this;exact this)) A ⟨jt.get nJ hs rfl,jP⟩ (Z4 A jt nJ hm) kY h1 rfl rfl rfl rfl fun{x a' w'} pO hJ A'=>?_
 obtain⟨xQ,rfl⟩:=hJ
 obtain⟨tr',g1,g2,g3,g4⟩:=jt.one ln hl hj mP hN (fun b hb=>Gz A.mem hb) pO xQ
 exact k tr' _ g1 g2 g3 (fun b hb=>(g4 b hb).elim (nV b) (fun q=>.inr (Nat.le_trans A.mix.size q))) A'
theorem K4 (A:Sy n T H ks G0 w0 G a w) (hC:AH cs w0 ks) (nV:∀b,(Di tr).contains b=true→ks.contains b=true∨w0.heap.size≤b) (jt:JT cs ts tr N w (keys H G)) (hN:N≤w.heap.size) (ln:tr.length=nn) (hl:∀k,k<nn→(tr.getD k Tr.z).L=(z.getD k Tr.z).L) {j:Nat} (hj:j<nn) (mP:ts.length=nn) (lT:nn≤cs.length) (hm:T5 H=true) (hc:E6 (cs.getD j AD.z).l) {s:Th} (hs:ts.getD j Th.z=s) (jY:s.at_≤(cs.getD j AD.z).l.length)
  (h1:BS n ops T o=some (54,[E3 (z.getD j Tr.z).L.b (z.getD j Tr.z).L.pre.length]))
  (k:∀tr' {a' w' x},JT cs (ts.set j (EF (cs.getD j AD.z).l s)) tr' N w' (keys H G)→tr'.length=nn→(∀k,k<nn→(tr'.getD k Tr.z).L=(z.getD k Tr.z).L)→(∀b,(Di tr').contains b=true→ks.contains b=true∨w0.heap.size≤b)→Sy n (Ay T o.dst x) H ks G0 w0 G a' w'→Goal Tryz.prog Q K (.ops ops rest) a' w'):Goal Tryz.prog Q K (.ops ops (o::rest)) a w:=by
 have nJ:j<tr.length:=by omega
 have eL:=hl j hj
 rw [←eL]at h1
 have kY:∀b,(tr.getD j Tr.z).bl.contains b=true→ks.contains b=true∨w0.heap.size≤b:=fun b hb=>nV b (Cp.2 ⟨j,nJ,hb⟩)
 have jP:Em (cs.getD j AD.z).ao (cs.getD j AD.z).l w (tr.getD j Tr.z).bl:=AK.ok _ _ _ _ (hC.at (by omega)) A.mix kY
 refine J3 [] (OY (cs.getD j AD.z).l (cs.getD j AD.z).ao (cs.getD j AD.z).cp s (tr.getD j Tr.z).L (tr.getD j Tr.z).pb (tr.getD j Tr.z).ps hc jY (by have:=jt.len j nJ;rw [hs]at this;exact this)) A ⟨jt.get nJ hs rfl,jP⟩ (Z4 A jt nJ hm) kY h1 rfl rfl rfl rfl fun{x a' w'} pO hJ A'=>?_
 obtain⟨tr',g1,g2,g3,g4⟩:=jt.one ln hl hj mP hN (fun b hb=>Gz A.mem hb) pO hJ
 exact k tr' g1 g2 g3 (fun b hb=>(g4 b hb).elim (nV b) (fun q=>.inr (Nat.le_trans A.mix.size q))) A'
end
end Go.Proofs.YtbbdanhpphlbpaaGreatDoor.Mc
namespace Go.Proofs.YtbbdanhpphlbpaaGreatDoor.Mc
open Go.RowKit
def IH (cs:List AD)(N:Nat):Dd:=fun w ks=>∀ks',(∀b,ks'.contains b=true→b<N∨ks.contains b=true)→AH cs w ks'
theorem eX {ks ks':List Nat}{w w':World}(m:CR ks w w')(h:∀b,ks.contains b=true→ks'.contains b=true):CR ks' w w':=⟨m.os,m.tape,m.output,m.size,fun k hk hc=>m.block k hk (by
 cases hz:ks.contains k with
 |false=>rfl
 |true=>rw [h k hz]at hc;cases hc)⟩
theorem IH.ok {cs:List AD}{N:Nat}:Dd.OK (IH cs N):=fun w ks w' ks' h m hk ks2 h2 c hc=>by
 have h3:=h (ks++ks2.filter (fun b=>decide (b<w.heap.size))) (fun b hb=>by
  rw [List.contains_iff_mem,List.mem_append]at hb
  rcases hb with hb|hb
  ·exact .inr (List.contains_iff_mem.2 hb)
  ·rw [List.mem_filter,decide_eq_true_eq]at hb
   rcases h2 b (List.contains_iff_mem.2 hb.1)with q|q
   ·exact .inl q
   ·rcases hk b q with q|q
    ·exact .inr q
    ·omega) c hc
 refine AK.ok _ _ _ _ h3 (eX m fun b hb=>by rw [List.contains_iff_mem]at hb⊢;exact List.mem_append_left _ hb) fun b hb=>?_
 by_cases hl:b<w.heap.size
 ·refine .inl ?_
  rw [List.contains_iff_mem]at hb⊢
  exact List.mem_append_right _ (List.mem_filter.2 ⟨hb,decide_eq_true hl⟩)
 ·exact .inr (by omega)
section
variable {P:Program}{n:Nat}{ks:List Nat}{G0:Gr}{w0:World}{T:List (Nat×SV)}{H:Hp}{G:Gr}{a:Act}{w:World}{ops:Array Oper}{o:Oper}{rest:List Oper}{Q:Exit→Act→World→Prop}{K:List Fr}{pre:World→Prop}{i fuel:Nat}{listed:Array Bool}
theorem EX {f:Nat} {args az:List SV} {cs:List AD} {rg:Nat→Rg} {t:Nat} {H':List AD→Hp} (ho:ops[i]?=some o) (hf:MS P f args [] [] pre (Q8 cs rg)) (A:Sy n T H ks G0 w0 G a w) (hp:pre w) (h1:BS n ops T o=some (f,az)) (h2:DU [] args=some az) (hd:o.dst=some t)
  (hH:∀cs':List AD,H++[some (AZ cs' (Ac cs rg) cs.length)]++[some (.blk [.sl H.length cs.length 0])]=H' cs')
  (k:∀cs' {G a w'},Ai cs' (Ac cs rg) cs.length→(∀k,k<cs.length→(cs'.getD k AD.z).l=(cs.getD k AD.z).l)→IH cs' w0.heap.size w' (keys (H' cs') G)→Sy n ((t,.ptr (H.length+1) 0)::T) (H' cs') ks G0 w0 G a w'→wpAny P .any ops Q fuel (listed.setIfInBounds i true) a w'):wpOp P ops Q i (wpAny P .any ops Q fuel (listed.setIfInBounds i true)) a w:=by
 refine Fj [] ho hf A hp I3.nil (fun b h=>by cases h) h1 h2 rfl rfl rfl fun{x a' w'} hm hJ A'=>?_
 obtain⟨L,bt,cp,cs',rfl,rZ,jJ,heq,jP⟩:=hJ
 rw [hd]at A'
 obtain⟨G',A2,hk⟩:=A'.takeCore t rZ A.mix.size (fun i e M q1 q2 q3=>by
  have:=A.mem.ent i e q1
  rw [q2]at this
  exact Ae.lt this q3) (by simp [Ay,look,Nat.beq_refl]) (hH cs')
 refine k cs' jJ heq (fun ks' jQ=>jP ks' fun b hb=>?_) ⟨A2.size,A2.defers,fun q x hx=>A2.get q x ?_,A2.mem,A2.pre,A2.own,A2.mix⟩
 ·rcases jQ b hb with q|q
  ·exact .inl (Nat.lt_of_lt_of_le q A.mix.size)
  ·exact hk b q
 ·unfold look at hx⊢
  cases hb:Nat.beq t q with
  |true=>rw [hb]at hx;exact hx
  |false=>
   rw [hb]at hx
   show look (Ay T (some t) _) q=some x
   simp only [Ay]
   unfold look
   rw [hb]
   exact hx
end
abbrev Z5 (L:Loc)(m:Nat→Int):List Value:=[.pointer (some ⟨L.b,L.pre.length,none⟩),.int .i64 (m 0),.int .i64 (m 1),.int .i64 (m 2)]
def L6 (cs:List AD)(rg:Nat→Rg)(m:Nat→Int):SV→World→World→Prop:=fun x w w'=>∃(M L:Loc) (bt cp:Nat) (cs':List AD),x=E3 M.b M.pre.length∧w.heap.size≤M.b∧M.b≠L.b∧M.b≠bt∧DR w' M.b (M.pre++(Z5 L m)++M.post).toArray M.t∧PE 125 10 cs.length (fun zz=>GJ (cs'.getD zz AD.z) ((Ac cs rg).getD zz Th.z)) L bt cp w.heap.size w'∧Ai cs' (Ac cs rg) cs.length∧(∀k,k<cs.length→(cs'.getD k AD.z).l=(cs.getD k AD.z).l)∧∀ks,(∀b,ks.contains b=true→b<w.heap.size∨b=L.b∨b=bt∨b=M.b)→AH cs' w' ks
section
variable {n:Nat}{T:List (Nat×SV)}{H:Hp}{G0:Gr}{w0:World}{G:Gr}{a:Act}{w:World}
theorem nX {cs cs':List AD}{rg:Nat→Rg}{m:Nat→Int}(p i q t:Nat)(A:Sy n T H [] G0 w0 G a w)(hn:0<cs.length)(hp:lg H p=some (some (.blk (BB i m))))(hi:lg H i=some (some (.blk [.sl q cs.length 0])))(hq:lg H q=some (some (AZ cs' (Ac cs rg) cs.length)))(nW:Nat.beq i q=false)(xR:Nat.beq p i=false)(xS:Nat.beq p q=false)(ht:look T t=some (.ptr p 0))(jJ:Ai cs' (Ac cs rg) cs.length)(he:∀k,k<cs.length→(cs'.getD k AD.z).l=(cs.getD k AD.z).l)(hc:IH cs' w0.heap.size w (keys H G)):
  ∃M:Loc,Sy n ((t,E3 M.b M.pre.length)::T) H [] G0 w0 G a w∧L6 cs rg m (E3 M.b M.pre.length) w0 w:=by
 have A0:Sy n ((t+1,.ptr i 0)::((t,.ptr p 0)::T)) H [] G0 w0 G a w→True:=fun _=>trivial
 rw [Ah]at hp hi hq
 obtain⟨M,vs,p1,p2,p3⟩:=A.mem.ent p _ hp
 have pG:G[p]?=some (some M):=by
  cases hz:G[p]? with
  |none=>rw [hz]at p1;cases p1
  |some z=>rw [hz]at p1;simp only [Option.getD_some]at p1;rw [p1]
 obtain⟨L,us,q1,q2,q3⟩:=A.mem.ent i _ hi
 have j0:G[i]?=some (some L):=by
  cases hz:G[i]? with
  |none=>rw [hz]at q1;cases q1
  |some z=>rw [hz]at q1;simp only [Option.getD_some]at q1;rw [q1]
 obtain⟨h1,h2,xs,h3,h4⟩:=A.mem.ent q _ hq
 obtain⟨R,_,r1,_⟩:=Cw (A.mem.ent q _ hq) (k:=0) hn
 have mC:G[q]?=some (some R):=by
  cases hz:G[q]? with
  |none=>rw [hz]at r1;cases r1
  |some z=>rw [hz]at r1;simp only [Option.getD_some]at r1;rw [r1]
 rw [mC]at h2 h4
 have jT:R.pre=[]:=h2 R rfl
 have qC:w.ownsRow 0 125 10 (.slice (some ⟨R.b,0,none⟩) cs.length (0+rm (some R))) cs.length xs:=by
  have:(Option.map (fun L:Loc=>(⟨L.b,L.pre.length,none⟩:Addr)) (some R))=some ⟨R.b,0,none⟩:=by simp [jT]
  rw [←this];exact h4
 have pY:us=[.slice (some ⟨R.b,0,none⟩) cs.length (0+rm (some R))]:=by
  have:AE G [.sl q cs.length 0]=some [.slice (some ⟨R.b,0,none⟩) cs.length (0+rm (some R))]:=by
   unfold AE den
   rw [mC]
   simp [jT,AE]
  rw [this]at q2;exact(Option.some.inj q2).symm
 subst pY
 have oP:vs=(Z5 L m):=by
  have e1:den G (.ptr i 0)=some (.pointer (some ⟨L.b,L.pre.length,none⟩)):=by unfold den;rw [j0];rfl
  have e2:AE G (BB i m)=some (Z5 L m):=Az e1 (by simpa using Al (G:=[]) G [.int .i64 (m 0),.int .i64 (m 1),.int .i64 (m 2)] rfl)
  rw [e2]at p2;exact(Option.some.inj p2).symm
 subst oP
 have ne:∀{x y:Nat},Nat.beq x y=false→x≠y:=fun h e=>by subst e;rw [Nat.beq_refl]at h;cases h
 have own:∀{k:Nat} {en:A6} {L:Loc},H[k]?=some (some en)→en.mut=true→G[k]?=some (some L)→w0.heap.size≤L.b:=fun h1 h2 h3=>(A.own _ _ _ h1 h2 h3).elim (fun h=>by cases h) id
 refine⟨M,A.slotEq t ht (by unfold den;rw [pG];rfl),M,L,R.b,0+rm (some R),cs',rfl,own hp rfl pG,A.mem.sep p i _ _ M L (ne xR) hp hi rfl pG j0 (fun h=>h),A.mem.sep p q _ _ M R (ne xS) hp hq rfl pG mC (fun h=>h),p3,⟨q3,⟨h1,xs,h3,qC⟩,A.mem.sep i q _ _ L R (ne nW) hi hq rfl j0 mC (fun h=>h),own hi rfl j0,own hq rfl mC⟩,jJ,he,fun ks hk=>hc ks fun b hb=>?_⟩
 rcases hk b hb with z|rfl|rfl|rfl
 ·exact .inl z
 ·exact .inr (mem_keys.2 ⟨i,_,L,hi,rfl,j0,rfl⟩)
 ·exact .inr (mem_keys.2 ⟨q,_,R,hq,rfl,mC,rfl⟩)
 ·exact .inr (mem_keys.2 ⟨p,_,M,hp,rfl,pG,rfl⟩)
end
end Go.Proofs.YtbbdanhpphlbpaaGreatDoor.Mc
namespace Go.Proofs.YtbbdanhpphlbpaaGreatDoor.Mc
open Go.RowKit
set_option simprocs false
theorem RY (cs:List AD)(ao:Option Addr)(cx:Nat)(rg:Nat→Rg)(m:Nat→Int)(x0 x1:Int)(nm:List UInt8)(co:Option Addr)(cn cc:Nat)(kE:Km cs=0)(xT:0<cs.length):MS Tryz.prog 10 [.agg (Du x0 nm (m 0) (m 1) (m 2) rg (.sla ao cs.length cx) x1 (.sla co cn cc))] [] [] (fun w=>AK ao 1 cs.length (fun zz=>He (cs.getD zz AD.z)) w []∧AH cs w []) (L6 cs rg m):=
 FN (n:=9) (by kernel_rfl) Tryz.func10 rfl rfl rfl (fun i e h=>by rw [List.getElem?_nil]at h;cases h) fun G w a h0 ho hp A=>N9 7 A rfl rfl fun A=>I8 7 BK rfl A fun{w2} A=>Gs (fun(tail:∀(cs':List AD) {G1:Gr} {a1:Act} {w1:World},Ai cs' (Ac cs rg) cs.length→(∀k,k<cs.length→(cs'.getD k AD.z).l=(cs.getD k AD.z).l)→IH cs' w.heap.size w1 (keys [some (.blk (Du x0 nm (m 0) (m 1) (m 2) rg (.sla ao cs.length cx) x1 (.sla co cn cc))),some (AZ cs' (Ac cs rg) cs.length),some (.blk [.sl 1 cs.length 0])] G1)→Sy 9 [(4,.ptr 2 0),(6,.agg [.int .i64 (m 0),.int .i64 (m 1),.int .i64 (m 2)])] [some (.blk (Du x0 nm (m 0) (m 1) (m 2) rg (.sla ao cs.length cx) x1 (.sla co cn cc))),some (AZ cs' (Ac cs rg) cs.length),some (.blk [.sl 1 cs.length 0])] [] G w G1 a1 w1→wpAny Tryz.prog .any _ _ _ _ a1 w1)=>AM (rs:=[0,2]) (by kernel_rfl) (by decide) (Bg ⟨CM (.agg (Du x0 nm (m 0) (m 1) (m 2) rg (.sla ao cs.length cx) x1 (.sla co cn cc))) rfl A rfl rfl fun A=>AM (rs:=[1,2]) (by kernel_rfl) (by decide) (Bg ⟨EX (H':=fun cs'=>[some (.blk (Du x0 nm (m 0) (m 1) (m 2) rg (.sla ao cs.length cx) x1 (.sla co cn cc))),some (AZ cs' (Ac cs rg) cs.length),some (.blk [.sl 1 cs.length 0])]) rfl (EW cs ao cx rg x0 x1 (m 0) (m 1) (m 2) nm co cn cc kE) A ⟨AK.ok _ _ _ _ hp.1 A.mix (fun b hb=>.inl hb),AH.ok _ _ _ _ hp.2 A.mix (fun b hb=>.inl hb)⟩ rfl rfl rfl (fun _=>rfl) fun cs' {_ _ _} jJ he jP A=>have B:=A;have A:=B.base;AM (rs:=[2]) (by kernel_rfl) (by decide) (Bg ⟨CM (.ptr 0 2) rfl A rfl rfl fun A=>AM (rs:=[3]) (by kernel_rfl) (by decide) (Bg ⟨CM (.agg [.int .i64 (m 0),.int .i64 (m 1),.int .i64 (m 2)]) rfl A rfl rfl fun A=>tail cs' jJ he (IH.ok.now A jP) ((B.trans A).cut [4,6] rfl),
     (CF)⟩),
    (CF)⟩),
   (Bg ⟨CM (.ptr 0 2) rfl A rfl rfl fun A=>AM (rs:=[1,3]) (by kernel_rfl) (by decide) (Bg ⟨EX (H':=fun cs'=>[some (.blk (Du x0 nm (m 0) (m 1) (m 2) rg (.sla ao cs.length cx) x1 (.sla co cn cc))),some (AZ cs' (Ac cs rg) cs.length),some (.blk [.sl 1 cs.length 0])]) rfl (EW cs ao cx rg x0 x1 (m 0) (m 1) (m 2) nm co cn cc kE) A ⟨AK.ok _ _ _ _ hp.1 A.mix (fun b hb=>.inl hb),AH.ok _ _ _ _ hp.2 A.mix (fun b hb=>.inl hb)⟩ rfl rfl rfl (fun _=>rfl) fun cs' {_ _ _} jJ he jP A=>have B:=A;have A:=B.base;AM (rs:=[3]) (by kernel_rfl) (by decide) (Bg ⟨CM (.agg [.int .i64 (m 0),.int .i64 (m 1),.int .i64 (m 2)]) rfl A rfl rfl fun A=>tail cs' jJ he (IH.ok.now A jP) ((B.trans A).cut [4,6] rfl),
     (CF)⟩),
    (Bg ⟨CM (.agg [.int .i64 (m 0),.int .i64 (m 1),.int .i64 (m 2)]) rfl A rfl rfl fun A=>AM (rs:=[1]) (by kernel_rfl) (by decide) (Bg ⟨EX (H':=fun cs'=>[some (.blk (Du x0 nm (m 0) (m 1) (m 2) rg (.sla ao cs.length cx) x1 (.sla co cn cc))),some (AZ cs' (Ac cs rg) cs.length),some (.blk [.sl 1 cs.length 0])]) rfl (EW cs ao cx rg x0 x1 (m 0) (m 1) (m 2) nm co cn cc kE) A ⟨AK.ok _ _ _ _ hp.1 A.mix (fun b hb=>.inl hb),AH.ok _ _ _ _ hp.2 A.mix (fun b hb=>.inl hb)⟩ rfl rfl rfl (fun _=>rfl) fun cs' {_ _ _} jJ he jP A=>have B:=A;have A:=B.base;tail cs' jJ he (IH.ok.now A jP) ((B.trans A).cut [4,6] rfl),
     (CF)⟩),
    (CF)⟩)⟩),
   (CF)⟩)⟩),
  (Bg ⟨CM (.ptr 0 2) rfl A rfl rfl fun A=>AM (rs:=[0,3]) (by kernel_rfl) (by decide) (Bg ⟨CM (.agg (Du x0 nm (m 0) (m 1) (m 2) rg (.sla ao cs.length cx) x1 (.sla co cn cc))) rfl A rfl rfl fun A=>AM (rs:=[1,3]) (by kernel_rfl) (by decide) (Bg ⟨EX (H':=fun cs'=>[some (.blk (Du x0 nm (m 0) (m 1) (m 2) rg (.sla ao cs.length cx) x1 (.sla co cn cc))),some (AZ cs' (Ac cs rg) cs.length),some (.blk [.sl 1 cs.length 0])]) rfl (EW cs ao cx rg x0 x1 (m 0) (m 1) (m 2) nm co cn cc kE) A ⟨AK.ok _ _ _ _ hp.1 A.mix (fun b hb=>.inl hb),AH.ok _ _ _ _ hp.2 A.mix (fun b hb=>.inl hb)⟩ rfl rfl rfl (fun _=>rfl) fun cs' {_ _ _} jJ he jP A=>have B:=A;have A:=B.base;AM (rs:=[3]) (by kernel_rfl) (by decide) (Bg ⟨CM (.agg [.int .i64 (m 0),.int .i64 (m 1),.int .i64 (m 2)]) rfl A rfl rfl fun A=>tail cs' jJ he (IH.ok.now A jP) ((B.trans A).cut [4,6] rfl),
     (CF)⟩),
    (Bg ⟨CM (.agg [.int .i64 (m 0),.int .i64 (m 1),.int .i64 (m 2)]) rfl A rfl rfl fun A=>AM (rs:=[1]) (by kernel_rfl) (by decide) (Bg ⟨EX (H':=fun cs'=>[some (.blk (Du x0 nm (m 0) (m 1) (m 2) rg (.sla ao cs.length cx) x1 (.sla co cn cc))),some (AZ cs' (Ac cs rg) cs.length),some (.blk [.sl 1 cs.length 0])]) rfl (EW cs ao cx rg x0 x1 (m 0) (m 1) (m 2) nm co cn cc kE) A ⟨AK.ok _ _ _ _ hp.1 A.mix (fun b hb=>.inl hb),AH.ok _ _ _ _ hp.2 A.mix (fun b hb=>.inl hb)⟩ rfl rfl rfl (fun _=>rfl) fun cs' {_ _ _} jJ he jP A=>have B:=A;have A:=B.base;tail cs' jJ he (IH.ok.now A jP) ((B.trans A).cut [4,6] rfl),
     (CF)⟩),
    (CF)⟩)⟩),
   (Bg ⟨CM (.agg [.int .i64 (m 0),.int .i64 (m 1),.int .i64 (m 2)]) rfl A rfl rfl fun A=>AM (rs:=[0]) (by kernel_rfl) (by decide) (Bg ⟨CM (.agg (Du x0 nm (m 0) (m 1) (m 2) rg (.sla ao cs.length cx) x1 (.sla co cn cc))) rfl A rfl rfl fun A=>AM (rs:=[1]) (by kernel_rfl) (by decide) (Bg ⟨EX (H':=fun cs'=>[some (.blk (Du x0 nm (m 0) (m 1) (m 2) rg (.sla ao cs.length cx) x1 (.sla co cn cc))),some (AZ cs' (Ac cs rg) cs.length),some (.blk [.sl 1 cs.length 0])]) rfl (EW cs ao cx rg x0 x1 (m 0) (m 1) (m 2) nm co cn cc kE) A ⟨AK.ok _ _ _ _ hp.1 A.mix (fun b hb=>.inl hb),AH.ok _ _ _ _ hp.2 A.mix (fun b hb=>.inl hb)⟩ rfl rfl rfl (fun _=>rfl) fun cs' {_ _ _} jJ he jP A=>have B:=A;have A:=B.base;tail cs' jJ he (IH.ok.now A jP) ((B.trans A).cut [4,6] rfl),
     (CF)⟩),
    (CF)⟩),
   (CF)⟩)⟩),
  (CF)⟩)⟩)) (fun cs' {G1 a1 w1} jJ he jP A=>have B:=A;have A:=B.base;AM (rs:=[4]) (by kernel_rfl) (by decide) (Bg ⟨CM (.agg (BB 2 m)) rfl A rfl rfl fun A=>AM (rs:=[5]) (by kernel_rfl) (by decide) (Bg ⟨En (x:=.ptr 3 0) (H':=[some (.blk (Du x0 nm (m 0) (m 1) (m 2) rg (.sla ao cs.length cx) x1 (.sla co cn cc))),some (AZ cs' (Ac cs rg) cs.length),some (.blk [.sl 1 cs.length 0]),some (.blk (BB 2 m))]) rfl A rfl (Aj (X:=⟨_,true⟩) (out:=.new _ _ _) hX rfl rfl) fun A=>AM (rs:=[6]) (by kernel_rfl) (by decide) (Bg ⟨CM (.ptr 3 0) rfl A rfl rfl fun A=>Dh (by kernel_rfl) (N9 2 A rfl rfl fun A=>Exists.elim (nX (m:=m) 3 2 1 2 (B.trans A) xT rfl rfl rfl rfl rfl rfl rfl jJ he (IH.ok.now A jP)) fun M ⟨A,hJ⟩=>kV (J:=L6 cs rg m) hX A rfl rfl rfl rfl hJ),
    (CF)⟩),
   (CF)⟩),
  (CF)⟩))
theorem _root_.Go.Proofs.YtbbdanhpphlbpaaGreatDoor.Sy.takeCoreG {n:Nat}{ks:List Nat}{G0:Gr}{w0:World}{T:List (Nat×SV)}{H:Hp}{G:Gr}{a:Act}{w:World}(A:Sy n T H ks G0 w0 G a w){e s m bt cp N:Nat}{f:Nat→List SV}{L:Loc}(ho:PE e s m f L bt cp N w)(hN:w0.heap.size≤N)(hold:∀(i:Nat) (e:A6) (M:Loc),H[i]?=some (some e)→G[i]?=some (some M)→¬e.empty→M.b<N):
  ∃R:Loc,R.b=bt∧Sy n T (H++[some (.row e s m 0 f)]++[some (.blk [.sl H.length m 0])]) ks G0 w0 (G++[some R]++[some L]) a w:=by
 have hlen:=A.mem.len
 obtain⟨p1,xs,p2,p3⟩:=ho.row
 have A1:=A.takeEnt (L:=⟨bt,[],List.replicate cp undef,e⟩) (en:=.row e s m 0 f) ⟨p1,fun L hL=>by cases hL;rfl,xs,p2,by simpa [rm]using p3⟩ rfl (fun i e M h1 h2 h3=>by have:=hold i e M h1 h2 h3;have:=ho.lt;show M.b≠bt;omega) (Nat.le_trans hN ho.lt)
 have nO:(G++[some (⟨bt,[],List.replicate cp undef,e⟩:Loc)])[H.length]?=some (some ⟨bt,[],List.replicate cp undef,e⟩):=by rw [List.getElem?_append_right (by omega),hlen];simp
 have hd:AE (G++[some (⟨bt,[],List.replicate cp undef,e⟩:Loc)]) [.sl H.length m 0]=some [.slice (some ⟨bt,0,none⟩) m cp]:=by
  unfold AE den
  rw [nO]
  simp [rm,AE]
 exact⟨_,rfl,A1.takeEnt (L:=L) (en:=.blk [.sl H.length m 0]) ⟨L,_,rfl,hd,ho.blk⟩ rfl (fun i e' M h1 h2 h3=>by
  by_cases hi:i<H.length
  ·rw [List.getElem?_append_left hi]at h1
   rw [List.getElem?_append_left (by omega)]at h2
   have:=hold i e' M h1 h2 h3;have:=ho.lo;omega
  ·have mB:i=H.length:=by
    have:=(List.getElem?_eq_some_iff.1 h1).1
    simp at this;omega
   subst mB
   rw [nO]at h2
   cases h2
   exact fun z=>ho.ne z.symm) (Nat.le_trans hN ho.lo)⟩
abbrev YZ (i:Nat)(m:Nat→Int):List SV:=(BB i m)
theorem eY {P:Program} {n:Nat} {ks:List Nat} {G0:Gr} {w0:World} {T:List (Nat×SV)} {H:Hp} {G:Gr} {a:Act} {w:World} {Q:Exit→Act→World→Prop} {K:List Fr} {ops:Array Oper} {o:Oper} {rest:List Oper} {f:Nat} {args az:List SV} {pre:World→Prop} {cs:List AD} {rg:Nat→Rg} {m:Nat→Int} {t:Nat} {H':List AD→Hp} (hf:MS P f args [] [] pre (L6 cs rg m)) (A:Sy n T H ks G0 w0 G a w) (hp:pre w) (h1:BS n ops T o=some (f,az)) (h2:DU [] args=some az) (hd:o.dst=some t)
  (hH:∀cs':List AD,H++[some (AZ cs' (Ac cs rg) cs.length)]++[some (.blk [.sl H.length cs.length 0])]++[some (.blk (YZ (H.length+1) m))]=H' cs')
  (k:∀cs' {G a w},Ai cs' (Ac cs rg) cs.length→(∀k,k<cs.length→(cs'.getD k AD.z).l=(cs.getD k AD.z).l)→AH cs' w (keys (H' cs') G)→Sy n ((t,.ptr (H.length+2) 0)::(Ay T (some t) (.v .nilFunc))) (H' cs') ks G0 w0 G a w→Goal P Q K (.ops ops rest) a w):Goal P Q K (.ops ops (o::rest)) a w:=by
 refine J3 [] hf A hp I3.nil (fun b h=>by cases h) h1 h2 rfl rfl rfl fun{x a' w'} hm hJ A'=>?_
 obtain⟨M,L,bt,cp,cs',rfl,qH,uK,uL,oM,rZ,jJ,heq,jP⟩:=hJ
 rw [hd]at A'
 have hlen:=A.mem.len
 have hold:∀(i:Nat) (e:A6) (M:Loc),H[i]?=some (some e)→G[i]?=some (some M)→¬e.empty→M.b<w.heap.size:=fun i e M q1 q2 q3=>by
  have:=A.mem.ent i e q1
  rw [q2]at this
  exact Ae.lt this q3
 obtain⟨R,hR,A2⟩:=A'.takeCoreG rZ A.mix.size hold
 have r8:(G++[some R]++[some L])[H.length+1]?=some (some L):=by
  rw [List.getElem?_append_right (by simp;omega)];simp [hlen]
 have j7:AE (G++[some R]++[some L]) (YZ (H.length+1) m)=some (Z5 L m):=
  Az (by unfold den;rw [r8];rfl) (by simpa using Al (G:=[]) (G++[some R]++[some L]) [.int .i64 (m 0),.int .i64 (m 1),.int .i64 (m 2)] rfl)
 have mO:∀(i:Nat) (e:A6) (Z:Loc),(H++[some (AZ cs' (Ac cs rg) cs.length)]++[some (.blk [.sl H.length cs.length 0])])[i]?=some (some e)→(G++[some R]++[some L])[i]?=some (some Z)→¬e.empty→Z.b<w.heap.size∨Z.b=L.b∨Z.b=bt:=fun i e Z q1 q2 q3=>by
  by_cases hi:i<H.length
  ·rw [List.append_assoc,List.getElem?_append_left hi]at q1
   rw [List.append_assoc,List.getElem?_append_left (by omega)]at q2
   exact .inl (hold i e Z q1 q2 q3)
  ·by_cases mB:i=H.length
   ·subst mB
    rw [List.append_assoc,List.getElem?_append_right (by omega)]at q2
    simp [hlen]at q2
    subst q2;exact .inr (.inr hR)
   ·have pB:i=H.length+1:=by
     have:=(List.getElem?_eq_some_iff.1 q1).1
     simp at this;omega
    subst pB
    rw [r8]at q2;cases q2
    exact .inr (.inl rfl)
 have A3:=A2.takeEnt (L:=M) (en:=.blk (YZ (H.length+1) m)) ⟨M,_,rfl,j7,oM⟩ rfl (fun i e Z q1 q2 q3=>by
  rcases mO i e Z q1 q2 q3 with q|q|q
  ·omega
  ·rw [q];exact fun h=>uK h.symm
  ·rw [q];exact fun h=>uL h.symm) (Nat.le_trans A.mix.size qH)
 rw [hH cs']at A3
 have kX:∀b,(keys (H' cs') (G++[some R]++[some L]++[some M])).contains b=true→b<w.heap.size∨b=L.b∨b=bt∨b=M.b:=fun b hb=>by
  rw [←hH cs']at hb
  obtain⟨i,en,Z,g1,g2,g3,g4⟩:=mem_keys.1 hb
  by_cases hi:i<H.length+2
  ·rw [List.getElem?_append_left (by simp;omega)]at g1
   rw [List.getElem?_append_left (by simp;omega)]at g3
   rw [←g4]
   rcases mO i en Z g1 g3 (At g2)with q|q|q
   ·exact .inl q
   ·exact .inr (.inl q)
   ·exact .inr (.inr (.inl q))
  ·have pB:i=H.length+2:=by
    have:=(List.getElem?_eq_some_iff.1 g1).1
    simp at this;omega
   subst pB
   rw [List.getElem?_append_right (by simp;omega)]at g3
   simp [hlen]at g3
   subst g3
   exact .inr (.inr (.inr g4.symm))
 refine k cs' jJ heq (jP _ kX) ?_
 have A4:=A3.slotEq t (x:=E3 M.b M.pre.length) (y:=.ptr (H.length+2) 0) (by simp [Ay,look,Nat.beq_refl]) (by
  unfold den
  rw [List.getElem?_append_right (by simp;omega)]
  simp [hlen])
 refine⟨A4.size,A4.defers,fun q x hx=>A4.get q x ?_,A4.mem,A4.pre,A4.own,A4.mix⟩
 unfold look at hx⊢
 cases hb:Nat.beq t q with
 |true=>rw [hb]at hx;exact hx
 |false=>
  rw [hb]at hx
  simp only [Ay,cond_false]at hx⊢
  unfold look at hx⊢
  rw [hb]at hx⊢
  exact hx
end Go.Proofs.YtbbdanhpphlbpaaGreatDoor.Mc
namespace Go.Proofs.YtbbdanhpphlbpaaGreatDoor.Mc
open Go.RowKit
set_option simprocs false
abbrev Dx:List In:=[(⟨5, -1,7, -1,0,0,0, -1,8,0,false,false,false,0,0,0,false⟩:In),(⟨4,0, -1, -1,0,1,0, -1,8,0,false,false,false,0,0,0,false⟩:In)]
abbrev FS:List In:=[(⟨5, -1,7, -1,0,1,0, -1,8,0,false,false,false,0,0,0,false⟩:In),(⟨4,0, -1, -1,0,0,0, -1,8,0,false,false,false,0,0,0,false⟩:In)]
abbrev EH (b1 b2:Nat):List AD:=[⟨some ⟨b1,0,none⟩,Dx,2⟩,⟨some ⟨b2,0,none⟩,FS,2⟩]
abbrev E9:Nat→Rg:=fun t k=>if k=7 then(if t=2 then 0 else 1)else 0
abbrev mZ:Nat→Int:=fun _=>0
theorem eZ (b1 b2:Nat):Km (EH b1 b2)=0:=by rfl
theorem e7 {b1 b2 b3 b4 lo:Nat}{cz c1 c2:List SV}{w:World}{ks:List Nat}(hA:Acc lo [(b4,cz),(b3,[.sla (some ⟨b1,0,none⟩) 2 2,.sla (some ⟨b2,0,none⟩) 2 2]),(b2,c2),(b1,c1)] w ks)(p9:AE [] c1=AE [] (Dx.flatMap CD))(rY:AE [] c2=AE [] (FS.flatMap CD)):AK (some ⟨b3,0,none⟩) 1 (EH b1 b2).length (fun zz=>He ((EH b1 b2).getD zz AD.z)) w []∧AH (EH b1 b2) w []:=by
 have hA:=hA.bare
 obtain⟨_,v3,d3,l3⟩:=hA (b3,_) (.tail _ (.head _))
 obtain⟨_,v2,d2,l2⟩:=hA (b2,_) (.tail _ (.tail _ (.head _)))
 obtain⟨_,v1,d1,l1⟩:=hA (b1,_) (.tail _ (.tail _ (.tail _ (.head _))))
 refine⟨Ky AD.z He 1 (fun _=>rfl) (fun _=>rfl) (fun x=>⟨_,rfl⟩) (EH b1 b2) l3 d3,fun c hc=>?_⟩
 rcases List.mem_cons.1 hc with rfl|hc
 ·exact Ky In.z CD 17 (fun _=>rfl) (fun _=>rfl) (fun x=>⟨_,rfl⟩) Dx l1 (p9.symm.trans d1)
 ·rw [List.mem_singleton]at hc
  subst hc
  exact Ky In.z CD 17 (fun _=>rfl) (fun _=>rfl) (fun x=>⟨_,rfl⟩) FS l2 (rY.symm.trans d2)
def gN:SV→World→World→Prop:=fun x w w'=>∃b1 b2 b3 b4:Nat,x=.agg [.int .i64 1,.str [83,66],.z9,.z9,.z9,.z9,.z9,.z9,.z9,.z9,.z9,.z9,.int .i64 1,.z9,.z9,.z9,.z9,.z9,.z9,.z9,.int .i64 1,.z9,.z9,.z9,.z9,.z9,.z9,.z9,.z9,.sla (some ⟨b3,0,none⟩) 2 2,.int .i64 1,.sla (some ⟨b4,0,none⟩) 1 1]∧AK (some ⟨b3,0,none⟩) 1 (EH b1 b2).length (fun zz=>He ((EH b1 b2).getD zz AD.z)) w' []∧AH (EH b1 b2) w' []
theorem iG:MS Tryz.prog 43 [.int .i64 1] [] [] (fun _=>True) gN:=
 FN (n:=32) (by kernel_rfl) Tryz.func43 rfl rfl rfl (fun i e h=>by rw [List.getElem?_nil]at h;cases h) fun G w a h0 ho hp A=>have B:=A;have hA:=Acc.nil (lo:=w.heap.size) (w:=w) (ks:=keys [] G);have A:=A.base;N9 20 A rfl rfl fun A=>Hh BK [.agg [.int .i64 5,.int .i64 (-1),.int .i64 7,.int .i64 (-1),.z9,.z9,.z9,.int .i64 (-1),.int .i64 8,.z9,.ff,.ff,.ff,.z9,.z9,.z9,.ff],.agg [.int .i64 4,.z9,.int .i64 (-1),.int .i64 (-1),.z9,.z9,.z9,.int .i64 (-1),.int .i64 8,.z9,.ff,.ff,.ff,.z9,.z9,.z9,.ff],.ptr 3 0,.ptr 4 0,.tup [],.tup []] [2,3,4,5] [3,4] 2 [([],[3,4],[some (.blk [.z9,.str [],.z9,.z9,.z9,.z9,.z9,.z9,.z9,.z9,.z9,.z9,.z9,.z9,.z9,.z9,.z9,.z9,.z9,.z9,.z9,.z9,.z9,.z9,.z9,.z9,.z9,.z9,.z9,.sla none 0 0,.z9,.sla none 0 0]),some (.blk [.int .i64 5,.int .i64 (-1),.int .i64 7,.int .i64 (-1),.z9,.z9,.z9,.int .i64 (-1),.int .i64 8,.z9,.ff,.ff,.ff,.z9,.z9,.z9,.ff]),some (.blk [.int .i64 4,.z9,.int .i64 (-1),.int .i64 (-1),.z9,.z9,.z9,.int .i64 (-1),.int .i64 8,.z9,.ff,.ff,.ff,.z9,.z9,.z9,.ff]),none,none]),([2],[4],[some (.blk [.z9,.str [],.z9,.z9,.z9,.z9,.z9,.z9,.z9,.z9,.z9,.z9,.z9,.z9,.z9,.z9,.z9,.z9,.z9,.z9,.z9,.z9,.z9,.z9,.z9,.z9,.z9,.z9,.z9,.sla none 0 0,.z9,.sla none 0 0]),some (.blk [.int .i64 5,.int .i64 (-1),.int .i64 7,.int .i64 (-1),.z9,.z9,.z9,.int .i64 (-1),.int .i64 8,.z9,.ff,.ff,.ff,.z9,.z9,.z9,.ff]),some (.blk [.int .i64 4,.z9,.int .i64 (-1),.int .i64 (-1),.z9,.z9,.z9,.int .i64 (-1),.int .i64 8,.z9,.ff,.ff,.ff,.z9,.z9,.z9,.ff]),some (.blk [.z9,.z9,.z9,.z9,.z9,.z9,.z9,.z9,.z9,.z9,.ff,.ff,.ff,.z9,.z9,.z9,.ff]),none]),([3],[3],[some (.blk [.z9,.str [],.z9,.z9,.z9,.z9,.z9,.z9,.z9,.z9,.z9,.z9,.z9,.z9,.z9,.z9,.z9,.z9,.z9,.z9,.z9,.z9,.z9,.z9,.z9,.z9,.z9,.z9,.z9,.sla none 0 0,.z9,.sla none 0 0]),some (.blk [.int .i64 5,.int .i64 (-1),.int .i64 7,.int .i64 (-1),.z9,.z9,.z9,.int .i64 (-1),.int .i64 8,.z9,.ff,.ff,.ff,.z9,.z9,.z9,.ff]),some (.blk [.int .i64 4,.z9,.int .i64 (-1),.int .i64 (-1),.z9,.z9,.z9,.int .i64 (-1),.int .i64 8,.z9,.ff,.ff,.ff,.z9,.z9,.z9,.ff]),none,some (.blk [.z9,.z9,.z9,.z9,.z9,.z9,.z9,.z9,.z9,.z9,.ff,.ff,.ff,.z9,.z9,.z9,.ff])]),([2,3],[],[some (.blk [.z9,.str [],.z9,.z9,.z9,.z9,.z9,.z9,.z9,.z9,.z9,.z9,.z9,.z9,.z9,.z9,.z9,.z9,.z9,.z9,.z9,.z9,.z9,.z9,.z9,.z9,.z9,.z9,.z9,.sla none 0 0,.z9,.sla none 0 0]),some (.blk [.int .i64 5,.int .i64 (-1),.int .i64 7,.int .i64 (-1),.z9,.z9,.z9,.int .i64 (-1),.int .i64 8,.z9,.ff,.ff,.ff,.z9,.z9,.z9,.ff]),some (.blk [.int .i64 4,.z9,.int .i64 (-1),.int .i64 (-1),.z9,.z9,.z9,.int .i64 (-1),.int .i64 8,.z9,.ff,.ff,.ff,.z9,.z9,.z9,.ff]),some (.blk [.z9,.z9,.z9,.z9,.z9,.z9,.z9,.z9,.z9,.z9,.ff,.ff,.ff,.z9,.z9,.z9,.ff]),some (.blk [.z9,.z9,.z9,.z9,.z9,.z9,.z9,.z9,.z9,.z9,.ff,.ff,.ff,.z9,.z9,.z9,.ff])]),([2,3,4],[],[some (.blk [.z9,.str [],.z9,.z9,.z9,.z9,.z9,.z9,.z9,.z9,.z9,.z9,.z9,.z9,.z9,.z9,.z9,.z9,.z9,.z9,.z9,.z9,.z9,.z9,.z9,.z9,.z9,.z9,.z9,.sla none 0 0,.z9,.sla none 0 0]),some (.blk [.int .i64 5,.int .i64 (-1),.int .i64 7,.int .i64 (-1),.z9,.z9,.z9,.int .i64 (-1),.int .i64 8,.z9,.ff,.ff,.ff,.z9,.z9,.z9,.ff]),some (.blk [.int .i64 4,.z9,.int .i64 (-1),.int .i64 (-1),.z9,.z9,.z9,.int .i64 (-1),.int .i64 8,.z9,.ff,.ff,.ff,.z9,.z9,.z9,.ff]),some (.blk [.int .i64 5,.int .i64 (-1),.int .i64 7,.int .i64 (-1),.z9,.z9,.z9,.int .i64 (-1),.int .i64 8,.z9,.ff,.ff,.ff,.z9,.z9,.z9,.ff]),some (.blk [.z9,.z9,.z9,.z9,.z9,.z9,.z9,.z9,.z9,.z9,.ff,.ff,.ff,.z9,.z9,.z9,.ff])]),([2,3,4,5],[],[some (.blk [.z9,.str [],.z9,.z9,.z9,.z9,.z9,.z9,.z9,.z9,.z9,.z9,.z9,.z9,.z9,.z9,.z9,.z9,.z9,.z9,.z9,.z9,.z9,.z9,.z9,.z9,.z9,.z9,.z9,.sla none 0 0,.z9,.sla none 0 0]),some (.blk [.int .i64 5,.int .i64 (-1),.int .i64 7,.int .i64 (-1),.z9,.z9,.z9,.int .i64 (-1),.int .i64 8,.z9,.ff,.ff,.ff,.z9,.z9,.z9,.ff]),some (.blk [.int .i64 4,.z9,.int .i64 (-1),.int .i64 (-1),.z9,.z9,.z9,.int .i64 (-1),.int .i64 8,.z9,.ff,.ff,.ff,.z9,.z9,.z9,.ff]),some (.blk [.int .i64 5,.int .i64 (-1),.int .i64 7,.int .i64 (-1),.z9,.z9,.z9,.int .i64 (-1),.int .i64 8,.z9,.ff,.ff,.ff,.z9,.z9,.z9,.ff]),some (.blk [.int .i64 4,.z9,.int .i64 (-1),.int .i64 (-1),.z9,.z9,.z9,.int .i64 (-1),.int .i64 8,.z9,.ff,.ff,.ff,.z9,.z9,.z9,.ff])])] [[true,true,true,true,false,false],[true,true,false,true,false,false],[true,true,true,false,false,false],[true,true,false,false,true,false],[false,true,false,false,false,true],[false,false,false,false,false,false]] A rfl rfl rfl rfl (by kernel_rfl) rfl (by kernel_rfl) ⟨⟨iV 0 rfl rfl,⟨iV 0 rfl rfl,⟨⟨_,_,_,_,1,rfl,rfl,rfl,rfl,Da 3 (X:=⟨_,true⟩) hX rfl rfl (Mt h0 rfl) rfl rfl rfl rfl⟩,⟨⟨_,_,_,_,2,rfl,rfl,rfl,rfl,Da 4 (X:=⟨_,true⟩) hX rfl rfl (Mt h0 rfl) rfl rfl rfl rfl⟩,trivial⟩⟩⟩⟩,⟨⟨iV 1 rfl rfl,⟨iV 1 rfl rfl,⟨⟨_,_,_,_,3,rfl,rfl,rfl,rfl,Da 4 (X:=⟨_,true⟩) hX rfl rfl (Mt h0 rfl) rfl rfl rfl rfl⟩,trivial⟩⟩⟩,⟨⟨iV 2 rfl rfl,⟨iV 2 rfl rfl,⟨⟨_,_,_,_,3,rfl,rfl,rfl,rfl,Da 3 (X:=⟨_,true⟩) hX rfl rfl (Mt h0 rfl) rfl rfl rfl rfl⟩,trivial⟩⟩⟩,⟨⟨iV 3 rfl rfl,⟨iV 3 rfl rfl,⟨BT 4 rfl (Aj (X:=⟨_,true⟩) (out:=.upd 3 [.int .i64 5,.int .i64 (-1),.int .i64 7,.int .i64 (-1),.z9,.z9,.z9,.int .i64 (-1),.int .i64 8,.z9,.ff,.ff,.ff,.z9,.z9,.z9,.ff] _) hX rfl rfl),trivial⟩⟩⟩,⟨⟨iV 4 rfl rfl,⟨BT 5 rfl (Aj (X:=⟨_,true⟩) (out:=.upd 4 [.int .i64 4,.z9,.int .i64 (-1),.int .i64 (-1),.z9,.z9,.z9,.int .i64 (-1),.int .i64 8,.z9,.ff,.ff,.ff,.z9,.z9,.z9,.ff] _) hX rfl rfl),trivial⟩⟩,⟨trivial,trivial⟩⟩⟩⟩⟩⟩ fun A=>N9 14 A rfl rfl fun A=>C0 [.int .i64 5,.int .i64 (-1),.int .i64 7,.int .i64 (-1),.z9,.z9,.z9,.int .i64 (-1),.int .i64 8,.z9,.ff,.ff,.ff,.z9,.z9,.z9,.ff,.int .i64 4,.z9,.int .i64 (-1),.int .i64 (-1),.z9,.int .i64 1,.z9,.int .i64 (-1),.int .i64 8,.z9,.ff,.ff,.ff,.z9,.z9,.z9,.ff] (X:=⟨_,true⟩) hX B hA A rfl rfl rfl rfl fun b1 B hA A=>
 N9 2 A rfl rfl fun A=>C0 [.int .i64 5,.int .i64 (-1),.int .i64 7,.int .i64 (-1),.z9,.int .i64 1,.z9,.int .i64 (-1),.int .i64 8,.z9,.ff,.ff,.ff,.z9,.z9,.z9,.ff,.int .i64 4,.z9,.int .i64 (-1),.int .i64 (-1),.z9,.z9,.z9,.int .i64 (-1),.int .i64 8,.z9,.ff,.ff,.ff,.z9,.z9,.z9,.ff] (X:=⟨_,true⟩) hX B hA A rfl rfl rfl rfl fun b2 B hA A=>
 C0 [.sla (some ⟨b1,0,none⟩) 2 2,.sla (some ⟨b2,0,none⟩) 2 2] (X:=⟨_,true⟩) hX B hA A rfl rfl rfl rfl fun b3 B hA A=>
 N9 1 A rfl rfl fun A=>C0 [.int .i64 2,.z9,.z9,.z9,.z9] (X:=⟨_,true⟩) hX B hA A rfl rfl rfl rfl fun b4 B hA A=>
 N9 9 A rfl (iU (by omega)<|iT) fun A=>have A:=AB A 26 (.ptr 5 5) rfl (B8 0 rfl);N9 1 A rfl (iU (by omega)<|iT) fun A=>have A:=AB A 27 (.ptr 5 12) rfl (B8 7 rfl);N9 3 A rfl (iU (by omega)<|iT) fun A=>have A:=AB A 29 (.ptr 5 13) rfl (B8 1 rfl);N9 1 A rfl (iU (by omega)<|iT) fun A=>have A:=AB A 30 (.ptr 5 20) rfl (B8 7 rfl);N9 10 A rfl rfl fun A=>kV (J:=gN) hX (B.trans A) rfl rfl rfl rfl ⟨b1,b2,b3,b4,rfl,e7 (hA.now A) rfl rfl⟩
abbrev gO (a n k:Nat):List Mv:=if((a:Nat):Int)=((n:Nat):Int)then []else [(2,(k:Int),(a:Int))]
theorem Z6 {cs:List AD}{ts:List Th}{s0 s1:Th}{l l1:List In}(hs:ts.getD 0 Th.z=s0)(hl:(cs.getD 0 AD.z).l=l)(p6:ts.getD 1 Th.z=s1)(kU:(cs.getD 1 AD.z).l=l1):Bs cs ts 2=gO s0.at_ l.length 0++gO s1.at_ l1.length 1:=by subst hs;subst hl;subst p6;subst kU;rfl
theorem iH {cs:List AD}{ts:List Th}{old:Int}{s0:Th}{l:List In}(hn:0<ts.length)(hs:ts.getD 0 Th.z=s0)(hl:(cs.getD 0 AD.z).l=l):(CC cs ts 0 old).getD 0 Th.z=Qu l s0 old:=by
 subst hs;subst hl
 match ts,hn with
 |x::_,_=>rfl
theorem Z7 {b1 b2:Nat}:(Ac (EH b1 b2) E9).getD 0 Th.z=⟨0,E9 0⟩:=rfl
abbrev Ya (b1 b2:Nat)(cs':List AD):Hp:=[some (.blk [.ptr 1 0,.int .i64 ((Ex mZ (A5 (Ac (EH b1 b2) E9) (0:Int)).r (AT cs' (Ac (EH b1 b2) E9) (0:Int))) 0),.int .i64 ((Ex mZ (A5 (Ac (EH b1 b2) E9) (0:Int)).r (AT cs' (Ac (EH b1 b2) E9) (0:Int))) 1),.int .i64 ((Ex mZ (A5 (Ac (EH b1 b2) E9) (0:Int)).r (AT cs' (Ac (EH b1 b2) E9) (0:Int))) 2)]),some (.blk [.sl 2 2 0]),some (.row 125 10 2 0 (fun zz=>GJ (cs'.getD zz AD.z) ((CC cs' (Ac (EH b1 b2) E9) 0 (JZ mZ (A5 (Ac (EH b1 b2) E9) (0:Int)).r (AT cs' (Ac (EH b1 b2) E9) (0:Int)))).getD zz Th.z)))]
abbrev QA (b1 b2:Nat)(cs':List AD):List Th:=CC cs' (Ac (EH b1 b2) E9) 0 (JZ mZ (A5 (Ac (EH b1 b2) E9) (0:Int)).r (AT cs' (Ac (EH b1 b2) E9) (0:Int)))
abbrev XH (b1 b2:Nat)(cs':List AD):Rg:=Ex mZ (A5 (Ac (EH b1 b2) E9) (0:Int)).r (AT cs' (Ac (EH b1 b2) E9) (0:Int))
theorem Z8 {b1 b2:Nat}{cs':List AD}(he:(cs'.getD 0 AD.z).l=Dx):(QA b1 b2 cs').getD 0 Th.z=⟨1,E9 0⟩:=(iH (by rw [Lv];exact Nat.zero_lt_succ _) Z7 he).trans rfl
theorem Z9 {b1 b2:Nat}:(Ac (EH b1 b2) E9).getD 1 Th.z=⟨0,E9 1⟩:=rfl
theorem aA {b1 b2:Nat}{cs':List AD}:(QA b1 b2 cs').getD 1 Th.z=⟨0,E9 1⟩:=rfl
theorem XI {b1 b2:Nat}{cs':List AD}(he:(cs'.getD 0 AD.z).l=Dx)(kG:(cs'.getD 1 AD.z).l=FS):Bs cs' (Ac (EH b1 b2) E9) 2=[(2,0,0),(2,1,0)]:=(Z6 Z7 he Z9 kG).trans rfl
theorem aC {b1 b2:Nat}{cs':List AD}(he:(cs'.getD 0 AD.z).l=Dx)(kG:(cs'.getD 1 AD.z).l=FS):Bs cs' (QA b1 b2 cs') 2=[(2,0,1),(2,1,0)]:=(Z6 (Z8 he) he aA kG).trans rfl
abbrev aD {b1 b2:Nat}{cs':List AD}(jJ:Ai cs' (Ac (EH b1 b2) E9) 2):Ai cs' (QA b1 b2 cs') 2:=jJ.set ⟨by decide,by decide⟩ _
theorem e8 {b1 b2:Nat}{cs':List AD}(he:(cs'.getD 0 AD.z).l=Dx):(Ex mZ ((Ac (EH b1 b2) E9).getD (((0:Int)).toNat) Th.z).r ((cs'.getD (((0:Int)).toNat) AD.z).l.getD (((((Ac (EH b1 b2) E9).getD (((0:Int)).toNat) Th.z).at_:Nat):Int)).toNat In.z)) 0=1:=by
 have h:((cs'.getD (((0:Int)).toNat) AD.z).l.getD (((((Ac (EH b1 b2) E9).getD (((0:Int)).toNat) Th.z).at_:Nat):Int)).toNat In.z)=Dx.getD 0 In.z:=by show((cs'.getD 0 AD.z).l).getD 0 In.z=_;rw [he]
 rw [h];show Ex mZ (E9 0) (Dx.getD 0 In.z) 0=1;decide+kernel
theorem e9 {b1 b2:Nat}{cs':List AD}(jJ:Ai cs' (Ac (EH b1 b2) E9) 2)(he:(cs'.getD 0 AD.z).l=Dx)(kG:(cs'.getD 1 AD.z).l=FS):Bi (AH cs') Tryz.prog 21 [.ptr 0 0] [some (.blk (BB 1 mZ)),some (.blk [.sl 2 2 0]),some (AZ cs' (Ac (EH b1 b2) E9) 2)] (Rt (.sl 3 2 0) [some (.blk (BB 1 mZ)),some (.blk [.sl 2 2 0]),some (AZ cs' (Ac (EH b1 b2) E9) 2),some (.row 44 4 2 0 (E7 [(2,0,0),(2,1,0)]))]):=by have h:=YX mZ cs' (Ac (EH b1 b2) E9) 2 jJ (by decide);rw [XI he kG]at h;exact h
theorem fA {b1 b2:Nat}{cs':List AD}(jJ:Ai cs' (Ac (EH b1 b2) E9) 2)(he:(cs'.getD 0 AD.z).l=Dx)(kG:(cs'.getD 1 AD.z).l=FS):Bi (AH cs') Tryz.prog 21 [.ptr 0 0] (Ya b1 b2 cs') (Rt (.sl 3 2 0) [some (.blk [.ptr 1 0,.int .i64 ((XH b1 b2 cs') 0),.int .i64 ((XH b1 b2 cs') 1),.int .i64 ((XH b1 b2 cs') 2)]),some (.blk [.sl 2 2 0]),some (.row 125 10 2 0 (fun zz=>GJ (cs'.getD zz AD.z) ((QA b1 b2 cs').getD zz Th.z))),some (.row 44 4 2 0 (E7 [(2,0,1),(2,1,0)]))]):=by have h:=YX (XH b1 b2 cs') cs' (QA b1 b2 cs') 2 (aD jJ) (by decide);rw [aC he kG]at h;exact h
theorem fB {b1 b2:Nat}{cs':List AD}(jJ:Ai cs' (Ac (EH b1 b2) E9) 2)(he:(cs'.getD 0 AD.z).l=Dx)(kG:(cs'.getD 1 AD.z).l=FS):Bi (TI cs') Tryz.prog 15 [.ptr 0 0,.z9] [some (.blk (BB 1 mZ)),some (.blk [.sl 2 2 0]),some (AZ cs' (Ac (EH b1 b2) E9) 2)] (Rt (.tt) (Ya b1 b2 cs')):=gK mZ cs' (Ac (EH b1 b2) E9) 2 0 0 jJ (by decide) ⟨by decide,by decide⟩ (by show 0<(cs'.getD 0 AD.z).l.length;rw [he];decide) ⟨by decide,by rw [XI he kG];decide⟩ (by rw [XI he kG];rfl)
theorem fC {b1 b2:Nat}{cs':List AD}(jJ:Ai cs' (Ac (EH b1 b2) E9) 2)(he:(cs'.getD 0 AD.z).l=Dx)(kG:(cs'.getD 1 AD.z).l=FS):Bi (TI cs') Tryz.prog 15 [.ptr 0 0,.int .i64 9] (Ya b1 b2 cs') (Rt (.ff) (Ya b1 b2 cs')):=Zq (XH b1 b2 cs') cs' (QA b1 b2 cs') 2 9 (aD jJ) (by decide) (by rw [aC he kG];decide)
theorem fD {b1 b2:Nat}{cs':List AD}(jJ:Ai cs' (Ac (EH b1 b2) E9) 2)(he:(cs'.getD 0 AD.z).l=Dx)(kG:(cs'.getD 1 AD.z).l=FS):Fn Tryz.prog 44 [.ptr 0 0,.z9] (Ya b1 b2 cs') (Rt (.int .i64 1) (Ya b1 b2 cs')):=VC (W2 (XH b1 b2 cs') cs' (QA b1 b2 cs') 2 0 (by decide)) (fun{G}=>congrArg (fun z=>some (Value.int .i64 z)) (e8 he))
theorem fE {b1 b2:Nat}{cs':List AD}(jJ:Ai cs' (Ac (EH b1 b2) E9) 2)(he:(cs'.getD 0 AD.z).l=Dx)(kG:(cs'.getD 1 AD.z).l=FS):Fn Tryz.prog 45 [.ptr 0 0,.z9] [some (.blk [.sl 1 2 0]),some (.row 125 10 2 0 (fun zz=>GJ (cs'.getD zz AD.z) ((QA b1 b2 cs').getD zz Th.z)))] (Rt (.int .i64 1) [some (.blk [.sl 1 2 0]),some (.row 125 10 2 0 (fun zz=>GJ (cs'.getD zz AD.z) ((QA b1 b2 cs').getD zz Th.z)))]):=VC (VD cs' (QA b1 b2 cs') 2 0 ⟨by decide,by decide⟩) (fun{G}=>congrArg (fun z=>some (Value.int .i64 z)) (show((((QA b1 b2 cs').getD 0 Th.z).at_:Nat):Int)=_ by rw [Z8 he];rfl))
end Go.Proofs.YtbbdanhpphlbpaaGreatDoor.Mc
namespace Go.Proofs.YtbbdanhpphlbpaaGreatDoor.Mc
open Go.RowKit
set_option simprocs false
theorem XJ {n:Nat} {ks:List Nat} {G0:Gr} {w0:World} {T:List (Nat×SV)} {H:Hp} {G:Gr} {a:Act} {w:World} {Q:Exit→Act→World→Prop} {K:List Fr} {ops:Array Oper} {o:Oper} {rest:List Oper} {t:Nat} (A:Sy n T H ks G0 w0 G a w) (h1:BS n ops T o=some (43,[.int .i64 1])) (hd:o.dst=some t)
  (k:∀(b1 b2 b3 b4:Nat) {a w},AK (some ⟨b3,0,none⟩) 1 (EH b1 b2).length (fun zz=>He ((EH b1 b2).getD zz AD.z)) w []∧AH (EH b1 b2) w []→Sy n ((t,.agg [.int .i64 1,.str [83,66],.z9,.z9,.z9,.z9,.z9,.z9,.z9,.z9,.z9,.z9,.int .i64 1,.z9,.z9,.z9,.z9,.z9,.z9,.z9,.int .i64 1,.z9,.z9,.z9,.z9,.z9,.z9,.z9,.z9,.sla (some ⟨b3,0,none⟩) 2 2,.int .i64 1,.sla (some ⟨b4,0,none⟩) 1 1])::T) H ks G0 w0 G a w→Goal Tryz.prog Q K (.ops ops rest) a w):Goal Tryz.prog Q K (.ops ops (o::rest)) a w:=by
 refine J3 [] iG A trivial I3.nil (fun b h=>by cases h) h1 rfl rfl rfl rfl fun{x a' w'} hm hJ A'=>?_
 obtain⟨b1,b2,b3,b4,rfl,hp⟩:=hJ
 rw [hd]at A'
 exact k b1 b2 b3 b4 hp A'
theorem aE:Bi Hj Tryz.prog 8 [] [] (Rt .tt []):=
 Ab (n:=47) (by kernel_rfl) Tryz.func8 rfl rfl rfl fun G w a h0 hD A=>have B:=A;have hD:=AK.ok.now A hD;have A:=A.base;N9 7 A rfl rfl fun A=>XJ A rfl rfl fun b1 b2 b3 b4 {_ _} hp A=>
 eY (H':=fun cs'=>[some (AZ cs' (Ac (EH b1 b2) E9) 2),some (.blk [.sl 0 2 0]),some (.blk (BB 1 mZ))]) (RY (EH b1 b2) (some ⟨b3,0,none⟩) 2 E9 mZ 1 1 [83,66] (some ⟨b4,0,none⟩) 1 1 (eZ b1 b2) (show 0<2 by decide)) A hp rfl rfl rfl (fun _=>rfl) fun cs' {_ _ _} jJ he hC A=>have hD:=AK.ok.now A hD;have B:=B.trans A;have A:=B.base;have kG:=he 1 (show 1<2 by decide);have he:=he 0 (show 0<2 by decide);have hI:=(⟨hC,hD⟩:TI cs' _ _);
 N9 7 A rfl rfl fun A=>AW A rfl (VB rfl rfl rfl rfl rfl (by kernel_rfl)) fun A=>N9 5 A rfl rfl fun A=>AW A rfl (VB rfl rfl rfl rfl rfl (by kernel_rfl)) fun A=>N9 9 A rfl rfl fun A=>I9 [2,1,0] AH.ok hI.1 (e9 jJ he kG) A rfl fun A=>N9 9 A rfl rfl fun A=>AN 19 A rfl
  (fun h1 A=>N9 1 A rfl rfl fun A=>I9 [2,1,0] TI.ok hI (fB jJ he kG) A rfl fun A=>N9 3 A rfl rfl fun A=>I9 [2,1,0] TI.ok hI (fC jJ he kG) A rfl fun A=>N9 4 A rfl rfl fun A=>I9 [2,1,0] AH.ok hI.1 (fA jJ he kG) A rfl fun A=>N9 4 A rfl rfl fun A=>AN 34 A rfl
   (fun h2 A=>N9 1 A rfl rfl fun A=>C9 [2,1,0] (fD jJ he kG) A rfl fun A=>N9 3 A rfl rfl fun A=>AN 39 A rfl
    (fun h3 A=>N9 4 A rfl rfl fun A=>C9 [1,0] (fE jJ he kG) A rfl fun A=>N9 6 A rfl rfl fun A=>R9 (B.trans A) rfl h0 rfl rfl rfl)
    (fun h3 A=>absurd h3 (by decide)))
   (fun h2 A=>absurd h2 (by decide)))
  (fun h1 A=>absurd h1 (by decide))
end Go.Proofs.YtbbdanhpphlbpaaGreatDoor.Mc
namespace Go.Proofs.YtbbdanhpphlbpaaGreatDoor.Mc
open Go.RowKit
set_option simprocs false
theorem iS {x:Int}(h:0≤x∧x<3):x.toNat<3:=by omega
abbrev dV (tv:Nat→Value)(m:Rg)(nn:Nat)(ra:Option Addr)(rc:Nat):List Value:=[tv 0,tv 1,tv 2,tv 3,tv 4,tv 5,tv 6,tv 7,tv 8,tv 9,tv 10,tv 11,tv 12,tv 13,tv 14,tv 15,tv 16,tv 17,tv 18,tv 19,tv 20,tv 21,tv 22,tv 23,tv 24,tv 25,tv 26,tv 27,tv 28,tv 29,tv 30,tv 31,.slice ra nn rc,.int .i64 (m 0),.int .i64 (m 1),.int .i64 (m 2),.slice none 0 0,.slice none 0 0,.slice none 0 0,.bool false]
abbrev Oa (tr:List Tr):Nat→List SV:=fun k=>[.v (.pointer (some ⟨(tr.getD k Tr.z).L.b,(tr.getD k Tr.z).L.pre.length,none⟩))]
structure gP (tv:Nat→Value)(m:Rg)(cs:List AD)(ts:List Th)(nn:Nat)(ra:Option Addr)(rc:Nat)(tr:List Tr)(DL:Loc)(w:World):Prop where
 blk:DR w DL.b (DL.pre++dV tv m nn ra rc++DL.post).toArray DL.t
 row:AK ra 1 nn (Oa tr) w (DL.b::Di tr)
 jt:JT cs ts tr 0 w [DL.b]
 cd:AH cs w (DL.b::Di tr)
def aF (tv:Nat→Value)(m:Rg)(cs:List AD)(ts:List Th)(nn:Nat)(ra:Option Addr)(rc:Nat)(tr:List Tr)(DL:Loc):SV→World→World→Prop:=fun _ w w'=>∃tr',DR w' DL.b (DL.pre++dV tv m nn ra rc++DL.post).toArray DL.t∧JT cs ts tr' 0 w' [DL.b]∧tr'.length=nn∧(∀k,k<nn→(tr'.getD k Tr.z).L=(tr.getD k Tr.z).L)∧∀b,(Di tr').contains b=true→(DL.b::Di tr).contains b=true∨w.heap.size≤b
section
variable {P:Program}{n:Nat}{ks:List Nat}{G0:Gr}{w0:World}{T:List (Nat×SV)}{H:Hp}{G:Gr}{a:Act}{w:World}{Q:Exit→Act→World→Prop}{K:List Fr}{pos:Pos}
theorem aG {bs:List Nat} (t:Nat) {L:Loc} {cs:List SV} {vs:List Value} (A:Sy n T [] (L.b::bs) G0 w0 G a w) (hb:DR w L.b (L.pre++vs++L.post).toArray L.t) (hc:AE [] cs=some vs) (ht:look T t=some (E3 L.b L.pre.length))
  (k:Sy n ((t,.ptr 0 0)::T) [some (.blk cs)] (L.b::bs) G0 w0 [some L] a w→Goal P Q K pos a w):Goal P Q K pos a w:=by
 have hG:G=[]:=List.eq_nil_of_length_eq_zero (by rw [←A.mem.len];rfl)
 subst hG
 have A1:=A.takeK (L:=L) (en:=.blk cs) ⟨L,vs,rfl,by simpa using Al [] cs hc,hb⟩ rfl (fun i e M h _ _=>by rw [List.getElem?_nil]at h;cases h) (.inl (by simp))
 exact k (A1.slotEq t ht (by unfold den;rfl))
theorem K5 (A:Sy n T H ks G0 w0 G a w)(i:Nat){L:Loc}{cs:List SV}{vs:List Value}(hi:lg H i=some (some (.blk cs)))(hG:G[i]?=some (some L))(hc:AE [] cs=some vs):DR w L.b (L.pre++vs++L.post).toArray L.t:=by
 rw [Ah]at hi
 obtain⟨M,us,p1,p2,p3⟩:=A.mem.ent i _ hi
 rw [hG]at p1
 cases p1
 have:AE G cs=some vs:=by simpa using Al G cs hc
 rw [this]at p2
 cases p2
 exact p3
theorem L7 {cs:List SV}{L:Loc}{bs:List Nat}(b:Nat)(hb:(keys [some (.blk cs)] [some L]).contains b=true):(L.b::bs).contains b=true:=by
 have h:b=L.b:=by simpa using (show [L.b].contains b=true from hb)
 rw [h,List.contains_cons,beq_self_eq_true,Bool.true_or]
theorem G5 {cs:List SV}{L:Loc}(h:G[0]?=some (some L)):keys [some (.blk cs)] (G.take 1)=[L.b]:=by
 match G,h with
 |x::_,h=>cases h;rfl
end
theorem XK (f v a s:Int):Gu f v a s=Hz f v a s:=rfl
theorem XL {m r:Rg}{i:In}(hr:((i.op==4)||(i.op==6))=true)(BK:CE i=true)(hs:i.sz=1∨i.sz=2∨i.sz=4∨i.sz=8)(hm:inr (m i.loc.toNat)):Hi r i (Int.fdiv (m i.loc.toNat) (2^min (8*FC r i).toNat (IntKind.bits .i64)))=Hi r i (JZ m r i):=by
 unfold Hi JZ
 rw [if_pos hr,if_pos hr,if_pos BK,(RP (Dv hs) hm).1,(RP (Dv hs) hm).2]
theorem XM {r:Rg}{i:In}(hr:((i.op==4)||(i.op==6))=false)(x y:Int):Hi r i x=Hi r i y:=by
 unfold Hi;rw [if_neg (ne_true_of_eq_false hr),if_neg (ne_true_of_eq_false hr)]
theorem aH {i:In}(hr:((i.op==4)||(i.op==6))=true):CE i=true:=by
 simp only [Bool.or_eq_true,beq_iff_eq]at hr;unfold CE
 rcases hr with h|h<;>rw [h]<;>rfl
theorem RZ {i:In}(hr:OU i=true):CE i=true:=by
 unfold OU at hr
 simp only [Bool.or_eq_true,beq_iff_eq]at hr;unfold CE
 rcases hr with h|h<;>rw [h]<;>rfl
theorem Ra {i:In}(hm:CE i=true):T2 i=i.loc:=by
 have h:=JC hm
 unfold T2
 rw [if_pos (by simp only [Bool.or_eq_true,beq_iff_eq];omega)]
theorem Rb {r:Rg}{i:In}(hm:CE i=true)(hs:i.sz=1∨i.sz=2∨i.sz=4∨i.sz=8):T3 r i=Bf (FC r i) i.sz:=by
 have h:=JC hm
 unfold T3 Bf
 rw [if_pos (by simp only [Bool.or_eq_true,beq_iff_eq];omega),RL (Dv hs)]
theorem Rc {i:In}{r:Rg}(h5:i.op=5)(ha: -1≤i.ra∧i.ra<8):FO r i=BU (E8 r i) i.sz:=by
 have hm:CE i=true:=by unfold CE;rw [h5];rfl
 unfold FO E8 CV
 rw [hm,if_pos rfl,if_pos h5,h5]
 by_cases h:i.ra= -1
 ·rw [h];rfl
 ·have h2:¬i.ra<0:=by omega
  rw [if_neg h,if_neg h,decide_eq_false h2];rfl
theorem XN {i:In}{r:Rg}(h6:i.op=6)(ha:0≤i.ra∧i.ra<8):FO r i=E8 r i:=by
 have hm:CE i=true:=by unfold CE;rw [h6];rfl
 unfold FO E8 CV
 have h:¬i.ra= -1:=by omega
 rw [hm,if_pos rfl,if_neg (by omega),if_pos h6,h6,if_neg h];rfl
theorem aI {m r:Rg}{i:In}(hw:OU i=true)(hr:((i.op==4)||(i.op==6))=false)(hs:Tg i)(old:Int):RU r i old=Fp i (Ak (m i.loc.toNat) (FC r i) i.sz) (FO r i):=by
 unfold OU at hw
 simp only [Bool.or_eq_true,beq_iff_eq,Bool.or_eq_false_iff,beq_eq_false_iff_ne,ne_eq]at hw hr
 have h5:i.op=5:=by omega
 unfold RU Fp
 rw [if_neg (by omega),if_pos h5,if_neg (by simp only [Bool.or_eq_true,beq_iff_eq];omega),Rc h5 (hs.a5 h5)]
theorem aJ {m r:Rg}{i:In}(hw:OU i=true)(hr:((i.op==4)||(i.op==6))=true)(hs:Tg i)(hz:i.sz=1∨i.sz=2∨i.sz=4∨i.sz=8)(hm:inr (m i.loc.toNat)):RU r i (Int.fdiv (m i.loc.toNat) (2^min (8*FC r i).toNat (IntKind.bits .i64)))=Fp i (Ak (m i.loc.toNat) (FC r i) i.sz) (FO r i):=by
 have pQ:=hr
 unfold OU at hw
 simp only [Bool.or_eq_true,beq_iff_eq]at hw hr
 have h6:i.op=6:=by omega
 unfold RU Fp
 rw [if_pos h6,if_pos pQ,(RP (Dv hz) hm).1,XN h6 (hs.a (.inr (.inr (.inl h6)))),XK]
theorem Vb {m r:Rg}{i:In}(hw:OU i=true):Ex m r i=BA m i.loc.toNat (A8 (m i.loc.toNat) (FC r i) i.sz (Fp i (Ak (m i.loc.toNat) (FC r i) i.sz) (FO r i))):=by
 unfold Ex;rw [if_pos (RZ hw),if_pos hw]
theorem Vc {m r:Rg}{i:In}(hw:OU i=false):Ex m r i=m:=by
 unfold Ex;split
 ·rw [if_neg (ne_true_of_eq_false hw)]
 ·rfl
theorem Oc {i:In}(hw:OU i=true)(hs:Tg i)(old:Int)(r:Rg):inr (Fp i old (FO r i)):=by
 unfold OU at hw
 simp only [Bool.or_eq_true,beq_iff_eq]at hw
 unfold Fp
 split
 ·exact RQ _ _ _ _
 ·next h=>
  simp only [Bool.or_eq_true,beq_iff_eq]at h
  have h5:i.op=5:=by omega
  rw [Rc h5 (hs.a5 h5)];exact JD _ _
theorem T6 {m r:Rg}{i:In}(h:∀k,k<3→inr (m k)):∀k,k<3→inr (Ex m r i k):=fun k hk=>by
 unfold Ex
 split
 ·split
  ·unfold BA
   split
   ·next e=>subst e;exact RR _ _ _ (h _ hk)
   ·exact h k hk
  ·exact h k hk
 ·exact h k hk
theorem aK (l:List In)(ao:Option Addr)(cp:Nat)(at_:Int)(r:Rg)(pv:Value)(i:In)(hs:i.sz=1∨i.sz=2∨i.sz=4∨i.sz=8)(hx: -1≤i.ix∧i.ix<8):Fn Tryz.prog 63 [.el 0 11 0 0,.agg (CD i)] [some (.lst 11 1 (fun _=>EG (.sla ao l.length cp) r at_ (.v pv)))] (Rt (.agg [.int .i64 i.loc,.int .i64 (Bf (FC r i) i.sz)]) [some (.lst 11 1 (fun _=>EG (.sla ao l.length cp) r at_ (.v pv)))]):=by
 have h:=XE l ao cp at_ r pv i hs hx
 have e:A7 (AU i.off (CV r i.ix 0) i.sz) i.sz=Bf (FC r i) i.sz:=by unfold Bf;rw [RL (Dv hs)]
 rw [e]at h
 exact h
theorem fF (tv:Nat→Value)(m:Nat→Int)(cs:List AD)(ts:List Th)(nn:Nat)(ra:Option Addr)(rc:Nat)(tr:List Tr)(DL:Loc)(th at_:Int)(qI:tr.length=nn)(mP:ts.length=nn)(hle:nn≤cs.length)(kP:nn≤3)(rW:0≤th∧th<((nn:Nat):Int))(kT:E6 (cs.getD ((th).toNat) AD.z).l)(jY:(A5 ts th).at_<(cs.getD ((th).toNat) AD.z).l.length)(qV:∀k,k<3→inr (m k)):MS Tryz.prog 16 [E3 DL.b DL.pre.length,.agg [.int .i64 2,.int .i64 th,.int .i64 at_,.z9]] [] (DL.b::Di tr) (gP tv m cs ts nn ra rc tr DL) (aF tv (Ex m (A5 ts th).r (AT cs ts th)) cs (CC cs ts th (JZ m (A5 ts th).r (AT cs ts th))) nn ra rc tr DL):=
 FN (n:=103) (by kernel_rfl) Tryz.func16 rfl rfl rfl (fun i e h=>by rw [List.getElem?_nil]at h;cases h) fun G w a h0 ho hp A=>have lC:(th).toNat<nn:=(by omega);have qU:Tg (AT cs ts th):=kT.snd jY;have qJ:((AT cs ts th).op=4∨(AT cs ts th).op=5∨(AT cs ts th).op=6)→((AT cs ts th).sz=1∨(AT cs ts th).sz=2∨(AT cs ts th).sz=4∨(AT cs ts th).sz=8):=kT.szs jY;have qK:((AT cs ts th).op=4∨(AT cs ts th).op=5∨(AT cs ts th).op=6)→(0≤(AT cs ts th).loc∧(AT cs ts th).loc<3):=kT.loc jY;aG 0 A hp.blk rfl rfl fun A=>have B:=A;have A:=B.base;have h0:=B.mem.len;have hG:[some DL][0]?=some (some DL):=rfl;have uM:JT cs ts tr 0 _ (keys [some (.blk (dS tv m nn ra rc))] [some DL]):=hp.jt;have r9:AH cs _ (keys [some (.blk (dS tv m nn ra rc))] [some DL]):=AH.ok _ _ _ _ hp.cd (CR.refl _ _) (fun b hb=>.inl (L7 b hb));have hI:K3 cs ts nn ra (fun k=>(tr.getD k Tr.z).L.b) (fun k=>(tr.getD k Tr.z).L.pre.length) (fun k=>(cs.getD k AD.z).ao) (fun k=>(cs.getD k AD.z).cp) (fun k=>J7 (tr.getD k Tr.z).pb (tr.getD k Tr.z).ps.length) _ _:=⟨AK.ok _ _ _ _ hp.row (CR.refl _ _) (fun b hb=>.inl (L7 b hb)),JT.look2 (z:=tr) uM r9 r9 qI hle (fun _ _=>rfl) (fun _ _=>rfl)⟩;
 N9 9 A rfl rfl fun A=>N9 9 A rfl rfl fun A=>have A:=AB A 15 (.ff) rfl (fun _=>rfl);N9 6 A rfl rfl fun A=>have jU:AK (some ⟨(tr.getD (th).toNat Tr.z).L.b,(tr.getD (th).toNat Tr.z).L.pre.length,none⟩) 11 1 (fun _=>EG (.sla (cs.getD ((th).toNat) AD.z).ao (cs.getD ((th).toNat) AD.z).l.length (cs.getD ((th).toNat) AD.z).cp) (A5 ts th).r (((A5 ts th).at_:Nat):Int) (.v (J7 (tr.getD (th).toNat Tr.z).pb (tr.getD (th).toNat Tr.z).ps.length))) _ _:=(hI.2.2 (th).toNat lC).1;have jP:Em (cs.getD ((th).toNat) AD.z).ao (cs.getD ((th).toNat) AD.z).l _ _:=(hI.2.2 (th).toNat lC).2;N9 4 A rfl rfl fun A=>AW A rfl (Aj (X:=⟨_,true⟩) (out:=.val (.sla ra nn rc) []) hX rfl iT) fun A=>N9 1 A rfl rfl fun A=>AW A rfl (GF (e:=99) rfl rfl rfl rfl hI.1 (by kernel_rfl) (by omega)) fun A=>AW A rfl (Kx (q:=0) (r:=[.v (.pointer (some ⟨(tr.getD (th).toNat Tr.z).L.b,(tr.getD (th).toNat Tr.z).L.pre.length,none⟩))]) (v:=.v (.pointer (some ⟨(tr.getD (th).toNat Tr.z).L.b,(tr.getD (th).toNat Tr.z).L.pre.length,none⟩))) hX rfl rfl rfl hI.1 (by omega) rfl rfl rfl) fun A=>N9 4 A rfl rfl fun A=>Hh BK [.v (.pointer (some ⟨(tr.getD (th).toNat Tr.z).L.b,(tr.getD (th).toNat Tr.z).L.pre.length,none⟩)),.v (.pointer (some ⟨(tr.getD (th).toNat Tr.z).L.b,(tr.getD (th).toNat Tr.z).L.pre.length,none⟩)),.v (.pointer (some ⟨(tr.getD (th).toNat Tr.z).L.b,(tr.getD (th).toNat Tr.z).L.pre.length+0,none⟩)),.sla ((cs.getD ((th).toNat) AD.z).ao) ((cs.getD ((th).toNat) AD.z).l.length) ((cs.getD ((th).toNat) AD.z).cp),.v (.pointer (some ⟨(tr.getD (th).toNat Tr.z).L.b,(tr.getD (th).toNat Tr.z).L.pre.length,none⟩)),.v (.pointer (some ⟨(tr.getD (th).toNat Tr.z).L.b,(tr.getD (th).toNat Tr.z).L.pre.length,none⟩)),.v (.pointer (some ⟨(tr.getD (th).toNat Tr.z).L.b,(tr.getD (th).toNat Tr.z).L.pre.length+9,none⟩)),.int .i64 (((A5 ts th).at_:Nat):Int),.v (.pointer (P8 ((cs.getD ((th).toNat) AD.z).ao) 17 (((A5 ts th).at_:Nat):Int))),.agg (AS (AT cs ts th)),.ptr 2 0,.tup []] [10,11] [2] 1 [([],[2],[some (.blk (dS tv m nn ra rc)),some (.blk [.int .i64 2,.int .i64 th,.int .i64 at_,.z9]),none]),([10],[],[some (.blk (dS tv m nn ra rc)),some (.blk [.int .i64 2,.int .i64 th,.int .i64 at_,.z9]),some (.blk [.z9,.z9,.z9,.z9,.z9,.z9,.z9,.z9,.z9,.z9,.ff,.ff,.ff,.z9,.z9,.z9,.ff])]),([10,11],[],[some (.blk (dS tv m nn ra rc)),some (.blk [.int .i64 2,.int .i64 th,.int .i64 at_,.z9]),some (.blk (AS (AT cs ts th)))])] [[true,true,true,true,true,true,true,true,true,true,true,false],[true,true,true,true,true,true,true,true,true,true,false,true],[false,false,false,false,false,false,false,false,false,false,false,false]] A rfl rfl rfl rfl (by kernel_rfl) rfl (by kernel_rfl) ⟨⟨iV 0 rfl rfl,⟨BT 0 rfl (Jl rfl rfl rfl),⟨BT 0 rfl (Jm rfl rfl rfl (by kernel_rfl)),⟨BT 0 rfl (S4 (q:=0) (v:=.sla ((cs.getD ((th).toNat) AD.z).ao) ((cs.getD ((th).toNat) AD.z).l.length) ((cs.getD ((th).toNat) AD.z).cp)) hX rfl rfl rfl jU rfl rfl rfl),⟨iV 0 rfl rfl,⟨BT 0 rfl (Jl rfl rfl rfl),⟨BT 0 rfl (Jm rfl rfl rfl (by kernel_rfl)),⟨BT 0 rfl (S4 (q:=9) (v:=.int .i64 (((A5 ts th).at_:Nat):Int)) hX rfl rfl rfl jU rfl rfl rfl),⟨BT 0 rfl (GF (e:=63) rfl rfl rfl rfl jP (by kernel_rfl) (by omega)),⟨BT 0 rfl (M1 (CD (AT cs ts th)) hX rfl rfl rfl jP (by omega) rfl rfl),⟨⟨_,_,_,_,1,rfl,rfl,rfl,rfl,Da 2 (X:=⟨_,true⟩) hX rfl rfl (Mt h0 rfl) rfl rfl rfl rfl⟩,trivial⟩⟩⟩⟩⟩⟩⟩⟩⟩⟩⟩,⟨⟨iV 1 rfl rfl,⟨BT 1 rfl (Jl rfl rfl rfl),⟨BT 1 rfl (Jm rfl rfl rfl (by kernel_rfl)),⟨BT 1 rfl (S4 (q:=0) (v:=.sla ((cs.getD ((th).toNat) AD.z).ao) ((cs.getD ((th).toNat) AD.z).l.length) ((cs.getD ((th).toNat) AD.z).cp)) hX rfl rfl rfl jU rfl rfl rfl),⟨iV 1 rfl rfl,⟨BT 1 rfl (Jl rfl rfl rfl),⟨BT 1 rfl (Jm rfl rfl rfl (by kernel_rfl)),⟨BT 1 rfl (S4 (q:=9) (v:=.int .i64 (((A5 ts th).at_:Nat):Int)) hX rfl rfl rfl jU rfl rfl rfl),⟨BT 1 rfl (GF (e:=63) rfl rfl rfl rfl jP (by kernel_rfl) (by omega)),⟨BT 1 rfl (M1 (CD (AT cs ts th)) hX rfl rfl rfl jP (by omega) rfl rfl),⟨BT 2 rfl (Aj (X:=⟨_,true⟩) (out:=.upd 2 (AS (AT cs ts th)) _) hX rfl rfl),trivial⟩⟩⟩⟩⟩⟩⟩⟩⟩⟩⟩,⟨trivial,trivial⟩⟩⟩ fun A=>N9 10 A rfl rfl fun A=>C9 [] (VK (AT cs ts th)) A rfl fun A=>N9 2 A rfl rfl fun A=>fork 58 A rfl
  (fun hr A=>have BK:=aH hr;have j9:=qJ (JC BK);have mV:=qK (JC BK);have sA:=Dv (r:=(A5 ts th).r) j9;N9 6 A rfl rfl fun A=>Ws 61 jU A rfl rfl fun A=>C9 [3] (aK ((cs.getD ((th).toNat) AD.z).l) ((cs.getD ((th).toNat) AD.z).ao) ((cs.getD ((th).toNat) AD.z).cp) (((A5 ts th).at_:Nat):Int) ((A5 ts th).r) (J7 (tr.getD (th).toNat Tr.z).pb (tr.getD (th).toNat Tr.z).ps.length) (AT cs ts th) j9 (qU.x (JC BK))) A rfl fun A=>C9 [0] (eW tv m nn ra rc th (AT cs ts th).loc (FC (A5 ts th).r (AT cs ts th)) (AT cs ts th).sz mV sA (by omega)) A rfl fun A=>N9 4 A rfl rfl fun A=>have A:=A.hide 3;N9 3 A rfl rfl fun A=>have hG:=A.at_pre hG;Va (z:=tr) (B.trans A) hp.cd (fun b hb=>.inl (by rw [List.contains_cons,hb,Bool.or_true])) (JT.ok.now A uM) (Nat.zero_le _) qI (fun _ _=>rfl) lC mP hle rfl kT (Int.fdiv (m ((AT cs ts th).loc).toNat) (2^min (8*(FC (A5 ts th).r (AT cs ts th))).toNat (IntKind.bits .i64))) rfl jY rfl fun tr1 p {a w} l6 sB kU mT B=>have l6:=l6.as (congrArg (fun r=>ts.set (th).toNat ⟨(A5 ts th).at_+1,r⟩) (XL hr BK j9 (qV _ (iS mV))));have A:=B.base;have h0:=B.mem.len;N9 11 A rfl rfl fun A=>fork 69 A rfl
   (fun hw A=>have BK:=RZ hw;have j9:=qJ (JC BK);have mV:=qK (JC BK);have sA:=Dv (r:=(A5 ts th).r) j9;N9 2 A rfl rfl fun A=>have A:=A.sayH (H':=[some (.blk (dS tv m nn ra rc)),some (.blk [.int .i64 2,.int .i64 th,.int .i64 at_,.z9]),some (.blk (AS (AT cs ts th))),none,some (.blk [.z9,.int .i64 p,.int .i64 (((A5 ts th).at_:Nat):Int),.int .i64 ((AT cs ts th).op),.int .i64 ((AT cs ts th).loc),.int .i64 (Bf (FC (A5 ts th).r (AT cs ts th)) (AT cs ts th).sz),.bool (((AT cs ts th).op==4)||((AT cs ts th).op==6)),.bool (((AT cs ts th).op==5)||((AT cs ts th).op==6)),.int .i64 (LK (AT cs ts th) (Int.fdiv (m ((AT cs ts th).loc).toNat) (2^min (8*(FC (A5 ts th).r (AT cs ts th))).toNat (IntKind.bits .i64)))),.int .i64 (Fp (AT cs ts th) (Ak (m (AT cs ts th).loc.toNat) (FC (A5 ts th).r (AT cs ts th)) (AT cs ts th).sz) (FO (A5 ts th).r (AT cs ts th))),.bool ((AT cs ts th).acq),.bool ((AT cs ts th).weak),.bool ((AT cs ts th).rel),.int .i64 ((AT cs ts th).pred),.int .i64 ((AT cs ts th).succ)])]) (by rw [Ra BK,Rb BK j9,(aJ hw hr qU j9 (qV _ (iS mV)))]);N9 27 A rfl rfl fun A=>C9 [0] (VY tv m nn ra rc (AT cs ts th).loc (FC (A5 ts th).r (AT cs ts th)) (AT cs ts th).sz (Fp (AT cs ts th) (Ak (m (AT cs ts th).loc.toNat) (FC (A5 ts th).r (AT cs ts th)) (AT cs ts th).sz) (FO (A5 ts th).r (AT cs ts th))) mV sA (qV _ (iS mV)) (Oc hw qU _ _)) A rfl fun A=>N9 4 A rfl rfl fun A=>have hG:=A.at_pre hG;K4 (z:=tr) (B.trans A) hp.cd mT (JT.ok.now A l6) (Nat.zero_le _) sB kU lC (by rw [List.length_set];exact mP) hle rfl kT (I6 (by omega)) (Nat.succ_le_of_lt jY) rfl fun tr2 {a w x} mG qL nI lE B=>have mG:=mG.as (Fl rfl jY);have A:=B.base;have h0:=B.mem.len;N9 1 A rfl rfl fun A=>Df (have A:=A.sayH (H':=[some (.blk (dS tv (Ex m (A5 ts th).r (AT cs ts th)) nn ra rc)),some (.blk [.int .i64 2,.int .i64 th,.int .i64 at_,.z9]),some (.blk (AS (AT cs ts th))),none,some (.blk [.z9,.int .i64 p,.int .i64 (((A5 ts th).at_:Nat):Int),.int .i64 ((AT cs ts th).op),.int .i64 ((AT cs ts th).loc),.int .i64 (Bf (FC (A5 ts th).r (AT cs ts th)) (AT cs ts th).sz),.bool (((AT cs ts th).op==4)||((AT cs ts th).op==6)),.bool (((AT cs ts th).op==5)||((AT cs ts th).op==6)),.int .i64 (LK (AT cs ts th) (Int.fdiv (m ((AT cs ts th).loc).toNat) (2^min (8*(FC (A5 ts th).r (AT cs ts th))).toNat (IntKind.bits .i64)))),.int .i64 (Fp (AT cs ts th) (Ak (m (AT cs ts th).loc.toNat) (FC (A5 ts th).r (AT cs ts th)) (AT cs ts th).sz) (FO (A5 ts th).r (AT cs ts th))),.bool ((AT cs ts th).acq),.bool ((AT cs ts th).weak),.bool ((AT cs ts th).rel),.int .i64 ((AT cs ts th).pred),.int .i64 ((AT cs ts th).succ)]),some (.blk [.int .i64 ((AT cs ts th).loc),.int .i64 (Bf (FC (A5 ts th).r (AT cs ts th)) (AT cs ts th).sz),.int .i64 (Fp (AT cs ts th) (Ak (m (AT cs ts th).loc.toNat) (FC (A5 ts th).r (AT cs ts th)) (AT cs ts th).sz) (FO (A5 ts th).r (AT cs ts th)))])]) (by rw [Vb hw]);have C:=B.trans A;have hG:=A.at_pre hG;kV (J:=aF tv (Ex m (A5 ts th).r (AT cs ts th)) cs (CC cs ts th (JZ m (A5 ts th).r (AT cs ts th))) nn ra rc tr DL) hX C rfl rfl rfl rfl ⟨tr2,K5 A 0 rfl hG rfl,(G5 hG)▸(JT.ok.now A mG).take 1,qL,nI,lE⟩))
   (fun hw A=>N9 5 A rfl rfl fun A=>have hG:=A.at_pre hG;K4 (z:=tr) (B.trans A) hp.cd mT (JT.ok.now A l6) (Nat.zero_le _) sB kU lC (by rw [List.length_set];exact mP) hle rfl kT (I6 (by omega)) (Nat.succ_le_of_lt jY) rfl fun tr2 {a w x} mG qL nI lE B=>have mG:=mG.as (Fl rfl jY);have A:=B.base;have h0:=B.mem.len;N9 1 A rfl rfl fun A=>Df (have A:=A.sayH (H':=[some (.blk (dS tv (Ex m (A5 ts th).r (AT cs ts th)) nn ra rc)),some (.blk [.int .i64 2,.int .i64 th,.int .i64 at_,.z9]),some (.blk (AS (AT cs ts th))),none,some (.blk [.z9,.int .i64 p,.int .i64 (((A5 ts th).at_:Nat):Int),.int .i64 ((AT cs ts th).op),.int .i64 (T2 (AT cs ts th)),.int .i64 (T3 (A5 ts th).r (AT cs ts th)),.bool (((AT cs ts th).op==4)||((AT cs ts th).op==6)),.bool (((AT cs ts th).op==5)||((AT cs ts th).op==6)),.int .i64 (LK (AT cs ts th) (Int.fdiv (m ((AT cs ts th).loc).toNat) (2^min (8*(FC (A5 ts th).r (AT cs ts th))).toNat (IntKind.bits .i64)))),.int .i64 (RU (A5 ts th).r (AT cs ts th) (Int.fdiv (m ((AT cs ts th).loc).toNat) (2^min (8*(FC (A5 ts th).r (AT cs ts th))).toNat (IntKind.bits .i64)))),.bool ((AT cs ts th).acq),.bool ((AT cs ts th).weak),.bool ((AT cs ts th).rel),.int .i64 ((AT cs ts th).pred),.int .i64 ((AT cs ts th).succ)])]) (by rw [Vc hw]);have C:=B.trans A;have hG:=A.at_pre hG;kV (J:=aF tv (Ex m (A5 ts th).r (AT cs ts th)) cs (CC cs ts th (JZ m (A5 ts th).r (AT cs ts th))) nn ra rc tr DL) hX C rfl rfl rfl rfl ⟨tr2,K5 A 0 rfl hG rfl,(G5 hG)▸(JT.ok.now A mG).take 1,qL,nI,lE⟩)))
  (fun hr A=>N9 4 A rfl rfl fun A=>N9 3 A rfl rfl fun A=>have hG:=A.at_pre hG;Va (z:=tr) (B.trans A) hp.cd (fun b hb=>.inl (by rw [List.contains_cons,hb,Bool.or_true])) (JT.ok.now A uM) (Nat.zero_le _) qI (fun _ _=>rfl) lC mP hle rfl kT 0 rfl jY rfl fun tr1 p {a w} l6 sB kU mT B=>have l6:=l6.as (congrArg (fun r=>ts.set (th).toNat ⟨(A5 ts th).at_+1,r⟩) (XM hr 0 (JZ m (A5 ts th).r (AT cs ts th))));have A:=B.base;have h0:=B.mem.len;N9 11 A rfl rfl fun A=>fork 69 A rfl
   (fun hw A=>have BK:=RZ hw;have j9:=qJ (JC BK);have mV:=qK (JC BK);have sA:=Dv (r:=(A5 ts th).r) j9;N9 2 A rfl rfl fun A=>have A:=A.sayH (H':=[some (.blk (dS tv m nn ra rc)),some (.blk [.int .i64 2,.int .i64 th,.int .i64 at_,.z9]),some (.blk (AS (AT cs ts th))),some (.blk [.z9,.int .i64 p,.int .i64 (((A5 ts th).at_:Nat):Int),.int .i64 ((AT cs ts th).op),.int .i64 ((AT cs ts th).loc),.int .i64 (Bf (FC (A5 ts th).r (AT cs ts th)) (AT cs ts th).sz),.bool (((AT cs ts th).op==4)||((AT cs ts th).op==6)),.bool (((AT cs ts th).op==5)||((AT cs ts th).op==6)),.int .i64 (LK (AT cs ts th) 0),.int .i64 (Fp (AT cs ts th) (Ak (m (AT cs ts th).loc.toNat) (FC (A5 ts th).r (AT cs ts th)) (AT cs ts th).sz) (FO (A5 ts th).r (AT cs ts th))),.bool ((AT cs ts th).acq),.bool ((AT cs ts th).weak),.bool ((AT cs ts th).rel),.int .i64 ((AT cs ts th).pred),.int .i64 ((AT cs ts th).succ)])]) (by rw [Ra BK,Rb BK j9,(aI (m:=m) hw hr qU 0)]);N9 27 A rfl rfl fun A=>C9 [0] (VY tv m nn ra rc (AT cs ts th).loc (FC (A5 ts th).r (AT cs ts th)) (AT cs ts th).sz (Fp (AT cs ts th) (Ak (m (AT cs ts th).loc.toNat) (FC (A5 ts th).r (AT cs ts th)) (AT cs ts th).sz) (FO (A5 ts th).r (AT cs ts th))) mV sA (qV _ (iS mV)) (Oc hw qU _ _)) A rfl fun A=>N9 4 A rfl rfl fun A=>have hG:=A.at_pre hG;K4 (z:=tr) (B.trans A) hp.cd mT (JT.ok.now A l6) (Nat.zero_le _) sB kU lC (by rw [List.length_set];exact mP) hle rfl kT (I6 (by omega)) (Nat.succ_le_of_lt jY) rfl fun tr2 {a w x} mG qL nI lE B=>have mG:=mG.as (Fl rfl jY);have A:=B.base;have h0:=B.mem.len;N9 1 A rfl rfl fun A=>Df (have A:=A.sayH (H':=[some (.blk (dS tv (Ex m (A5 ts th).r (AT cs ts th)) nn ra rc)),some (.blk [.int .i64 2,.int .i64 th,.int .i64 at_,.z9]),some (.blk (AS (AT cs ts th))),some (.blk [.z9,.int .i64 p,.int .i64 (((A5 ts th).at_:Nat):Int),.int .i64 ((AT cs ts th).op),.int .i64 ((AT cs ts th).loc),.int .i64 (Bf (FC (A5 ts th).r (AT cs ts th)) (AT cs ts th).sz),.bool (((AT cs ts th).op==4)||((AT cs ts th).op==6)),.bool (((AT cs ts th).op==5)||((AT cs ts th).op==6)),.int .i64 (LK (AT cs ts th) 0),.int .i64 (Fp (AT cs ts th) (Ak (m (AT cs ts th).loc.toNat) (FC (A5 ts th).r (AT cs ts th)) (AT cs ts th).sz) (FO (A5 ts th).r (AT cs ts th))),.bool ((AT cs ts th).acq),.bool ((AT cs ts th).weak),.bool ((AT cs ts th).rel),.int .i64 ((AT cs ts th).pred),.int .i64 ((AT cs ts th).succ)]),some (.blk [.int .i64 ((AT cs ts th).loc),.int .i64 (Bf (FC (A5 ts th).r (AT cs ts th)) (AT cs ts th).sz),.int .i64 (Fp (AT cs ts th) (Ak (m (AT cs ts th).loc.toNat) (FC (A5 ts th).r (AT cs ts th)) (AT cs ts th).sz) (FO (A5 ts th).r (AT cs ts th)))])]) (by rw [Vb hw]);have C:=B.trans A;have hG:=A.at_pre hG;kV (J:=aF tv (Ex m (A5 ts th).r (AT cs ts th)) cs (CC cs ts th (JZ m (A5 ts th).r (AT cs ts th))) nn ra rc tr DL) hX C rfl rfl rfl rfl ⟨tr2,K5 A 0 rfl hG rfl,(G5 hG)▸(JT.ok.now A mG).take 1,qL,nI,lE⟩))
   (fun hw A=>N9 5 A rfl rfl fun A=>have hG:=A.at_pre hG;K4 (z:=tr) (B.trans A) hp.cd mT (JT.ok.now A l6) (Nat.zero_le _) sB kU lC (by rw [List.length_set];exact mP) hle rfl kT (I6 (by omega)) (Nat.succ_le_of_lt jY) rfl fun tr2 {a w x} mG qL nI lE B=>have mG:=mG.as (Fl rfl jY);have A:=B.base;have h0:=B.mem.len;N9 1 A rfl rfl fun A=>Df (have A:=A.sayH (H':=[some (.blk (dS tv (Ex m (A5 ts th).r (AT cs ts th)) nn ra rc)),some (.blk [.int .i64 2,.int .i64 th,.int .i64 at_,.z9]),some (.blk (AS (AT cs ts th))),some (.blk [.z9,.int .i64 p,.int .i64 (((A5 ts th).at_:Nat):Int),.int .i64 ((AT cs ts th).op),.int .i64 (T2 (AT cs ts th)),.int .i64 (T3 (A5 ts th).r (AT cs ts th)),.bool (((AT cs ts th).op==4)||((AT cs ts th).op==6)),.bool (((AT cs ts th).op==5)||((AT cs ts th).op==6)),.int .i64 (LK (AT cs ts th) 0),.int .i64 (RU (A5 ts th).r (AT cs ts th) 0),.bool ((AT cs ts th).acq),.bool ((AT cs ts th).weak),.bool ((AT cs ts th).rel),.int .i64 ((AT cs ts th).pred),.int .i64 ((AT cs ts th).succ)])]) (by rw [Vc hw]);have C:=B.trans A;have hG:=A.at_pre hG;kV (J:=aF tv (Ex m (A5 ts th).r (AT cs ts th)) cs (CC cs ts th (JZ m (A5 ts th).r (AT cs ts th))) nn ra rc tr DL) hX C rfl rfl rfl rfl ⟨tr2,K5 A 0 rfl hG rfl,(G5 hG)▸(JT.ok.now A mG).take 1,qL,nI,lE⟩)))
end Go.Proofs.YtbbdanhpphlbpaaGreatDoor.Mc
namespace Go.Proofs.YtbbdanhpphlbpaaGreatDoor
open Go.Shelf Go.RowKit
def L9:Go.Shelf.Ren:=⟨fun|137=>207|217=>233|266=>264|n=>n,fun|9=>9|5=>5|3=>3|n=>n,fun|n=>n⟩
theorem T7:Go.Proofs.Lays.n137 Tryz.prog L9:={
 mixed:=by kernel_rfl
 f137:=Tryz.func207.trans (congrArg some (by kernel_rfl))
 f217:=Tryz.func233.trans (congrArg some (by kernel_rfl))
 f266:=Tryz.func264.trans (congrArg some (by kernel_rfl))
 t3:=Tryz.underlying3
 a3:=Tryz.isAgg3
 z3:=Tryz.sizeOf3
 v3:=Tryz.zeroValue3
 t5:=Tryz.underlying5
 a5:=Tryz.isAgg5
 z5:=Tryz.sizeOf5
 v5:=Tryz.zeroValue5
 t9:=Tryz.underlying9
 a9:=Tryz.isAgg9
 z9:=Tryz.sizeOf9
 v9:=Tryz.zeroValue9}
def MA:Go.Shelf.Ren:=⟨fun|143=>152|219=>203|217=>233|225=>234|224=>235|267=>236|266=>264|314=>265|n=>n,fun|9=>9|3=>3|4=>4|5=>5|46=>188|146=>278|51=>226|n=>n,fun|1=>0|n=>n⟩
theorem T8:Go.Proofs.Lays.n143 Tryz.prog MA:={
 mixed:=by kernel_rfl
 f143:=Tryz.func152.trans (congrArg some (by kernel_rfl))
 f217:=Tryz.func233.trans (congrArg some (by kernel_rfl))
 f219:=Tryz.func203.trans (congrArg some (by kernel_rfl))
 f224:=Tryz.func235.trans (congrArg some (by kernel_rfl))
 f225:=Tryz.func234.trans (congrArg some (by kernel_rfl))
 f266:=Tryz.func264.trans (congrArg some (by kernel_rfl))
 f267:=Tryz.func236.trans (congrArg some (by kernel_rfl))
 f314:=Tryz.func265.trans (congrArg some (by kernel_rfl))
 t3:=Tryz.underlying3
 a3:=Tryz.isAgg3
 z3:=Tryz.sizeOf3
 v3:=Tryz.zeroValue3
 t4:=Tryz.underlying4
 a4:=Tryz.isAgg4
 z4:=Tryz.sizeOf4
 v4:=Tryz.zeroValue4
 t5:=Tryz.underlying5
 a5:=Tryz.isAgg5
 z5:=Tryz.sizeOf5
 v5:=Tryz.zeroValue5
 t9:=Tryz.underlying9
 a9:=Tryz.isAgg9
 z9:=Tryz.sizeOf9
 v9:=Tryz.zeroValue9
 t46:=Tryz.underlying188
 a46:=Tryz.isAgg188
 z46:=Tryz.sizeOf188
 v46:=Tryz.zeroValue188
 t51:=Tryz.underlying226
 a51:=Tryz.isAgg226
 z51:=Tryz.sizeOf226
 v51:=Tryz.zeroValue226
 t146:=Tryz.underlying278
 a146:=Tryz.isAgg278
 z146:=Tryz.sizeOf278
 v146:=Tryz.zeroValue278
 g1:=by kernel_rfl}
def FT:List UInt8:=[123,125,40,41,91,93,59,124,44,58,61,43,45,35,36,126,42,47,92,38,63,94]
def Rd (b:UInt8):Bool:=FT.contains b
theorem FU (l:List UInt8)(b:UInt8):decide (Lib.indexByte l b≥0)=l.contains b:=by
 induction l with
 |nil=>rfl
 | cons x l ih=>
  unfold Lib.indexByte
  rw [List.contains_cons]
  by_cases h:x=b
  ·subst h;simp
  ·have h1:(x==b)=false:=by simp [h]
   have h2:(b==x)=false:=by simp [Ne.symm h]
   rw [h1,h2]
   simp only [Bool.false_eq_true,if_false,Bool.false_or]
   rw [←ih]
   have h3:=Lib.indexByte_ge l b
   by_cases h4:Lib.indexByte l b= -1
   ·simp [h4]
   ·have h5:(Lib.indexByte l b== -1)=false:=by simp [h4]
    rw [h5]
    simp only [Bool.false_eq_true,if_false]
    exact decide_eq_decide.2 (by omega)
theorem Jn (b:UInt8)(w:World):Calls Tryz.prog 207 #[.string (S FT),.int .u8 ((b.toNat:Nat):Int)] w fun e w'=>e=.returned (.int .i64 (Lib.indexByte FT b))∧BW w w':=by
 refine(Any.strings_IndexByte T7 (S FT) ((b.toNat:Nat):Int) w).mono ?_
 rintro e w' ⟨rfl,rfl⟩
 refine⟨?_,BW.refl _⟩
 rw [EC,Int.toNat_natCast]
 simp
theorem PM (l q:List UInt8)(m:Int)(w:World)(hl:l.length≤8192)(hm:w.cell? ⟨0,0,none⟩=some (.int .i64 m)):Calls Tryz.prog 152 #[.string (S l),.string (S q)] w fun e w'=>e=.returned (.int .i64 (Lib.index l q))∧BW w w':=by
 refine(Any.strings_Index T8 (S l) (S q) m w (by rw [Cf];omega) hm).mono ?_
 rintro e w' ⟨rfl,rfl⟩
 exact⟨by rw [EC,EC],BW.refl _⟩
end Go.Proofs.YtbbdanhpphlbpaaGreatDoor
namespace Go.Proofs.YtbbdanhpphlbpaaGreatDoor
def preB (l q:List UInt8):Bool:=decide (q.length≤l.length)&&(l.take q.length==q)
def MB (l:List UInt8):Nat:=if preB l [47,92]||preB l [92,47]then 2 else if(match l[0]? with|some b=>Rd b|none=>false)then 1 else 0
theorem T9 {l:List UInt8}(h:preB l [47,92]=true):MB l=2:=by unfold MB;simp [h]
theorem Re {l:List UInt8}(h:preB l [92,47]=true):MB l=2:=by unfold MB;simp [h]
theorem UA {l:List UInt8}{b:UInt8}(h1:preB l [47,92]=false)(h2:preB l [92,47]=false)(hb:l[0]?=some b)(h:decide (Lib.indexByte FT b≥0)=true):MB l=1:=by
 have:Rd b=true:=by unfold Rd;rw [←FU];exact h
 unfold MB;simp [h1,h2,hb,this]
theorem XO {l:List UInt8}{b:UInt8}(h1:preB l [47,92]=false)(h2:preB l [92,47]=false)(hb:l[0]?=some b)(h:decide (Lib.indexByte FT b≥0)=false):MB l=0:=by
 have:Rd b=false:=by unfold Rd;rw [←FU];exact h
 unfold MB;simp [h1,h2,hb,this]
def DK (l:List UInt8):Int:=Lib.index l [42,41]
theorem UB (l:List UInt8): -1≤DK l:=Lib.index_ge l _
theorem UC {l:List UInt8}(n:Nat)(h:0<l.length)(hn:0<n):(l.drop n).length<l.length:=by rw [List.length_drop];omega
def iZ (l:List UInt8):Nat×Bool:=
 match l with
 | []=>(0,false)
 | b::r=>
  if kR b then((iZ r).1+1,(iZ r).2)
  else if preB (b::r) [40,42]then
   if DK ((b::r).drop 2)<0 then(0,true)
   else((iZ ((b::r).drop (DK ((b::r).drop 2)).toNat.succ.succ.succ.succ)).1+((DK ((b::r).drop 2)).toNat+4),(iZ ((b::r).drop (DK ((b::r).drop 2)).toNat.succ.succ.succ.succ)).2)
  else(0,false)
termination_by l.length
decreasing_by
 ·simp
 all_goals exact UC _ (by simp) (by omega)
theorem JG:iZ []=(0,false):=by rw [iZ]
theorem Rf {l:List UInt8}{n:Nat}(h:l.length≤n):iZ (l.drop n)=(0,false):=by rw [List.drop_eq_nil_of_le h,JG]
theorem JH {l:List UInt8}{n:Nat}{b:UInt8}(hb:l[n]?=some b)(h:kR b=true):iZ (l.drop n)=((iZ (l.drop (n+1))).1+1,(iZ (l.drop (n+1))).2):=by
 rw [Fc hb,iZ,if_pos h]
theorem J9 {l:List UInt8}{n:Nat}{b:UInt8}(hb:l[n]?=some b)(h:kR b=false)(hp:preB (l.drop n) [40,42]=false):iZ (l.drop n)=(0,false):=by
 rw [Fc hb]at hp⊢
 rw [iZ,if_neg (by simp [h]),if_neg (by simp [hp])]
theorem KA {l:List UInt8}{n:Nat}{b:UInt8}(hb:l[n]?=some b)(h:kR b=false)(hp:preB (l.drop n) [40,42]=true)(he:DK (l.drop (n+2))<0):iZ (l.drop n)=(0,true):=by
 have e:l.drop (n+2)=(l.drop n).drop 2:=by rw [List.drop_drop]
 rw [e]at he
 rw [Fc hb]at hp he⊢
 rw [iZ,if_neg (by simp [h]),if_pos hp,if_pos he]
theorem H5 {l:List UInt8}{n:Nat}{b:UInt8}(hb:l[n]?=some b)(h:kR b=false)(hp:preB (l.drop n) [40,42]=true)(he:¬DK (l.drop (n+2))<0):
  iZ (l.drop n)=((iZ (l.drop (n+2+(DK (l.drop (n+2))).toNat+2))).1+((DK (l.drop (n+2))).toNat+4),(iZ (l.drop (n+2+(DK (l.drop (n+2))).toNat+2))).2):=by
 have e:l.drop (n+2)=(l.drop n).drop 2:=by rw [List.drop_drop]
 have e2:l.drop (n+2+(DK (l.drop (n+2))).toNat+2)=(l.drop n).drop (DK (l.drop (n+2))).toNat.succ.succ.succ.succ:=by
  rw [List.drop_drop];congr 1;omega
 rw [e2,e]
 rw [e]at he
 rw [Fc hb]at hp he⊢
 rw [iZ,if_neg (by simp [h]),if_pos hp,if_neg he]
theorem Rh:DK []= -1:=rfl
theorem PN (b:UInt8)(l:List UInt8):DK (b::l)=if [42,41].isPrefixOf (b::l)then 0 else if DK l== -1 then -1 else DK l+1:=by
 unfold DK;rw [Lib.index]
theorem Ep (l:List UInt8):DK l<0∨(DK l).toNat+2≤l.length:=by
 induction l with
 |nil=>exact .inl (by rw [Rh];omega)
 | cons b l ih=>
  rw [PN]
  split
  ·next h=>
   right
   match l,h with
   | [],h=>simp at h
   |c::l,h=>simp
  ·split
   ·left;omega
   ·next h=>
    have h1:DK l≠ -1:=by simpa using h
    have h2:=UB l
    rcases ih with h3|h3
    ·omega
    ·right;simp only [List.length_cons];omega
end Go.Proofs.YtbbdanhpphlbpaaGreatDoor
namespace Go.Proofs.YtbbdanhpphlbpaaGreatDoor
def G6 (l q:List UInt8):List UInt8:=if preB l q then l.drop q.length else l
theorem Dj {l q:List UInt8}(h:preB l q=true):q.length≤l.length:=by unfold preB at h;rw [Bool.and_eq_true]at h;exact of_decide_eq_true h.1
end Go.Proofs.YtbbdanhpphlbpaaGreatDoor
namespace Go.Proofs.YtbbdanhpphlbpaaGreatDoor
open Go.RowKit
set_option simprocs false
theorem UD (l q:List UInt8):((decide ((l.length:Int)≥(q.length:Int)))&&((l.take ((q.length:Int)).toNat)==q))=preB l q:=by
 unfold preB;rw [Int.toNat_natCast];congr 1;exact decide_eq_decide.2 (by omega)
theorem Vd (l q:List UInt8):Fn Tryz.prog 202 [.str l,.str q] [] (Rt (.bool (preB l q)) []):=
 AG (n:=18) (by kernel_rfl) Tryz.func202 rfl rfl rfl fun G w a h0 A=>N9 24 A rfl (BX<|BX<|BX<|HW (fun hg=>(by have:=of_decide_eq_true hg;omega))<|BX<|BX<|BX<|iT) fun A=>R9 A rfl h0 rfl (congrArg SV.bool (UD l q)) rfl
theorem Ri (l q:List UInt8):Fn Tryz.prog 151 [.str l,.str q] [] (Rt (.bool (preB l q)) []):=
 AG (n:=8) (by kernel_rfl) Tryz.func151 rfl rfl rfl fun G w a h0 A=>N9 9 A rfl rfl fun A=>C9 [] (Vd l q) A rfl fun A=>N9 4 A rfl rfl fun A=>R9 A rfl h0 rfl rfl rfl
theorem XP (l q:List UInt8):Fn Tryz.prog 237 [.str l,.str q] [] (Rt (.tup [.str (G6 l q),.bool (preB l q)]) []):=
 AG (n:=15) (by kernel_rfl) Tryz.func237 rfl rfl rfl fun G w a h0 A=>N9 11 A rfl rfl fun A=>C9 [] (Vd l q) A rfl fun A=>N9 3 A rfl rfl fun A=>fork 9 A rfl
  (fun h1 A=>N9 9 A rfl rfl fun A=>R9 A rfl h0 rfl (by have e:preB l q=false:=(by have:=h1;revert this;cases preB l q<;>simp);unfold G6;rw [e];simp [AX,nb,BY]) rfl)
  (fun h1 A=>N9 14 A rfl (iU (by have e:preB l q=true:=(by have:=h1;revert this;cases preB l q<;>simp);have:=Dj e;omega)<|iT) fun A=>R9 A rfl h0 rfl (by have e:preB l q=true:=(by have:=h1;revert this;cases preB l q<;>simp);unfold G6;rw [e];simp [AX,nb,BY]) rfl)
theorem aL (l q:List UInt8):Fn Tryz.prog 204 [.str l,.str q] [] (Rt (.tup [.str (G6 l q),.bool (preB l q)]) []):=
 AG (n:=11) (by kernel_rfl) Tryz.func204 rfl rfl rfl fun G w a h0 A=>N9 10 A rfl rfl fun A=>C9 [] (XP l q) A rfl fun A=>N9 7 A rfl rfl fun A=>R9 A rfl h0 rfl rfl rfl
theorem fG (b:UInt8):Fn Tryz.prog 207 [.str FT,.int .u8 ((b.toNat:Nat):Int)] [] (Rt (.int .i64 (Lib.indexByte FT b)) []):=TW (by kernel_rfl) rfl rfl (Jn b)
theorem XQ {l:List UInt8}(h:0<l.length):l[0]?=some (l.getD (0:Int).toNat 0):=by simp [List.getD,h]
theorem XR (l:List UInt8)(hl:0<l.length):Fn Tryz.prog 159 [.str l] [] (Rt (.int .i64 ((MB l:Nat):Int)) []):=
 AG (n:=13) (by kernel_rfl) Tryz.func159 rfl rfl rfl fun G w a h0 A=>N9 11 A rfl rfl fun A=>C9 [] (Ri l [47,92]) A rfl fun A=>N9 3 A rfl rfl fun A=>fork 3 A rfl
  (fun h1 A=>N9 10 A rfl rfl fun A=>R9 A rfl h0 rfl (by rw [T9 h1];rfl) rfl)
  (fun h1 A=>N9 3 A rfl rfl fun A=>C9 [] (Ri l [92,47]) A rfl fun A=>N9 3 A rfl rfl fun A=>fork 3 A rfl
   (fun h2 A=>N9 7 A rfl rfl fun A=>R9 A rfl h0 rfl (by rw [Re h2];rfl) rfl)
   (fun h2 A=>N9 5 A rfl (iU (by omega)<|iT) fun A=>C9 [] (fG (l.getD (0:Int).toNat 0)) A rfl fun A=>N9 4 A rfl rfl fun A=>AL 8 A rfl
    (fun h3 A=>N9 7 A rfl rfl fun A=>R9 A rfl h0 rfl (by rw [UA h1 h2 (XQ hl) (decide_eq_true h3)];rfl) rfl)
    (fun h3 A=>N9 10 A rfl rfl fun A=>R9 A rfl h0 rfl (by rw [XO h1 h2 (XQ hl) (decide_eq_false h3)];rfl) rfl)))
abbrev _root_.Go.Proofs.YtbbdanhpphlbpaaGreatDoor.lP (os:List (Nat×Obj)):Prop:=∀w ks,Gl os w ks→∃m,w.cell? ⟨0,0,none⟩=some (.int .i64 m)
theorem iI (l q:List UInt8)(os:List (Nat×Obj))(hM:lP os)(hl:l.length≤8192):Bi (Gl os) Tryz.prog 152 [.str l,.str q] [] (Rt (.int .i64 (Lib.index l q)) []):=Gh (by kernel_rfl) rfl rfl fun w ks h=>by
 obtain⟨m,hm⟩:=hM w ks h
 exact PM l q m w hl hm
structure KI (l:List UInt8)(a k:Nat):Prop where
 le:k≤l.length
 ge:a≤k
 eq:(iZ (l.drop a))=((iZ (l.drop k)).1+(k - a),(iZ (l.drop k)).2)
section
variable {l:List UInt8}{a k:Nat}
theorem KI.i0 (h:a≤l.length):KI l a a:=⟨h,Nat.le_refl _,by simp⟩
theorem KI.bl (hI:KI l a k)(h1:(k:Int)<(l.length:Int))(h:kR (l.getD ((k:Int)).toNat 0)=true):KI l a (k+1):=by
 have:=hI.ge
 refine⟨by omega,by omega,?_⟩
 rw [hI.eq,JH (jK h1) h]
 simp;omega
theorem KI.rm (hI:KI l a k)(h1:(k:Int)<(l.length:Int))(h:kR (l.getD ((k:Int)).toNat 0)=false)(hp:preB (l.drop ((k:Int)).toNat) [40,42]=true)(he:¬DK (l.drop (((k:Int)+2)).toNat)<0):KI l a (k+2+(DK (l.drop (k+2))).toNat+2):=by
 have hg:=hI.ge
 have hk:((k:Int)).toNat=k:=by omega
 have lE:(((k:Int)+2)).toNat=k+2:=by omega
 rw [hk]at hp
 rw [lE]at he
 have hl:=Dj hp
 simp only [List.length_drop,List.length_cons,List.length_nil]at hl
 have hr:=Ep (l.drop (k+2))
 rw [List.length_drop]at hr
 refine⟨by omega,by omega,?_⟩
 rw [hI.eq,H5 (jK h1) h hp he]
 simp;omega
theorem KI.fi (hI:KI l a k)(h:¬(k:Int)<(l.length:Int)):iZ (l.drop a)=(k - a,false):=by
 rw [hI.eq,Rf (by omega)];simp
theorem KI.wd (hI:KI l a k)(h1:(k:Int)<(l.length:Int))(h:kR (l.getD ((k:Int)).toNat 0)=false)(hp:preB (l.drop ((k:Int)).toNat) [40,42]=false):iZ (l.drop a)=(k - a,false):=by
 have hk:((k:Int)).toNat=k:=by omega
 rw [hk]at hp
 rw [hI.eq,J9 (jK h1) h hp];simp
theorem KI.op (hI:KI l a k)(h1:(k:Int)<(l.length:Int))(h:kR (l.getD ((k:Int)).toNat 0)=false)(hp:preB (l.drop ((k:Int)).toNat) [40,42]=true)(he:DK (l.drop (((k:Int)+2)).toNat)<0):iZ (l.drop a)=(k - a,true):=by
 have hk:((k:Int)).toNat=k:=by omega
 have lE:(((k:Int)+2)).toNat=k+2:=by omega
 rw [hk]at hp
 rw [lE]at he
 rw [hI.eq,KA (jK h1) h hp he];simp
end
def NB (l:List UInt8)(a:Nat):Int:=if(iZ (l.drop a)).2 then 24 else 0
theorem aM (l:List UInt8)(s0:Nat)(os:List (Nat×Obj))(hM:lP os)(ha:s0≤l.length)(hl:l.length≤8192):Bi (Gl os) Tryz.prog 118 [.str l,.int .i64 (s0:Int)] [] (Rt (.tup [.int .i64 ((s0+(iZ (l.drop s0)).1:Nat):Int),.int .i64 (NB l s0)]) []):=
 Ab (n:=39) (by kernel_rfl) Tryz.func118 rfl rfl rfl fun G w a h0 hI A=>N9 8 A rfl rfl fun A=>Bk (fun(k:Nat)=>[(0,.str l),(1,.int .i64 (k:Int)),(4,.int .i64 0),(5,.int .i64 0)]) (fun(k:Nat)=>[]) (fun(k:Nat)=>KI l s0 k) (fun(k:Nat)=>l.length - k) s0 (KI.i0 ha) ((A.cut [0,1,4,5] rfl).trunc 0 rfl rfl rfl (iR h0 rfl)) fun k jE {G a w} A=>N9 9 A rfl rfl fun A=>AL 11 A rfl
   (fun h1 A=>N9 10 A rfl (iU (by have hle:=jE.le;(try simp only [List.length_drop]);omega)<|iT) fun A=>C9 [] (O8 (l.getD ((k:Int)).toNat 0)) A rfl fun A=>N9 3 A rfl rfl fun A=>fork 13 A rfl
    (fun h2 A=>N9 8 A rfl (iU (by have hle:=jE.le;(try simp only [List.length_drop]);omega)<|iT) fun A=>⟨k+1,_,(by omega),(jE.bl h1 h2),((A.cut [0,1,4,5] rfl).trunc 0 rfl rfl rfl (iR h0 rfl)).sayT (by simp)⟩)
    (fun h2 A=>N9 6 A rfl (iU (by have hle:=jE.le;(try simp only [List.length_drop]);omega)<|iT) fun A=>C9 [] (Ri (l.drop ((k:Int)).toNat) [40,42]) A rfl fun A=>N9 3 A rfl rfl fun A=>fork 20 A rfl
     (fun h3 A=>N9 9 A rfl (iU (by have hle:=jE.le;have lB:=Dj h3;simp only [List.length_drop,List.length_cons,List.length_nil]at lB;have lM:=Ep (l.drop (((k:Int)+2)).toNat);rw [List.length_drop]at lM;(try simp only [List.length_drop]);omega)<|iT) fun A=>N9 4 A rfl (iU (by have hle:=jE.le;have lB:=Dj h3;simp only [List.length_drop,List.length_cons,List.length_nil]at lB;have lM:=Ep (l.drop (((k:Int)+2)).toNat);rw [List.length_drop]at lM;(try simp only [List.length_drop]);omega)<|iT) fun A=>I9 [] Gl.ok hI (N6 (iI (l.drop ((k:Int)+2).toNat) [42,41] os hM (by have hle:=jE.le;have lB:=Dj h3;simp only [List.length_drop,List.length_cons,List.length_nil]at lB;have lM:=Ep (l.drop (((k:Int)+2)).toNat);rw [List.length_drop]at lM;(try simp only [List.length_drop]);omega)) (y:=.int .i64 (DK (l.drop ((k:Int)+2).toNat))) fun _=>rfl) A rfl fun A=>N9 10 A rfl rfl fun A=>AL 32 A rfl
      (fun h4 A=>N9 9 A rfl rfl fun A=>R9 A rfl h0 rfl (by have e:=jE.op h1 h2 h3 h4;have hg:=jE.ge;unfold NB;rw [e];simp [AX,nb,BY];omega) rfl)
      (fun h4 A=>N9 12 A rfl (iU (by have hle:=jE.le;have lB:=Dj h3;simp only [List.length_drop,List.length_cons,List.length_nil]at lB;have lM:=Ep (l.drop (((k:Int)+2)).toNat);rw [List.length_drop]at lM;(try simp only [List.length_drop]);omega)<|iU (by have hle:=jE.le;have lB:=Dj h3;simp only [List.length_drop,List.length_cons,List.length_nil]at lB;have lM:=Ep (l.drop (((k:Int)+2)).toNat);rw [List.length_drop]at lM;(try simp only [List.length_drop]);omega)<|iT) fun A=>⟨k+2+(DK (l.drop (k+2))).toNat+2,_,(by omega),(jE.rm h1 h2 h3 h4),((A.cut [0,1,4,5] rfl).trunc 0 rfl rfl rfl (iR h0 rfl)).sayT (by have e2:(((k:Int)+2)).toNat=k+2:=(by omega);simp only [e2]at h4⊢;congr 5;omega)⟩))
     (fun h3 A=>N9 9 A rfl rfl fun A=>R9 A rfl h0 rfl (by have e:=jE.wd h1 h2 h3;have hg:=jE.ge;unfold NB;rw [e];simp [AX,nb,BY];omega) rfl)))
   (fun h1 A=>N9 11 A rfl rfl fun A=>R9 A rfl h0 rfl (by have e:=jE.fi h1;have hg:=jE.ge;unfold NB;rw [e];simp [AX,nb,BY];omega) rfl)
end Go.Proofs.YtbbdanhpphlbpaaGreatDoor
