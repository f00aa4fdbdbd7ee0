/- ScPlays, part 5: the engine, contracts, theory. -/
import Derived.Test.YtbbdanhpphlbpaaGreatDoorScPlaysP4
import Derived.Shelf.Pu.ParseUintPublic10
import Derived.Ground.MpProg
import Derived.Shelf.Strconv.Itoa3
import Derived.Shelf.Strings.Replace
import Derived.Lib.ItoaLen
import Derived.Shelf.Strings.Cut
import Derived.Shelf.Strings.OnBuilder
set_option linter.unusedVariables false
set_option linter.unusedSimpArgs false
set_option linter.unusedSectionVars false
set_option maxRecDepth 100000
set_option maxHeartbeats 2000000
namespace Go.Proofs.YtbbdanhpphlbpaaGreatDoor
def FV (b:UInt8):Nat:=(b|||32).toNat
theorem UE (b:UInt8):FV b≤255:=by unfold FV;exact Nat.le_of_lt_succ (b|||32).toNat_lt
def dv (b:UInt8):Nat:=if 48≤b.toNat∧b.toNat≤57 then b.toNat - 48 else if 97≤FV b∧FV b≤122 then FV b - 97+10 else 99
theorem Rj {b:UInt8}(h1:48≤b.toNat)(h2:b.toNat≤57):dv b=b.toNat - 48:=if_pos ⟨h1,h2⟩
theorem Rk {b:UInt8}(h:¬(48≤b.toNat∧b.toNat≤57))(h1:97≤FV b)(h2:FV b≤122):dv b=FV b - 97+10:=by unfold dv;rw [if_neg h,if_pos ⟨h1,h2⟩]
theorem K6 {b:UInt8}(h:¬(48≤b.toNat∧b.toNat≤57))(h1:¬(97≤FV b∧FV b≤122)):dv b=99:=by unfold dv;rw [if_neg h,if_neg h1]
def nv (bs:Nat)(l:List UInt8):Nat:=l.foldl (fun n b=>n*bs+dv b) 0
def lL (bs:Nat)(l:List UInt8):Bool:=l.all fun b=>decide (dv b<bs)
def DM (bs:Nat)(l:List UInt8):Option Nat:=if l=[]∨lL bs l=false then none else some (nv bs l)
theorem UF (bs:Nat)(l:List UInt8):nv bs (l.take 0)=0:=rfl
theorem K7 {l:List UInt8}{i:Nat}{y:UInt8}(h:l[i]?=some y):l.take (i+1)=l.take i++[y]:=by
 rw [List.take_add_one,h];rfl
theorem G7 {bs:Nat}{l:List UInt8}{i:Nat}{y:UInt8}(h:l[i]?=some y):nv bs (l.take (i+1))=nv bs (l.take i)*bs+dv y:=by
 rw [K7 h];unfold nv;rw [List.foldl_append];rfl
theorem K8 {bs:Nat}{l:List UInt8}{i:Nat}{y:UInt8}(h:l[i]?=some y)(ha:lL bs (l.take i)=true)(hy:dv y<bs):lL bs (l.take (i+1))=true:=by
 rw [K7 h];unfold lL at*;rw [List.all_append,ha];simp [hy]
theorem EB {bs:Nat}{l:List UInt8}{i:Nat}{y:UInt8}(h:l[i]?=some y)(hy:bs≤dv y):DM bs l=none:=by
 unfold DM;rw [if_pos];right
 cases ha:lL bs l
 ·rfl
 ·exfalso
  have:=List.all_eq_true.1 ha y (List.mem_of_getElem? h)
  have:=of_decide_eq_true this
  omega
theorem Od {bs:Nat}{l:List UInt8}(h:l=[]):DM bs l=none:=by unfold DM;rw [if_pos (.inl h)]
theorem Oe {bs:Nat}{l:List UInt8}{i:Nat}(h:l≠[])(ha:lL bs (l.take i)=true)(hi:l.length≤i):DM bs l=some (nv bs (l.take i)):=by
 rw [List.take_of_length_le hi]at*
 unfold DM;rw [if_neg (by simp [h,ha])]
theorem Rl {bs:Nat}(hb:0<bs)(l:List UInt8)(i:Nat)(ha:lL bs (l.take i)=true):nv bs (l.take i)<bs^i:=by
 induction i with
 |zero=>rw [UF];simp
 | succ i ih=>
  cases hy:l[i]? with
  |none=>
   have hl:l.length≤i:=by simpa using hy
   have e:l.take (i+1)=l.take i:=by rw [List.take_of_length_le hl,List.take_of_length_le (by omega)]
   rw [e]at ha⊢
   exact Nat.lt_of_lt_of_le (ih ha) (Nat.pow_le_pow_right hb (by omega))
  | some y=>
   rw [K7 hy]at ha
   unfold lL at ha
   rw [List.all_append,Bool.and_eq_true]at ha
   have h1:=ih ha.1
   have h2:dv y<bs:=by simpa using ha.2
   rw [G7 hy,Nat.pow_succ]
   calc nv bs (l.take i)*bs+dv y<nv bs (l.take i)*bs+bs:=by omega
    _=(nv bs (l.take i)+1)*bs:=by rw [Nat.add_mul,Nat.one_mul]
    _≤bs^i*bs:=Nat.mul_le_mul_right _ h1
theorem H6 {l:List UInt8}{i:Nat}(ha:lL 10 (l.take i)=true)(hi:i≤18):nv 10 (l.take i)<1000000000000000000:=
 Nat.lt_of_lt_of_le (Rl (by omega) l i ha) (Nat.pow_le_pow_right (n:=10) (by omega) hi)
theorem H7 {l:List UInt8}{i:Nat}(ha:lL 16 (l.take i)=true)(hi:i≤15):nv 16 (l.take i)<1152921504606846976:=
 Nat.lt_of_lt_of_le (Rl (by omega) l i ha) (Nat.pow_le_pow_right (n:=16) (by omega) hi)
end Go.Proofs.YtbbdanhpphlbpaaGreatDoor
namespace Go.Proofs.YtbbdanhpphlbpaaGreatDoor
open Go.RowKit
set_option simprocs false
theorem XS (c:Int):Fn Tryz.prog 266 [.int .u8 c] [] (Rt (.int .u8 (IntKind.wrap .u8 ((((BitVec.ofInt (IntKind.bits .u8) c)|||(BitVec.ofInt (IntKind.bits .u8) 32)).toNat:Nat):Int))) []):=
 AG (n:=5) (by kernel_rfl) Tryz.func266 rfl rfl rfl fun G w a h0 A=>N9 13 A rfl rfl fun A=>R9 A rfl h0 rfl rfl rfl
theorem XT (b:UInt8):IntKind.wrap .u8 ((((BitVec.ofInt (IntKind.bits .u8) ((b.toNat:Nat):Int))|||(BitVec.ofInt (IntKind.bits .u8) 32)).toNat:Nat):Int)=((FV b:Nat):Int):=by
 have h:(BitVec.ofInt 8 ((b.toNat:Nat):Int)|||BitVec.ofInt 8 32).toNat=(b|||32).toNat:=by
  have e1:BitVec.ofInt 8 ((b.toNat:Nat):Int)=b.toBitVec:=by
   apply BitVec.eq_of_toNat_eq
   rw [BitVec.toNat_ofInt]
   have:=b.toNat_lt
   simp;omega
  rw [e1];rfl
 show IntKind.wrap .u8 (((BitVec.ofInt 8 ((b.toNat:Nat):Int)|||BitVec.ofInt 8 32).toNat:Nat):Int)=_
 rw [h]
 have:=UE b
 unfold FV at this⊢
 exact I0 (by omega) (by omega)
theorem KB (b:UInt8):Fn Tryz.prog 266 [.int .u8 ((b.toNat:Nat):Int)] [] (Rt (.int .u8 ((FV b:Nat):Int)) []):=HZ (XS _) (BI (XT b))
def Yb (bs:Nat)(l:List UInt8):SV:=match DM bs l with|some n=>.tup [.int .u64 (n:Int),.v .nilIface]|none=>.tup [.int .u64 0,.v (.iface 280 (.int .i64 2))]
theorem CO {bs:Nat}{l:List UInt8}(h:DM bs l=none):Yb bs l=.tup [.int .u64 0,.v (.iface 280 (.int .i64 2))]:=by unfold Yb;rw [h]
theorem G8 {bs:Nat}{l:List UInt8}{n:Nat}(h:DM bs l=some n):Yb bs l=.tup [.int .u64 (n:Int),.v .nilIface]:=by unfold Yb;rw [h]
structure NI (bs:Nat)(l:List UInt8)(j:Nat):Prop where
 le:j≤l.length
 al:lL bs (l.take j)=true
theorem MC (l:List UInt8) (hl:l.length≤19):Fn Tryz.prog 238 [.str l,.int .i64 10,.int .i64 64] [] (Rt (Yb 10 l) []):=
 AG (n :=172) (by kernel_rfl) Tryz.func238 rfl rfl rfl fun G w a h0 A=>N9 13 A rfl rfl fun A=>AN 19 A rfl
  (fun h1 A=>N9 3 A rfl rfl fun A=>AW A rfl (Ji rfl rfl rfl rfl (by kernel_rfl)) fun A=>N9 5 A rfl rfl fun A=>R9 A rfl h0 rfl (by rw [CO (Od h1)];rfl) rfl)
  (fun h1 A=>N9 7 A rfl rfl fun A=>have A:=AB A 22 (.ff) rfl (fun _=>congrArg (fun b=>some (Value.bool b)) (show(10==0)=false by decide));N9 19 A rfl rfl fun A=>have A:=AB A 31 (.tt) rfl (fun _=>congrArg (fun b=>some (Value.bool b)) (show((decide (2≤10))&&(decide (10≤36)))=true by decide));N9 14 A rfl rfl fun A=>AN 77 A rfl
   (fun h2 A=>absurd h2 (by decide))
   (fun h2 A=>N9 9 A rfl rfl fun A=>have A:=AB A 83 (.ff) rfl (fun _=>congrArg (fun b=>some (Value.bool b)) (show((decide (64<0))||(decide (64>64)))=false by decide));N9 23 A rfl rfl fun A=>AN 90 A rfl
    (fun h3 A=>N9 10 A rfl rfl fun A=>have A:=AB A 95 (.int .u64 64) rfl (BI (show IntKind.wrap .u64 64=64 by decide));N9 1 A rfl (iU (by omega)<|iT) fun A=>have A:=AB A 96 (.int .u64 0) rfl (BI (show IntKind.wrap .u64 (1*2^min (64:Int).toNat (IntKind.bits .u64))=0 by decide));N9 1 A rfl rfl fun A=>have A:=AB A 97 (.int .u64 18446744073709551615) rfl (BI (show IntKind.wrap .u64 (0 - 1)=18446744073709551615 by decide));N9 17 A rfl rfl fun A=>AW A rfl (Qm (i:=0) (e:=5) rfl rfl rfl (by kernel_rfl) (by kernel_rfl) (by kernel_rfl) rfl) fun A=>N9 5 A rfl rfl fun A=>Bk (fun(j:Nat)=>[(1,.int .i64 10),(6,.int .u64 0),(7,.v .nilIface),(8,.ff),(9,.str l),(10,.int .u64 1844674407370955162),(11,.int .u64 18446744073709551615),(12,.ff),(13,.int .u64 ((nv 10 (l.take j):Nat):Int)),(99,.sl 0 l.length 0),(100,.int .i64 ((l.length:Nat):Int)),(101,.int .i64 (j:Int))]) (fun(j:Nat)=>[some (.lst 1 l.length (fun k=>[.int .u8 (((l.getD k 0).toNat:Nat):Int)]))]) (fun(j:Nat)=>NI 10 l j) (fun(j:Nat)=>l.length - j) 0 ⟨Nat.zero_le _,rfl⟩ ((A.cut [1,6,7,8,9,10,11,12,13,99,100,101] rfl).trunc 1 rfl rfl rfl (iR h0 rfl)) fun j hI {G a w} A=>N9 6 A rfl rfl fun A=>AL 102 A rfl
      (fun h4 A=>N9 13 A rfl (iU (by have:=hI.le;omega)<|iU (by have:=hI.le;omega)<|iT) fun A=>N9 13 A rfl rfl fun A=>have A:=AB A 111 (.ff) rfl (fun _=>congrArg (fun b=>some (Value.bool b)) (show(bif (((l.getD (((j:Int)).toNat) 0).toNat:Nat):Int)==95 then false else false)=false by simp));N9 15 A rfl rfl fun A=>fork 112 A rfl
       (fun h5 A=>N9 4 A rfl rfl fun A=>have A:=AB A 120 (.int .u8 ((dv (l.getD (((j:Int)).toNat) 0):Nat):Int)) rfl (BI (show IntKind.wrap .u8 ((((l.getD (((j:Int)).toNat) 0).toNat:Nat):Int) - 48)=((dv (l.getD (((j:Int)).toNat) 0):Nat):Int) by have h:=h5;simp only [Bool.and_eq_true,decide_eq_true_eq]at h;rw [Rj (by omega) (by omega),I0 (by omega) (by omega)];omega));N9 10 A rfl rfl fun A=>have A:=AB A 136 (.int .u8 10) rfl (BI (show IntKind.wrap .u8 10=10 by decide));N9 3 A rfl rfl fun A=>AL 137 A rfl
        (fun h6 A=>N9 3 A rfl rfl fun A=>AW A rfl (Ji rfl rfl rfl rfl (by kernel_rfl)) fun A=>N9 5 A rfl rfl fun A=>R9 A rfl h0 rfl (by rw [CO (EB (jK h4) (by have:=h6;omega))];rfl) rfl)
        (fun h6 A=>N9 11 A rfl rfl fun A=>AL 141 A rfl
         (fun h7 A=>absurd h7 (by have hp:=H6 hI.al;have hle:=hI.le;have hj:=h4;omega))
         (fun h7 A=>N9 8 A rfl rfl fun A=>have A:=AB A 146 (.int .u64 10) rfl (BI (show IntKind.wrap .u64 10=10 by decide));N9 1 A rfl rfl fun A=>have A:=AB A 147 (.int .u64 (((nv 10 (l.take j):Nat):Int)*10)) rfl (BI (show IntKind.wrap .u64 (((nv 10 (l.take j):Nat):Int)*10)=((nv 10 (l.take j):Nat):Int)*10 by have hp:=H6 hI.al;have hle:=hI.le;have hj:=h4;exact wrap64 (by omega) (by omega)));N9 8 A rfl rfl fun A=>have A:=AB A 150 (.int .u64 ((dv (l.getD (((j:Int)).toNat) 0):Nat):Int)) rfl (BI (show IntKind.wrap .u64 ((dv (l.getD (((j:Int)).toNat) 0):Nat):Int)=((dv (l.getD (((j:Int)).toNat) 0):Nat):Int) by have:=h6;exact wrap64 (by omega) (by omega)));N9 1 A rfl rfl fun A=>have A:=AB A 151 (.int .u64 ((nv 10 (l.take (j+1)):Nat):Int)) rfl (BI (show IntKind.wrap .u64 ((((nv 10 (l.take j):Nat):Int)*10)+((dv (l.getD (((j:Int)).toNat) 0):Nat):Int))=((nv 10 (l.take (j+1)):Nat):Int) by have hp:=H6 hI.al;have hle:=hI.le;have hj:=h4;have hd:dv (l.getD (((j:Int)).toNat) 0)<10:=(by have:=h6;omega);rw [G7 (jK hj)];have e0:(((j:Int)).toNat)=((j:Int)).toNat:=rfl;rw [wrap64 (by omega) (by omega)];omega));N9 14 A rfl rfl fun A=>have A:=AB A 159 (.ff) rfl (fun _=>congrArg (fun b=>some (Value.bool b)) (show((decide (((nv 10 (l.take (j+1)):Nat):Int)<(((nv 10 (l.take j):Nat):Int)*10)))||(decide (((nv 10 (l.take (j+1)):Nat):Int)>18446744073709551615)))=false by have hp:=H6 hI.al;have hle:=hI.le;have hj:=h4;have hd:dv (l.getD (((j:Int)).toNat) 0)<10:=(by have:=h6;omega);have hg:=G7 (bs:=10) (jK hj);rw [Bool.eq_false_iff];intro hc;simp only [Bool.or_eq_true,decide_eq_true_eq]at hc;omega));N9 15 A rfl (iU (by have:=hI.le;omega)<|iT) fun A=>⟨j+1,_,(by omega),⟨by have:=hI.le;omega,K8 (jK h4) hI.al (by have:=h6;omega)⟩,((A.cut [1,6,7,8,9,10,11,12,13,99,100,101] rfl).trunc 1 rfl rfl rfl (iR h0 rfl))⟩)))
       (fun h5 A=>N9 4 A rfl rfl fun A=>C9 [] (KB (l.getD (((j:Int)).toNat) 0)) A rfl fun A=>N9 2 A rfl rfl fun A=>AL 125 A rfl
        (fun h8 A=>N9 1 A rfl rfl fun A=>C9 [] (KB (l.getD (((j:Int)).toNat) 0)) A rfl fun A=>N9 5 A rfl rfl fun A=>AL 121 A rfl
         (fun h9 A=>N9 3 A rfl rfl fun A=>C9 [] (KB (l.getD (((j:Int)).toNat) 0)) A rfl fun A=>N9 2 A rfl rfl fun A=>have A:=AB A 133 (.int .u8 ((dv (l.getD (((j:Int)).toNat) 0):Nat):Int)) rfl (BI (show IntKind.wrap .u8 ((IntKind.wrap .u8 (((FV (l.getD (((j:Int)).toNat) 0):Nat):Int) - 97))+10)=((dv (l.getD (((j:Int)).toNat) 0):Nat):Int) by have h:=h5;simp only [Bool.and_eq_false_iff,decide_eq_false_iff_not]at h;have h2:=h8;have h3:=h9;rw [Rk (by omega) (by omega) (by omega),I0 (n:=((FV (l.getD (((j:Int)).toNat) 0):Nat):Int) - 97) (by omega) (by omega),I0 (by omega) (by omega)];omega));N9 10 A rfl rfl fun A=>have A:=AB A 136 (.int .u8 10) rfl (BI (show IntKind.wrap .u8 10=10 by decide));N9 3 A rfl rfl fun A=>AL 137 A rfl
          (fun kH A=>N9 3 A rfl rfl fun A=>AW A rfl (Ji rfl rfl rfl rfl (by kernel_rfl)) fun A=>N9 5 A rfl rfl fun A=>R9 A rfl h0 rfl (by rw [CO (EB (jK h4) (by have:=kH;omega))];rfl) rfl)
          (fun kH A=>N9 11 A rfl rfl fun A=>AL 141 A rfl
           (fun kF A=>absurd kF (by have hp:=H6 hI.al;have hle:=hI.le;have hj:=h4;omega))
           (fun kF A=>N9 8 A rfl rfl fun A=>have A:=AB A 146 (.int .u64 10) rfl (BI (show IntKind.wrap .u64 10=10 by decide));N9 1 A rfl rfl fun A=>have A:=AB A 147 (.int .u64 (((nv 10 (l.take j):Nat):Int)*10)) rfl (BI (show IntKind.wrap .u64 (((nv 10 (l.take j):Nat):Int)*10)=((nv 10 (l.take j):Nat):Int)*10 by have hp:=H6 hI.al;have hle:=hI.le;have hj:=h4;exact wrap64 (by omega) (by omega)));N9 8 A rfl rfl fun A=>have A:=AB A 150 (.int .u64 ((dv (l.getD (((j:Int)).toNat) 0):Nat):Int)) rfl (BI (show IntKind.wrap .u64 ((dv (l.getD (((j:Int)).toNat) 0):Nat):Int)=((dv (l.getD (((j:Int)).toNat) 0):Nat):Int) by have:=kH;exact wrap64 (by omega) (by omega)));N9 1 A rfl rfl fun A=>have A:=AB A 151 (.int .u64 ((nv 10 (l.take (j+1)):Nat):Int)) rfl (BI (show IntKind.wrap .u64 ((((nv 10 (l.take j):Nat):Int)*10)+((dv (l.getD (((j:Int)).toNat) 0):Nat):Int))=((nv 10 (l.take (j+1)):Nat):Int) by have hp:=H6 hI.al;have hle:=hI.le;have hj:=h4;have hd:dv (l.getD (((j:Int)).toNat) 0)<10:=(by have:=kH;omega);rw [G7 (jK hj)];have e0:(((j:Int)).toNat)=((j:Int)).toNat:=rfl;rw [wrap64 (by omega) (by omega)];omega));N9 14 A rfl rfl fun A=>have A:=AB A 159 (.ff) rfl (fun _=>congrArg (fun b=>some (Value.bool b)) (show((decide (((nv 10 (l.take (j+1)):Nat):Int)<(((nv 10 (l.take j):Nat):Int)*10)))||(decide (((nv 10 (l.take (j+1)):Nat):Int)>18446744073709551615)))=false by have hp:=H6 hI.al;have hle:=hI.le;have hj:=h4;have hd:dv (l.getD (((j:Int)).toNat) 0)<10:=(by have:=kH;omega);have hg:=G7 (bs:=10) (jK hj);rw [Bool.eq_false_iff];intro hc;simp only [Bool.or_eq_true,decide_eq_true_eq]at hc;omega));N9 15 A rfl (iU (by have:=hI.le;omega)<|iT) fun A=>⟨j+1,_,(by omega),⟨by have:=hI.le;omega,K8 (jK h4) hI.al (by have:=kH;omega)⟩,((A.cut [1,6,7,8,9,10,11,12,13,99,100,101] rfl).trunc 1 rfl rfl rfl (iR h0 rfl))⟩)))
         (fun h9 A=>N9 3 A rfl rfl fun A=>AW A rfl (Ji rfl rfl rfl rfl (by kernel_rfl)) fun A=>N9 5 A rfl rfl fun A=>R9 A rfl h0 rfl (by rw [CO (EB (jK h4) (by have h:=h5;simp only [Bool.and_eq_false_iff,decide_eq_false_iff_not]at h;have h0:=h8;have h1:=h9;rw [K6 (by omega) (by omega)];omega))];rfl) rfl))
        (fun h8 A=>N9 10 A rfl rfl fun A=>AW A rfl (Ji rfl rfl rfl rfl (by kernel_rfl)) fun A=>N9 5 A rfl rfl fun A=>R9 A rfl h0 rfl (by rw [CO (EB (jK h4) (by have h:=h5;simp only [Bool.and_eq_false_iff,decide_eq_false_iff_not]at h;have h0:=h8;rw [K6 (by omega) (by omega)];omega))];rfl) rfl)))
      (fun h4 A=>N9 25 A rfl rfl fun A=>R9 A rfl h0 rfl (by rw [G8 (Oe h1 hI.al (by have:=h4;omega))];rfl) rfl))
    (fun h3 A=>absurd rfl h3)))
theorem PO (l:List UInt8)(n:Nat)(hl:l.length≤19)(h:DM 10 l=some n):Fn Tryz.prog 238 [.str l,.int .i64 10,.int .i64 64] [] (Rt (.tup [.int .u64 (n:Int),.v .nilIface]) []):=by have:=MC l hl;rw [G8 h]at this;exact this
theorem PP (l:List UInt8)(hl:l.length≤19)(h:DM 10 l=none):Fn Tryz.prog 238 [.str l,.int .i64 10,.int .i64 64] [] (Rt (.tup [.int .u64 0,.v (.iface 280 (.int .i64 2))]) []):=by have:=MC l hl;rw [CO h]at this;exact this
theorem MD (l:List UInt8) (hl:l.length≤16):Fn Tryz.prog 238 [.str l,.int .i64 16,.int .i64 64] [] (Rt (Yb 16 l) []):=
 AG (n :=172) (by kernel_rfl) Tryz.func238 rfl rfl rfl fun G w a h0 A=>N9 13 A rfl rfl fun A=>AN 19 A rfl
  (fun h1 A=>N9 3 A rfl rfl fun A=>AW A rfl (Ji rfl rfl rfl rfl (by kernel_rfl)) fun A=>N9 5 A rfl rfl fun A=>R9 A rfl h0 rfl (by rw [CO (Od h1)];rfl) rfl)
  (fun h1 A =>N9 7 A rfl rfl fun A=>have A:=AB A 22 (.ff) rfl (fun _=>congrArg (fun b=>some (Value.bool b)) (show(16==0)=false by decide));N9 19 A rfl rfl fun A=>have A:=AB A 31 (.tt) rfl (fun _=>congrArg (fun b=>some (Value.bool b)) (show((decide (2≤16))&&(decide (16≤36)))=true by decide));N9 14 A rfl rfl fun A=>AN 77 A rfl
   (fun h2 A=>absurd h2 (by decide))
   (fun h2 A=>N9 9 A rfl rfl fun A=>have A:=AB A 83 (.ff) rfl (fun _=>congrArg (fun b=>some (Value.bool b)) (show((decide (64<0))||(decide (64>64)))=false by decide));N9 23 A rfl rfl fun A=>AN 90 A rfl
    (fun h3 A=>absurd h3 (by decide))
    (fun h3 A=>N9 7 A rfl rfl fun A=>AN 92 A rfl
     (fun h4 A=>N9 10 A rfl rfl fun A=>have A:=AB A 95 (.int .u64 64) rfl (BI (show IntKind.wrap .u64 64=64 by decide));N9 1 A rfl (iU (by omega)<|iT) fun A=>have A:=AB A 96 (.int .u64 0) rfl (BI (show IntKind.wrap .u64 (1*2^min (64:Int).toNat (IntKind.bits .u64))=0 by decide));N9 1 A rfl rfl fun A=>have A:=AB A 97 (.int .u64 18446744073709551615) rfl (BI (show IntKind.wrap .u64 (0 - 1)=18446744073709551615 by decide));N9 17 A rfl rfl fun A=>AW A rfl (Qm (i:=0) (e:=5) rfl rfl rfl (by kernel_rfl) (by kernel_rfl) (by kernel_rfl) rfl) fun A=>N9 5 A rfl rfl fun A=>Bk (fun(j:Nat)=>[(1,.int .i64 16),(6,.int .u64 0),(7,.v .nilIface),(8,.ff),(9,.str l),(10,.int .u64 1152921504606846976),(11,.int .u64 18446744073709551615),(12,.ff),(13,.int .u64 ((nv 16 (l.take j):Nat):Int)),(99,.sl 0 l.length 0),(100,.int .i64 ((l.length:Nat):Int)),(101,.int .i64 (j:Int))]) (fun(j:Nat)=>[some (.lst 1 l.length (fun k=>[.int .u8 (((l.getD k 0).toNat:Nat):Int)]))]) (fun(j:Nat)=>NI 16 l j) (fun(j:Nat)=>l.length - j) 0 ⟨Nat.zero_le _,rfl⟩ ((A.cut [1,6,7,8,9,10,11,12,13,99,100,101] rfl).trunc 1 rfl rfl rfl (iR h0 rfl)) fun j hI {G a w} A=>N9 6 A rfl rfl fun A=>AL 102 A rfl
       (fun h5 A=>N9 13 A rfl (iU (by have:=hI.le;omega)<|iU (by have:=hI.le;omega)<|iT) fun A=>N9 13 A rfl rfl fun A=>have A:=AB A 111 (.ff) rfl (fun _=>congrArg (fun b=>some (Value.bool b)) (show(bif (((l.getD (((j:Int)).toNat) 0).toNat:Nat):Int)==95 then false else false)=false by simp));N9 15 A rfl rfl fun A=>fork 112 A rfl
        (fun h6 A=>N9 4 A rfl rfl fun A=>have A:=AB A 120 (.int .u8 ((dv (l.getD (((j:Int)).toNat) 0):Nat):Int)) rfl (BI (show IntKind.wrap .u8 ((((l.getD (((j:Int)).toNat) 0).toNat:Nat):Int) - 48)=((dv (l.getD (((j:Int)).toNat) 0):Nat):Int) by have h:=h6;simp only [Bool.and_eq_true,decide_eq_true_eq]at h;rw [Rj (by omega) (by omega),I0 (by omega) (by omega)];omega));N9 10 A rfl rfl fun A=>have A:=AB A 136 (.int .u8 16) rfl (BI (show IntKind.wrap .u8 16=16 by decide));N9 3 A rfl rfl fun A=>AL 137 A rfl
         (fun h7 A=>N9 3 A rfl rfl fun A=>AW A rfl (Ji rfl rfl rfl rfl (by kernel_rfl)) fun A=>N9 5 A rfl rfl fun A=>R9 A rfl h0 rfl (by rw [CO (EB (jK h5) (by have:=h7;omega))];rfl) rfl)
         (fun h7 A=>N9 11 A rfl rfl fun A=>AL 141 A rfl
          (fun h8 A=>absurd h8 (by have hp:=H7 hI.al;have hle:=hI.le;have hj:=h5;omega))
          (fun h8 A=>N9 8 A rfl rfl fun A=>have A:=AB A 146 (.int .u64 16) rfl (BI (show IntKind.wrap .u64 16=16 by decide));N9 1 A rfl rfl fun A=>have A:=AB A 147 (.int .u64 (((nv 16 (l.take j):Nat):Int)*16)) rfl (BI (show IntKind.wrap .u64 (((nv 16 (l.take j):Nat):Int)*16)=((nv 16 (l.take j):Nat):Int)*16 by have hp:=H7 hI.al;have hle:=hI.le;have hj:=h5;exact wrap64 (by omega) (by omega)));N9 8 A rfl rfl fun A=>have A:=AB A 150 (.int .u64 ((dv (l.getD (((j:Int)).toNat) 0):Nat):Int)) rfl (BI (show IntKind.wrap .u64 ((dv (l.getD (((j:Int)).toNat) 0):Nat):Int)=((dv (l.getD (((j:Int)).toNat) 0):Nat):Int) by have:=h7;exact wrap64 (by omega) (by omega)));N9 1 A rfl rfl fun A=>have A:=AB A 151 (.int .u64 ((nv 16 (l.take (j+1)):Nat):Int)) rfl (BI (show IntKind.wrap .u64 ((((nv 16 (l.take j):Nat):Int)*16)+((dv (l.getD (((j:Int)).toNat) 0):Nat):Int))=((nv 16 (l.take (j+1)):Nat):Int) by have hp:=H7 hI.al;have hle:=hI.le;have hj:=h5;have hd:dv (l.getD (((j:Int)).toNat) 0)<16:=(by have:=h7;omega);rw [G7 (jK hj)];have e0:(((j:Int)).toNat)=((j:Int)).toNat:=rfl;rw [wrap64 (by omega) (by omega)];omega));N9 14 A rfl rfl fun A=>have A:=AB A 159 (.ff) rfl (fun _=>congrArg (fun b=>some (Value.bool b)) (show((decide (((nv 16 (l.take (j+1)):Nat):Int)<(((nv 16 (l.take j):Nat):Int)*16)))||(decide (((nv 16 (l.take (j+1)):Nat):Int)>18446744073709551615)))=false by have hp:=H7 hI.al;have hle:=hI.le;have hj:=h5;have hd:dv (l.getD (((j:Int)).toNat) 0)<16:=(by have:=h7;omega);have hg:=G7 (bs:=16) (jK hj);rw [Bool.eq_false_iff];intro hc;simp only [Bool.or_eq_true,decide_eq_true_eq]at hc;omega));N9 15 A rfl (iU (by have:=hI.le;omega)<|iT) fun A=>⟨j+1,_,(by omega),⟨by have:=hI.le;omega,K8 (jK h5) hI.al (by have:=h7;omega)⟩,((A.cut [1,6,7,8,9,10,11,12,13,99,100,101] rfl).trunc 1 rfl rfl rfl (iR h0 rfl))⟩)))
        (fun h6 A=>N9 4 A rfl rfl fun A=>C9 [] (KB (l.getD (((j:Int)).toNat) 0)) A rfl fun A=>N9 2 A rfl rfl fun A=>AL 125 A rfl
         (fun h9 A=>N9 1 A rfl rfl fun A=>C9 [] (KB (l.getD (((j:Int)).toNat) 0)) A rfl fun A=>N9 5 A rfl rfl fun A=>AL 121 A rfl
          (fun kH A=>N9 3 A rfl rfl fun A=>C9 [] (KB (l.getD (((j:Int)).toNat) 0)) A rfl fun A=>N9 2 A rfl rfl fun A=>have A:=AB A 133 (.int .u8 ((dv (l.getD (((j:Int)).toNat) 0):Nat):Int)) rfl (BI (show IntKind.wrap .u8 ((IntKind.wrap .u8 (((FV (l.getD (((j:Int)).toNat) 0):Nat):Int) - 97))+10)=((dv (l.getD (((j:Int)).toNat) 0):Nat):Int) by have h:=h6;simp only [Bool.and_eq_false_iff,decide_eq_false_iff_not]at h;have h2:=h9;have h3:=kH;rw [Rk (by omega) (by omega) (by omega),I0 (n:=((FV (l.getD (((j:Int)).toNat) 0):Nat):Int) - 97) (by omega) (by omega),I0 (by omega) (by omega)];omega));N9 10 A rfl rfl fun A=>have A:=AB A 136 (.int .u8 16) rfl (BI (show IntKind.wrap .u8 16=16 by decide));N9 3 A rfl rfl fun A=>AL 137 A rfl
           (fun kF A=>N9 3 A rfl rfl fun A=>AW A rfl (Ji rfl rfl rfl rfl (by kernel_rfl)) fun A=>N9 5 A rfl rfl fun A=>R9 A rfl h0 rfl (by rw [CO (EB (jK h5) (by have:=kF;omega))];rfl) rfl)
           (fun kF A=>N9 11 A rfl rfl fun A=>AL 141 A rfl
            (fun mA A=>absurd mA (by have hp:=H7 hI.al;have hle:=hI.le;have hj:=h5;omega))
            (fun mA A=>N9 8 A rfl rfl fun A=>have A:=AB A 146 (.int .u64 16) rfl (BI (show IntKind.wrap .u64 16=16 by decide));N9 1 A rfl rfl fun A=>have A:=AB A 147 (.int .u64 (((nv 16 (l.take j):Nat):Int)*16)) rfl (BI (show IntKind.wrap .u64 (((nv 16 (l.take j):Nat):Int)*16)=((nv 16 (l.take j):Nat):Int)*16 by have hp:=H7 hI.al;have hle:=hI.le;have hj:=h5;exact wrap64 (by omega) (by omega)));N9 8 A rfl rfl fun A=>have A:=AB A 150 (.int .u64 ((dv (l.getD (((j:Int)).toNat) 0):Nat):Int)) rfl (BI (show IntKind.wrap .u64 ((dv (l.getD (((j:Int)).toNat) 0):Nat):Int)=((dv (l.getD (((j:Int)).toNat) 0):Nat):Int) by have:=kF;exact wrap64 (by omega) (by omega)));N9 1 A rfl rfl fun A=>have A:=AB A 151 (.int .u64 ((nv 16 (l.take (j+1)):Nat):Int)) rfl (BI (show IntKind.wrap .u64 ((((nv 16 (l.take j):Nat):Int)*16)+((dv (l.getD (((j:Int)).toNat) 0):Nat):Int))=((nv 16 (l.take (j+1)):Nat):Int) by have hp:=H7 hI.al;have hle:=hI.le;have hj:=h5;have hd:dv (l.getD (((j:Int)).toNat) 0)<16:=(by have:=kF;omega);rw [G7 (jK hj)];have e0:(((j:Int)).toNat)=((j:Int)).toNat:=rfl;rw [wrap64 (by omega) (by omega)];omega));N9 14 A rfl rfl fun A=>have A:=AB A 159 (.ff) rfl (fun _=>congrArg (fun b=>some (Value.bool b)) (show((decide (((nv 16 (l.take (j+1)):Nat):Int)<(((nv 16 (l.take j):Nat):Int)*16)))||(decide (((nv 16 (l.take (j+1)):Nat):Int)>18446744073709551615)))=false by have hp:=H7 hI.al;have hle:=hI.le;have hj:=h5;have hd:dv (l.getD (((j:Int)).toNat) 0)<16:=(by have:=kF;omega);have hg:=G7 (bs:=16) (jK hj);rw [Bool.eq_false_iff];intro hc;simp only [Bool.or_eq_true,decide_eq_true_eq]at hc;omega));N9 15 A rfl (iU (by have:=hI.le;omega)<|iT) fun A=>⟨j+1,_,(by omega),⟨by have:=hI.le;omega,K8 (jK h5) hI.al (by have:=kF;omega)⟩,((A.cut [1,6,7,8,9,10,11,12,13,99,100,101] rfl).trunc 1 rfl rfl rfl (iR h0 rfl))⟩)))
          (fun kH A=>N9 3 A rfl rfl fun A=>AW A rfl (Ji rfl rfl rfl rfl (by kernel_rfl)) fun A=>N9 5 A rfl rfl fun A=>R9 A rfl h0 rfl (by rw [CO (EB (jK h5) (by have h:=h6;simp only [Bool.and_eq_false_iff,decide_eq_false_iff_not]at h;have h0:=h9;have h1:=kH;rw [K6 (by omega) (by omega)];omega))];rfl) rfl))
         (fun h9 A=>N9 10 A rfl rfl fun A=>AW A rfl (Ji rfl rfl rfl rfl (by kernel_rfl)) fun A=>N9 5 A rfl rfl fun A=>R9 A rfl h0 rfl (by rw [CO (EB (jK h5) (by have h:=h6;simp only [Bool.and_eq_false_iff,decide_eq_false_iff_not]at h;have h0:=h9;rw [K6 (by omega) (by omega)];omega))];rfl) rfl)))
       (fun h5 A=>N9 25 A rfl rfl fun A=>R9 A rfl h0 rfl (by rw [G8 (Oe h1 hI.al (by have:=h5;omega))];rfl) rfl))
     (fun h4 A=>absurd rfl h4))))
theorem PQ (l:List UInt8)(n:Nat)(hl:l.length≤16)(h:DM 16 l=some n):Fn Tryz.prog 238 [.str l,.int .i64 16,.int .i64 64] [] (Rt (.tup [.int .u64 (n:Int),.v .nilIface]) []):=by have:=MD l hl;rw [G8 h]at this;exact this
theorem PR (l:List UInt8)(hl:l.length≤16)(h:DM 16 l=none):Fn Tryz.prog 238 [.str l,.int .i64 16,.int .i64 64] [] (Rt (.tup [.int .u64 0,.v (.iface 280 (.int .i64 2))]) []):=by have:=MD l hl;rw [CO h]at this;exact this
end Go.Proofs.YtbbdanhpphlbpaaGreatDoor
namespace Go.Proofs.YtbbdanhpphlbpaaGreatDoor
open Go.Shelf Go.RowKit
def NC:Go.Shelf.Ren:=⟨fun|14=>205|16=>238|17=>239|19=>266|20=>267|21=>268|22=>269|23=>270|24=>271|25=>287|27=>125|26=>288|28=>167|29=>208|30=>210|31=>211|32=>212|33=>213|35=>241|34=>240|36=>242|37=>243|38=>179|39=>214|40=>215|n=>n,fun|9=>9|3=>3|22=>185|24=>215|25=>216|4=>4|34=>280|5=>5|36=>188|37=>152|0=>0|39=>282|21=>21|44=>298|47=>277|50=>308|48=>306|2=>2|52=>220|55=>223|59=>260|60=>226|20=>20|61=>261|65=>262|66=>263|67=>50|n=>n,fun|0=>4|1=>5|2=>1|3=>2|4=>3|n=>n⟩
theorem XU:Go.Proofs.LaysPu.n14 Tryz.prog NC:={
 mixed:=by kernel_rfl
 f14:=Tryz.func205.trans (congrArg some (by kernel_rfl))
 f16:=Tryz.func238.trans (congrArg some (by kernel_rfl))
 f17:=Tryz.func239.trans (congrArg some (by kernel_rfl))
 f19:=Tryz.func266.trans (congrArg some (by kernel_rfl))
 f20:=Tryz.func267.trans (congrArg some (by kernel_rfl))
 f21:=Tryz.func268.trans (congrArg some (by kernel_rfl))
 f22:=Tryz.func269.trans (congrArg some (by kernel_rfl))
 f23:=Tryz.func270.trans (congrArg some (by kernel_rfl))
 f24:=Tryz.func271.trans (congrArg some (by kernel_rfl))
 f25:=Tryz.func287.trans (congrArg some (by kernel_rfl))
 f26:=Tryz.func288.trans (congrArg some (by kernel_rfl))
 f27:=Tryz.func125.trans (congrArg some (by kernel_rfl))
 f28:=Tryz.func167.trans (congrArg some (by kernel_rfl))
 f29:=Tryz.func208.trans (congrArg some (by kernel_rfl))
 f30:=Tryz.func210.trans (congrArg some (by kernel_rfl))
 f31:=Tryz.func211.trans (congrArg some (by kernel_rfl))
 f32:=Tryz.func212.trans (congrArg some (by kernel_rfl))
 f33:=Tryz.func213.trans (congrArg some (by kernel_rfl))
 f34:=Tryz.func240.trans (congrArg some (by kernel_rfl))
 f35:=Tryz.func241.trans (congrArg some (by kernel_rfl))
 f36:=Tryz.func242.trans (congrArg some (by kernel_rfl))
 f37:=Tryz.func243.trans (congrArg some (by kernel_rfl))
 f38:=Tryz.func179.trans (congrArg some (by kernel_rfl))
 f39:=Tryz.func214.trans (congrArg some (by kernel_rfl))
 f40:=Tryz.func215.trans (congrArg some (by kernel_rfl))
 t0:=Tryz.underlying0
 a0:=Tryz.isAgg0
 z0:=Tryz.sizeOf0
 v0:=Tryz.zeroValue0
 i0:=by kernel_rfl
 t2:=Tryz.underlying2
 a2:=Tryz.isAgg2
 z2:=Tryz.sizeOf2
 v2:=Tryz.zeroValue2
 i2:=by kernel_rfl
 t3:=Tryz.underlying3
 a3:=Tryz.isAgg3
 z3:=Tryz.sizeOf3
 v3:=Tryz.zeroValue3
 i3:=by kernel_rfl
 t4:=Tryz.underlying4
 a4:=Tryz.isAgg4
 z4:=Tryz.sizeOf4
 v4:=Tryz.zeroValue4
 i4:=by kernel_rfl
 t5:=Tryz.underlying5
 a5:=Tryz.isAgg5
 z5:=Tryz.sizeOf5
 v5:=Tryz.zeroValue5
 i5:=by kernel_rfl
 t9:=Tryz.underlying9
 a9:=Tryz.isAgg9
 z9:=Tryz.sizeOf9
 v9:=Tryz.zeroValue9
 i9:=by kernel_rfl
 t20:=Tryz.underlying20
 a20:=Tryz.isAgg20
 z20:=Tryz.sizeOf20
 v20:=Tryz.zeroValue20
 i20:=by kernel_rfl
 t21:=Tryz.underlying21
 a21:=Tryz.isAgg21
 z21:=Tryz.sizeOf21
 v21:=Tryz.zeroValue21
 i21:=by kernel_rfl
 t22:=Tryz.underlying185
 a22:=Tryz.isAgg185
 z22:=Tryz.sizeOf185
 v22:=Tryz.zeroValue185
 i22:=by kernel_rfl
 t24:=Tryz.underlying215
 a24:=Tryz.isAgg215
 z24:=Tryz.sizeOf215
 v24:=Tryz.zeroValue215
 i24:=by kernel_rfl
 t25:=Tryz.underlying216
 a25:=Tryz.isAgg216
 z25:=Tryz.sizeOf216
 v25:=Tryz.zeroValue216
 i25:=by kernel_rfl
 t34:=Tryz.underlying280
 a34:=Tryz.isAgg280
 z34:=Tryz.sizeOf280
 v34:=Tryz.zeroValue280
 i34:=by kernel_rfl
 c34:=by kernel_rfl
 t36:=Tryz.underlying188
 a36:=Tryz.isAgg188
 z36:=Tryz.sizeOf188
 v36:=Tryz.zeroValue188
 i36:=by kernel_rfl
 t37:=Tryz.underlying152
 a37:=Tryz.isAgg152
 z37:=Tryz.sizeOf152
 v37:=Tryz.zeroValue152
 i37:=by kernel_rfl
 t39:=Tryz.underlying282
 a39:=Tryz.isAgg282
 z39:=Tryz.sizeOf282
 v39:=Tryz.zeroValue282
 i39:=by kernel_rfl
 t44:=Tryz.underlying298
 a44:=Tryz.isAgg298
 z44:=Tryz.sizeOf298
 v44:=Tryz.zeroValue298
 i44:=by kernel_rfl
 t47:=Tryz.underlying277
 a47:=Tryz.isAgg277
 z47:=Tryz.sizeOf277
 v47:=Tryz.zeroValue277
 i47:=by kernel_rfl
 t48:=Tryz.underlying306
 a48:=Tryz.isAgg306
 z48:=Tryz.sizeOf306
 v48:=Tryz.zeroValue306
 i48:=by kernel_rfl
 t50:=Tryz.underlying308
 a50:=Tryz.isAgg308
 z50:=Tryz.sizeOf308
 v50:=Tryz.zeroValue308
 i50:=by kernel_rfl
 t52:=Tryz.underlying220
 a52:=Tryz.isAgg220
 z52:=Tryz.sizeOf220
 v52:=Tryz.zeroValue220
 i52:=by kernel_rfl
 t55:=Tryz.underlying223
 a55:=Tryz.isAgg223
 z55:=Tryz.sizeOf223
 v55:=Tryz.zeroValue223
 i55:=by kernel_rfl
 t59:=Tryz.underlying260
 a59:=Tryz.isAgg260
 z59:=Tryz.sizeOf260
 v59:=Tryz.zeroValue260
 i59:=by kernel_rfl
 t60:=Tryz.underlying226
 a60:=Tryz.isAgg226
 z60:=Tryz.sizeOf226
 v60:=Tryz.zeroValue226
 i60:=by kernel_rfl
 t61:=Tryz.underlying261
 a61:=Tryz.isAgg261
 z61:=Tryz.sizeOf261
 t65:=Tryz.underlying262
 a65:=Tryz.isAgg262
 z65:=Tryz.sizeOf262
 v65:=Tryz.zeroValue262
 i65:=by kernel_rfl
 t66:=Tryz.underlying263
 a66:=Tryz.isAgg263
 z66:=Tryz.sizeOf263
 v66:=Tryz.zeroValue263
 i66:=by kernel_rfl
 t67:=Tryz.underlying50
 a67:=Tryz.isAgg50
 z67:=Tryz.sizeOf50
 v67:=Tryz.zeroValue50
 i67:=by kernel_rfl
 g0:=by kernel_rfl
 m0:=by kernel_rfl
 g1:=by kernel_rfl
 m1:=by kernel_rfl
 g2:=by kernel_rfl
 m2:=by kernel_rfl
 g3:=by kernel_rfl
 m3:=by kernel_rfl
 g4:=by kernel_rfl
 m4:=by kernel_rfl}
theorem ME (fn l:List UInt8)(base bits:Int)(ev:Value)(w:World)(hl:l.length≤19)(hv:w.cell? ⟨4,0,none⟩=some ev)(sC:ev=.nilIface∨∃te pe,ev=.iface te pe):
  Calls Tryz.prog 239 #[.string (S fn),.string (S l),.int .i64 base,.int .i64 bits,.iface 280 (.int .i64 2)] w fun e w'=>(∃N,e=.returned (.iface 282 (.pointer (some ⟨N,0,none⟩))))∧BW w w':=by
 refine(AnyPu.strconv_toError_syntax {XU with} (S fn) (S l) base bits ev w (by rw [Cf];omega) hv sC).mono ?_
 rintro e w' ⟨N,he,_,_,hb⟩
 exact⟨⟨N,he⟩,hb⟩
end Go.Proofs.YtbbdanhpphlbpaaGreatDoor
namespace Go.Proofs.YtbbdanhpphlbpaaGreatDoor
open Go.RowKit
set_option simprocs false
abbrev _root_.Go.Proofs.YtbbdanhpphlbpaaGreatDoor.lW (os:List (Nat×Obj)):Prop:=∀w ks,Gl os w ks→∃ev,w.cell? ⟨4,0,none⟩=some ev∧(ev=.nilIface∨∃te pe,ev=.iface te pe)
theorem Rm (fn l:List UInt8)(base bits:Int)(os:List (Nat×Obj))(hE:lW os)(hl:l.length≤19):YU (Gl os) Tryz.prog 239 [.str fn,.str l,.int .i64 base,.int .i64 bits,.v (.iface 280 (.int .i64 2))] (fun x=>∃pN,x=.v (.iface 282 (.pointer (some ⟨pN,0,none⟩)))):=by
 refine⟨by kernel_rfl,fun w ks vs hv hI=>?_⟩
 cases hv
 obtain⟨ev,h1,h2⟩:=hE w ks hI
 refine(ME fn l base bits ev w hl h1 h2).mono ?_
 rintro e w' ⟨⟨pN,rfl⟩,hg⟩
 exact⟨_,_,⟨pN,rfl⟩,rfl,rfl,hg⟩
theorem XV (l:List UInt8)(n:Nat)(hl:l.length≤19)(hv:DM 10 l=some n):Fn Tryz.prog 205 [.str l,.int .i64 10,.int .i64 64] [] (Rt (.tup [.int .u64 (n:Int),.v .nilIface]) []):=
 AG (n:=26) (by kernel_rfl) Tryz.func205 rfl rfl rfl fun G w a h0 A=>N9 11 A rfl rfl fun A=>C9 [] (PO l n hl hv) A rfl fun A=>N9 11 A rfl rfl fun A=>AW A rfl (Ko rfl rfl rfl rfl (by kernel_rfl)) fun A=>N9 13 A rfl rfl fun A=>R9 A rfl h0 rfl rfl rfl
theorem XW (l:List UInt8)(os:List (Nat×Obj))(hE:lW os)(hl:l.length≤19)(hv:DM 10 l=none):YU (Gl os) Tryz.prog 205 [.str l,.int .i64 10,.int .i64 64] (fun x=>∃pN,x=.tup [.int .u64 0,.v (.iface 282 (.pointer (some ⟨pN,0,none⟩)))]):=
 Qn Gl.ok (n:=26) (by kernel_rfl) Tryz.func205 rfl rfl rfl fun w a hI A=>N9 11 A rfl rfl fun A=>C9 [] (PP l hl hv) A rfl fun A=>N9 11 A rfl rfl fun A=>AW A rfl (OC rfl rfl rfl rfl (by kernel_rfl)) fun A=>N9 10 A rfl rfl fun A=>OD (fun pN=>.v (.iface 282 (.pointer (some ⟨pN,0,none⟩)))) Gl.ok hI (Rm [80,97,114,115,101,85,105,110,116] l 10 64 os hE (by omega)) A rfl rfl fun pN=>fun A=>N9 5 A rfl rfl fun A=>ZH (J:=fun x=>∃pN,x=.tup [.int .u64 0,.v (.iface 282 (.pointer (some ⟨pN,0,none⟩)))]) hX A rfl rfl rfl rfl ⟨pN,rfl⟩
theorem XX (l:List UInt8)(n:Nat)(hl:l.length≤16)(hv:DM 16 l=some n):Fn Tryz.prog 205 [.str l,.int .i64 16,.int .i64 64] [] (Rt (.tup [.int .u64 (n:Int),.v .nilIface]) []):=
 AG (n:=26) (by kernel_rfl) Tryz.func205 rfl rfl rfl fun G w a h0 A=>N9 11 A rfl rfl fun A=>C9 [] (PQ l n hl hv) A rfl fun A=>N9 11 A rfl rfl fun A=>AW A rfl (Ko rfl rfl rfl rfl (by kernel_rfl)) fun A=>N9 13 A rfl rfl fun A=>R9 A rfl h0 rfl rfl rfl
theorem XY (l:List UInt8)(os:List (Nat×Obj))(hE:lW os)(hl:l.length≤16)(hv:DM 16 l=none):YU (Gl os) Tryz.prog 205 [.str l,.int .i64 16,.int .i64 64] (fun x=>∃pN,x=.tup [.int .u64 0,.v (.iface 282 (.pointer (some ⟨pN,0,none⟩)))]):=
 Qn Gl.ok (n:=26) (by kernel_rfl) Tryz.func205 rfl rfl rfl fun w a hI A=>N9 11 A rfl rfl fun A=>C9 [] (PR l hl hv) A rfl fun A=>N9 11 A rfl rfl fun A=>AW A rfl (OC rfl rfl rfl rfl (by kernel_rfl)) fun A=>N9 10 A rfl rfl fun A=>OD (fun pN=>.v (.iface 282 (.pointer (some ⟨pN,0,none⟩)))) Gl.ok hI (Rm [80,97,114,115,101,85,105,110,116] l 16 64 os hE (by omega)) A rfl rfl fun pN=>fun A=>N9 5 A rfl rfl fun A=>ZH (J:=fun x=>∃pN,x=.tup [.int .u64 0,.v (.iface 282 (.pointer (some ⟨pN,0,none⟩)))]) hX A rfl rfl rfl rfl ⟨pN,rfl⟩
end Go.Proofs.YtbbdanhpphlbpaaGreatDoor
namespace Go.Proofs.YtbbdanhpphlbpaaGreatDoor
structure Tk where
 kind:Int
 text:List UInt8
 n:Int
 at_:Int
def Ad:Tk:=⟨0,[],0,0⟩
def fits (o:Option Nat):Option Int:=match o with|some n=>if n>9223372036854775808 then none else some (IntKind.wrap .i64 (n:Int))|none=>none
def DN (l:List UInt8):Option Int:=
 if preB l [48,120]then(if(G6 l [48,120]).length>16 then none else fits (DM 16 (G6 l [48,120])))else(if l.length>19 then none else fits (DM 10 l))
section
variable {l:List UInt8}{n:Nat}
theorem PS (h:preB l [48,120]=true)(hl:(G6 l [48,120]).length>16):DN l=none:=by unfold DN;rw [if_pos h,if_pos hl]
theorem PT (h:preB l [48,120]=false)(hl:l.length>19):DN l=none:=by unfold DN;rw [if_neg (by simp [h]),if_pos hl]
theorem PU (h:preB l [48,120]=true)(hv:DM 16 (G6 l [48,120])=none):DN l=none:=by unfold DN;rw [if_pos h,hv];simp [fits]
theorem PV (h:preB l [48,120]=false)(hv:DM 10 l=none):DN l=none:=by unfold DN;rw [if_neg (by simp [h]),hv];simp [fits]
theorem Rn (h:preB l [48,120]=true)(hv:DM 16 (G6 l [48,120])=some n)(hn:n>9223372036854775808):DN l=none:=by unfold DN;rw [if_pos h,hv];simp [fits,hn]
theorem Rp (h:preB l [48,120]=false)(hv:DM 10 l=some n)(hn:n>9223372036854775808):DN l=none:=by unfold DN;rw [if_neg (by simp [h]),hv];simp [fits,hn]
theorem UG (h:preB l [48,120]=true)(hl:(G6 l [48,120]).length≤16)(hv:DM 16 (G6 l [48,120])=some n)(hn:n≤9223372036854775808):DN l=some (IntKind.wrap .i64 (n:Int)):=by
 unfold DN;rw [if_pos h,if_neg (by omega),hv];simp only [fits];rw [if_neg (by omega)]
theorem UH (h:preB l [48,120]=false)(hl:l.length≤19)(hv:DM 10 l=some n)(hn:n≤9223372036854775808):DN l=some (IntKind.wrap .i64 (n:Int)):=by
 unfold DN;rw [if_neg (by simp [h]),if_neg (by omega),hv];simp only [fits];rw [if_neg (by omega)]
end
end Go.Proofs.YtbbdanhpphlbpaaGreatDoor
namespace Go.Proofs.YtbbdanhpphlbpaaGreatDoor
open Go.RowKit
set_option simprocs false
def nk (l:List UInt8):Int:=match DN l with|some _=>2|none=>0
def nt (l:List UInt8):List UInt8:=match DN l with|some _=>l|none=>[]
def nn (l:List UInt8):Int:=match DN l with|some n=>n|none=>0
def aN (l:List UInt8):Int:=match DN l with|some _=>0|none=>23
theorem GK {l:List UInt8}(h:DN l=none):nk l=0∧nt l=[]∧nn l=0∧aN l=23:=by unfold nk nt nn aN;rw [h];exact⟨rfl,rfl,rfl,rfl⟩
theorem ND {l:List UInt8}{n:Int}(h:DN l=some n):nk l=2∧nt l=l∧nn l=n∧aN l=0:=by unfold nk nt nn aN;rw [h];exact⟨rfl,rfl,rfl,rfl⟩
theorem UI (l:List UInt8)(os:List (Nat×Obj))(hE:lW os)(hlen:l.length≤8192):Bi (Gl os) Tryz.prog 154 [.str l] [] (Rt (.tup [.agg [.int .i64 (nk l),.str (nt l),.int .i64 (nn l),.z9],.int .i64 (aN l)]) []):=
 Ab (n:=41) (by kernel_rfl) Tryz.func154 rfl rfl rfl fun G w a h0 hI A=>N9 18 A rfl rfl fun A=>C9 [] (aL l [48,120]) A rfl fun A=>N9 12 A rfl rfl fun A=>fork 17 A rfl
  (fun h1 A=>N9 17 A rfl rfl fun A=>AL 22 A rfl
   (fun h2 A=>N9 9 A rfl rfl fun A=>R9 A rfl h0 rfl (by obtain⟨e1,e2,e3,e4⟩:=GK (PS h1 (by have:=h2;omega));rw [e1,e2,e3,e4];rfl) rfl)
   (fun h2 A=>N9 7 A rfl rfl fun A=>ZF (DM 16 (G6 l [48,120]))
    (fun hv=>OD (fun pN=>.tup [.int .u64 0,.v (.iface 282 (.pointer (some ⟨pN,0,none⟩)))]) Gl.ok hI (XY (G6 l [48,120]) os hE (by have:=h2;omega) hv) A rfl rfl fun pN=>fun A=>N9 11 A rfl rfl fun A=>AW A rfl (OC rfl rfl rfl rfl (by kernel_rfl)) fun A=>N9 15 A rfl rfl fun A=>R9 A rfl h0 rfl (by obtain⟨e1,e2,e3,e4⟩:=GK (PU h1 hv);rw [e1,e2,e3,e4];rfl) rfl)
    (fun n hv=>C9 [] (XX (G6 l [48,120]) n (by have:=h2;omega) hv) A rfl fun A=>N9 11 A rfl rfl fun A=>AW A rfl (Ko rfl rfl rfl rfl (by kernel_rfl)) fun A=>N9 6 A rfl rfl fun A=>AL 35 A rfl
     (fun h3 A=>N9 9 A rfl rfl fun A=>R9 A rfl h0 rfl (by obtain⟨e1,e2,e3,e4⟩:=GK (Rn h1 hv (by have:=h3;omega));rw [e1,e2,e3,e4];rfl) rfl)
     (fun h3 A=>N9 14 A rfl rfl fun A=>R9 A rfl h0 rfl (by obtain⟨e1,e2,e3,e4⟩:=ND (UG h1 (by have:=h2;omega) hv (by have:=h3;omega));rw [e1,e2,e3,e4];rfl) rfl))))
  (fun h1 A=>N9 12 A rfl rfl fun A=>AL 22 A rfl
   (fun h4 A=>N9 9 A rfl rfl fun A=>R9 A rfl h0 rfl (by obtain⟨e1,e2,e3,e4⟩:=GK (PT h1 (by have:=h4;omega));rw [e1,e2,e3,e4];rfl) rfl)
   (fun h4 A=>N9 7 A rfl rfl fun A=>ZF (DM 10 l)
    (fun hv=>OD (fun pN=>.tup [.int .u64 0,.v (.iface 282 (.pointer (some ⟨pN,0,none⟩)))]) Gl.ok hI (XW l os hE (by have:=h4;omega) hv) A rfl rfl fun pN=>fun A=>N9 11 A rfl rfl fun A=>AW A rfl (OC rfl rfl rfl rfl (by kernel_rfl)) fun A=>N9 15 A rfl rfl fun A=>R9 A rfl h0 rfl (by obtain⟨e1,e2,e3,e4⟩:=GK (PV h1 hv);rw [e1,e2,e3,e4];rfl) rfl)
    (fun n hv=>C9 [] (XV l n (by have:=h4;omega) hv) A rfl fun A=>N9 11 A rfl rfl fun A=>AW A rfl (Ko rfl rfl rfl rfl (by kernel_rfl)) fun A=>N9 6 A rfl rfl fun A=>AL 35 A rfl
     (fun h5 A=>N9 9 A rfl rfl fun A=>R9 A rfl h0 rfl (by obtain⟨e1,e2,e3,e4⟩:=GK (Rp h1 hv (by have:=h5;omega));rw [e1,e2,e3,e4];rfl) rfl)
     (fun h5 A=>N9 14 A rfl rfl fun A=>R9 A rfl h0 rfl (by obtain⟨e1,e2,e3,e4⟩:=ND (UH h1 (by have:=h4;omega) hv (by have:=h5;omega));rw [e1,e2,e3,e4];rfl) rfl))))
end Go.Proofs.YtbbdanhpphlbpaaGreatDoor
namespace Go.Proofs.YtbbdanhpphlbpaaGreatDoor
theorem GL {l:List UInt8}(h:0<l.length):MB l≤l.length:=by
 unfold MB
 split
 ·next h1=>
  rw [Bool.or_eq_true]at h1
  rcases h1 with h1|h1
  ·exact Dj h1
  ·exact Dj h1
 ·split<;>split<;>omega
def iW (l:List UInt8):Tk×Int:=
 match l[0]? with
 |none=>(Ad,20)
 |some b=>
  if GE b then(match DN (l.take (rn Dg l))with|some n=>(⟨2,l.take (rn Dg l),n,0⟩,0)|none=>(Ad,23))
  else if IG b then(⟨1,l.take (rn E4 l),0,0⟩,0)
  else if MB l>0 then(⟨3,l.take (MB l),0,0⟩,0)else(Ad,20)
section
variable {l:List UInt8}{b:UInt8}
theorem KC {n:Int}(hb:l[0]?=some b)(h:GE b=true)(hn:DN (l.take (rn Dg l))=some n):iW l=(⟨2,l.take (rn Dg l),n,0⟩,0):=by unfold iW;simp [hb,h,hn]
theorem KD (hb:l[0]?=some b)(h:GE b=true)(hn:DN (l.take (rn Dg l))=none):iW l=(Ad,23):=by unfold iW;simp [hb,h,hn]
theorem JI (hb:l[0]?=some b)(h:GE b=false)(h2:IG b=true):iW l=(⟨1,l.take (rn E4 l),0,0⟩,0):=by unfold iW;simp [hb,h,h2]
theorem JJ (hb:l[0]?=some b)(h:GE b=false)(h2:IG b=false)(h3:MB l>0):iW l=(⟨3,l.take (MB l),0,0⟩,0):=by unfold iW;simp [hb,h,h2,h3]
theorem JK (hb:l[0]?=some b)(h:GE b=false)(h2:IG b=false)(h3:¬MB l>0):iW l=(Ad,20):=by unfold iW;simp [hb,h,h2,h3]
end
end Go.Proofs.YtbbdanhpphlbpaaGreatDoor
namespace Go.Proofs.YtbbdanhpphlbpaaGreatDoor
open Go.RowKit
set_option simprocs false
theorem XZ (l:List UInt8)(os:List (Nat×Obj))(hE:lW os)(hl:0<l.length)(hlen:l.length≤8192):Bi (Gl os) Tryz.prog 119 [.str l] [] (Rt (.tup [.agg [.int .i64 ((iW l).1.kind),.str ((iW l).1.text),.int .i64 ((iW l).1.n),.int .i64 ((iW l).1.at_)],.int .i64 ((iW l).2)]) []):=
 Ab (n:=35) (by kernel_rfl) Tryz.func119 rfl rfl rfl fun G w a h0 hI A=>N9 16 A rfl (iU (by have h1:=D4 Dg l;have h2:=D4 E4 l;have h3:=GL hl;(try simp only [List.length_take]);omega)<|iT) fun A=>N9 2 A rfl rfl fun A=>C9 [] (O7 (l.getD (0:Int).toNat 0)) A rfl fun A=>N9 3 A rfl rfl fun A=>fork 8 A rfl
  (fun h1 A=>N9 5 A rfl rfl fun A=>C9 [] (Y7 156 Dg l Iy (by omega)) A rfl fun A=>N9 1 A rfl (iU (by have h1:=D4 Dg l;have h2:=D4 E4 l;have h3:=GL hl;(try simp only [List.length_take]);omega)<|iT) fun A=>I9 [] Gl.ok hI (UI (l.take (((rn Dg l:Nat):Int)).toNat) os hE (by have h1:=D4 Dg l;have h2:=D4 E4 l;have h3:=GL hl;(try simp only [List.length_take]);omega)) A rfl fun A=>N9 7 A rfl rfl fun A=>R9 A rfl h0 rfl (by cases hn:DN (l.take (rn Dg l))with|none=>(obtain⟨e1,e2,e3,e4⟩:=GK hn;rw [KD (XQ hl) h1 hn];simp only [Int.toNat_natCast,e1,e2,e3,e4];rfl)|some n=>(obtain⟨e1,e2,e3,e4⟩:=ND hn;rw [KC (XQ hl) h1 hn];simp only [Int.toNat_natCast,e1,e2,e3,e4];rfl)) rfl)
  (fun h1 A=>N9 4 A rfl rfl fun A=>C9 [] (Jg (l.getD (0:Int).toNat 0)) A rfl fun A=>N9 3 A rfl rfl fun A=>fork 18 A rfl
   (fun h2 A=>N9 5 A rfl rfl fun A=>C9 [] (Y7 158 E4 l Kj (by omega)) A rfl fun A=>N9 7 A rfl (iU (by have h1:=D4 Dg l;have h2:=D4 E4 l;have h3:=GL hl;(try simp only [List.length_take]);omega)<|iT) fun A=>R9 A rfl h0 rfl (by rw [JI (XQ hl) h1 h2];rfl) rfl)
   (fun h2 A=>N9 8 A rfl rfl fun A=>C9 [] (XR l (by have h1:=D4 Dg l;have h2:=D4 E4 l;have h3:=GL hl;(try simp only [List.length_take]);omega)) A rfl fun A=>N9 9 A rfl rfl fun A=>AL 29 A rfl
    (fun h3 A=>N9 12 A rfl (iU (by have h1:=D4 Dg l;have h2:=D4 E4 l;have h3:=GL hl;(try simp only [List.length_take]);omega)<|iT) fun A=>R9 A rfl h0 rfl (by rw [JJ (XQ hl) h1 h2 (by have:=h3;omega)];rfl) rfl)
    (fun h3 A=>N9 11 A rfl rfl fun A=>R9 A rfl h0 rfl (by rw [JK (XQ hl) h1 h2 (by have:=h3;omega)];rfl) rfl)))
end Go.Proofs.YtbbdanhpphlbpaaGreatDoor
namespace Go.Proofs.YtbbdanhpphlbpaaGreatDoor
theorem Of (l:List UInt8):(iZ l).1≤l.length:=by
 have go:∀n (l:List UInt8),l.length≤n→(iZ l).1≤l.length:=by
  intro n
  induction n with
  |zero=>intro l hl;obtain rfl:l=[]:=List.eq_nil_of_length_eq_zero (Nat.le_zero.1 hl);rw [JG];simp
  | succ n ih=>
   intro l hl
   match l,hl with
   | [],_=>rw [JG];simp
   | b ::r,hl=>
    have h0:(b::r)[0]?=some b:=rfl
    rcases Bool.eq_false_or_eq_true (kR b)with h1|h1
    ·have e:=JH h0 h1
     rw [List.drop_zero]at e
     rw [e]
     have:=ih r (by simpa using hl)
     simp only [List.length_cons,Nat.zero_add,List.drop_succ_cons,List.drop_zero]
     omega
    ·rcases Bool.eq_false_or_eq_true (preB (b::r) [40,42])with h2|h2
     ·by_cases h3:DK ((b::r).drop 2)<0
      ·have e:=KA (n:=0) h0 h1 (by rw [List.drop_zero];exact h2) (by rw [Nat.zero_add];exact h3)
       rw [List.drop_zero]at e;rw [e];simp
      ·have e:=H5 (n:=0) h0 h1 (by rw [List.drop_zero];exact h2) (by rw [Nat.zero_add];exact h3)
       rw [List.drop_zero]at e;rw [e]
       simp only [Nat.zero_add]
       have h4:=Ep ((b::r).drop 2)
       have h5:=ih ((b::r).drop (2+(DK ((b::r).drop 2)).toNat+2)) (by rw [List.length_drop];omega)
       rw [List.length_drop]at h4 h5
       omega
     ·have e:=J9 (n:=0) h0 h1 (by rw [List.drop_zero];exact h2)
      rw [List.drop_zero]at e;rw [e];simp
 exact go l.length l (Nat.le_refl _)
theorem Rq {p:UInt8→Bool}{l:List UInt8}{b:UInt8}(hb:l[0]?=some b)(h:p b=true):0<rn p l:=by
 have:=U5 (p:=p) (n:=0) hb h
 rw [List.drop_zero]at this;omega
theorem KE {l:List UInt8}(h:(iW l).2=0):0<(iW l).1.text.length∧(iW l).1.text.length≤l.length:=by
 cases hb:l[0]? with
 |none=>unfold iW at h;simp [hb]at h
 | some b=>
  have hl:0<l.length:=(List.getElem?_eq_some_iff.1 hb).1
  rcases Bool.eq_false_or_eq_true (GE b)with h1|h1
  ·cases hn:DN (l.take (rn Dg l))with
   |none=>rw [KD hb h1 hn]at h;simp at h
   |some n=>
    rw [KC hb h1 hn]
    have h2:=Rq (p:=Dg) hb (by unfold Dg;rw [h1,Bool.or_true])
    have h3:=D4 Dg l
    simp only [List.length_take];omega
  ·rcases Bool.eq_false_or_eq_true (IG b)with h2|h2
   ·rw [JI hb h1 h2]
    have h3:=Rq (p:=E4) hb (by unfold E4;rw [h2,Bool.true_or])
    have h4:=D4 E4 l
    simp only [List.length_take];omega
   ·by_cases h3:MB l>0
    ·rw [JJ hb h1 h2 h3]
     have h4:=GL hl
     simp only [List.length_take];omega
    ·rw [JK hb h1 h2 h3]at h;simp at h
def jZ:Nat→List UInt8→Nat→List Tk→List Tk×Int×Nat
 |0,_,_,_=>([],0,0)
 | f+1,l,a,ws=>
  if(iZ (l.drop a)).2 then([],24,a+(iZ (l.drop a)).1)
  else if a+(iZ (l.drop a)).1=l.length then(ws,0,0)
  else if(iW (l.drop (a+(iZ (l.drop a)).1))).2=0 then
   jZ f l (a+(iZ (l.drop a)).1+(iW (l.drop (a+(iZ (l.drop a)).1))).1.text.length) (ws++[{(iW (l.drop (a+(iZ (l.drop a)).1))).1 with at_:=((a+(iZ (l.drop a)).1:Nat):Int)}])
  else([],(iW (l.drop (a+(iZ (l.drop a)).1))).2,a+(iZ (l.drop a)).1)
def BP (l:List UInt8):List Tk×Int×Nat:=if l.length>8192 then([],2,0)else jZ (l.length+1) l 0 []
section
variable {f a:Nat}{l:List UInt8}{ws:List Tk}
theorem Rr (h:(iZ (l.drop a)).2=true):jZ (f+1) l a ws=([],24,a+(iZ (l.drop a)).1):=by rw [jZ,if_pos h]
theorem Rs (h:(iZ (l.drop a)).2=false)(h1:a+(iZ (l.drop a)).1=l.length):jZ (f+1) l a ws=(ws,0,0):=by rw [jZ,if_neg (by simp [h]),if_pos h1]
theorem Ru (h:(iZ (l.drop a)).2=false)(h1:¬a+(iZ (l.drop a)).1=l.length)(h2:¬(iW (l.drop (a+(iZ (l.drop a)).1))).2=0):jZ (f+1) l a ws=([],(iW (l.drop (a+(iZ (l.drop a)).1))).2,a+(iZ (l.drop a)).1):=by
 rw [jZ,if_neg (by simp [h]),if_neg h1,if_neg h2]
theorem Ve (h:(iZ (l.drop a)).2=false)(h1:¬a+(iZ (l.drop a)).1=l.length)(h2:(iW (l.drop (a+(iZ (l.drop a)).1))).2=0):jZ (f+1) l a ws=jZ f l (a+(iZ (l.drop a)).1+(iW (l.drop (a+(iZ (l.drop a)).1))).1.text.length) (ws++[{(iW (l.drop (a+(iZ (l.drop a)).1))).1 with at_:=((a+(iZ (l.drop a)).1:Nat):Int)}]):=by
 rw [jZ,if_neg (by simp [h]),if_neg h1,if_pos h2]
theorem H8 (h:l.length>8192):BP l=([],2,0):=by unfold BP;rw [if_pos h]
theorem Er (h:l.length≤8192):BP l=jZ (l.length+1) l 0 []:=by unfold BP;rw [if_neg (by omega)]
end
end Go.Proofs.YtbbdanhpphlbpaaGreatDoor
namespace Go.Proofs.YtbbdanhpphlbpaaGreatDoor
open Go.RowKit
set_option simprocs false
def MF (t:Tk):List SV:=[.int .i64 t.kind,.str t.text,.int .i64 t.n,.int .i64 t.at_]
abbrev EY (ws:List Tk):A6:=.lst 4 ws.length (fun zz=>MF (ws.getD zz Ad))
structure MG (l:List UInt8)(a:Nat)(ws:List Tk):Prop where
 le:a≤l.length
 wl:ws.length≤a
 eq:∃f,l.length<f+a∧BP l=jZ f l a ws
section
variable {l:List UInt8}{a:Nat}{ws:List Tk}
def DY (l:List UInt8)(a:Nat):Nat:=a+(iZ (l.drop a)).1
theorem MG.i0 (h:l.length≤8192):MG l 0 []:=⟨Nat.zero_le _,Nat.zero_le _,l.length+1,by omega,Er h⟩
theorem MG.sk (hI:MG l a ws):DY l a≤l.length:=by
 have h:=Of (l.drop a);rw [List.length_drop]at h;have:=hI.le;unfold DY;omega
theorem MG.rem (hI:MG l a ws)(h:NB l a≠0):BP l=([],24,DY l a)∧NB l a=24:=by
 have hs:(iZ (l.drop a)).2=true:=by
  cases hc:(iZ (l.drop a)).2 with
  |true=>rfl
  |false=>unfold NB at h;rw [hc]at h;exact absurd rfl h
 obtain⟨f,hf,he⟩:=hI.eq
 cases f with
 |zero=>have:=hI.le;omega
 |succ f=>exact⟨by rw [he,Rr hs];rfl,by unfold NB;rw [hs];rfl⟩
theorem mU (h:NB l a=0):(iZ (l.drop a)).2=false:=by
 cases hc:(iZ (l.drop a)).2 with
 |false=>rfl
 |true=>unfold NB at h;rw [hc]at h;exact absurd h (by decide)
theorem MG.done (hI:MG l a ws)(h:NB l a=0)(h1:DY l a=l.length):BP l=(ws,0,0):=by
 obtain⟨f,hf,he⟩:=hI.eq
 cases f with
 |zero=>have:=hI.le;omega
 |succ f=>rw [he,Rs (mU h) h1]
theorem MG.bad (hI:MG l a ws)(h:NB l a=0)(h1:DY l a≠l.length)(h2:(iW (l.drop (DY l a))).2≠0):BP l=([],(iW (l.drop (DY l a))).2,DY l a):=by
 obtain⟨f,hf,he⟩:=hI.eq
 cases f with
 |zero=>have:=hI.le;omega
 |succ f=>rw [he,Ru (mU h) h1 h2];rfl
theorem MG.len (hI:MG l a ws)(h1:DY l a≠l.length)(h2:(iW (l.drop (DY l a))).2=0):0<(iW (l.drop (DY l a))).1.text.length∧(iW (l.drop (DY l a))).1.text.length+DY l a≤l.length:=by
 have h:=KE h2
 rw [List.length_drop]at h
 have:=hI.sk
 omega
theorem MG.nx (hI:MG l a ws)(h:NB l a=0)(h1:DY l a≠l.length)(h2:(iW (l.drop (DY l a))).2=0):MG l (DY l a+(iW (l.drop (DY l a))).1.text.length) (ws++[⟨(iW (l.drop (DY l a))).1.kind,(iW (l.drop (DY l a))).1.text,(iW (l.drop (DY l a))).1.n,((DY l a:Nat):Int)⟩]):=by
 obtain⟨f,hf,he⟩:=hI.eq
 have hn:=hI.len h1 h2
 have hw:=hI.wl
 have hs:a≤DY l a:=by unfold DY;omega
 cases f with
 |zero=>have:=hI.le;omega
 |succ f=>exact⟨by omega,by simp;omega,f,by omega,by rw [he,Ve (mU h) h1 h2];rfl⟩
theorem Xa {x:Tk}{k:Nat}(hk:k<ws.length):(ws++[x]).getD k Ad=ws.getD k Ad:=by simp [List.getD,List.getElem?_append_left hk]
theorem Xb {x:Tk}:(ws++[x]).getD ws.length Ad=x:=by simp [List.getD]
end
def Xc (l:List UInt8):SV→Hp→Prop:=fun x H2=>((BP l).2.1=0∧x=.tup [.sl 0 (BP l).1.length 0,.z9,.z9]∧H2=[some (.row 134 4 (BP l).1.length 0 fun zz=>MF ((BP l).1.getD zz Ad))])∨((BP l).2.1≠0∧x=.tup [.sla none 0 0,.int .i64 (BP l).2.1,.int .i64 ((BP l).2.2:Int)]∧H2=[])
theorem Og (l:List UInt8)(os:List (Nat×Obj))(hM:lP os)(hE:lW os):Bi (Gl os) Tryz.prog 81 [.str l] [] (Xc l):=
 Ab (n:=50) (by kernel_rfl) Tryz.func81 rfl rfl rfl fun G w a h0 hI A=>N9 15 A rfl rfl fun A=>AL 12 A rfl
  (fun h1 A=>N9 9 A rfl rfl fun A=>Mj (x:=.tup [.sla none 0 0,.int .i64 2,.z9]) (H':=[]) hX [] A (by have e:=H8 (l:=l) (by omega);unfold Xc;rw [e];exact .inr ⟨(by show(2:Int)≠0;decide),rfl,rfl⟩) rfl rfl rfl rfl rfl rfl rfl rfl h0)
  (fun h1 A=>N9 14 A rfl rfl fun A=>have A:=A.nilRow 5 134 4 (fun zz=>MF (([]:List Tk).getD zz Ad)) rfl (fun z=>⟨_,rfl,rfl⟩);Lk (fun(e0:Nat) (ws:List Tk)=>[(0,.str l),(2,.sla none 0 0),(3,.int .i64 0),(4,.int .i64 0),(5,.sl 0 ws.length 0),(6,.int .i64 (e0:Int))]) (fun(e0:Nat) (ws:List Tk)=>[some (.row 134 4 ws.length 0 (fun zz=>MF (ws.getD zz Ad)))]) (fun(e0:Nat) (ws:List Tk)=>MG l e0 ws) (fun(e0:Nat) (ws:List Tk)=>l.length - e0) 0 [] (MG.i0 (by omega)) ((A.cut [0,2,3,4,5,6] rfl).trunc 1 rfl rfl rfl (iR h0 rfl)) fun e0 ws jE {G a w} A=>N9 5 A rfl rfl fun A=>I9 [] Gl.ok hI (N6 (aM l e0 os hM jE.le (by omega)) (y:=.tup [.int .i64 ((DY l e0:Nat):Int),.int .i64 (NB l e0)]) fun _=>rfl) A rfl fun A=>N9 14 A rfl rfl fun A=>Dc 20 A rfl
    (fun h2 A=>N9 11 A rfl rfl fun A=>Mj (x:=.tup [.sla none 0 0,.int .i64 (NB l e0),.int .i64 ((DY l e0:Nat):Int)]) (H':=[]) hX [] A (by have e:=(jE.rem h2).1;unfold Xc;rw [e];have e2:=(jE.rem h2).2;rw [e2];exact .inr ⟨(by show(24:Int)≠0;decide),rfl,rfl⟩) rfl rfl rfl rfl rfl rfl rfl rfl h0)
    (fun h2 A=>N9 12 A rfl rfl fun A=>AN 26 A rfl
     (fun h3 A=>N9 10 A rfl rfl fun A=>Mj (x:=.tup [.sl 0 ws.length 0,.z9,.z9]) (H':=[some (.row 134 4 ws.length 0 (fun zz=>MF (ws.getD zz Ad)))]) hX [0] A (by have e:=jE.done h2 (by omega);unfold Xc;rw [e];exact .inl ⟨rfl,rfl,rfl⟩) rfl rfl rfl rfl rfl rfl rfl rfl h0)
     (fun h3 A=>N9 8 A rfl (iU (by have hs:=jE.sk;have hle:=jE.le;have sV:=jE.wl;(try simp only [List.length_drop,Int.toNat_natCast]);omega)<|iT) fun A=>I9 [] Gl.ok hI (XZ (l.drop (((DY l e0:Nat):Int)).toNat) os hE (by have hs:=jE.sk;have hle:=jE.le;have sV:=jE.wl;(try simp only [List.length_drop,Int.toNat_natCast]);omega) (by have hs:=jE.sk;have hle:=jE.le;have sV:=jE.wl;(try simp only [List.length_drop,Int.toNat_natCast]);omega)) A rfl fun A=>N9 15 A rfl rfl fun A=>Dc 36 A rfl
      (fun h4 A=>N9 11 A rfl rfl fun A=>Mj (x:=.tup [.sla none 0 0,.int .i64 ((iW (l.drop (((DY l e0:Nat):Int)).toNat)).2),.int .i64 ((DY l e0:Nat):Int)]) (H':=[]) hX [] A (by have e:=jE.bad h2 (by intro e;apply h3;rw [e]) (by have:=h4;rwa [Int.toNat_natCast]at this);unfold Xc;rw [e];exact .inr ⟨(by have:=h4;rwa [Int.toNat_natCast]at this),by simp only [Int.toNat_natCast],rfl⟩) rfl rfl rfl rfl rfl rfl rfl rfl h0)
      (fun h4 A=>N9 15 A rfl rfl fun A=>TT hX (ws.length+1) (fun zz=>MF ((ws++[(⟨(iW (l.drop (((DY l e0:Nat):Int)).toNat)).1.kind,(iW (l.drop (((DY l e0:Nat):Int)).toNat)).1.text,(iW (l.drop (((DY l e0:Nat):Int)).toNat)).1.n,((DY l e0:Nat):Int)⟩:Tk)]).getD zz Ad)) A rfl rfl rfl rfl (by have hs:=jE.sk;have hle:=jE.le;have sV:=jE.wl;have hn:=jE.len (by intro e;apply h3;rw [e]) (by have:=h4;rwa [Int.toNat_natCast]at this);(try simp only [List.length_drop,Int.toNat_natCast]);omega) rfl (fun k hk=>by show MF _=MF _;rw [Xa hk]) (by show MF _=_;rw [Xb];rfl) (fun z=>⟨_,rfl,rfl⟩) fun A=>have A:=(A.rowAs 3 ((ws++[(⟨(iW (l.drop (((DY l e0:Nat):Int)).toNat)).1.kind,(iW (l.drop (((DY l e0:Nat):Int)).toNat)).1.text,(iW (l.drop (((DY l e0:Nat):Int)).toNat)).1.n,((DY l e0:Nat):Int)⟩:Tk)]).length) (fun zz=>MF ((ws++[(⟨(iW (l.drop (((DY l e0:Nat):Int)).toNat)).1.kind,(iW (l.drop (((DY l e0:Nat):Int)).toNat)).1.text,(iW (l.drop (((DY l e0:Nat):Int)).toNat)).1.n,((DY l e0:Nat):Int)⟩:Tk)]).getD zz Ad)) rfl (by rw [List.length_append];rfl) (fun q hq=>rfl) (fun z=>⟨_,rfl,rfl⟩)).say 44 (.sl 3 ((ws++[(⟨(iW (l.drop (((DY l e0:Nat):Int)).toNat)).1.kind,(iW (l.drop (((DY l e0:Nat):Int)).toNat)).1.text,(iW (l.drop (((DY l e0:Nat):Int)).toNat)).1.n,((DY l e0:Nat):Int)⟩:Tk)]).length) 0) rfl (by rw [List.length_append]<;>rfl);N9 12 A rfl (iU (by have hs:=jE.sk;have hle:=jE.le;have sV:=jE.wl;have hn:=jE.len (by intro e;apply h3;rw [e]) (by have:=h4;rwa [Int.toNat_natCast]at this);(try simp only [List.length_drop,Int.toNat_natCast]);omega)<|iT) fun A=>⟨DY l e0+(iW (l.drop (DY l e0))).1.text.length,ws++[(⟨(iW (l.drop (((DY l e0:Nat):Int)).toNat)).1.kind,(iW (l.drop (((DY l e0:Nat):Int)).toNat)).1.text,(iW (l.drop (((DY l e0:Nat):Int)).toNat)).1.n,((DY l e0:Nat):Int)⟩:Tk)],_,(by have:=jE.len (by intro e;apply h3;rw [e]) (by have:=h4;rwa [Int.toNat_natCast]at this);have:=jE.le;have hq:e0≤DY l e0:=(by unfold DY;omega);omega),(jE.nx h2 (by intro e;apply h3;rw [e]) (by have:=h4;rwa [Int.toNat_natCast]at this)),((A.cut [0,2,3,4,5,6] rfl).mv 0 [3] rfl rfl rfl rfl (by simp only [List.length_cons,List.length_nil]at h0;omega)).sayT (by simp only [Int.toNat_natCast];rfl)⟩))))
theorem MH {I:Dd}{P:Program}{f:Nat}{az:List SV}{H:Hp}{R R':SV→Hp→Prop}(h:Bi I P f az H R)(e:∀x H2,R x H2→R' x H2):Bi I P f az H R':=⟨h.1,fun G w vs hM hI hv=>Calls.mono (h.2 G w vs hM hI hv) fun e' w' ⟨x',H',F,v,q,r⟩=>⟨x',H',F,v,e _ _ q,r⟩⟩
theorem PW (l:List UInt8)(ws:List Tk)(os:List (Nat×Obj))(hM:lP os)(hE:lW os)(h:BP l=(ws,0,0)):Bi (Gl os) Tryz.prog 81 [.str l] [] (Rt (.tup [.sl 0 ws.length 0,.z9,.z9]) [some (.row 134 4 ws.length 0 (fun zz=>MF (ws.getD zz Ad)))]):=MH (Og l os hM hE) fun x H2 q=>by
 unfold Xc at q
 rw [h]at q
 rcases q with⟨_,q1,q2⟩|⟨q1,_⟩
 ·exact⟨q1,q2⟩
 ·exact absurd rfl q1
theorem PX (l:List UInt8)(e:Int)(k:Nat)(os:List (Nat×Obj))(hM:lP os)(hE:lW os)(h:BP l=([],e,k))(he:e≠0):Bi (Gl os) Tryz.prog 81 [.str l] [] (Rt (.tup [.sla none 0 0,.int .i64 e,.int .i64 (k:Int)]) []):=MH (Og l os hM hE) fun x H2 q=>by
 unfold Xc at q
 rw [h]at q
 rcases q with⟨q1,_⟩|⟨_,q1,q2⟩
 ·exact absurd q1 he
 ·exact⟨q1,q2⟩
theorem Xd {ws:List Tk}{k:Nat}(h:ws.length≤k):ws.getD k Ad=Ad:=by rw [List.getD_eq_getElem?_getD,List.getElem?_eq_none h];rfl
theorem Vf {p:Prop}[Decidable p](h:p):decide p=true:=decide_eq_true h
theorem Vg {p:Prop}[Decidable p](h:¬p):decide p=false:=decide_eq_false h
def UJ (ws:List Tk)(k:Nat):Nat:=if k<ws.length then k+1 else k
def MT (ws:List Tk)(k:Nat)(m:List UInt8):Bool:=decide (k<ws.length)&&(!((ws.getD k Ad).kind==2)&&((ws.getD k Ad).text==m))
def MU (ws:List Tk)(k:Nat)(m:List UInt8):Nat:=if MT ws k m=true then k+1 else k
def Xe (ws:List Tk)(k:Nat):Int:=if k<ws.length then(ws.getD k Ad).at_ else if ws.length=0 then 0 else(ws.getD (ws.length - 1) Ad).at_+((ws.getD (ws.length - 1) Ad).text.length:Int)
def cN (ws:List Tk)(k:Nat):Bool:=decide (k<ws.length)&&((ws.getD k Ad).kind==1)
def fH (ws:List Tk)(k:Nat):Nat:=if cN ws k=true then k+1 else k
def iJ (ws:List Tk)(k:Nat):List UInt8:=if cN ws k=true then(ws.getD k Ad).text else []
def NF (ws:List Tk)(k:Nat):Bool:=decide (k<ws.length)&&((ws.getD k Ad).kind==2)
def Xf (ws:List Tk)(k:Nat):Bool:=((decide (k<ws.length))&&((ws.getD k Ad).kind==3))&&((ws.getD k Ad).text==[45])
def cO (ws:List Tk)(k:Nat):Bool:=if Xf ws k=true then NF ws (k+1)else NF ws k
def PY (ws:List Tk)(k:Nat):Nat:=if Xf ws k=true then(if NF ws (k+1)=true then k+1+1 else k)else(if NF ws k=true then k+1 else k)
def UK (ws:List Tk)(k:Nat):Int:=if Xf ws k=true then IntKind.wrap .i64 (0 - (if NF ws (k+1)=true then(ws.getD (k+1) Ad).n else 0))else(if NF ws k=true then(ws.getD k Ad).n else 0)
section
variable {ws:List Tk}{k:Nat}{m:List UInt8}
theorem Vh (h:(((!(decide (k<ws.length)))||((ws.getD k Ad).kind==2))||(!((ws.getD k Ad).text==m)))=true):MT ws k m=false:=by
 unfold MT;revert h
 generalize decide (k<ws.length)=x;generalize ((ws.getD k Ad).kind==2)=y;generalize ((ws.getD k Ad).text==m)=z
 cases x<;>cases y<;>cases z<;>intro h<;>first|rfl|cases h
theorem Xg (h:(((!(decide (k<ws.length)))||((ws.getD k Ad).kind==2))||(!((ws.getD k Ad).text==m)))=false):MT ws k m=true:=by
 unfold MT;revert h
 generalize decide (k<ws.length)=x;generalize ((ws.getD k Ad).kind==2)=y;generalize ((ws.getD k Ad).text==m)=z
 cases x<;>cases y<;>cases z<;>intro h<;>first|rfl|cases h
theorem Vi (h:((!(decide (k<ws.length)))||(!((ws.getD k Ad).kind==2)))=true):NF ws k=false:=by
 unfold NF;revert h
 generalize decide (k<ws.length)=x;generalize ((ws.getD k Ad).kind==2)=y
 cases x<;>cases y<;>intro h<;>first|rfl|cases h
theorem Rv (h:((!(decide (k<ws.length)))||(!((ws.getD k Ad).kind==2)))=false):NF ws k=true:=by
 unfold NF;revert h
 generalize decide (k<ws.length)=x;generalize ((ws.getD k Ad).kind==2)=y
 cases x<;>cases y<;>intro h<;>first|rfl|cases h
theorem Xh (h:k<ws.length):ws.getD k Ad∈ws:=by rw [List.getD_eq_getElem?_getD,List.getElem?_eq_getElem h];exact List.getElem_mem h
theorem aO (h:cN ws k=true):k<ws.length:=by unfold cN at h;rw [Bool.and_eq_true]at h;exact of_decide_eq_true h.1
theorem Vj (h:NF ws k=true):k<ws.length:=by unfold NF at h;rw [Bool.and_eq_true]at h;exact of_decide_eq_true h.1
theorem aP (h:MT ws k m=true):k<ws.length:=by unfold MT at h;rw [Bool.and_eq_true]at h;exact of_decide_eq_true h.1
theorem JL (h:k≤ws.length):UJ ws k≤ws.length:=by unfold UJ;split<;>omega
theorem JM (h:k≤ws.length):MU ws k m≤ws.length:=by
 unfold MU;split
 ·next q=>have:=aP q;omega
 ·exact h
theorem Xi (h:k≤ws.length):fH ws k≤ws.length:=by
 unfold fH;split
 ·next q=>have:=aO q;omega
 ·exact h
theorem JN (h:k≤ws.length):PY ws k≤ws.length:=by
 unfold PY;split
 ·split
  ·next q=>have:=Vj q;omega
  ·exact h
 ·split
  ·next q=>have:=Vj q;omega
  ·exact h
end
theorem Vk (ws:List Tk)(cw k:Nat)(hk:k≤ws.length)(hn:ws.length≤1000000):Fn Tryz.prog 223 [.ptr 0 0] [some (.blk [.sl 1 ws.length cw,.int .i64 ((k:Nat):Int)]),some (EY ws)] (Rt (.int .i64 (((ws.length:Nat):Int) - (k:Int))) [some (.blk [.sl 1 ws.length cw,.int .i64 ((k:Nat):Int)]),some (EY ws)]):=
 AG (n:=13) (by kernel_rfl) Tryz.func223 rfl rfl rfl fun G w a h0 A=>N9 6 A rfl rfl fun A=>Aq hX BK [] [] A rfl (iU (by omega)<|iT) rfl rfl (by kernel_rfl) (AV _ _) trivial fun A=>N9 2 A rfl rfl fun A=>R9 A rfl h0 rfl rfl rfl
theorem NG (ws:List Tk)(cw k j:Nat)(hk:k≤ws.length)(hn:ws.length≤1000000)(hj:j≤1000000):Fn Tryz.prog 245 [.ptr 0 0,.int .i64 (j:Int)] [some (.blk [.sl 1 ws.length cw,.int .i64 ((k:Nat):Int)]),some (EY ws)] (Rt (.tup [.agg [.int .i64 ((ws.getD (k+j) Ad).kind),.str ((ws.getD (k+j) Ad).text),.int .i64 ((ws.getD (k+j) Ad).n),.int .i64 ((ws.getD (k+j) Ad).at_)],.bool (decide (k+j<ws.length))]) [some (.blk [.sl 1 ws.length cw,.int .i64 ((k:Nat):Int)]),some (EY ws)]):=
 AG (n:=23) (by kernel_rfl) Tryz.func245 rfl rfl rfl fun G w a h0 A=>N9 11 A rfl rfl fun A=>C9 [0,1] (Vk ws cw k (by omega) (by omega)) A rfl fun A=>N9 3 A rfl rfl fun A=>AL 9 A rfl
  (fun h1 A=>N9 9 A rfl rfl fun A=>R9 A rfl h0 rfl (by rw [Xd (by omega),Vg (by omega)];rfl) rfl)
  (fun h1 A=>N9 4 A rfl rfl fun A=>Aq hX BK [] [] A rfl (iU (by omega)<|iU (by omega)<|iU (by omega)<|iT) rfl rfl (by kernel_rfl) (AV _ _) trivial fun A=>N9 2 A rfl rfl fun A=>R9 A rfl h0 rfl (by rw [Vf (p:=k+j<ws.length) (by omega),show k+j=((k:Int)+(j:Int)).toNat by omega];rfl) rfl)
theorem KF (ws:List Tk)(cw k:Nat)(hk:k≤ws.length)(hn:ws.length≤1000000):Fn Tryz.prog 217 [.ptr 0 0] [some (.blk [.sl 1 ws.length cw,.int .i64 ((k:Nat):Int)]),some (EY ws)] (Rt (.tup [.agg [.int .i64 ((ws.getD k Ad).kind),.str ((ws.getD k Ad).text),.int .i64 ((ws.getD k Ad).n),.int .i64 ((ws.getD k Ad).at_)],.bool (decide (k<ws.length))]) [some (.blk [.sl 1 ws.length cw,.int .i64 ((k:Nat):Int)]),some (EY ws)]):=
 AG (n:=8) (by kernel_rfl) Tryz.func217 rfl rfl rfl fun G w a h0 A=>N9 9 A rfl rfl fun A=>C9 [0,1] (NG ws cw k 0 (by omega) (by omega) (by omega)) A rfl fun A=>N9 7 A rfl rfl fun A=>R9 A rfl h0 rfl rfl rfl
theorem Vl (ws:List Tk)(cw k:Nat)(hk:k≤ws.length)(hn:ws.length≤1000000):Fn Tryz.prog 247 [.ptr 0 0] [some (.blk [.sl 1 ws.length cw,.int .i64 ((k:Nat):Int)]),some (EY ws)] (Rt (.tup [.agg [.int .i64 ((ws.getD k Ad).kind),.str ((ws.getD k Ad).text),.int .i64 ((ws.getD k Ad).n),.int .i64 ((ws.getD k Ad).at_)],.bool (decide (k<ws.length))]) [some (.blk [.sl 1 ws.length cw,.int .i64 ((UJ ws k:Nat):Int)]),some (EY ws)]):=
 AG (n:=21) (by kernel_rfl) Tryz.func247 rfl rfl rfl fun G w a h0 A=>N9 9 A rfl rfl fun A=>C9 [0,1] (KF ws cw k (by omega) (by omega)) A rfl fun A=>N9 14 A rfl rfl fun A=>AL 11 A rfl
  (fun h1 A=>N9 13 A rfl (iU (by omega)<|iT) fun A=>N9 8 A rfl rfl fun A=>R9 A rfl h0 rfl (by first|rfl|(rw [Vf (p:=k<ws.length) h1]<;>rfl)) (by unfold UJ;rw [if_pos h1]<;>rfl))
  (fun h1 A=>N9 12 A rfl rfl fun A=>R9 A rfl h0 rfl (by first|rfl|(rw [Vg (p:=k<ws.length) h1]<;>rfl)) (by unfold UJ;rw [if_neg h1]<;>rfl))
theorem Rx (ws:List Tk)(cw k:Nat)(m:List UInt8)(hk:k≤ws.length)(hn:ws.length≤1000000):Fn Tryz.prog 248 [.ptr 0 0,.sl 2 1 1] [some (.blk [.sl 1 ws.length cw,.int .i64 ((k:Nat):Int)]),some (EY ws),some (.blk [.str m])] (Rt (.bool (MT ws k m)) [some (.blk [.sl 1 ws.length cw,.int .i64 ((MU ws k m:Nat):Int)]),some (EY ws),some (.blk [.str m])]):=
 AG (n:=45) (by kernel_rfl) Tryz.func248 rfl rfl rfl fun G w a h0 A=>N9 14 A rfl rfl fun A=>ZK [(0,.ptr 0 0),(1,.sl 2 1 1),(4,.ff),(9,.sl 2 1 1),(10,.int .i64 ((1:Nat):Int)),(11,.int .i64 1)] [some (.blk [.sl 1 ws.length cw,.int .i64 ((k:Nat):Int)]),some (EY ws),some (.blk [.str m])] (MT ws k m=true) (A.cut [0,1,4,9,10,11] rfl) (fun{G a w} A=>N9 6 A rfl rfl fun A=>AL 12 A rfl
   (fun h1 A=>N9 15 A rfl (iU (by omega)<|iU (by omega)<|iT) fun A=>N9 3 A rfl rfl fun A=>C9 [0,1] (NG ws cw k 0 (by omega) (by omega) (by omega)) A rfl fun A=>N9 25 A rfl rfl fun A=>fork 34 A rfl
    (fun h2 A=>N9 7 A rfl rfl fun A=>R9 A rfl h0 rfl (by have z:MT ws k m=false:=Vh (k:=k) (m:=m) h2;rw [z];rfl) (by have z:MT ws k m=false:=Vh (k:=k) (m:=m) h2;unfold MU;rw [z];rfl))
    (fun h2 A=>N9 8 A rfl (iU (by omega)<|iT) fun A=>⟨_,(Xg h2),((A.cut [0,1,4,9,10,11] rfl).trunc 3 rfl rfl rfl (iR h0 rfl)).sayT rfl⟩))
   (fun h1 A=>absurd (by decide) h1)) (fun hU {G a w} A=>N9 6 A rfl rfl fun A=>AL 12 A rfl
   (fun h3 A=>absurd h3 (by decide))
   (fun h3 A=>N9 18 A rfl (iU (by omega)<|iT) fun A=>N9 5 A rfl rfl fun A=>R9 A rfl h0 rfl (by rw [hU];rfl) (by unfold MU;rw [if_pos hU];rfl)))
theorem Oh (ws:List Tk)(cw k j:Nat)(hk:k≤ws.length)(hn:ws.length≤1000000)(hj:j≤1000000):Fn Tryz.prog 291 [.ptr 0 0,.int .i64 (j:Int)] [some (.blk [.sl 1 ws.length cw,.int .i64 ((k:Nat):Int)]),some (EY ws)] (Rt (.tup [.int .i64 (if NF ws (k+j)=true then(ws.getD (k+j) Ad).n else 0),.bool (NF ws (k+j))]) [some (.blk [.sl 1 ws.length cw,.int .i64 (((if NF ws (k+j)=true then k+j+1 else k):Nat):Int)]),some (EY ws)]):=
 AG (n:=32) (by kernel_rfl) Tryz.func291 rfl rfl rfl fun G w a h0 A=>N9 10 A rfl rfl fun A=>C9 [0,1] (NG ws cw k j (by omega) (by omega) (by omega)) A rfl fun A=>N9 20 A rfl rfl fun A=>fork 20 A rfl
  (fun h1 A=>N9 8 A rfl rfl fun A=>R9 A rfl h0 rfl (by rw [Vi h1];rfl) (by rw [Vi h1];rfl))
  (fun h1 A=>N9 18 A rfl (iU (by omega)<|iU (by omega)<|iT) fun A=>N9 8 A rfl rfl fun A=>R9 A rfl h0 rfl (by rw [Rv h1];rfl) (by rw [Rv h1];rfl))
theorem Ry (ws:List Tk)(cw k:Nat)(hk:k≤ws.length)(hn:ws.length≤1000000):Fn Tryz.prog 281 [.ptr 0 0] [some (.blk [.sl 1 ws.length cw,.int .i64 ((k:Nat):Int)]),some (EY ws)] (Rt (.tup [.int .i64 (UK ws k),.bool (cO ws k)]) [some (.blk [.sl 1 ws.length cw,.int .i64 ((PY ws k:Nat):Int)]),some (EY ws)]):=
 AG (n:=36) (by kernel_rfl) Tryz.func281 rfl rfl rfl fun G w a h0 A=>N9 9 A rfl rfl fun A=>C9 [0,1] (KF ws cw k (by omega) (by omega)) A rfl fun A=>N9 24 A rfl rfl fun A=>fork 23 A rfl
  (fun h1 A=>N9 4 A rfl rfl fun A=>C9 [0,1] (Oh ws cw k 1 (by omega) (by omega) (by omega)) A rfl fun A=>N9 17 A rfl rfl fun A=>R9 A rfl h0 rfl (by have z:Xf ws k=true:=h1;unfold UK cO;rw [if_pos z,if_pos z];rfl) (by have z:Xf ws k=true:=h1;unfold PY;rw [if_pos z];rfl))
  (fun h1 A=>N9 6 A rfl rfl fun A=>C9 [0,1] (Oh ws cw k 0 (by omega) (by omega) (by omega)) A rfl fun A=>N9 7 A rfl rfl fun A=>R9 A rfl h0 rfl (by have z:Xf ws k=false:=h1;unfold UK cO;rw [if_neg (ne_true_of_eq_false z),if_neg (ne_true_of_eq_false z)];rfl) (by have z:Xf ws k=false:=h1;unfold PY;rw [if_neg (ne_true_of_eq_false z)];rfl))
theorem aQ (ws:List Tk)(cw k:Nat)(hk:k≤ws.length)(hn:ws.length≤1000000)(hw:∀t∈ws,0≤t.at_∧t.at_≤1000000∧t.text.length≤1000000):Fn Tryz.prog 184 [.ptr 0 0] [some (.blk [.sl 1 ws.length cw,.int .i64 ((k:Nat):Int)]),some (EY ws)] (Rt (.int .i64 (Xe ws k)) [some (.blk [.sl 1 ws.length cw,.int .i64 ((k:Nat):Int)]),some (EY ws)]):=
 AG (n:=38) (by kernel_rfl) Tryz.func184 rfl rfl rfl fun G w a h0 A=>N9 9 A rfl rfl fun A=>C9 [0,1] (KF ws cw k (by omega) (by omega)) A rfl fun A=>N9 13 A rfl rfl fun A=>AL 11 A rfl
  (fun h1 A=>N9 9 A rfl rfl fun A=>R9 A rfl h0 rfl (by unfold Xe;rw [if_pos h1];rfl) rfl)
  (fun h1 A=>N9 14 A rfl rfl fun A=>AN 19 A rfl
   (fun h2 A=>N9 7 A rfl rfl fun A=>R9 A rfl h0 rfl (by unfold Xe;rw [if_neg h1,if_pos (show ws.length=0 by omega)];rfl) rfl)
   (fun h2 A=>N9 4 A rfl rfl fun A=>Aq hX BK [] [] A rfl (iU (by omega)<|iU (by omega)<|iU (by omega)<|iU (by omega)<|iU (by omega)<|iU (by omega)<|iT) rfl rfl (by kernel_rfl) (AV _ _) trivial fun A=>N9 13 A rfl (iU (by have:=hw (ws.getD (((ws.length:Nat):Int) - 1).toNat Ad) (Xh (by omega));omega)<|iT) fun A=>R9 A rfl h0 rfl (by unfold Xe;rw [if_neg h1,if_neg (show¬ws.length=0 by omega),show ws.length - 1=(((ws.length:Nat):Int) - 1).toNat by omega];rfl) rfl))
structure As where (p:Nat) (e a:Int)
def MI (ws:List Tk):Prop:=∀t∈ws,0≤t.at_∧t.at_≤1000000∧t.text.length≤1000000
def H9 (s:As)(x y:Int):As:=if s.e=0 then⟨s.p,x,y⟩else s
def FA (ws:List Tk)(s:As)(x:Int):As:=H9 s (if s.p<ws.length then x else 24) (Xe ws s.p)
def aR (s:As)(k:Nat):As:=⟨k,s.e,s.a⟩
def HJ (ws:List Tk)(s:As)(m:List UInt8):As:=if MT ws s.p m=true then aR s (MU ws s.p m)else FA ws (aR s (MU ws s.p m)) 22
def UL (ws:List Tk)(s:As):As:=if cO ws s.p=true then aR s (PY ws s.p)else FA ws (aR s (MU ws (PY ws s.p) [45])) 22
section
variable {ws:List Tk}{s:As}{x y:Int}{m:List UInt8}
theorem UM:(H9 s x y).p=s.p:=by unfold H9;split<;>rfl
theorem GM:(FA ws s x).p=s.p:=UM
theorem DC (h:s.p≤ws.length):(HJ ws s m).p≤ws.length:=by unfold HJ;split<;>(try rw [GM])<;>exact JM h
theorem Cs (h:s.p≤ws.length):(UL ws s).p≤ws.length:=by
 unfold UL;split
 ·exact JN h
 ·rw [GM];exact JM (JN h)
end
theorem Rz (ws:List Tk)(cw:Nat)(s:As)(x y:Int)(hk:s.p≤ws.length)(hn:ws.length≤1000000)(hw:MI ws):Fn Tryz.prog 258 [.ptr 0 0,.int .i64 x,.int .i64 y] [some (.blk [.ptr 1 0,.int .i64 s.e,.int .i64 s.a]),some (.blk [.sl 2 ws.length cw,.int .i64 ((s.p:Nat):Int)]),some (EY ws)] (Rt (.tup []) [some (.blk [.ptr 1 0,.int .i64 ((H9 s x y).e),.int .i64 ((H9 s x y).a)]),some (.blk [.sl 2 ws.length cw,.int .i64 (((H9 s x y).p:Nat):Int)]),some (EY ws)]):=
 AG (n:=19) (by kernel_rfl) Tryz.func258 rfl rfl rfl fun G w a h0 A=>N9 9 A rfl rfl fun A=>AN 10 A rfl
  (fun h1 A=>N9 13 A rfl rfl fun A=>Df (R9 A rfl h0 rfl rfl (by unfold H9;rw [if_pos h1]<;>rfl)))
  (fun h1 A=>N9 2 A rfl rfl fun A=>Df (R9 A rfl h0 rfl rfl (by unfold H9;rw [if_neg h1]<;>rfl)))
theorem G9 (ws:List Tk)(cw:Nat)(s:As)(x:Int)(hk:s.p≤ws.length)(hn:ws.length≤1000000)(hw:MI ws):Fn Tryz.prog 224 [.ptr 0 0,.int .i64 x] [some (.blk [.ptr 1 0,.int .i64 s.e,.int .i64 s.a]),some (.blk [.sl 2 ws.length cw,.int .i64 ((s.p:Nat):Int)]),some (EY ws)] (Rt (.tup []) [some (.blk [.ptr 1 0,.int .i64 ((FA ws s x).e),.int .i64 ((FA ws s x).a)]),some (.blk [.sl 2 ws.length cw,.int .i64 (((FA ws s x).p:Nat):Int)]),some (EY ws)]):=
 AG (n:=18) (by kernel_rfl) Tryz.func224 rfl rfl rfl fun G w a h0 A=>N9 7 A rfl rfl fun A=>C9 [1,2] (Vk ws cw s.p hk hn) A rfl fun A=>N9 3 A rfl rfl fun A=>AN 9 A rfl
  (fun h1 A=>N9 12 A rfl rfl fun A=>C9 [1,2] (aQ ws cw s.p hk hn hw) A rfl fun A=>C9 [0,1,2] (Rz ws cw s 24 (Xe ws s.p) hk hn hw) A rfl fun A=>N9 1 A rfl rfl fun A=>Df (R9 A rfl h0 rfl rfl (by unfold FA;rw [if_neg (show¬s.p<ws.length by omega)]<;>rfl)))
  (fun h1 A=>N9 10 A rfl rfl fun A=>C9 [1,2] (aQ ws cw s.p hk hn hw) A rfl fun A=>C9 [0,1,2] (Rz ws cw s x (Xe ws s.p) hk hn hw) A rfl fun A=>N9 1 A rfl rfl fun A=>Df (R9 A rfl h0 rfl rfl (by unfold FA;rw [if_pos (show s.p<ws.length by omega)]<;>rfl)))
theorem MJ (ws:List Tk)(cw:Nat)(s:As)(m:List UInt8)(hk:s.p≤ws.length)(hn:ws.length≤1000000)(hw:MI ws):Fn Tryz.prog 219 [.ptr 0 0,.str m] [some (.blk [.ptr 1 0,.int .i64 s.e,.int .i64 s.a]),some (.blk [.sl 2 ws.length cw,.int .i64 ((s.p:Nat):Int)]),some (EY ws)] (Rt (.tup []) [some (.blk [.ptr 1 0,.int .i64 ((HJ ws s m).e),.int .i64 ((HJ ws s m).a)]),some (.blk [.sl 2 ws.length cw,.int .i64 (((HJ ws s m).p:Nat):Int)]),some (EY ws)]):=
 AG (n:=14) (by kernel_rfl) Tryz.func219 rfl rfl rfl fun G w a h0 A=>N9 8 A rfl rfl fun A=>C9 [1,2,3] (Rx ws cw s.p m hk hn) A rfl fun A=>N9 3 A rfl rfl fun A=>fork 11 A rfl
  (fun h1 A=>N9 3 A rfl rfl fun A=>C9 [0,1,2] (G9 ws cw (⟨MU ws s.p m,s.e,s.a⟩:As) 22 (by first|exact JM (JN hk)|exact JM hk|exact JN hk|exact JL hk|exact hk) hn hw) A rfl fun A=>N9 1 A rfl rfl fun A=>Df (R9 A rfl h0 rfl rfl (by unfold HJ;rw [if_neg (show¬MT ws s.p m=true by intro z;rw [z]at h1;cases h1)]<;>rfl)))
  (fun h1 A=>N9 2 A rfl rfl fun A=>Df (R9 A rfl h0 rfl rfl (by unfold HJ;rw [if_pos (show MT ws s.p m=true by cases q:MT ws s.p m with|true=>rfl|false=>rw [q]at h1;cases h1)]<;>rfl)))
structure Rw where (nm wd:List UInt8) (ins:In) (pa:Option Addr) (ps:List Int) (cp:Nat)
def Rw.z:Rw:=⟨[],[],⟨0,0,0,0,0,0,0,0,0,0,false,false,false,0,0,0,false⟩,none,[],0⟩
def Rw.lay (r:Rw)(i:In):In:=r.ps.foldl (DA i) (bare r.ins)
def R0 (L:List Rw):Dd:=fun w ks=>∀r∈L,CT r.pa r.ps w ks
theorem R0.ok {L:List Rw}:Dd.OK (R0 L):=fun w ks w' ks' h m hk r hr=>(h r hr).go m hk
theorem R0.at {L:List Rw}{w:World}{ks:List Nat}(h:R0 L w ks){k:Nat}(hk:k<L.length):CT (L.getD k Rw.z).pa (L.getD k Rw.z).ps w ks:=by
 rw [List.getD_eq_getElem?_getD,List.getElem?_eq_getElem hk];exact h _ (List.getElem_mem hk)
def iX (r:Rw):List SV:=[.str r.nm,.str r.wd,.int .i64 r.ins.op,.int .i64 r.ins.dst,.int .i64 r.ins.ra,.int .i64 r.ins.rb,.int .i64 r.ins.imm,.int .i64 r.ins.loc,.int .i64 r.ins.off,.int .i64 r.ins.ix,.int .i64 r.ins.sz,.int .i64 r.ins.fn,.bool r.ins.acq,.bool r.ins.weak,.bool r.ins.rel,.int .i64 r.ins.pred,.int .i64 r.ins.succ,.int .i64 r.ins.to_,.bool r.ins.zero,.sla r.pa r.ps.length r.cp]
abbrev HA (r:Rw):List SV:=[.str r.nm,.str r.wd,.int .i64 r.ins.op,.int .i64 r.ins.dst,.int .i64 r.ins.ra,.int .i64 r.ins.rb,.int .i64 r.ins.imm,.int .i64 r.ins.loc,.int .i64 r.ins.off,.int .i64 r.ins.ix,.int .i64 r.ins.sz,.int .i64 r.ins.fn,.bool r.ins.acq,.bool r.ins.weak,.bool r.ins.rel,.int .i64 r.ins.pred,.int .i64 r.ins.succ,.int .i64 r.ins.to_,.bool r.ins.zero,.sla r.pa r.ps.length r.cp]
abbrev EJ (L:List Rw):A6:=.lst 20 L.length (fun zz=>iX (L.getD zz Rw.z))
theorem Bj {i:Nat}{e:Option A6}{R:Prop}(h:([]:Hp)[i]?=some e):R:=by rw [List.getElem?_nil]at h;cases h
theorem KG {P:Program}{f:Nat}{az az':List SV}{ao:Option Addr}{ps:List Int}{x:SV}(h:Fn P f az [some (WV ps)] (Rt x [some (WV ps)]))(ha:WU 0 az'=az)(hs:Mm az'=[ao])(hx:JX 0 x=true):Bi (CT ao ps) P f az' [] (Rt x []):=by
 refine⟨h.1,fun G w vs hM hI hv=>?_⟩
 have hG:G=[]:=List.eq_nil_of_length_eq_zero hM.len.symm
 subst hG
 have vQ:CT ao ps w []:=CT.ok _ _ _ _ hI (CR.refl _ _) fun b hb=>(by cases hb)
 have A1:Sy 1 [(0,.tt)] [] [] [] w [] ⟨#[.bool true],[]⟩ w:=⟨rfl,rfl,fun t x hx=>(by
  unfold look at hx
  cases hb:Nat.beq 0 t with
  |true=>rw [hb]at hx;cases hx;have:=Nat.eq_of_beq_eq_true hb;subst this;rfl
  |false=>rw [hb]at hx;cases hx),hM,⟨[],by simp⟩,fun i e L h1=>Bj h1,CR.refl _ _⟩
 have A2:=A1.adopt vQ 0 (x:=.tt) rfl (fun z hz=>by cases hz)
 have xU:∀q,ao=some q→q=⟨q.block,0,none⟩:=by
  intro q hq
  rcases vQ with⟨h1,_⟩|⟨b,h1,_⟩
  ·rw [h1]at hq;cases hq
  ·rw [h1]at hq;cases hq;rfl
 have hd:=Ki (G:=[Gf ao]) (i:=0) xU rfl az' (fun z hz=>by rw [hs]at hz;exact List.mem_singleton.1 hz)
 rw [ha]at hd
 have mJ:AE [Gf ao] az'=some vs:=by simpa using Al [Gf ao] az' hv
 rw [mJ]at hd
 refine(h.2 [Gf ao] w vs (by simpa using A2.mem) hd).mono ?_
 rintro e w' ⟨y,H',F,v,⟨rfl,rfl⟩,h1,rfl,h3,jL,_⟩
 have hk:keys [some (WV ps)] [Gf ao]=[]:=by cases ao<;>rfl
 rw [hk]at jL
 refine⟨y,[],[],v,⟨rfl,rfl⟩,?_,rfl,⟨rfl,fun i e he=>Bj he,fun i j e f L M _ he=>Bj he⟩,by simpa [keys]using jL,Nat.le_refl _,fun i e he _=>Bj he,fun i e he=>Bj he⟩
 have:=C7 (G:=[Gf ao]++F) (k:=0) y hx
 simp only [List.take_zero]at this
 rw [List.append_nil,this];exact h1
theorem Xj (r:Rw)(i:In)(hn:r.ps.length≤1000000):Bi (CT r.pa r.ps) Tryz.prog 222 [.agg (HA r),.agg (AS i)] [] (Rt (.agg (AS (r.lay i))) []):=KG (Y8 r.nm r.wd r.ins r.ps r.cp i hn) rfl rfl rfl
theorem UN (r:Rw)(i:In)(hn:r.ps.length≤1000000):Bi (CT r.pa r.ps) Tryz.prog 225 [.agg (HA r),.agg (AS i)] [] (Rt (.bool (FM r.ps i)) []):=KG (Wb r.nm r.wd r.ins r.ps r.cp i hn) rfl rfl rfl
structure Lg where (r0 r1 r2 r3 r4 r5 r6 r7 l0 l1 l2 l3 im f0 f1 f2:List UInt8)
def MK (a b:In):Bool:=((a.op==b.op)&&((a.dst==b.dst)&&((a.ra==b.ra)&&((a.rb==b.rb)&&((a.imm==b.imm)&&((a.loc==b.loc)&&((a.off==b.off)&&((a.ix==b.ix)&&((a.sz==b.sz)&&((a.fn==b.fn)&&((a.acq==b.acq)&&((a.weak==b.weak)&&((a.rel==b.rel)&&((a.pred==b.pred)&&((a.succ==b.succ)&&((a.to_==b.to_)&&(a.zero==b.zero)))))))))))))))))
def EZ (i:In)(r:Rw):Bool:=MK (r.lay i) i&&FM r.ps i
def Aa (L:List Rw)(i:In):Rw:=(L.find? (EZ i)).getD Rw.z
def Ea (L:List Rw)(i:In):Bool:=(L.find? (EZ i)).isSome
structure FI (L:List Rw)(i:In)(k:Nat):Prop where
 le:k≤L.length
 eq:L.find? (EZ i)=(L.drop k).find? (EZ i)
section
variable {L:List Rw}{i:In}{k:Nat}
theorem FI.i0:FI L i 0:=⟨Nat.zero_le _,by simp⟩
theorem FI.at (hI:FI L i k)(h1:(k:Int)<((L.length:Nat):Int)):L.find? (EZ i)=if EZ i (L.getD ((k:Int)).toNat Rw.z)then some (L.getD ((k:Int)).toNat Rw.z)else(L.drop (k+1)).find? (EZ i):=by
 have hk:k<L.length:=by omega
 have e:L.getD ((k:Int)).toNat Rw.z=L[k]:=by simp [List.getD,hk]
 rw [hI.eq,List.drop_eq_getElem_cons hk,List.find?_cons,e]
 cases EZ i L[k]<;>rfl
theorem FI.hit (hI:FI L i k)(h1:(k:Int)<((L.length:Nat):Int))(h:EZ i (L.getD ((k:Int)).toNat Rw.z)=true):Aa L i=L.getD ((k:Int)).toNat Rw.z∧Ea L i=true:=by
 unfold Aa Ea;rw [hI.at h1,h];exact⟨rfl,rfl⟩
theorem FI.nx (hI:FI L i k)(h1:(k:Int)<((L.length:Nat):Int))(h:EZ i (L.getD ((k:Int)).toNat Rw.z)=false):FI L i (k+1):=⟨by omega,by rw [hI.at h1,h];rfl⟩
theorem FI.fi (hI:FI L i k)(h1:¬(k:Int)<((L.length:Nat):Int)):Aa L i=Rw.z∧Ea L i=false:=by
 unfold Aa Ea;rw [hI.eq,List.drop_eq_nil_of_le (by omega)];exact⟨rfl,rfl⟩
end
theorem Xk (g:Lg)(L:List Rw)(c:Nat)(i:In)(hp:∀k,(L.getD k Rw.z).ps.length≤1000000)(hn:L.length≤1000000):Bi (R0 L) Tryz.prog 189 [.agg [.str g.r0,.str g.r1,.str g.r2,.str g.r3,.str g.r4,.str g.r5,.str g.r6,.str g.r7,.str g.l0,.str g.l1,.str g.l2,.str g.l3,.str g.im,.str g.f0,.str g.f1,.str g.f2,.sl 0 L.length c],.agg (AS i)] [some (EJ L)] (Rt (.tup [.agg (HA (Aa L i)),.bool (Ea L i)]) [some (EJ L)]):=
 Ab (n:=28) (by kernel_rfl) Tryz.func189 rfl rfl rfl fun G w a h0 hI A=>N9 18 A rfl rfl fun A=>Bk (fun(k:Nat)=>[(3,.ptr 2 0),(4,.ptr 3 0),(5,.ff),(9,.sl 0 L.length c),(10,.int .i64 ((L.length:Nat):Int)),(11,.int .i64 (k:Int))]) (fun(k:Nat)=>[some (EJ L),some (.blk [.str g.r0,.str g.r1,.str g.r2,.str g.r3,.str g.r4,.str g.r5,.str g.r6,.str g.r7,.str g.l0,.str g.l1,.str g.l2,.str g.l3,.str g.im,.str g.f0,.str g.f1,.str g.f2,.sl 0 L.length c]),some (.blk (AS i)),some (.blk [.str [],.str [],.z9,.z9,.z9,.z9,.z9,.z9,.z9,.z9,.z9,.z9,.ff,.ff,.ff,.z9,.z9,.z9,.ff,.sla none 0 0])]) (fun(k:Nat)=>FI L i k) (fun(k:Nat)=>L.length - k) 0 FI.i0 ((A.cut [3,4,5,9,10,11] rfl).trunc 4 rfl rfl rfl (iR h0 rfl)) fun k jE {G a w} A=>N9 6 A rfl rfl fun A=>AL 12 A rfl
   (fun h1 A=>N9 14 A rfl (iU (by have:=jE.le;omega)<|iU (by have:=jE.le;omega)<|iT) fun A=>Hh BK [.agg (HA (L.getD (((k:Int)).toNat) Rw.z)),.agg (AS i),.agg (AS ((L.getD (((k:Int)).toNat) Rw.z).lay i)),.agg (AS i),.bool (MK ((L.getD (((k:Int)).toNat) Rw.z).lay i) i),.bool (MK ((L.getD (((k:Int)).toNat) Rw.z).lay i) i),.opt (MK ((L.getD (((k:Int)).toNat) Rw.z).lay i) i) (.agg (HA (L.getD (((k:Int)).toNat) Rw.z))),.opt (MK ((L.getD (((k:Int)).toNat) Rw.z).lay i) i) (.agg (AS i)),.opt (MK ((L.getD (((k:Int)).toNat) Rw.z).lay i) i) (.bool (FM (L.getD (((k:Int)).toNat) Rw.z).ps i)),.bool ((MK ((L.getD (((k:Int)).toNat) Rw.z).lay i) i)&&(FM (L.getD (((k:Int)).toNat) Rw.z).ps i))] [] [] 0 [([],[],[some (EJ L),some (.blk [.str g.r0,.str g.r1,.str g.r2,.str g.r3,.str g.r4,.str g.r5,.str g.r6,.str g.r7,.str g.l0,.str g.l1,.str g.l2,.str g.l3,.str g.im,.str g.f0,.str g.f1,.str g.f2,.sl 0 L.length c]),some (.blk (AS i)),some (.blk [.str [],.str [],.z9,.z9,.z9,.z9,.z9,.z9,.z9,.z9,.z9,.z9,.ff,.ff,.ff,.z9,.z9,.z9,.ff,.sla none 0 0]),some (.blk (HA (L.getD (((k:Int)).toNat) Rw.z)))])] [[true,true,true,true,true,true,true,true,true,true]] A rfl rfl rfl rfl (by kernel_rfl) rfl (by kernel_rfl) ⟨⟨iV 0 rfl rfl,⟨iV 0 rfl rfl,⟨BT 0 rfl (C8 [] CT.ok (hI.at (k:=((k:Int)).toNat) (by omega)) (Xj (L.getD (((k:Int)).toNat) Rw.z) i (hp _)) rfl rfl rfl rfl rfl rfl rfl),⟨iV 0 rfl rfl,⟨BT 0 rfl (Kt (x:=.bool (((((L.getD (((k:Int)).toNat) Rw.z).lay i).op)==i.op)&&(((((L.getD (((k:Int)).toNat) Rw.z).lay i).dst)==i.dst)&&(((((L.getD (((k:Int)).toNat) Rw.z).lay i).ra)==i.ra)&&(((((L.getD (((k:Int)).toNat) Rw.z).lay i).rb)==i.rb)&&(((((L.getD (((k:Int)).toNat) Rw.z).lay i).imm)==i.imm)&&(((((L.getD (((k:Int)).toNat) Rw.z).lay i).loc)==i.loc)&&(((((L.getD (((k:Int)).toNat) Rw.z).lay i).off)==i.off)&&(((((L.getD (((k:Int)).toNat) Rw.z).lay i).ix)==i.ix)&&(((((L.getD (((k:Int)).toNat) Rw.z).lay i).sz)==i.sz)&&(((((L.getD (((k:Int)).toNat) Rw.z).lay i).fn)==i.fn)&&(((((L.getD (((k:Int)).toNat) Rw.z).lay i).acq)==i.acq)&&(((((L.getD (((k:Int)).toNat) Rw.z).lay i).weak)==i.weak)&&(((((L.getD (((k:Int)).toNat) Rw.z).lay i).rel)==i.rel)&&(((((L.getD (((k:Int)).toNat) Rw.z).lay i).pred)==i.pred)&&(((((L.getD (((k:Int)).toNat) Rw.z).lay i).succ)==i.succ)&&(((((L.getD (((k:Int)).toNat) Rw.z).lay i).to_)==i.to_)&&((((L.getD (((k:Int)).toNat) Rw.z).lay i).zero)==i.zero)))))))))))))))))) (fun _=>rfl) (Aj (X:=⟨_,true⟩) (out:=.val _ _) hX rfl rfl)),⟨iV 0 rfl rfl,⟨iV 0 rfl rfl,⟨iV 0 rfl rfl,⟨BT 0 rfl (Mn CT.ok (hI.at (k:=((k:Int)).toNat) (by omega)) rfl rfl rfl rfl (fun hg=>UN (L.getD (((k:Int)).toNat) Rw.z) i (hp _))),⟨iV 0 rfl rfl,trivial⟩⟩⟩⟩⟩⟩⟩⟩⟩⟩,trivial⟩ fun A=>N9 1 A rfl rfl fun A=>fork 24 A rfl
    (fun h2 A=>N9 9 A rfl rfl fun A=>R9 A rfl h0 rfl (by obtain⟨e1,e2⟩:=jE.hit h1 h2;rw [e1,e2];rfl) rfl)
    (fun h2 A=>N9 8 A rfl (iU (by have:=jE.le;omega)<|iT) fun A=>⟨k+1,_,(by omega),(jE.nx h1 h2),((A.cut [3,4,5,9,10,11] rfl).trunc 4 rfl rfl rfl (iR h0 rfl))⟩))
   (fun h1 A=>N9 11 A rfl rfl fun A=>R9 A rfl h0 rfl (by obtain⟨e1,e2⟩:=jE.fi h1;rw [e1,e2];rfl) rfl)
end Go.Proofs.YtbbdanhpphlbpaaGreatDoor
namespace Go.Proofs.YtbbdanhpphlbpaaGreatDoor
open Go.Shelf Go.RowKit
def K9:Go.Shelf.Ren:=⟨fun|129=>241|171=>125|243=>167|246=>208|283=>210|284=>211|285=>212|286=>213|317=>240|318=>242|319=>243|320=>179|337=>214|338=>215|n=>n,fun|0=>0|2=>2|3=>3|4=>4|5=>5|9=>9|20=>20|37=>152|46=>188|51=>226|53=>185|171=>220|173=>223|212=>260|213=>261|232=>262|233=>263|n=>n,fun|17=>1|18=>2|19=>3|n=>n⟩
theorem R1:Go.Proofs.LaysM.n171 Tryz.prog K9:={
 mixed:=by kernel_rfl
 f129:=Tryz.func241.trans (congrArg some (by kernel_rfl))
 f171:=Tryz.func125.trans (congrArg some (by kernel_rfl))
 f243:=Tryz.func167.trans (congrArg some (by kernel_rfl))
 f246:=Tryz.func208.trans (congrArg some (by kernel_rfl))
 f283:=Tryz.func210.trans (congrArg some (by kernel_rfl))
 f284:=Tryz.func211.trans (congrArg some (by kernel_rfl))
 f285:=Tryz.func212.trans (congrArg some (by kernel_rfl))
 f286:=Tryz.func213.trans (congrArg some (by kernel_rfl))
 f317:=Tryz.func240.trans (congrArg some (by kernel_rfl))
 f318:=Tryz.func242.trans (congrArg some (by kernel_rfl))
 f319:=Tryz.func243.trans (congrArg some (by kernel_rfl))
 f320:=Tryz.func179.trans (congrArg some (by kernel_rfl))
 f337:=Tryz.func214.trans (congrArg some (by kernel_rfl))
 f338:=Tryz.func215.trans (congrArg some (by kernel_rfl))
 t0:=Tryz.underlying0
 a0:=Tryz.isAgg0
 z0:=Tryz.sizeOf0
 v0:=Tryz.zeroValue0
 t2:=Tryz.underlying2
 a2:=Tryz.isAgg2
 z2:=Tryz.sizeOf2
 v2:=Tryz.zeroValue2
 t3:=Tryz.underlying3
 a3:=Tryz.isAgg3
 z3:=Tryz.sizeOf3
 v3:=Tryz.zeroValue3
 t4:=Tryz.underlying4
 a4:=Tryz.isAgg4
 z4:=Tryz.sizeOf4
 v4:=Tryz.zeroValue4
 t5:=Tryz.underlying5
 a5:=Tryz.isAgg5
 z5:=Tryz.sizeOf5
 v5:=Tryz.zeroValue5
 t9:=Tryz.underlying9
 a9:=Tryz.isAgg9
 z9:=Tryz.sizeOf9
 v9:=Tryz.zeroValue9
 t20:=Tryz.underlying20
 a20:=Tryz.isAgg20
 z20:=Tryz.sizeOf20
 v20:=Tryz.zeroValue20
 t37:=Tryz.underlying152
 a37:=Tryz.isAgg152
 z37:=Tryz.sizeOf152
 v37:=Tryz.zeroValue152
 t46:=Tryz.underlying188
 a46:=Tryz.isAgg188
 z46:=Tryz.sizeOf188
 v46:=Tryz.zeroValue188
 t51:=Tryz.underlying226
 a51:=Tryz.isAgg226
 z51:=Tryz.sizeOf226
 v51:=Tryz.zeroValue226
 t53:=Tryz.underlying185
 a53:=Tryz.isAgg185
 z53:=Tryz.sizeOf185
 v53:=Tryz.zeroValue185
 t171:=Tryz.underlying220
 a171:=Tryz.isAgg220
 z171:=Tryz.sizeOf220
 v171:=Tryz.zeroValue220
 t173:=Tryz.underlying223
 a173:=Tryz.isAgg223
 z173:=Tryz.sizeOf223
 v173:=Tryz.zeroValue223
 t212:=Tryz.underlying260
 a212:=Tryz.isAgg260
 z212:=Tryz.sizeOf260
 v212:=Tryz.zeroValue260
 t213:=Tryz.underlying261
 a213:=Tryz.isAgg261
 z213:=Tryz.sizeOf261
 t232:=Tryz.underlying262
 a232:=Tryz.isAgg262
 z232:=Tryz.sizeOf262
 v232:=Tryz.zeroValue262
 t233:=Tryz.underlying263
 a233:=Tryz.isAgg263
 z233:=Tryz.sizeOf263
 v233:=Tryz.zeroValue263
 g17:=by kernel_rfl
 g18:=by kernel_rfl
 g19:=by kernel_rfl
 i0:=by kernel_rfl
 i2:=by kernel_rfl
 i3:=by kernel_rfl
 i4:=by kernel_rfl
 i5:=by kernel_rfl
 i9:=by kernel_rfl
 i20:=by kernel_rfl
 i37:=by kernel_rfl
 i46:=by kernel_rfl
 i51:=by kernel_rfl
 i53:=by kernel_rfl
 i171:=by kernel_rfl
 i173:=by kernel_rfl
 i212:=by kernel_rfl
 i232:=by kernel_rfl
 i233:=by kernel_rfl
 m17:=by kernel_rfl
 m18:=by kernel_rfl
 m19:=by kernel_rfl}
theorem R3 (n:Int)(h0: -9223372036854775808≤n)(h1:n≤9223372036854775807)(w:World)(lV:Lib.TabIs Tryz.prog w "internal/strconv.uint64pow10" .u64 Lib.pow10Tab):Calls Tryz.prog 125 #[.int .i64 n] w fun e w'=>e=.returned (.string (S (Lib.itoa n)))∧BW w w':=by
 refine(Any.strconv_Itoa R1 n h0 h1 w lV).mono ?_
 rintro e w' ⟨rfl,k,os,rfl⟩
 refine⟨rfl,⟨rfl,rfl,rfl,?_,fun j hj=>?_⟩⟩
 ·show w.heap.size≤((w.drewN k).heap++os).size
  rw [Array.size_append]
  exact Nat.le_add_right _ _
 ·show((w.drewN k).heap++os)[j]?=w.heap[j]?
  exact Array.getElem?_append_left hj
def HC:Go.Shelf.Ren:=⟨fun|138=>259|143=>152|154=>226|165=>229|166=>230|169=>231|195=>282|197=>260|217=>233|218=>283|219=>203|224=>235|225=>234|240=>262|241=>263|260=>284|266=>264|267=>236|276=>285|277=>286|314=>265|n=>n,fun|0=>0|3=>3|4=>4|5=>5|9=>9|20=>20|21=>21|37=>152|46=>188|51=>226|70=>242|72=>244|75=>215|76=>245|105=>274|119=>302|127=>277|138=>304|139=>305|146=>278|164=>293|80=>50|n=>n,fun|1=>0|3=>6|4=>7|n=>n⟩
theorem R4:Go.Proofs.Lays.n154 Tryz.prog HC:={
 mixed:=by kernel_rfl
 f138:=Tryz.func259.trans (congrArg some (by kernel_rfl))
 f143:=Tryz.func152.trans (congrArg some (by kernel_rfl))
 f154:=Tryz.func226.trans (congrArg some (by kernel_rfl))
 f165:=Tryz.func229.trans (congrArg some (by kernel_rfl))
 f166:=Tryz.func230.trans (congrArg some (by kernel_rfl))
 f169:=Tryz.func231.trans (congrArg some (by kernel_rfl))
 f195:=Tryz.func282.trans (congrArg some (by kernel_rfl))
 f197:=Tryz.func260.trans (congrArg some (by kernel_rfl))
 f217:=Tryz.func233.trans (congrArg some (by kernel_rfl))
 f218:=Tryz.func283.trans (congrArg some (by kernel_rfl))
 f219:=Tryz.func203.trans (congrArg some (by kernel_rfl))
 f224:=Tryz.func235.trans (congrArg some (by kernel_rfl))
 f225:=Tryz.func234.trans (congrArg some (by kernel_rfl))
 f240:=Tryz.func262.trans (congrArg some (by kernel_rfl))
 f241:=Tryz.func263.trans (congrArg some (by kernel_rfl))
 f260:=Tryz.func284.trans (congrArg some (by kernel_rfl))
 f266:=Tryz.func264.trans (congrArg some (by kernel_rfl))
 f267:=Tryz.func236.trans (congrArg some (by kernel_rfl))
 f276:=Tryz.func285.trans (congrArg some (by kernel_rfl))
 f277:=Tryz.func286.trans (congrArg some (by kernel_rfl))
 f314:=Tryz.func265.trans (congrArg some (by kernel_rfl))
 t0:=Tryz.underlying0
 a0:=Tryz.isAgg0
 z0:=Tryz.sizeOf0
 v0:=Tryz.zeroValue0
 t3:=Tryz.underlying3
 a3:=Tryz.isAgg3
 z3:=Tryz.sizeOf3
 v3:=Tryz.zeroValue3
 t4:=Tryz.underlying4
 a4:=Tryz.isAgg4
 z4:=Tryz.sizeOf4
 v4:=Tryz.zeroValue4
 t5:=Tryz.underlying5
 a5:=Tryz.isAgg5
 z5:=Tryz.sizeOf5
 v5:=Tryz.zeroValue5
 t9:=Tryz.underlying9
 a9:=Tryz.isAgg9
 z9:=Tryz.sizeOf9
 v9:=Tryz.zeroValue9
 t20:=Tryz.underlying20
 a20:=Tryz.isAgg20
 z20:=Tryz.sizeOf20
 v20:=Tryz.zeroValue20
 t21:=Tryz.underlying21
 a21:=Tryz.isAgg21
 z21:=Tryz.sizeOf21
 v21:=Tryz.zeroValue21
 t37:=Tryz.underlying152
 a37:=Tryz.isAgg152
 z37:=Tryz.sizeOf152
 v37:=Tryz.zeroValue152
 t46:=Tryz.underlying188
 a46:=Tryz.isAgg188
 z46:=Tryz.sizeOf188
 v46:=Tryz.zeroValue188
 t51:=Tryz.underlying226
 a51:=Tryz.isAgg226
 z51:=Tryz.sizeOf226
 v51:=Tryz.zeroValue226
 t70:=Tryz.underlying242
 a70:=Tryz.isAgg242
 z70:=Tryz.sizeOf242
 v70:=Tryz.zeroValue242
 t72:=Tryz.underlying244
 a72:=Tryz.isAgg244
 z72:=Tryz.sizeOf244
 v72:=Tryz.zeroValue244
 t75:=Tryz.underlying215
 a75:=Tryz.isAgg215
 z75:=Tryz.sizeOf215
 v75:=Tryz.zeroValue215
 t76:=Tryz.underlying245
 a76:=Tryz.isAgg245
 z76:=Tryz.sizeOf245
 v76:=Tryz.zeroValue245
 t105:=Tryz.underlying274
 a105:=Tryz.isAgg274
 z105:=Tryz.sizeOf274
 v105:=Tryz.zeroValue274
 t119:=Tryz.underlying302
 a119:=Tryz.isAgg302
 z119:=Tryz.sizeOf302
 t127:=Tryz.underlying277
 a127:=Tryz.isAgg277
 z127:=Tryz.sizeOf277
 v127:=Tryz.zeroValue277
 t138:=Tryz.underlying304
 a138:=Tryz.isAgg304
 z138:=Tryz.sizeOf304
 v138:=Tryz.zeroValue304
 t139:=Tryz.underlying305
 a139:=Tryz.isAgg305
 z139:=Tryz.sizeOf305
 v139:=Tryz.zeroValue305
 t146:=Tryz.underlying278
 a146:=Tryz.isAgg278
 z146:=Tryz.sizeOf278
 v146:=Tryz.zeroValue278
 t164:=Tryz.underlying293
 a164:=Tryz.isAgg293
 z164:=Tryz.sizeOf293
 v164:=Tryz.zeroValue293
 g1:=by kernel_rfl
 g3:=by kernel_rfl
 g4:=by kernel_rfl}
theorem PZ:Go.Proofs.Builder.Extra Tryz.prog HC where
 sizeBuilder:=by kernel_rfl
 liesBuilder:=by kernel_rfl
 t5:=Tryz.underlying5
 a5:=Tryz.isAgg5
 z5:=Tryz.sizeOf5
 v5:=Tryz.zeroValue5
 infoByte:=by kernel_rfl
 cellsByte:=by kernel_rfl
 sizeByte:=by kernel_rfl
 neB5:=by decide
theorem ML (l o q:List UInt8)(n m:Int)(w:World)(hl:l.length≤1000)(ho:1≤o.length)(hq:q.length≤1000)(hc:Lib.countB (S l) (S o)≤1000)(hm:w.cell? ⟨0,0,none⟩=some (.int .i64 m)):Calls Tryz.prog 226 #[.string (S l),.string (S o),.string (S q),.int .i64 n] w fun e w'=>e=.returned (.string (S (Lib.replace l o q n)))∧BW w w':=by
 have hmul:Lib.countB (S l) (S o)*(S q).size≤1000*1000:=Nat.mul_le_mul hc (by rw [Cf];exact hq)
 refine(Any.strings_Replace R4 PZ (S l) (S o) (S q) n m w (by rw [Cf];omega) hm (by rw [Cf];omega) (by rw [Cf];omega)).mono ?_
 rintro e w' ⟨rfl,hb⟩
 exact⟨by rw [EC,EC,EC];rfl,hb⟩
end Go.Proofs.YtbbdanhpphlbpaaGreatDoor
namespace Go.Proofs.YtbbdanhpphlbpaaGreatDoor
open Go.RowKit
set_option simprocs false
abbrev _root_.Go.Proofs.YtbbdanhpphlbpaaGreatDoor.mR (os:List (Nat×Obj)):Prop:=∀w ks,Gl os w ks→Lib.TabIs Tryz.prog w "internal/strconv.uint64pow10" .u64 Lib.pow10Tab
theorem NH (v:Int)(os:List (Nat×Obj))(hM:lP os)(hT:mR os)(h0: -9223372036854775808≤v)(h1:v≤9223372036854775807):Bi (Gl os) Tryz.prog 125 [.int .i64 v] [] (Rt (.str (Lib.itoa v)) []):=Gh (by kernel_rfl) rfl rfl fun w ks h=>R3 v h0 h1 w (hT w ks h)
theorem Xl (l q r:List UInt8)(n:Int)(os:List (Nat×Obj))(hM:lP os)(hT:mR os)(hl:l.length≤1000)(ho:1≤q.length)(hq:r.length≤1000)(hc:Lib.countB (S l) (S q)≤1000):Bi (Gl os) Tryz.prog 226 [.str l,.str q,.str r,.int .i64 n] [] (Rt (.str (Lib.replace l q r n)) []):=Gh (by kernel_rfl) rfl rfl fun w ks h=>by
 obtain⟨m,hm⟩:=hM w ks h
 exact ML l q r n m w hl ho hq hc hm
def Es (s0 s1 s2 s3 s4 s5 s6 s7:List UInt8)(r:Int):List UInt8:=if((decide (r<0))||(decide (r≥8)))=true then []else [s0,s1,s2,s3,s4,s5,s6,s7].getD (r).toNat []
theorem NL (s0 s1 s2 s3 s4 s5 s6 s7:List UInt8)(r:Int):Fn Tryz.prog 145 [.agg [.str s0,.str s1,.str s2,.str s3,.str s4,.str s5,.str s6,.str s7],.int .i64 r] [] (Rt (.str (Es s0 s1 s2 s3 s4 s5 s6 s7 r)) []):=
 AG (n:=14) (by kernel_rfl) Tryz.func145 rfl rfl rfl fun G w a h0 A=>N9 17 A rfl rfl fun A=>fork 10 A rfl
  (fun h1 A=>N9 7 A rfl rfl fun A=>R9 A rfl h0 rfl (by simp only [AX,nb,BY,BR,Es,if_pos h1]) rfl)
  (fun h1 A=>N9 12 A rfl (iU (by have hz:=h1;simp only [Bool.or_eq_false_iff,decide_eq_false_iff_not]at hz;omega)<|iU (by have hz:=h1;simp only [Bool.or_eq_false_iff,decide_eq_false_iff_not]at hz;omega)<|iT) fun A=>R9 A rfl h0 rfl (by simp only [AX,nb,BY,BR,Es,if_neg (ne_true_of_eq_false h1)]) rfl)
def R5 (sz:Int):Nat:=if sz=1 then 0 else if sz=2 then 1 else if sz=4 then 2 else if sz=8 then 3 else 4
def Lg.let (g:Lg):List (List UInt8):=[g.l0,g.l1,g.l2,g.l3]
def Ey (g:Lg)(nm:List UInt8)(sz:Int):List UInt8:=if R5 sz<4 then Lib.replace nm [42] (g.let.getD (R5 sz) []) 1 else nm
structure NK (sz:Int)(k:Nat):Prop where
 le:k≤4
 ge:k≤R5 sz
section
variable {g:Lg}{nm:List UInt8}{sz:Int}{k:Nat}
theorem Xm (k:Nat)(hk:k<4)(h:sz=IntKind.wrap .i64 (1*2^min ((k:Int)).toNat (IntKind.bits .i64))):R5 sz=k:=by
 have:k=0∨k=1∨k=2∨k=3:=by omega
 rcases this with rfl|rfl|rfl|rfl<;>(subst h;decide)
theorem NK.i0:NK sz 0:=⟨by omega,by omega⟩
theorem NK.nx (hI:NK sz k)(h1:(k:Int)<4)(h:sz≠IntKind.wrap .i64 (1*2^min ((k:Int)).toNat (IntKind.bits .i64))):NK sz (k+1):=by
 have hg:=hI.ge
 refine⟨by omega,?_⟩
 rcases Nat.lt_or_ge k (R5 sz)with h2|h2
 ·exact h2
 ·exfalso
  have he:R5 sz=k:=by omega
  have:k=0∨k=1∨k=2∨k=3:=by omega
  apply h
  unfold R5 at he
  rcases this with rfl|rfl|rfl|rfl
  all_goals
   split at he
   ·next e=>first|(rw [e];decide)|omega
   ·split at he
    ·next e=>first|(rw [e];decide)|omega
    ·split at he
     ·next e=>first|(rw [e];decide)|omega
     ·split at he
      ·next e=>first|(rw [e];decide)|omega
      ·omega
theorem NK.hit (hI:NK sz k)(h1:(k:Int)<4)(h:sz=IntKind.wrap .i64 (1*2^min ((k:Int)).toNat (IntKind.bits .i64))):Ey g nm sz=Lib.replace nm [42] ([g.l0,g.l1,g.l2,g.l3].getD ((k:Int)).toNat []) 1:=by
 have e:=Xm (sz:=sz) k (by omega) h
 unfold Ey
 rw [e,if_pos (by omega),Int.toNat_natCast];rfl
theorem NK.fi (hI:NK sz k)(h1:¬(k:Int)<4):Ey g nm sz=nm:=by
 unfold Ey;have:=hI.ge;rw [if_neg (by omega)]
end
theorem Oi (g:Lg)(L:List Rw)(c:Nat)(r:Rw)(sz:Int)(os:List (Nat×Obj))(hM:lP os)(hT:mR os)(sD:r.nm.length≤1000∧Lib.countB (S r.nm) (S [42])≤1000)(uN:∀k,([g.l0,g.l1,g.l2,g.l3].getD k []).length≤1000):Bi (Gl os) Tryz.prog 190 [.agg [.str g.r0,.str g.r1,.str g.r2,.str g.r3,.str g.r4,.str g.r5,.str g.r6,.str g.r7,.str g.l0,.str g.l1,.str g.l2,.str g.l3,.str g.im,.str g.f0,.str g.f1,.str g.f2,.sl 0 L.length c],.agg (HA r),.int .i64 sz] [some (EJ L)] (Rt (.str (Ey g r.nm sz)) [some (EJ L)]):=
 Ab (n:=26) (by kernel_rfl) Tryz.func190 rfl rfl rfl fun G w a h0 hI A=>N9 16 A rfl rfl fun A=>Bk (fun(k:Nat)=>[(2,.int .i64 sz),(4,.ptr 2 0),(6,.str []),(10,.agg [.str g.l0,.str g.l1,.str g.l2,.str g.l3]),(11,.int .i64 (k:Int))]) (fun(k:Nat)=>[some (EJ L),some (.blk [.str g.r0,.str g.r1,.str g.r2,.str g.r3,.str g.r4,.str g.r5,.str g.r6,.str g.r7,.str g.l0,.str g.l1,.str g.l2,.str g.l3,.str g.im,.str g.f0,.str g.f1,.str g.f2,.sl 0 L.length c]),some (.blk (HA r))]) (fun(k:Nat)=>NK sz k) (fun(k:Nat)=>4 - k) 0 NK.i0 ((A.cut [2,4,6,10,11] rfl).trunc 3 rfl rfl rfl (iR h0 rfl)) fun k jE {G a w} A=>N9 6 A rfl rfl fun A=>AL 12 A rfl
   (fun h1 A=>N9 14 A rfl (iU (by have:=jE.le;omega)<|iT) fun A=>N9 7 A rfl (iU (by have:=jE.le;omega)<|iT) fun A=>AN 18 A rfl
    (fun h2 A=>N9 6 A rfl rfl fun A=>I9 [] Gl.ok hI (Xl r.nm [42] ([g.l0,g.l1,g.l2,g.l3].getD ((k:Int)).toNat []) 1 os hM hT sD.1 (by decide) (uN _) sD.2) A rfl fun A=>N9 4 A rfl rfl fun A=>R9 A rfl h0 rfl (by rw [jE.hit h1 h2];rfl) rfl)
    (fun h2 A=>N9 8 A rfl (iU (by have:=jE.le;omega)<|iT) fun A=>⟨k+1,_,(by omega),(jE.nx h1 h2),((A.cut [2,4,6,10,11] rfl).trunc 3 rfl rfl rfl (iR h0 rfl))⟩))
   (fun h1 A=>N9 11 A rfl rfl fun A=>R9 A rfl h0 rfl (by rw [jE.fi h1];rfl) rfl)
theorem Vm:Fn Tryz.prog 261 [] [] (Rt (.sl 0 3 3) [some (.blk [.str [120],.str [121],.str [122]])]):=
 AG (n:=2) (by kernel_rfl) Tryz.func261 rfl rfl rfl fun G w a h0 A=>N9 12 A rfl rfl fun A=>Mj hX [0] A ⟨rfl,rfl⟩ rfl rfl rfl rfl rfl rfl rfl rfl h0
def Xn (i:In):List UInt8:=[91]++([[120],[121],[122]].getD (i.loc).toNat [])
def NM (i:In):List UInt8:=if i.off≠0 then Xn i++([43]++Lib.itoa i.off)else Xn i
def MM (g:Lg)(i:In):List UInt8:=(if i.ix≠ -1 then NM i++([43]++Es g.r0 g.r1 g.r2 g.r3 g.r4 g.r5 g.r6 g.r7 i.ix)else NM i)++[93]
def Hl (g:Lg)(r:Rw)(p:Int)(i:In)(lb:List UInt8):List UInt8:=
 if(El p i).2=true then Es g.r0 g.r1 g.r2 g.r3 g.r4 g.r5 g.r6 g.r7 (El p i).1 else
 if p=5 then g.im++Lib.itoa i.imm else
 if p=6 then MM g i else
 if p=8 then [g.f0,g.f1,g.f2].getD (i.pred - 1).toNat []else
 if p=9 then [g.f0,g.f1,g.f2].getD (i.succ - 1).toNat []else
 if p=10 then r.wd else lb
structure UO (g:Lg):Prop where
 rg:∀r,(Es g.r0 g.r1 g.r2 g.r3 g.r4 g.r5 g.r6 g.r7 r).length≤1000
 im:g.im.length≤1000
structure Xo (i:In):Prop where
 lc:0≤i.loc∧i.loc<3
 of_: -9223372036854775808≤i.off∧i.off≤9223372036854775807
theorem Dy (g:Int)(h:0≤g∧g<3):([[120],[121],[122]].getD (g).toNat ([]:List UInt8)).length≤1:=by
 have:(g).toNat=0∨(g).toNat=1∨(g).toNat=2:=by omega
 rcases this with e|e|e<;>rw [e]<;>decide
theorem aS (g:Lg)(L:List Rw)(c:Nat)(i:In)(os:List (Nat×Obj))(hM:lP os)(hT:mR os)(hg:UO g)(hi:Xo i):Bi (Gl os) Tryz.prog 228 [.agg [.str g.r0,.str g.r1,.str g.r2,.str g.r3,.str g.r4,.str g.r5,.str g.r6,.str g.r7,.str g.l0,.str g.l1,.str g.l2,.str g.l3,.str g.im,.str g.f0,.str g.f1,.str g.f2,.sl 0 L.length c],.agg (AS i)] [some (EJ L)] (Rt (.str (MM g i)) [some (EJ L)]):=
 Ab (n:=34) (by kernel_rfl) Tryz.func228 rfl rfl rfl fun G w a h0 hI A=>N9 8 A rfl rfl fun A=>Aq hX BK [] [(0,.sl 3 3 3,[some (EJ L),some (.blk [.str g.r0,.str g.r1,.str g.r2,.str g.r3,.str g.r4,.str g.r5,.str g.r6,.str g.r7,.str g.l0,.str g.l1,.str g.l2,.str g.l3,.str g.im,.str g.f0,.str g.f1,.str g.f2,.sl 0 L.length c]),some (.blk (AS i)),some (.blk [.str [120],.str [121],.str [122]])])] A rfl (iU (by have q1:=hi.lc;have q2:=hi.of_;omega)<|iU (by have q1:=hi.lc;have q2:=hi.of_;omega)<|iU (by have q1:=hg.rg i.ix;have q2:=Lib.itoa_length_le i.off hi.of_.1 hi.of_.2;have q3:=Dy i.loc hi.lc;(try simp only [List.length_append,List.length_cons,List.length_nil]);omega)<|iT) rfl rfl (by kernel_rfl) ⟨DV [] Vm rfl rfl rfl rfl rfl rfl rfl,trivial⟩ trivial fun A=>N9 9 A rfl rfl fun A=>Dc 14 A rfl
  (fun h1 A=>N9 5 A rfl rfl fun A=>I9 [] Gl.ok hI (NH i.off os hM hT (by have q1:=hi.lc;have q2:=hi.of_;omega) (by have q1:=hi.lc;have q2:=hi.of_;omega)) A rfl fun A=>N9 7 A rfl (iU (by have q1:=hg.rg i.ix;have q2:=Lib.itoa_length_le i.off hi.of_.1 hi.of_.2;have q3:=Dy i.loc hi.lc;(try simp only [List.length_append,List.length_cons,List.length_nil]);omega)<|iU (by have q1:=hg.rg i.ix;have q2:=Lib.itoa_length_le i.off hi.of_.1 hi.of_.2;have q3:=Dy i.loc hi.lc;(try simp only [List.length_append,List.length_cons,List.length_nil]);omega)<|iT) fun A=>N9 6 A rfl rfl fun A=>Dc 23 A rfl
   (fun h2 A=>N9 7 A rfl rfl fun A=>C9 [] (NL g.r0 g.r1 g.r2 g.r3 g.r4 g.r5 g.r6 g.r7 i.ix) A rfl fun A=>N9 6 A rfl (iU (by have q1:=hg.rg i.ix;have q2:=Lib.itoa_length_le i.off hi.of_.1 hi.of_.2;have q3:=Dy i.loc hi.lc;(try simp only [List.length_append,List.length_cons,List.length_nil]);omega)<|iU (by have q1:=hg.rg i.ix;have q2:=Lib.itoa_length_le i.off hi.of_.1 hi.of_.2;have q3:=Dy i.loc hi.lc;(try simp only [List.length_append,List.length_cons,List.length_nil]);omega)<|iT) fun A=>N9 7 A rfl (iU (by have q1:=hg.rg i.ix;have q2:=Lib.itoa_length_le i.off hi.of_.1 hi.of_.2;have q3:=Dy i.loc hi.lc;(try simp only [List.length_append,List.length_cons,List.length_nil]);omega)<|iT) fun A=>R9 A rfl h0 rfl (by unfold MM NM;rw [if_pos h2,if_pos h1];rfl) rfl)
   (fun h2 A=>N9 11 A rfl (iU (by have q1:=hg.rg i.ix;have q2:=Lib.itoa_length_le i.off hi.of_.1 hi.of_.2;have q3:=Dy i.loc hi.lc;(try simp only [List.length_append,List.length_cons,List.length_nil]);omega)<|iT) fun A=>R9 A rfl h0 rfl (by unfold MM NM;rw [if_neg (fun z=>z h2),if_pos h1];rfl) rfl))
  (fun h1 A=>N9 11 A rfl rfl fun A=>Dc 23 A rfl
   (fun h3 A=>N9 7 A rfl rfl fun A=>C9 [] (NL g.r0 g.r1 g.r2 g.r3 g.r4 g.r5 g.r6 g.r7 i.ix) A rfl fun A=>N9 6 A rfl (iU (by have q1:=hg.rg i.ix;have q2:=Lib.itoa_length_le i.off hi.of_.1 hi.of_.2;have q3:=Dy i.loc hi.lc;(try simp only [List.length_append,List.length_cons,List.length_nil]);omega)<|iU (by have q1:=hg.rg i.ix;have q2:=Lib.itoa_length_le i.off hi.of_.1 hi.of_.2;have q3:=Dy i.loc hi.lc;(try simp only [List.length_append,List.length_cons,List.length_nil]);omega)<|iT) fun A=>N9 7 A rfl (iU (by have q1:=hg.rg i.ix;have q2:=Lib.itoa_length_le i.off hi.of_.1 hi.of_.2;have q3:=Dy i.loc hi.lc;(try simp only [List.length_append,List.length_cons,List.length_nil]);omega)<|iT) fun A=>R9 A rfl h0 rfl (by unfold MM NM;rw [if_pos h3,if_neg (fun z=>z h1)];rfl) rfl)
   (fun h3 A=>N9 11 A rfl (iU (by have q1:=hg.rg i.ix;have q2:=Lib.itoa_length_le i.off hi.of_.1 hi.of_.2;have q3:=Dy i.loc hi.lc;(try simp only [List.length_append,List.length_cons,List.length_nil]);omega)<|iT) fun A=>R9 A rfl h0 rfl (by unfold MM NM;rw [if_neg (fun z=>z h3),if_neg (fun z=>z h1)];rfl) rfl))
theorem aT (g:Lg)(L:List Rw)(c:Nat)(r:Rw)(p:Int)(i:In)(lb:List UInt8)(os:List (Nat×Obj))(hM:lP os)(hT:mR os)(hg:UO g)(hv: -9223372036854775808≤i.imm∧i.imm≤9223372036854775807)(xV:p=6→Xo i)(uO:p=8→1≤i.pred∧i.pred≤3)(uP:p=9→1≤i.succ∧i.succ≤3):Bi (Gl os) Tryz.prog 191 [.agg [.str g.r0,.str g.r1,.str g.r2,.str g.r3,.str g.r4,.str g.r5,.str g.r6,.str g.r7,.str g.l0,.str g.l1,.str g.l2,.str g.l3,.str g.im,.str g.f0,.str g.f1,.str g.f2,.sl 0 L.length c],.agg (HA r),.int .i64 p,.agg (AS i),.str lb] [some (EJ L)] (Rt (.str (Hl g r p i lb)) [some (EJ L)]):=
 Ab (n:=59) (by kernel_rfl) Tryz.func191 rfl rfl rfl fun G w a h0 hI A=>N9 13 A rfl rfl fun A=>C9 [] (U6 p i) A rfl fun A=>N9 12 A rfl rfl fun A=>fork 19 A rfl
  (fun h1 A=>N9 6 A rfl rfl fun A=>C9 [] (NL g.r0 g.r1 g.r2 g.r3 g.r4 g.r5 g.r6 g.r7 ((El p i).1)) A rfl fun A=>N9 4 A rfl rfl fun A=>R9 A rfl h0 rfl (by unfold Hl;rw [if_pos h1];rfl) rfl)
  (fun h1 A=>N9 16 A rfl rfl fun A=>AN 25 A rfl
   (fun h2 A=>N9 2 A rfl rfl fun A=>Hh BK [.ptr 1 12,.str g.im,.ptr 3 4,.int .i64 i.imm,.str (Lib.itoa i.imm),.str (g.im++(Lib.itoa i.imm)),.str (g.im++(Lib.itoa i.imm))] [] [] 0 [([],[],[some (EJ L),some (.blk [.str g.r0,.str g.r1,.str g.r2,.str g.r3,.str g.r4,.str g.r5,.str g.r6,.str g.r7,.str g.l0,.str g.l1,.str g.l2,.str g.l3,.str g.im,.str g.f0,.str g.f1,.str g.f2,.sl 0 L.length c]),some (.blk (HA r)),some (.blk (AS i))])] [[true,true,true,true,true,true,true]] A rfl rfl rfl rfl (by kernel_rfl) rfl (by kernel_rfl) ⟨⟨iV 0 rfl rfl,⟨iV 0 rfl rfl,⟨iV 0 rfl rfl,⟨iV 0 rfl rfl,⟨BT 0 rfl (C8 [] Gl.ok hI (NH i.imm os hM hT (by have q0:=hv;omega) (by have q0:=hv;omega)) rfl rfl rfl rfl rfl rfl rfl),⟨iV 0 rfl (iU (by have q0:=hv;have q1:=hg.im;have q2:=Lib.itoa_length_le i.imm hv.1 hv.2;(try simp only [List.length_append,List.length_cons,List.length_nil]);omega)<|iT),⟨iV 0 rfl rfl,trivial⟩⟩⟩⟩⟩⟩⟩,trivial⟩ fun A=>N9 2 A rfl rfl fun A=>R9 A rfl h0 rfl (by unfold Hl;rw [if_neg (by rw [h1];decide),if_pos h2];rfl) rfl)
   (fun h2 A=>N9 7 A rfl rfl fun A=>AN 33 A rfl
    (fun h3 A=>N9 5 A rfl rfl fun A=>I9 [0] Gl.ok hI (aS g L c i os hM hT hg (xV h3)) A rfl fun A=>N9 4 A rfl rfl fun A=>R9 A rfl h0 rfl (by unfold Hl;rw [if_neg (by rw [h1];decide),if_neg h2,if_pos h3];rfl) rfl)
    (fun h3 A=>N9 7 A rfl rfl fun A=>AN 38 A rfl
     (fun h4 A=>N9 13 A rfl (iU (by have q0:=hv;have q8:=uO h4;omega)<|iU (by have q0:=hv;have q8:=uO h4;omega)<|iU (by have q0:=hv;have q8:=uO h4;omega)<|iT) fun A=>R9 A rfl h0 rfl (by unfold Hl;rw [if_neg (by rw [h1];decide),if_neg h2,if_neg h3,if_pos h4];rfl) rfl)
     (fun h4 A=>N9 7 A rfl rfl fun A=>AN 46 A rfl
      (fun h5 A=>N9 13 A rfl (iU (by have q0:=hv;have q9:=uP h5;omega)<|iU (by have q0:=hv;have q9:=uP h5;omega)<|iU (by have q0:=hv;have q9:=uP h5;omega)<|iT) fun A=>R9 A rfl h0 rfl (by unfold Hl;rw [if_neg (by rw [h1];decide),if_neg h2,if_neg h3,if_neg h4,if_pos h5];rfl) rfl)
      (fun h5 A=>N9 7 A rfl rfl fun A=>AN 54 A rfl
       (fun h6 A=>N9 9 A rfl rfl fun A=>R9 A rfl h0 rfl (by unfold Hl;rw [if_neg (by rw [h1];decide),if_neg h2,if_neg h3,if_neg h4,if_neg h5,if_pos h6];rfl) rfl)
       (fun h6 A=>N9 11 A rfl rfl fun A=>R9 A rfl h0 rfl (by unfold Hl;rw [if_neg (by rw [h1];decide),if_neg h2,if_neg h3,if_neg h4,if_neg h5,if_neg h6];rfl) rfl))))))
abbrev Oj (g:Lg)(n c:Nat)(i:In)(lb:List UInt8)(ap rp:Nat):List SV:=.ptr ap 0::.str g.r0::.str g.r1::.str g.r2::.str g.r3::.str g.r4::.str g.r5::.str g.r6::.str g.r7::.str g.l0::.str g.l1::.str g.l2::.str g.l3::.str g.im::.str g.f0::.str g.f1::.str g.f2::.sl rp n c::.int .i64 i.op::.int .i64 i.dst::.int .i64 i.ra::.int .i64 i.rb::.int .i64 i.imm::.int .i64 i.loc::.int .i64 i.off::.int .i64 i.ix::.int .i64 i.sz::.int .i64 i.fn::.bool i.acq::.bool i.weak::.bool i.rel::.int .i64 i.pred::.int .i64 i.succ::.int .i64 i.to_::.bool i.zero::.str lb::[]
structure Ps where (ins:In) (lab:List UInt8) (e a:Int) (p:Nat)
def Ps.as (s:Ps):As:=⟨s.p,s.e,s.a⟩
def Ps.wa (s:Ps)(t:As):Ps:=⟨s.ins,s.lab,t.e,t.a,t.p⟩
def Et (ls:List (List UInt8))(q:List UInt8):Int:=match(List.range ls.length).find? (fun j=>q==ls.getD j [])with|some j=>(j:Int)|none=> -1
structure Pa (ls:List (List UInt8))(q:List UInt8)(k:Nat):Prop where
 le:k≤ls.length
 no:∀j,j<k→(q==ls.getD j [])=false
section
variable {ls:List (List UInt8)}{q:List UInt8}{k:Nat}
theorem Pa.i0:Pa ls q 0:=⟨Nat.zero_le _,fun j h=>by omega⟩
theorem Pa.nx (hI:Pa ls q k)(hk:k<ls.length)(h:(q==ls.getD k [])=false):Pa ls q (k+1):=⟨hk,fun j hj=>by
 by_cases e:j=k
 ·subst e;exact h
 ·exact hI.no j (by omega)⟩
theorem Pa.hit (hI:Pa ls q k)(hk:k<ls.length)(h:(q==ls.getD k [])=true):Et ls q=(k:Int):=by
 unfold Et
 have:(List.range ls.length).find? (fun j=>q==ls.getD j [])=some k:=by
  rw [List.find?_range_eq_some]
  exact⟨h,by simpa using hk,fun j hj=>by have:=hI.no j hj;rw [this];rfl⟩
 rw [this]
theorem Pa.fi (hI:Pa ls q k)(hk:ls.length≤k):Et ls q= -1:=by
 unfold Et
 have:(List.range ls.length).find? (fun j=>q==ls.getD j [])=none:=by
  rw [List.find?_eq_none]
  intro j hj
  have:=hI.no j (by have:=List.mem_range.1 hj;omega)
  rw [this];decide
 rw [this]
end
def KH (ws:List Tk)(s:As)(ls:List (List UInt8)):Int:=if(ws.getD s.p Ad).kind=1 then(if Et ls (ws.getD s.p Ad).text<0 then -1 else Et ls (ws.getD s.p Ad).text)else -1
def Cy (ws:List Tk)(s:As)(ls:List (List UInt8)):As:=if(ws.getD s.p Ad).kind=1 then(if Et ls (ws.getD s.p Ad).text<0 then FA ws s 21 else aR s (UJ ws s.p))else FA ws s 22
section
variable {ws:List Tk}{s:As}{ls:List (List UInt8)}
theorem CU (h:s.p≤ws.length):(Cy ws s ls).p≤ws.length:=by
 unfold Cy;split
 ·split
  ·rw [GM];exact h
  ·exact JL h
 ·rw [GM];exact h
end
theorem aU (g:Lg)(L:List Rw)(c:Nat)(ws:List Tk)(cw:Nat)(s:Ps)(q:List UInt8):Fn Tryz.prog 290 [.sp (.ptr 0 1) 8 8,.str q] [some (.blk (Oj g L.length c s.ins s.lab 1 4)),some (.blk [.ptr 2 0,.int .i64 s.e,.int .i64 s.a]),some (.blk [.sl 3 ws.length cw,.int .i64 ((s.p:Nat):Int)]),some (EY ws),some (EJ L)] (Rt (.int .i64 (Et [g.r0,g.r1,g.r2,g.r3,g.r4,g.r5,g.r6,g.r7] q)) [some (.blk (Oj g L.length c s.ins s.lab 1 4)),some (.blk [.ptr 2 0,.int .i64 s.e,.int .i64 s.a]),some (.blk [.sl 3 ws.length cw,.int .i64 ((s.p:Nat):Int)]),some (EY ws),some (EJ L)]):=
 AG (n:=19) (by kernel_rfl) Tryz.func290 rfl rfl rfl fun G w a h0 A=>N9 14 A rfl rfl fun A=>Bk (fun(k:Nat)=>[(0,.sp (.ptr 0 1) 8 8),(1,.str q),(4,.int .i64 0),(7,.int .i64 ((8:Nat):Int)),(8,.int .i64 (k:Int))]) (fun(k:Nat)=>[some (.blk (Oj g L.length c s.ins s.lab 1 4)),some (.blk [.ptr 2 0,.int .i64 s.e,.int .i64 s.a]),some (.blk [.sl 3 ws.length cw,.int .i64 ((s.p:Nat):Int)]),some (EY ws),some (EJ L)]) (fun(k:Nat)=>Pa [g.r0,g.r1,g.r2,g.r3,g.r4,g.r5,g.r6,g.r7] q k) (fun(k:Nat)=>8 - k) 0 Pa.i0 ((A.cut [0,1,4,7,8] rfl).trunc 5 rfl rfl rfl (iR h0 rfl)) fun k hI {G a w} A=>N9 6 A rfl rfl fun A=>AL 9 A rfl
   (fun h1 A=>N9 21 A rfl (iU (by have:=hI.le;simp only [List.length_cons,List.length_nil]at this;omega)<|iU (by have:=hI.le;simp only [List.length_cons,List.length_nil]at this;omega)<|iT) fun A=>AN 16 A rfl
    (fun h2 A=>N9 8 A rfl rfl fun A=>R9 A rfl h0 rfl (by rw [hI.hit (by show k<8;omega) (by rw [show k=((k:Int)).toNat from rfl];simpa using h2)];rfl) rfl)
    (fun h2 A=>N9 8 A rfl (iU (by have:=hI.le;simp only [List.length_cons,List.length_nil]at this;omega)<|iT) fun A=>⟨k+1,_,(by omega),(hI.nx (by show k<8;omega) (by rw [show k=((k:Int)).toNat from rfl];simpa using h2)),((A.cut [0,1,4,7,8] rfl).trunc 5 rfl rfl rfl (iR h0 rfl))⟩))
   (fun h1 A=>N9 9 A rfl rfl fun A=>R9 A rfl h0 rfl (by rw [hI.fi (by show 8≤k;omega)];rfl) rfl)
theorem aV (q:List UInt8):Fn Tryz.prog 290 [.sl 0 3 3,.str q] [some (.blk [.str [120],.str [121],.str [122]])] (Rt (.int .i64 (Et [[120],[121],[122]] q)) [some (.blk [.str [120],.str [121],.str [122]])]):=
 AG (n:=19) (by kernel_rfl) Tryz.func290 rfl rfl rfl fun G w a h0 A=>N9 14 A rfl rfl fun A=>Bk (fun(k:Nat)=>[(0,.sl 0 3 3),(1,.str q),(4,.int .i64 0),(7,.int .i64 ((3:Nat):Int)),(8,.int .i64 (k:Int))]) (fun(k:Nat)=>[some (.blk [.str [120],.str [121],.str [122]])]) (fun(k:Nat)=>Pa [[120],[121],[122]] q k) (fun(k:Nat)=>3 - k) 0 Pa.i0 ((A.cut [0,1,4,7,8] rfl).trunc 1 rfl rfl rfl (iR h0 rfl)) fun k hI {G a w} A=>N9 6 A rfl rfl fun A=>AL 9 A rfl
   (fun h1 A=>N9 21 A rfl (iU (by have:=hI.le;simp only [List.length_cons,List.length_nil]at this;omega)<|iU (by have:=hI.le;simp only [List.length_cons,List.length_nil]at this;omega)<|iT) fun A=>AN 16 A rfl
    (fun h2 A=>N9 8 A rfl rfl fun A=>R9 A rfl h0 rfl (by rw [hI.hit (by show k<3;omega) (by rw [show k=((k:Int)).toNat from rfl];simpa using h2)];rfl) rfl)
    (fun h2 A=>N9 8 A rfl (iU (by have:=hI.le;simp only [List.length_cons,List.length_nil]at this;omega)<|iT) fun A=>⟨k+1,_,(by omega),(hI.nx (by show k<3;omega) (by rw [show k=((k:Int)).toNat from rfl];simpa using h2)),((A.cut [0,1,4,7,8] rfl).trunc 1 rfl rfl rfl (iR h0 rfl))⟩))
   (fun h1 A=>N9 9 A rfl rfl fun A=>R9 A rfl h0 rfl (by rw [hI.fi (by show 3≤k;omega)];rfl) rfl)
theorem UP (g:Lg)(L:List Rw)(c:Nat)(ws:List Tk)(cw:Nat)(s:Ps)(hk:s.p≤ws.length)(hn:ws.length≤1000000)(hw:MI ws):Fn Tryz.prog 278 [.ptr 1 0,.sp (.ptr 0 1) 8 8] [some (.blk (Oj g L.length c s.ins s.lab 1 4)),some (.blk [.ptr 2 0,.int .i64 s.e,.int .i64 s.a]),some (.blk [.sl 3 ws.length cw,.int .i64 ((s.p:Nat):Int)]),some (EY ws),some (EJ L)] (Rt (.int .i64 (KH ws s.as [g.r0,g.r1,g.r2,g.r3,g.r4,g.r5,g.r6,g.r7])) [some (.blk (Oj g L.length c ((s.wa (Cy ws s.as [g.r0,g.r1,g.r2,g.r3,g.r4,g.r5,g.r6,g.r7])).ins) ((s.wa (Cy ws s.as [g.r0,g.r1,g.r2,g.r3,g.r4,g.r5,g.r6,g.r7])).lab) 1 4)),some (.blk [.ptr 2 0,.int .i64 ((s.wa (Cy ws s.as [g.r0,g.r1,g.r2,g.r3,g.r4,g.r5,g.r6,g.r7])).e),.int .i64 ((s.wa (Cy ws s.as [g.r0,g.r1,g.r2,g.r3,g.r4,g.r5,g.r6,g.r7])).a)]),some (.blk [.sl 3 ws.length cw,.int .i64 (((s.wa (Cy ws s.as [g.r0,g.r1,g.r2,g.r3,g.r4,g.r5,g.r6,g.r7])).p:Nat):Int)]),some (EY ws),some (EJ L)]):=
 AG (n:=35) (by kernel_rfl) Tryz.func278 rfl rfl rfl fun G w a h0 A=>N9 11 A rfl rfl fun A=>C9 [2,3] (KF ws cw s.p (by first|exact hk|exact CU hk|exact DC hk|exact Cs hk|(show _≤_;omega)) hn) A rfl fun A=>N9 16 A rfl rfl fun A=>Dc 18 A rfl
  (fun h1 A=>N9 4 A rfl rfl fun A=>C9 [1,2,3] (G9 ws cw s.as 22 (by first|exact hk|exact CU hk|exact DC hk|exact Cs hk|(show _≤_;omega)) hn hw) A rfl fun A=>N9 8 A rfl rfl fun A=>R9 A rfl h0 rfl (by unfold KH;rw [if_neg (show¬(ws.getD s.as.p Ad).kind=1 from h1)]<;>rfl) (by unfold Cy;rw [if_neg (show¬(ws.getD s.as.p Ad).kind=1 from h1)]<;>rfl))
  (fun h1 A=>N9 8 A rfl rfl fun A=>C9 [0,1,2,3,4] (aU g L c ws cw s ((ws.getD s.p Ad).text)) A rfl fun A=>N9 10 A rfl rfl fun A=>AL 26 A rfl
   (fun h2 A=>N9 4 A rfl rfl fun A=>C9 [1,2,3] (G9 ws cw s.as 21 (by first|exact hk|exact CU hk|exact DC hk|exact Cs hk|(show _≤_;omega)) hn hw) A rfl fun A=>N9 8 A rfl rfl fun A=>R9 A rfl h0 rfl (by unfold KH;rw [if_pos (show(ws.getD s.as.p Ad).kind=1 from h1),if_pos (show Et [g.r0,g.r1,g.r2,g.r3,g.r4,g.r5,g.r6,g.r7] (ws.getD s.as.p Ad).text<0 from h2)]<;>rfl) (by unfold Cy;rw [if_pos (show(ws.getD s.as.p Ad).kind=1 from h1),if_pos (show Et [g.r0,g.r1,g.r2,g.r3,g.r4,g.r5,g.r6,g.r7] (ws.getD s.as.p Ad).text<0 from h2)]<;>rfl))
   (fun h2 A=>N9 9 A rfl rfl fun A=>C9 [2,3] (Vl ws cw s.p (by first|exact hk|exact CU hk|exact DC hk|exact Cs hk|(show _≤_;omega)) hn) A rfl fun A=>N9 9 A rfl rfl fun A=>R9 A rfl h0 rfl (by unfold KH;rw [if_pos (show(ws.getD s.as.p Ad).kind=1 from h1),if_neg (show¬Et [g.r0,g.r1,g.r2,g.r3,g.r4,g.r5,g.r6,g.r7] (ws.getD s.as.p Ad).text<0 from h2)]<;>rfl) (by unfold Cy;rw [if_pos (show(ws.getD s.as.p Ad).kind=1 from h1),if_neg (show¬Et [g.r0,g.r1,g.r2,g.r3,g.r4,g.r5,g.r6,g.r7] (ws.getD s.as.p Ad).text<0 from h2)]<;>rfl)))
theorem UQ (ws:List Tk)(cw:Nat)(s:As)(hk:s.p≤ws.length)(hn:ws.length≤1000000)(hw:MI ws):Fn Tryz.prog 278 [.ptr 0 0,.sl 3 3 3] [some (.blk [.ptr 1 0,.int .i64 s.e,.int .i64 s.a]),some (.blk [.sl 2 ws.length cw,.int .i64 ((s.p:Nat):Int)]),some (EY ws),some (.blk [.str [120],.str [121],.str [122]])] (Rt (.int .i64 (KH ws s [[120],[121],[122]])) [some (.blk [.ptr 1 0,.int .i64 ((Cy ws s [[120],[121],[122]]).e),.int .i64 ((Cy ws s [[120],[121],[122]]).a)]),some (.blk [.sl 2 ws.length cw,.int .i64 (((Cy ws s [[120],[121],[122]]).p:Nat):Int)]),some (EY ws),some (.blk [.str [120],.str [121],.str [122]])]):=
 AG (n:=35) (by kernel_rfl) Tryz.func278 rfl rfl rfl fun G w a h0 A=>N9 11 A rfl rfl fun A=>C9 [1,2] (KF ws cw s.p (by first|exact hk|exact CU hk|exact DC hk|exact Cs hk|(show _≤_;omega)) hn) A rfl fun A=>N9 16 A rfl rfl fun A=>Dc 18 A rfl
  (fun h1 A=>N9 4 A rfl rfl fun A=>C9 [0,1,2] (G9 ws cw s 22 (by first|exact hk|exact CU hk|exact DC hk|exact Cs hk|(show _≤_;omega)) hn hw) A rfl fun A=>N9 8 A rfl rfl fun A=>R9 A rfl h0 rfl (by unfold KH;rw [if_neg (show¬(ws.getD s.p Ad).kind=1 from h1)]<;>rfl) (by unfold Cy;rw [if_neg (show¬(ws.getD s.p Ad).kind=1 from h1)]<;>rfl))
  (fun h1 A=>N9 8 A rfl rfl fun A=>C9 [3] (aV ((ws.getD s.p Ad).text)) A rfl fun A=>N9 10 A rfl rfl fun A=>AL 26 A rfl
   (fun h2 A=>N9 4 A rfl rfl fun A=>C9 [0,1,2] (G9 ws cw s 21 (by first|exact hk|exact CU hk|exact DC hk|exact Cs hk|(show _≤_;omega)) hn hw) A rfl fun A=>N9 8 A rfl rfl fun A=>R9 A rfl h0 rfl (by unfold KH;rw [if_pos (show(ws.getD s.p Ad).kind=1 from h1),if_pos (show Et [[120],[121],[122]] (ws.getD s.p Ad).text<0 from h2)]<;>rfl) (by unfold Cy;rw [if_pos (show(ws.getD s.p Ad).kind=1 from h1),if_pos (show Et [[120],[121],[122]] (ws.getD s.p Ad).text<0 from h2)]<;>rfl))
   (fun h2 A=>N9 9 A rfl rfl fun A=>C9 [1,2] (Vl ws cw s.p (by first|exact hk|exact CU hk|exact DC hk|exact Cs hk|(show _≤_;omega)) hn) A rfl fun A=>N9 9 A rfl rfl fun A=>R9 A rfl h0 rfl (by unfold KH;rw [if_pos (show(ws.getD s.p Ad).kind=1 from h1),if_neg (show¬Et [[120],[121],[122]] (ws.getD s.p Ad).text<0 from h2)]<;>rfl) (by unfold Cy;rw [if_pos (show(ws.getD s.p Ad).kind=1 from h1),if_neg (show¬Et [[120],[121],[122]] (ws.getD s.p Ad).text<0 from h2)]<;>rfl)))
theorem aW (g:Lg)(L:List Rw)(c:Nat)(ws:List Tk)(cw:Nat)(s:Ps)(hk:s.p≤ws.length)(hn:ws.length≤1000000)(hw:MI ws):Fn Tryz.prog 253 [.ptr 0 0] [some (.blk (Oj g L.length c s.ins s.lab 1 4)),some (.blk [.ptr 2 0,.int .i64 s.e,.int .i64 s.a]),some (.blk [.sl 3 ws.length cw,.int .i64 ((s.p:Nat):Int)]),some (EY ws),some (EJ L)] (Rt (.int .i64 (KH ws s.as [g.r0,g.r1,g.r2,g.r3,g.r4,g.r5,g.r6,g.r7])) [some (.blk (Oj g L.length c ((s.wa (Cy ws s.as [g.r0,g.r1,g.r2,g.r3,g.r4,g.r5,g.r6,g.r7])).ins) ((s.wa (Cy ws s.as [g.r0,g.r1,g.r2,g.r3,g.r4,g.r5,g.r6,g.r7])).lab) 1 4)),some (.blk [.ptr 2 0,.int .i64 ((s.wa (Cy ws s.as [g.r0,g.r1,g.r2,g.r3,g.r4,g.r5,g.r6,g.r7])).e),.int .i64 ((s.wa (Cy ws s.as [g.r0,g.r1,g.r2,g.r3,g.r4,g.r5,g.r6,g.r7])).a)]),some (.blk [.sl 3 ws.length cw,.int .i64 (((s.wa (Cy ws s.as [g.r0,g.r1,g.r2,g.r3,g.r4,g.r5,g.r6,g.r7])).p:Nat):Int)]),some (EY ws),some (EJ L)]):=
 AG (n:=13) (by kernel_rfl) Tryz.func253 rfl rfl rfl fun G w a h0 A=>N9 6 A rfl rfl fun A=>Aq hX BK [] [(9,.int .i64 (KH ws s.as [g.r0,g.r1,g.r2,g.r3,g.r4,g.r5,g.r6,g.r7]),[some (.blk (Oj g L.length c ((Ps.wa s (Cy ws s.as [g.r0,g.r1,g.r2,g.r3,g.r4,g.r5,g.r6,g.r7])).ins) ((Ps.wa s (Cy ws s.as [g.r0,g.r1,g.r2,g.r3,g.r4,g.r5,g.r6,g.r7])).lab) 1 4)),some (.blk [.ptr 2 0,.int .i64 ((Ps.wa s (Cy ws s.as [g.r0,g.r1,g.r2,g.r3,g.r4,g.r5,g.r6,g.r7])).e),.int .i64 ((Ps.wa s (Cy ws s.as [g.r0,g.r1,g.r2,g.r3,g.r4,g.r5,g.r6,g.r7])).a)]),some (.blk [.sl 3 ws.length cw,.int .i64 (((Ps.wa s (Cy ws s.as [g.r0,g.r1,g.r2,g.r3,g.r4,g.r5,g.r6,g.r7])).p:Nat):Int)]),some (EY ws),some (EJ L)])] A rfl rfl rfl rfl (by kernel_rfl) ⟨DV [0,1,2,3,4] (UP g L c ws cw s (by first|exact hk|exact CU hk|exact DC hk|exact Cs hk|(show _≤_;omega)) hn hw) rfl rfl rfl rfl rfl rfl rfl,trivial⟩ trivial fun A=>N9 2 A rfl rfl fun A=>R9 A rfl h0 rfl rfl rfl
theorem Pb (g:Lg)(L:List Rw)(c:Nat)(ws:List Tk)(cw:Nat)(s:Ps)(hk:s.p≤ws.length)(hn:ws.length≤1000000)(hw:MI ws):Fn Tryz.prog 280 [.ptr 0 0] [some (.blk (Oj g L.length c s.ins s.lab 1 4)),some (.blk [.ptr 2 0,.int .i64 s.e,.int .i64 s.a]),some (.blk [.sl 3 ws.length cw,.int .i64 ((s.p:Nat):Int)]),some (EY ws),some (EJ L)] (Rt (.bool ((ws.getD s.p Ad).kind==2)) [some (.blk (Oj g L.length c s.ins s.lab 1 4)),some (.blk [.ptr 2 0,.int .i64 s.e,.int .i64 s.a]),some (.blk [.sl 3 ws.length cw,.int .i64 ((s.p:Nat):Int)]),some (EY ws),some (EJ L)]):=
 AG (n:=19) (by kernel_rfl) Tryz.func280 rfl rfl rfl fun G w a h0 A=>N9 14 A rfl rfl fun A=>C9 [2,3] (KF ws cw s.p (by first|exact hk|exact CU hk|exact DC hk|exact Cs hk|(show _≤_;omega)) hn) A rfl fun A=>N9 17 A rfl rfl fun A=>R9 A rfl h0 rfl rfl rfl
def R6 (g:Lg)(ws:List Tk)(s:As):As:=if g.im=[]then UL ws s else UL ws (HJ ws s g.im)
def fI (g:Lg)(ws:List Tk)(s:As):Int:=if g.im=[]then UK ws s.p else UK ws (HJ ws s g.im).p
theorem UR {g:Lg}{ws:List Tk}{s:As}(h:s.p≤ws.length):(R6 g ws s).p≤ws.length:=by
 unfold R6;split
 ·exact Cs h
 ·exact Cs (DC h)
structure Cn where (k t r l v:Int)
def Cn.z:Cn:=⟨0,0,0,0,0⟩
def cc (c:Cn):List SV:=[.int .i64 c.k,.int .i64 c.t,.int .i64 c.r,.int .i64 c.l,.int .i64 c.v]
def GI (k:Int)(wf:Nat→Int):Nat→List Cn→Nat×List Cn
 |0,ns=>(0,ns)
 |n+1,ns=>if wf n≤k then GI k wf n (ns++[⟨wf n,0,0,0,0⟩])else(n+1,ns)
structure cP (k:Int)(wf:Nat→Int)(m:Nat)(ns:List Cn)(j:Nat)(cur:List Cn):Prop where
 eq:GI k wf j cur=GI k wf m ns
 le:j≤m
 ln:cur.length+j≤ns.length+m
section
variable {k:Int}{wf:Nat→Int}{m:Nat}{ns cur:List Cn}{j:Nat}
theorem cP.i0:cP k wf m ns m ns:=⟨rfl,Nat.le_refl _,Nat.le_refl _⟩
theorem cP.no (h:cP k wf m ns j cur)(hc:(decide ((j:Int)>0)&&decide (wf ((j:Int) - 1).toNat≤k))=false):GI k wf m ns=(j,cur):=by
 rw [←h.eq]
 cases j with
 |zero=>rfl
 |succ i=>
  have e:(((i+1:Nat):Int) - 1).toNat=i:=by omega
  rw [e,decide_eq_true (by omega:((i+1:Nat):Int)>0),Bool.true_and]at hc
  unfold GI
  rw [if_neg (of_decide_eq_false hc)]
end
end Go.Proofs.YtbbdanhpphlbpaaGreatDoor
namespace Go.Proofs.YtbbdanhpphlbpaaGreatDoor.Mc
open Go.RowKit
set_option simprocs false
abbrev _root_.Go.Proofs.YtbbdanhpphlbpaaGreatDoor.EI (ar:Int)(nm:List UInt8)(mi r:Nat→Int)(c:SV)(q:Int)(k:SV):List SV:=[.int .i64 ar,.str nm,.int .i64 (mi 0),.int .i64 (mi 1),.int .i64 (mi 2),.int .i64 (r 0),.int .i64 (r 1),.int .i64 (r 2),.int .i64 (r 3),.int .i64 (r 4),.int .i64 (r 5),.int .i64 (r 6),.int .i64 (r 7),.int .i64 (r 8),.int .i64 (r 9),.int .i64 (r 10),.int .i64 (r 11),.int .i64 (r 12),.int .i64 (r 13),.int .i64 (r 14),.int .i64 (r 15),.int .i64 (r 16),.int .i64 (r 17),.int .i64 (r 18),.int .i64 (r 19),.int .i64 (r 20),.int .i64 (r 21),.int .i64 (r 22),.int .i64 (r 23),c,.int .i64 q,k]
abbrev _root_.Go.Proofs.YtbbdanhpphlbpaaGreatDoor.aX (ar:Int)(nm:List UInt8)(mi r:Nat→Int):List SV:=[.int .i64 ar,.str nm,.int .i64 (mi 0),.int .i64 (mi 1),.int .i64 (mi 2),.int .i64 (r 0),.int .i64 (r 1),.int .i64 (r 2),.int .i64 (r 3),.int .i64 (r 4),.int .i64 (r 5),.int .i64 (r 6),.int .i64 (r 7),.int .i64 (r 8),.int .i64 (r 9),.int .i64 (r 10),.int .i64 (r 11),.int .i64 (r 12),.int .i64 (r 13),.int .i64 (r 14),.int .i64 (r 15),.int .i64 (r 16),.int .i64 (r 17),.int .i64 (r 18),.int .i64 (r 19),.int .i64 (r 20),.int .i64 (r 21),.int .i64 (r 22),.int .i64 (r 23)]
def cQ (cs:List AD)(kd:List Cn)(ar:Int)(nm:List UInt8)(mi r:Nat→Int)(qu:Int):SV→World→World→Prop:=fun x w w'=>∃(ao1 ao2:Option Addr) (cp1 cp2:Nat) (cs':List AD),x=.agg (EI ar nm mi r (.sla ao1 cs.length cp1) qu (.sla ao2 kd.length cp2))∧cs'.length=cs.length∧(∀k,k<cs.length→(cs'.getD k AD.z).l=(cs.getD k AD.z).l)∧∀ks,(∀b,ks.contains b=true→b<w.heap.size)→AK ao1 1 cs.length (fun zz=>He (cs'.getD zz AD.z)) w' ks∧AH cs' w' ks
theorem Ok {ao:Option Addr}{s n N:Nat}{f:Nat→List SV}{w:World}{ks:List Nat}(h:AK ao s n f w ks)(hf:∀q:Addr,ao=some q→N≤q.block){ks':List Nat}(hk:∀b,ks'.contains b=true→b<N):AK ao s n f w ks':=by
 refine⟨h.1,?_⟩
 rcases h.2 with h|⟨b,o,e1,e2,e3,e4⟩
 ·exact .inl h
 ·refine .inr ⟨b,o,e1,e2,?_,e4⟩
  cases hq:ks'.contains b with
  |false=>rfl
  |true=>have h1:=hk b hq;have h2:N≤b:=hf _ e1;omega
theorem Xp {cs:List AD}{kd:List Cn}{ar:Int}{nm:List UInt8}{mi r:Nat→Int}{qu:Int}{z:List AD×Nat}{w w':World}{ks ks1:List Nat}{ao1 ao2:Option Addr}{cp1 cp2:Nat}(kT:∀c∈cs,E6 c.l)(hz:NJ cs w.heap.size z w' ks)(mD:z.2=cs.length)(hl:AK ao1 1 z.2 (fun zz=>He (z.1.getD zz AD.z)) w' ks1)(hf:∀q:Addr,ao1=some q→w.heap.size≤q.block):cQ cs kd ar nm mi r qu (.agg (EI ar nm mi r (.sla ao1 z.2 cp1) qu (.sla ao2 kd.length cp2))) w w':=by
 have hm:=hz.m
 refine⟨ao1,ao2,cp1,cp2,z.1,by rw [mD],by omega,fun k hk=>hz.eq k (by omega),fun ks' hk=>⟨by rw [←mD];exact Ok hl hf hk,fun c hc=>Ok (hz.at_ c hc).1 (hz.at_ c hc).2 hk⟩⟩
theorem fJ {n:Nat}{T:List (Nat×SV)}{H:Hp}{G0:Gr}{w0:World}{G:Gr}{a:Act}{w:World}(B:Sy n T H [] G0 w0 G a w){ao:Option Addr}(h:∀q:Addr,ao=some q→(keys H G).contains q.block=true∨w.heap.size≤q.block):∀q:Addr,ao=some q→w0.heap.size≤q.block:=fun q hq=>(h q hq).elim (fun h=>(B.keys_own _ h).elim (fun h=>by cases h) id) (fun h=>Nat.le_trans B.mix.size h)
abbrev Vn:List SV:=[.z9,.str [],.z9,.z9,.z9,.z9,.z9,.z9,.z9,.z9,.z9,.z9,.z9,.z9,.z9,.z9,.z9,.z9,.z9,.z9,.z9,.z9,.z9,.z9,.z9,.z9,.z9,.z9,.z9,.sla none 0 0,.z9,.sla none 0 0]
abbrev _root_.Go.Proofs.YtbbdanhpphlbpaaGreatDoor.A9 (kd:List Cn):A6:=.lst 5 kd.length (fun zz=>cc (kd.getD zz Cn.z))
abbrev _root_.Go.Proofs.YtbbdanhpphlbpaaGreatDoor.BJ (ar:Int)(nm:List UInt8)(mi r:Nat→Int)(cs:List AD)(cx:Nat)(qu:Int)(kd:List Cn)(ck:Nat):List SV:=EI ar nm mi r (.sl 0 cs.length cx) qu (.sl 1 kd.length ck)
theorem R7 (cs:List AD)(cx:Nat)(kd:List Cn)(ck:Nat)(ar:Int)(nm:List UInt8)(mi r:Nat→Int)(qu:Int)(kE:Km cs=0)(hk:kd.length≤1000000):MS Tryz.prog 11 [.agg (BJ ar nm mi r cs cx qu kd ck)] [some (Am cs),some (A9 kd)] [] (fun w=>AH cs w []) (cQ cs kd ar nm mi r qu):=
 FN (n:=32) (by kernel_rfl) Tryz.func11 rfl rfl rfl (fun i e h=>by match i,h with|0,h=>cases h;rfl|1,h=>cases h;rfl|i+2,h=>cases h) fun G w a h0 ho hp A=>have kT:=EE kE;N9 26 A rfl rfl fun A=>ZT 4 64 1 (fun zz=>He (([]:List AD).getD zz AD.z)) (aX ar nm mi r) [.int .i64 qu,.sl 1 kd.length ck] A rfl (fun z=>⟨_,rfl,rfl⟩) rfl fun A=>Ew (fun(z:List AD×Nat)=>[(1,.ptr 2 0),(2,.ptr 3 0),(3,.ptr 4 0),(4,.int .i64 ((z.2:Nat):Int))]) (fun(z:List AD×Nat)=>[some (Am cs),some (A9 kd),some (.blk (BJ ar nm mi r cs cx qu kd ck)),some (.blk Vn),some (.blk (EI ar nm mi r (.sl 5 z.2 0) qu (.sl 1 kd.length ck))),some (.row 64 1 z.2 0 (fun zz=>He (z.1.getD zz AD.z)))]) (fun z w' ks=>NJ cs w.heap.size z w' ks) (fun z=>cs.length - z.2) ([],0) ((A.cut [1,2,3,4] rfl).mv 2 [2,3,4,5] rfl rfl rfl rfl h0.symm) NJ.i0 fun z G a w hz lI A B=>have oL:=h0;have B0:=B;have h0:=B.mem.len;N9 10 A rfl rfl fun A=>AL 11 A rfl
   (fun h1 A=>N9 5 A rfl rfl fun A=>have i7:z.2<cs.length:=(by omega);have jP:=(AH.ok.now B hp).at i7;have A:=A.cut [1,2,3,4] rfl;dU 10 8 BK [.ptr 4 29,.sl 5 z.2 0,.sl 6 0 0,.ptr 2 29,.sl 0 cs.length cx,.int .i64 ((z.2:Nat):Int),.el 0 1 ((z.2:Nat):Int) 0,.sla ((cs.getD ((((z.2:Nat):Int)).toNat) AD.z).ao) ((cs.getD ((((z.2:Nat):Int)).toNat) AD.z).l.length) ((cs.getD ((((z.2:Nat):Int)).toNat) AD.z).cp),.sl 7 ((cs.getD ((((z.2:Nat):Int)).toNat) AD.z).l.length) 0,.sl 8 1 1,.tup [],.tup [],.tup []] [2,8,9] [6,7,8] 3 [([],[6,7,8],[some (Am cs),some (A9 kd),some (.blk (BJ ar nm mi r cs cx qu kd ck)),some (.blk Vn),some (.blk (EI ar nm mi r (.sl 5 z.2 0) qu (.sl 1 kd.length ck))),some (.row 64 1 z.2 0 (fun zz=>He (z.1.getD zz AD.z))),none,none,none]),([2],[7,8],[some (Am cs),some (A9 kd),some (.blk (BJ ar nm mi r cs cx qu kd ck)),some (.blk Vn),some (.blk (EI ar nm mi r (.sl 5 z.2 0) qu (.sl 1 kd.length ck))),some (.row 64 1 z.2 0 (fun zz=>He (z.1.getD zz AD.z))),some (.row 63 17 0 0 (fun _=>[.z9,.z9,.z9,.z9,.z9,.z9,.z9,.z9,.z9,.z9,.ff,.ff,.ff,.z9,.z9,.z9,.ff])),none,none]),([2,8],[8],[some (Am cs),some (A9 kd),some (.blk (BJ ar nm mi r cs cx qu kd ck)),some (.blk Vn),some (.blk (EI ar nm mi r (.sl 5 z.2 0) qu (.sl 1 kd.length ck))),some (.row 64 1 z.2 0 (fun zz=>He (z.1.getD zz AD.z))),none,some (.row 63 17 ((cs.getD ((((z.2:Nat):Int)).toNat) AD.z).l.length) 0 (fun zz=>CD ((cs.getD ((((z.2:Nat):Int)).toNat) AD.z).l.getD zz In.z))),none]),([2,8,9],[],[some (Am cs),some (A9 kd),some (.blk (BJ ar nm mi r cs cx qu kd ck)),some (.blk Vn),some (.blk (EI ar nm mi r (.sl 5 z.2 0) qu (.sl 1 kd.length ck))),some (.row 64 1 z.2 0 (fun zz=>He (z.1.getD zz AD.z))),none,some (.row 63 17 ((cs.getD ((((z.2:Nat):Int)).toNat) AD.z).l.length) 0 (fun zz=>CD ((cs.getD ((((z.2:Nat):Int)).toNat) AD.z).l.getD zz In.z))),some (.blk [.sl 7 ((cs.getD ((((z.2:Nat):Int)).toNat) AD.z).l.length) 0])])] [[true,true,true,true,true,true,true,true,false,false],[true,true,false,true,true,true,true,true,true,false],[true,true,false,true,true,true,true,false,false,true],[true,true,false,true,true,true,true,false,false,false]] A rfl rfl rfl rfl (by kernel_rfl) rfl (by kernel_rfl) rfl (by kernel_rfl) (by kernel_rfl) ⟨⟨iV 0 rfl rfl,⟨iV 0 rfl rfl,⟨⟨_,_,_,_,1,rfl,rfl,rfl,rfl,Da 6 (X:=⟨_,true⟩) hX rfl rfl (Mt h0 rfl) rfl rfl rfl rfl⟩,⟨iV 0 rfl rfl,⟨iV 0 rfl rfl,⟨iV 0 rfl rfl,⟨iV 0 rfl (iU (by have:=hz.le;omega)<|iT),⟨iV 0 rfl (iU (by have:=hz.le;omega)<|iT),trivial⟩⟩⟩⟩⟩⟩⟩⟩,⟨⟨iV 1 rfl rfl,⟨iV 1 rfl rfl,⟨iV 1 rfl rfl,⟨iV 1 rfl rfl,⟨iV 1 rfl rfl,⟨iV 1 rfl (iU (by have:=hz.le;omega)<|iT),⟨iV 1 rfl (iU (by have:=hz.le;omega)<|iT),⟨⟨_,_,_,_,2,rfl,rfl,rfl,rfl,Mx 7 (dW hX rfl rfl rfl rfl rfl rfl rfl rfl jP (Nat.le_trans (Lw kT.2 i7).n (by decide)) (fun z=>⟨_,rfl,rfl⟩) (fun k hk=>⟨_,rfl,iT⟩)) rfl rfl (Mt h0 rfl) rfl rfl rfl rfl⟩,trivial⟩⟩⟩⟩⟩⟩⟩⟩,⟨⟨iV 2 rfl rfl,⟨iV 2 rfl rfl,⟨iV 2 rfl rfl,⟨iV 2 rfl rfl,⟨iV 2 rfl rfl,⟨iV 2 rfl (iU (by have:=hz.le;omega)<|iT),⟨⟨_,_,_,_,3,rfl,rfl,rfl,rfl,Da 8 (X:=⟨_,true⟩) hX rfl rfl (Mt h0 rfl) rfl rfl rfl rfl⟩,trivial⟩⟩⟩⟩⟩⟩⟩,⟨⟨iV 3 rfl rfl,⟨iV 3 rfl rfl,⟨iV 3 rfl rfl,⟨iV 3 rfl rfl,⟨iV 3 rfl rfl,⟨iV 3 rfl (iU (by have:=hz.le;omega)<|iT),trivial⟩⟩⟩⟩⟩⟩,trivial⟩⟩⟩⟩ fun fuel listed {_ _ _} lF uD A=>Tp (k:=3) lF uD fun f=>dX 7 8 (fun ao' cp'=>[some (Am cs),some (A9 kd),some (.blk (BJ ar nm mi r cs cx qu kd ck)),some (.blk Vn),some (.blk (EI ar nm mi r (.sl 5 z.2 0) qu (.sl 1 kd.length ck))),some (.row 64 1 z.2 0 (fun zz=>He (z.1.getD zz AD.z))),none,none,some (.blk [.sla ao' ((cs.getD ((((z.2:Nat):Int)).toNat) AD.z).l.length) cp'])]) A rfl rfl rfl (fun _ _=>rfl) fun ao' cp' A hl l9=>have hz:=NJ.ok.now A hz;have l9:∀q:Addr,ao'=some q→_≤q.block:=fun q hq=>(l9 q hq).elim (fun h=>(B.keys_own _ h).elim (fun h=>by cases h) id) (fun h=>Nat.le_trans B.mix.size h);have B:=B.trans A;have A:=B.base;have h0:=B.mem.len;AM (rs:=[10]) (by kernel_rfl) (by decide) (Bg ⟨En (x:=.sl 9 (z.2+1) 0) (H':=[some (Am cs),some (A9 kd),some (.blk (BJ ar nm mi r cs cx qu kd ck)),some (.blk Vn),some (.blk (EI ar nm mi r (.sl 5 z.2 0) qu (.sl 1 kd.length ck))),none,none,none,some (.blk [.sla ao' ((cs.getD ((((z.2:Nat):Int)).toNat) AD.z).l.length) cp']),some (.row 64 1 (z.2+1) 0 (fun zz=>He ((z.1++[(⟨ao',(cs.getD (((z.2:Nat):Int)).toNat AD.z).l,cp'⟩:AD)]).getD zz AD.z)))]) rfl A rfl (Ll (i:=5) hX (z.2+1) (fun zz=>He ((z.1++[(⟨ao',(cs.getD (((z.2:Nat):Int)).toNat AD.z).l,cp'⟩:AD)]).getD zz AD.z)) rfl rfl rfl rfl (by omega) rfl (fun k hk=>by show He _=He _;rw [Ww hz.m hk]) (by show He _=_;rw [Wx hz.m]<;>rfl) (fun z=>⟨_,rfl,rfl⟩)) fun A=>AM (rs:=[11]) (by kernel_rfl) (by decide) (Bg ⟨CM (.ptr 4 29) rfl A rfl rfl fun A=>AM (rs:=[12]) (by kernel_rfl) (by decide) (Bg ⟨En (x:=.tup []) (H':=[some (Am cs),some (A9 kd),some (.blk (BJ ar nm mi r cs cx qu kd ck)),some (.blk Vn),some (.blk (EI ar nm mi r (.sl 9 (z.2+1) 0) qu (.sl 1 kd.length ck))),none,none,none,some (.blk [.sla ao' ((cs.getD ((((z.2:Nat):Int)).toNat) AD.z).l.length) cp']),some (.row 64 1 (z.2+1) 0 (fun zz=>He ((z.1++[(⟨ao',(cs.getD (((z.2:Nat):Int)).toNat AD.z).l,cp'⟩:AD)]).getD zz AD.z)))]) rfl A rfl (Aj (X:=⟨_,true⟩) (out:=.upd 4 (EI ar nm mi r (.sl 9 (z.2+1) 0) qu (.sl 1 kd.length ck)) _) hX rfl rfl) fun A=>Dh (by kernel_rfl) (N9 7 A rfl (iU (by have:=hz.le;omega)<|iT) fun A=>⟨((z.1++[(⟨ao',(cs.getD (((z.2:Nat):Int)).toNat AD.z).l,cp'⟩:AD)]),z.2+1),_,(by show cs.length - (z.2+1)<cs.length - z.2;omega),((NJ.ok.now A hz).nx i7 (AK.ok.now A hl) l9).mv (m:=[0,1,2,3,4,9]) A.mem.len rfl rfl,(((B.trans A).cut [1,2,3,4] rfl).mv 2 [2,3,4,9] rfl rfl rfl rfl oL.symm)⟩),CF⟩),CF⟩),CF⟩))
   (fun h1 A=>N9 4 A rfl rfl fun A=>have mD:z.2=cs.length:=(by have:=hz.le;omega);N9 4 A rfl rfl fun A=>WR hX kd.length (fun zz=>cc (kd.getD zz Cn.z)) A rfl rfl rfl rfl (Nat.le_refl _) (by omega) hk (by omega) (fun k hk=>by omega) (fun k hk=>by show cc _=cc _;rw [Nat.zero_add]) (fun z=>⟨_,rfl,rfl⟩) (fun k hk=>⟨_,rfl,iT⟩) fun A=>N9 11 A rfl rfl fun A=>Wq 5 3 (aX ar nm mi r) [.int .i64 qu,.sl 7 kd.length 0] (fun ao1 cp1=>[some (Am cs),some (A9 kd),some (.blk (BJ ar nm mi r cs cx qu kd ck)),some (.blk (EI ar nm mi r (.sla ao1 z.2 cp1) qu (.sl 7 kd.length 0))),some (.blk (EI ar nm mi r (.sl 5 z.2 0) qu (.sl 7 kd.length 0))),none,none,some (.row 66 5 kd.length 0 (fun zz=>cc (kd.getD zz Cn.z)))]) A rfl rfl rfl (fun _ _=>rfl) fun ao1 cp1 A kU nP=>have B:=B.trans A;have hz:=NJ.ok.now A hz;have A:=B.base;Wq 7 3 [.int .i64 ar,.str nm,.int .i64 (mi 0),.int .i64 (mi 1),.int .i64 (mi 2),.int .i64 (r 0),.int .i64 (r 1),.int .i64 (r 2),.int .i64 (r 3),.int .i64 (r 4),.int .i64 (r 5),.int .i64 (r 6),.int .i64 (r 7),.int .i64 (r 8),.int .i64 (r 9),.int .i64 (r 10),.int .i64 (r 11),.int .i64 (r 12),.int .i64 (r 13),.int .i64 (r 14),.int .i64 (r 15),.int .i64 (r 16),.int .i64 (r 17),.int .i64 (r 18),.int .i64 (r 19),.int .i64 (r 20),.int .i64 (r 21),.int .i64 (r 22),.int .i64 (r 23),.sla ao1 z.2 cp1,.int .i64 qu] [] (fun ao2 cp2=>[some (Am cs),some (A9 kd),some (.blk (BJ ar nm mi r cs cx qu kd ck)),some (.blk (EI ar nm mi r (.sla ao1 z.2 cp1) qu (.sla ao2 kd.length cp2))),some (.blk (EI ar nm mi r (.sl 5 z.2 0) qu (.sl 7 kd.length 0))),none,none,none]) A rfl rfl rfl (fun _ _=>rfl) fun ao2 cp2 A nI pZ=>kV (J:=cQ cs kd ar nm mi r qu) hX (B.trans A) rfl rfl rfl rfl (Xp kT.2 (NJ.ok.now A hz) mD (AK.ok.now A kU) (fJ B0 nP)))
end Go.Proofs.YtbbdanhpphlbpaaGreatDoor.Mc
namespace Go.Proofs.YtbbdanhpphlbpaaGreatDoor.Mc
open Go.RowKit
set_option simprocs false
theorem R8 {ao:Option Addr}{s n:Nat}{f:Nat→List SV}{w:World}{ks ks':List Nat}(h:AK ao s n f w ks)(hk:∀q:Addr,n≠0→ao=some q→ks'.contains q.block=false):AK ao s n f w ks':=by
 refine⟨h.1,?_⟩
 rcases h.2 with h2|⟨b,o,e1,e2,e3,e4⟩
 ·exact .inl h2
 ·by_cases hn:n=0
  ·exact .inl hn
  ·exact .inr ⟨b,o,e1,e2,hk _ hn e1,e4⟩
theorem LA {ao:Option Addr}{s n:Nat}{f:Nat→List SV}{w:World}{ks:List Nat}(h:AK ao s n f w ks)(hn:n≠0){q:Addr}(hq:ao=some q):ks.contains q.block=false∧q.block<w.heap.size:=by
 rcases h.2 with h2|⟨b,o,e1,e2,e3,e4⟩
 ·exact absurd h2 hn
 ·rw [hq]at e1
  cases e1
  exact⟨e3,e2⟩
theorem iK {vs:List Value}(h:vs.length=32):∃tv:Nat→Value,vs=[tv 0,tv 1,tv 2,tv 3,tv 4,tv 5,tv 6,tv 7,tv 8,tv 9,tv 10,tv 11,tv 12,tv 13,tv 14,tv 15,tv 16,tv 17,tv 18,tv 19,tv 20,tv 21,tv 22,tv 23,tv 24,tv 25,tv 26,tv 27,tv 28,tv 29,tv 30,tv 31]:=by
 refine⟨fun k=>vs.getD k undef,?_⟩
 apply List.ext_getElem
 ·simpa using h
 ·intro k h1 h2
  have e:vs.getD k undef=vs[k]:=by rw [List.getD_eq_getElem?_getD,List.getElem?_eq_getElem h1,Option.getD_some]
  rw [←e]
  have hk:k<32:=by omega
  have key:∀f:Nat→Value,∀k:Nat,k<32→[f 0,f 1,f 2,f 3,f 4,f 5,f 6,f 7,f 8,f 9,f 10,f 11,f 12,f 13,f 14,f 15,f 16,f 17,f 18,f 19,f 20,f 21,f 22,f 23,f 24,f 25,f 26,f 27,f 28,f 29,f 30,f 31][k]?=some (f k):=fun f k hk=>by
   rw [show [f 0,f 1,f 2,f 3,f 4,f 5,f 6,f 7,f 8,f 9,f 10,f 11,f 12,f 13,f 14,f 15,f 16,f 17,f 18,f 19,f 20,f 21,f 22,f 23,f 24,f 25,f 26,f 27,f 28,f 29,f 30,f 31]=(List.range 32).map f from rfl,List.getElem?_map,List.getElem?_range hk];rfl
  have h3:=key (fun k=>vs.getD k undef) k hk
  exact(Option.some.inj ((List.getElem?_eq_getElem h2).symm.trans h3)).symm
def cR (cs:List AD)(rg:Nat→Rg)(mi:Rg):SV→World→World→Prop:=fun x w w'=>∃(tv:Nat→Value) (ra:Option Addr) (rc:Nat) (tr:List Tr) (DL:Loc),x=E3 DL.b DL.pre.length∧w.heap.size≤DL.b∧DR w' DL.b (DL.pre++dV tv mi cs.length ra rc++DL.post).toArray DL.t∧JT cs (Ac cs rg) tr w.heap.size w' [DL.b]∧tr.length=cs.length∧∀ks,(∀b,ks.contains b=true→b<w.heap.size∨b=DL.b∨(Di tr).contains b=true)→AK ra 1 cs.length (Oa tr) w' ks
section
variable {n:Nat}{T:List (Nat×SV)}{H H2:Hp}{G0 G0':Gr}{w0:World}{G:Gr}{a a':Act}{w:World}{cs:List AD}{rg:Nat→Rg}{mi:Rg}{z:List Tr}
theorem Xq {l:List SV}{ra:Option Addr}{rc:Nat}(p t:Nat)(A:Sy n T H [] G0 w0 G a w)(hp:lg H p=some (some (.blk (l++[.sla ra cs.length rc,.int .i64 (mi 0),.int .i64 (mi 1),.int .i64 (mi 2),.sla none 0 0,.sla none 0 0,.sla none 0 0,.ff]))))(hl:l.length=32)(ht:look T t=some (.ptr p 0))(jt:JT cs (Ac cs rg) z w0.heap.size w (keys H G))(hz:z.length=cs.length)(jS:AK ra 1 cs.length (Oa z) w (keys H G))(hf:∀q:Addr,cs.length≠0→ra=some q→w0.heap.size≤q.block∧(Di z).contains q.block=false):
  ∃M:Loc,Sy n ((t,E3 M.b M.pre.length)::T) H [] G0 w0 G a w∧cR cs rg mi (E3 M.b M.pre.length) w0 w:=by
 rw [Ah]at hp
 obtain⟨M,vs,p1,p2,p3⟩:=A.mem.ent p _ hp
 have pG:G[p]?=some (some M):=by
  cases hq:G[p]? with
  |none=>rw [hq]at p1;cases p1
  |some q=>rw [hq]at p1;simp only [Option.getD_some]at p1;rw [p1]
 obtain⟨us,ws,q1,q2,q3⟩:=Eo p2
 have hw:ws=[.slice ra cs.length rc,.int .i64 (mi 0),.int .i64 (mi 1),.int .i64 (mi 2),.slice none 0 0,.slice none 0 0,.slice none 0 0,.bool false]:=by
  have e:AE G [.sla ra cs.length rc,.int .i64 (mi 0),.int .i64 (mi 1),.int .i64 (mi 2),.sla none 0 0,.sla none 0 0,.sla none 0 0,.ff]=some [.slice ra cs.length rc,.int .i64 (mi 0),.int .i64 (mi 1),.int .i64 (mi 2),.slice none 0 0,.slice none 0 0,.slice none 0 0,.bool false]:=rfl
  rw [e]at q2;exact(Option.some.inj q2).symm
 obtain⟨tv,xW⟩:=iK (vs:=us) (by rw [Av q1,hl])
 have hv:vs=dV tv mi cs.length ra rc:=by rw [q3,hw,xW];rfl
 subst hv
 have kX:(keys H G).contains M.b=true:=mem_keys.2 ⟨p,_,M,hp,rfl,pG,rfl⟩
 have own:w0.heap.size≤M.b:=(A.own _ _ _ hp rfl pG).elim (fun h=>by cases h) id
 refine⟨M,A.slotEq t ht (by unfold den;rw [pG];rfl),tv,ra,rc,z,M,rfl,own,p3,?_,hz,fun ks hk=>R8 jS fun q hn hq=>?_⟩
 ·refine JT.ok _ _ _ _ jt (CR.refl _ _) fun b hb=>.inl ?_
  have:b=M.b:=by simpa using hb
  rw [this];exact kX
 ·obtain⟨g1,g2⟩:=hf q hn hq
  cases hc:ks.contains q.block with
  |false=>rfl
  | true=>
   rcases hk _ hc with r|r|r
   ·omega
   ·have:=(LA jS hn hq).1
    rw [r,kX]at this;cases this
   ·rw [g2]at r;cases r
theorem Xr (B:Sy n T H [] G0 w0 G a w)(jt:JT cs (Ac cs rg) z w0.heap.size w (keys H G)){ra:Option Addr}{f:Nat→List SV}{m:Nat}{ks:List Nat}(hl:AK ra 1 m f w ks)(hf:∀q:Addr,ra=some q→(keys H G).contains q.block=true∨w.heap.size≤q.block):∀q:Addr,m≠0→ra=some q→w0.heap.size≤q.block∧(Di z).contains q.block=false:=fun q hm hq=>by
 have h1:=(LA hl hm hq).2
 have h2:(keys H G).contains q.block=true:=(hf q hq).elim id (fun h=>by omega)
 refine⟨(B.keys_own _ h2).elim (fun h=>by cases h) id,?_⟩
 cases hc:(Di z).contains q.block with
 |false=>rfl
 |true=>
  obtain⟨k,hk,hb⟩:=Cp.1 hc
  rw [(jt.lo k hk _ hb).2]at h2;cases h2
end
theorem SA {cs:List AD}{kd:List Cn}{ar:Int}{nm:List UInt8}{mi r:Nat→Int}{qu:Int}{cx ck k:Nat}(h:k<3):CZ ⟨X,true⟩ 23 (BJ ar nm mi r cs cx qu kd ck) (5+k*8)=some (.agg [.int .i64 (r (8*k+0)),.int .i64 (r (8*k+1)),.int .i64 (r (8*k+2)),.int .i64 (r (8*k+3)),.int .i64 (r (8*k+4)),.int .i64 (r (8*k+5)),.int .i64 (r (8*k+6)),.int .i64 (r (8*k+7))]):=by
 match k,h with
 |0,_=>rfl
 |1,_=>rfl
 |2,_=>rfl
theorem aY (ar:Int)(nm:List UInt8)(mi r:Nat→Int)(cs:List AD)(cx:Nat)(qu:Int)(kd:List Cn)(ck:Nat)(kT:∀c∈cs,E6 c.l)(kP:cs.length≤3):MS Tryz.prog 12 [.agg (BJ ar nm mi r cs cx qu kd ck),.ff] [some (Am cs),some (A9 kd)] [] (fun w=>AH cs w []) (cR cs (fun k j=>r (8*k+j)) mi):=
 FN (n:=45) (by kernel_rfl) Tryz.func12 rfl rfl rfl (fun i e h=>by match i,h with|0,h=>cases h;rfl|1,h=>cases h;rfl|i+2,h=>cases h) fun G w a h0 ho hp A=>have xX:=A.mem;N9 24 A rfl rfl fun A=>ZT 3 99 1 (Oa ([]:List Tr)) (BJ ar nm mi r cs cx qu kd ck) [.int .i64 (mi 0),.int .i64 (mi 1),.int .i64 (mi 2),.sla none 0 0,.sla none 0 0,.sla none 0 0,.ff] A rfl (fun z=>⟨_,rfl,rfl⟩) rfl fun A=>Ew (fun(z:List Tr)=>[(2,.ptr 2 0),(5,.ptr 3 0),(6,.int .i64 (z.length:Int))]) (fun(z:List Tr)=>[some (Am cs),some (A9 kd),some (.blk (BJ ar nm mi r cs cx qu kd ck)),some (.blk [.int .i64 ar,.str nm,.int .i64 (mi 0),.int .i64 (mi 1),.int .i64 (mi 2),.int .i64 (r 0),.int .i64 (r 1),.int .i64 (r 2),.int .i64 (r 3),.int .i64 (r 4),.int .i64 (r 5),.int .i64 (r 6),.int .i64 (r 7),.int .i64 (r 8),.int .i64 (r 9),.int .i64 (r 10),.int .i64 (r 11),.int .i64 (r 12),.int .i64 (r 13),.int .i64 (r 14),.int .i64 (r 15),.int .i64 (r 16),.int .i64 (r 17),.int .i64 (r 18),.int .i64 (r 19),.int .i64 (r 20),.int .i64 (r 21),.int .i64 (r 22),.int .i64 (r 23),.sl 0 cs.length cx,.int .i64 qu,.sl 1 kd.length ck,.sl 4 z.length 0,.int .i64 (mi 0),.int .i64 (mi 1),.int .i64 (mi 2),.sla none 0 0,.sla none 0 0,.sla none 0 0,.ff]),some (.row 99 1 z.length 0 (Oa z))]) (fun z w' ks=>JT cs (Ac cs (fun k j=>r (8*k+j))) z w.heap.size w' ks∧z.length≤cs.length) (fun z=>cs.length - z.length) [] ((A.cut [2,5,6] rfl).mv 2 [2,3,4] rfl rfl rfl rfl h0.symm) ⟨JT.i0,Nat.zero_le _⟩ fun z G a w hz lI A B=>have oL:=h0;have h0:=B.mem.len;N9 10 A rfl rfl fun A=>AL 18 A rfl
   (fun h1 A=>N9 6 A rfl rfl fun A=>have sU:z.length<cs.length:=(by omega);Hh BK [.ptr 2 29,.sl 0 cs.length cx,.int .i64 (z.length:Int),.el 0 1 (z.length:Int) 0,.sla ((cs.getD (((z.length:Int)).toNat) AD.z).ao) ((cs.getD (((z.length:Int)).toNat) AD.z).l.length) ((cs.getD (((z.length:Int)).toNat) AD.z).cp),.int .i64 (z.length:Int),.ptr 2 5,.ix (.ptr 2 5) 8 3 (z.length:Int) 0,.agg [.int .i64 (r (8*z.length+0)),.int .i64 (r (8*z.length+1)),.int .i64 (r (8*z.length+2)),.int .i64 (r (8*z.length+3)),.int .i64 (r (8*z.length+4)),.int .i64 (r (8*z.length+5)),.int .i64 (r (8*z.length+6)),.int .i64 (r (8*z.length+7))],.agg [.sla ((cs.getD (((z.length:Int)).toNat) AD.z).ao) ((cs.getD (((z.length:Int)).toNat) AD.z).l.length) ((cs.getD (((z.length:Int)).toNat) AD.z).cp),.int .i64 (r (8*z.length+0)),.int .i64 (r (8*z.length+1)),.int .i64 (r (8*z.length+2)),.int .i64 (r (8*z.length+3)),.int .i64 (r (8*z.length+4)),.int .i64 (r (8*z.length+5)),.int .i64 (r (8*z.length+6)),.int .i64 (r (8*z.length+7)),.z9,.sla none 0 0],.ptr 5 0,.ptr 5 0] [10] [5] 1 [([],[5],[some (Am cs),some (A9 kd),some (.blk (BJ ar nm mi r cs cx qu kd ck)),some (.blk [.int .i64 ar,.str nm,.int .i64 (mi 0),.int .i64 (mi 1),.int .i64 (mi 2),.int .i64 (r 0),.int .i64 (r 1),.int .i64 (r 2),.int .i64 (r 3),.int .i64 (r 4),.int .i64 (r 5),.int .i64 (r 6),.int .i64 (r 7),.int .i64 (r 8),.int .i64 (r 9),.int .i64 (r 10),.int .i64 (r 11),.int .i64 (r 12),.int .i64 (r 13),.int .i64 (r 14),.int .i64 (r 15),.int .i64 (r 16),.int .i64 (r 17),.int .i64 (r 18),.int .i64 (r 19),.int .i64 (r 20),.int .i64 (r 21),.int .i64 (r 22),.int .i64 (r 23),.sl 0 cs.length cx,.int .i64 qu,.sl 1 kd.length ck,.sl 4 z.length 0,.int .i64 (mi 0),.int .i64 (mi 1),.int .i64 (mi 2),.sla none 0 0,.sla none 0 0,.sla none 0 0,.ff]),some (.row 99 1 z.length 0 (Oa z)),none]),([10],[],[some (Am cs),some (A9 kd),some (.blk (BJ ar nm mi r cs cx qu kd ck)),some (.blk [.int .i64 ar,.str nm,.int .i64 (mi 0),.int .i64 (mi 1),.int .i64 (mi 2),.int .i64 (r 0),.int .i64 (r 1),.int .i64 (r 2),.int .i64 (r 3),.int .i64 (r 4),.int .i64 (r 5),.int .i64 (r 6),.int .i64 (r 7),.int .i64 (r 8),.int .i64 (r 9),.int .i64 (r 10),.int .i64 (r 11),.int .i64 (r 12),.int .i64 (r 13),.int .i64 (r 14),.int .i64 (r 15),.int .i64 (r 16),.int .i64 (r 17),.int .i64 (r 18),.int .i64 (r 19),.int .i64 (r 20),.int .i64 (r 21),.int .i64 (r 22),.int .i64 (r 23),.sl 0 cs.length cx,.int .i64 qu,.sl 1 kd.length ck,.sl 4 z.length 0,.int .i64 (mi 0),.int .i64 (mi 1),.int .i64 (mi 2),.sla none 0 0,.sla none 0 0,.sla none 0 0,.ff]),some (.row 99 1 z.length 0 (Oa z)),some (.blk [.sla ((cs.getD (((z.length:Int)).toNat) AD.z).ao) ((cs.getD (((z.length:Int)).toNat) AD.z).l.length) ((cs.getD (((z.length:Int)).toNat) AD.z).cp),.int .i64 (r (8*z.length+0)),.int .i64 (r (8*z.length+1)),.int .i64 (r (8*z.length+2)),.int .i64 (r (8*z.length+3)),.int .i64 (r (8*z.length+4)),.int .i64 (r (8*z.length+5)),.int .i64 (r (8*z.length+6)),.int .i64 (r (8*z.length+7)),.z9,.sla none 0 0])])] [[true,true,true,true,true,true,true,true,true,true,true,false],[true,true,true,true,true,true,true,true,true,false,false,true]] A rfl rfl rfl rfl (by kernel_rfl) rfl (by kernel_rfl) ⟨⟨iV 0 rfl rfl,⟨iV 0 rfl rfl,⟨iV 0 rfl rfl,⟨iV 0 rfl (iU (by omega)<|iT),⟨iV 0 rfl (iU (by omega)<|iT),⟨iV 0 rfl rfl,⟨iV 0 rfl rfl,⟨iV 0 rfl (iU (by omega)<|iT),⟨BT 0 rfl (J5 (k:=z.length) hX rfl rfl rfl rfl (SA (by omega))),⟨iV 0 rfl rfl,⟨⟨_,_,_,_,1,rfl,rfl,rfl,rfl,Da 5 (X:=⟨_,true⟩) hX rfl rfl (Mt h0 rfl) rfl rfl rfl rfl⟩,trivial⟩⟩⟩⟩⟩⟩⟩⟩⟩⟩⟩,⟨⟨iV 1 rfl rfl,⟨iV 1 rfl rfl,⟨iV 1 rfl rfl,⟨iV 1 rfl (iU (by omega)<|iT),⟨iV 1 rfl (iU (by omega)<|iT),⟨iV 1 rfl rfl,⟨iV 1 rfl rfl,⟨iV 1 rfl (iU (by omega)<|iT),⟨BT 1 rfl (J5 (k:=z.length) hX rfl rfl rfl rfl (SA (by omega))),⟨iV 1 rfl rfl,trivial⟩⟩⟩⟩⟩⟩⟩⟩⟩⟩,trivial⟩⟩ fun A=>N9 4 A rfl rfl fun A=>Z3 (rg:=(fun k j=>r (8*k+j))) 32 B A hz.1 sU hp (Lw kT sU) (gM 2 xX (B.trans A).pre rfl rfl) rfl rfl (fun _=>rfl) fun L pb ps {a w x} hJ j0 B=>have A:=B.base;have h0:=B.mem.len;
 N9 10 A rfl rfl fun A=>have A:=A.cellEq 6 (cs':=[E3 L.b L.pre.length]) rfl (RW (A.at_pre j0)) rfl;TT hX (z.length+1) (Oa (z++[Tr.mk L pb ps])) A rfl rfl rfl rfl (by omega) rfl (fun k hk=>by show [_]=[_];rw [iE hk]) (by show [_]=[_];rw [iF]) (fun z=>⟨_,rfl,rfl⟩) fun A=>have A:=(A.rowAs 7 ((z++[Tr.mk L pb ps]).length) (Oa (z++[Tr.mk L pb ps])) rfl (by rw [List.length_append];rfl) (fun q hq=>rfl) (fun z=>⟨_,rfl,rfl⟩)).say 41 (.sl 7 ((z++[Tr.mk L pb ps]).length) 0) rfl (by rw [List.length_append]<;>rfl);N9 11 A rfl (iU (by omega)<|iT) fun A=>⟨(z++[Tr.mk L pb ps]),_,(by rw [List.length_append];show cs.length - (z.length+1)<cs.length - z.length;omega),⟨((JT.ok.now A hJ).mv (m:=[0,1,2,3,7]) A.mem.len rfl rfl),(by rw [List.length_append];show z.length+1≤cs.length;omega)⟩,(((AB (B.trans A) 6 (.int .i64 (((z++[Tr.mk L pb ps]).length:Nat):Int)) rfl (fun _=>congrArg (fun b=>some (Value.int .i64 b)) (by rw [List.length_append];rfl))).cut [2,5,6] rfl).mv 2 [2,3,7] rfl rfl rfl rfl oL.symm)⟩)
   (fun h1 A=>N9 4 A rfl rfl fun A=>have vR:z.length=cs.length:=(by have:=hz.2;omega);have A:=A.sayH (H':=[some (Am cs),some (A9 kd),some (.blk (BJ ar nm mi r cs cx qu kd ck)),some (.blk [.int .i64 ar,.str nm,.int .i64 (mi 0),.int .i64 (mi 1),.int .i64 (mi 2),.int .i64 (r 0),.int .i64 (r 1),.int .i64 (r 2),.int .i64 (r 3),.int .i64 (r 4),.int .i64 (r 5),.int .i64 (r 6),.int .i64 (r 7),.int .i64 (r 8),.int .i64 (r 9),.int .i64 (r 10),.int .i64 (r 11),.int .i64 (r 12),.int .i64 (r 13),.int .i64 (r 14),.int .i64 (r 15),.int .i64 (r 16),.int .i64 (r 17),.int .i64 (r 18),.int .i64 (r 19),.int .i64 (r 20),.int .i64 (r 21),.int .i64 (r 22),.int .i64 (r 23),.sl 0 cs.length cx,.int .i64 qu,.sl 1 kd.length ck,.sl 4 cs.length 0,.int .i64 (mi 0),.int .i64 (mi 1),.int .i64 (mi 2),.sla none 0 0,.sla none 0 0,.sla none 0 0,.ff]),some (.row 99 1 cs.length 0 (Oa z))]) (by rw [vR]);N9 6 A rfl rfl fun A=>have vS:=JT.ok.now A hz.1;have B:=B.trans A;have A:=B.base;have h0:=B.mem.len;Wq 4 3 (BJ ar nm mi r cs cx qu kd ck) [.int .i64 (mi 0),.int .i64 (mi 1),.int .i64 (mi 2),.sla none 0 0,.sla none 0 0,.sla none 0 0,.ff] (fun ra rc=>[some (Am cs),some (A9 kd),some (.blk (BJ ar nm mi r cs cx qu kd ck)),some (.blk [.int .i64 ar,.str nm,.int .i64 (mi 0),.int .i64 (mi 1),.int .i64 (mi 2),.int .i64 (r 0),.int .i64 (r 1),.int .i64 (r 2),.int .i64 (r 3),.int .i64 (r 4),.int .i64 (r 5),.int .i64 (r 6),.int .i64 (r 7),.int .i64 (r 8),.int .i64 (r 9),.int .i64 (r 10),.int .i64 (r 11),.int .i64 (r 12),.int .i64 (r 13),.int .i64 (r 14),.int .i64 (r 15),.int .i64 (r 16),.int .i64 (r 17),.int .i64 (r 18),.int .i64 (r 19),.int .i64 (r 20),.int .i64 (r 21),.int .i64 (r 22),.int .i64 (r 23),.sl 0 cs.length cx,.int .i64 qu,.sl 1 kd.length ck,.sla ra cs.length rc,.int .i64 (mi 0),.int .i64 (mi 1),.int .i64 (mi 2),.sla none 0 0,.sla none 0 0,.sla none 0 0,.ff]),none]) A rfl rfl rfl (fun _ _=>rfl) fun ra rc A hl hf=>have nK:=Xr B vS hl hf;have yZ:=hz.2;Exists.elim (Xq (l:=(BJ ar nm mi r cs cx qu kd ck)) 3 4 (B.trans A) rfl rfl rfl (JT.ok.now A vS) vR hl nK) fun M ⟨A,hJ⟩=>kV (J:=cR cs (fun k j=>r (8*k+j)) mi) hX A rfl rfl rfl rfl hJ)
end Go.Proofs.YtbbdanhpphlbpaaGreatDoor.Mc
namespace Go.Proofs.YtbbdanhpphlbpaaGreatDoor.Mc
open Go.RowKit
set_option simprocs false
theorem Eu {cs:List AD}{w:World}{ks:List Nat}(h:AH cs w ks):AH cs w []:=AH.ok _ _ _ _ h (CR.refl _ _) (fun b hb=>by cases hb)
structure RD (cs:List AD)(ts:List Th)(tr z:List Tr)(ra:Option Addr)(nn N:Nat)(w:World)(ks:List Nat):Prop where
 jt:JT cs ts tr N w ks
 row:AK ra 1 nn (Oa z) w (ks++Di tr)
 ln:tr.length=nn
 hl:∀k,k<nn→(tr.getD k Tr.z).L=(z.getD k Tr.z).L
theorem CP {a b:List Nat}{x:Nat}:(a++b).contains x=true↔a.contains x=true∨b.contains x=true:=by
 rw [List.contains_iff_mem,List.contains_iff_mem,List.contains_iff_mem,List.mem_append]
theorem RD.ok {cs:List AD}{ts:List Th}{tr z:List Tr}{ra:Option Addr}{nn N:Nat}:Dd.OK (RD cs ts tr z ra nn N):=fun w ks w' ks' h m hk=>by
 refine⟨JT.ok _ _ _ _ h.jt m hk,?_,h.ln,h.hl⟩
 refine AK.ok _ _ _ _ h.row ⟨m.os,m.tape,m.output,m.size,fun k lE hc=>m.block k lE ?_⟩ fun b hb=>?_
 ·cases hq:ks.contains k with
  |false=>rfl
  |true=>rw [CP.2 (.inl hq)]at hc;cases hc
 ·rcases CP.1 hb with q|q
  ·exact(hk b q).elim (fun r=>.inl (CP.2 (.inl r))) .inr
  ·exact .inl (CP.2 (.inr q))
theorem RD.rf {cs cs2:List AD}{ts:List Th}{tr z:List Tr}{ra:Option Addr}{nn N:Nat}{w:World}{ks:List Nat}(h:RD cs ts tr z ra nn N w ks)(rY:AH cs2 w ks)(hc:AH cs w ks)(hle:nn≤cs.length)(heq:∀k,k<nn→(cs2.getD k AD.z).l=(cs.getD k AD.z).l):K3 cs2 ts nn ra (fun k=>(z.getD k Tr.z).L.b) (fun k=>(z.getD k Tr.z).L.pre.length) (fun k=>(cs.getD k AD.z).ao) (fun k=>(cs.getD k AD.z).cp) (fun k=>J7 (tr.getD k Tr.z).pb (tr.getD k Tr.z).ps.length) w ks:=
 ⟨AK.ok _ _ _ _ h.row (CR.refl _ _) (fun b hb=>.inl (CP.2 (.inl hb))),JT.look2 (z:=z) h.jt rY hc h.ln hle heq h.hl⟩
section
variable {n:Nat}{ks:List Nat}{G0:Gr}{w0:World}{T:List (Nat×SV)}{H:Hp}{G:Gr}{a:Act}{w:World}
theorem Pc (A:Sy n T H ks G0 w0 G a w)(p:Nat){L:Loc}{cs:List SV}{vs:List Value}{H':Hp}(hp:p<H.length)(hG:G[p]?=some (some L))(hc:AE [] cs=some vs)(hb:DR w L.b (L.pre++vs++L.post).toArray L.t)(jM:I3 H G [L.b])(ho:ks.contains L.b=true∨w0.heap.size≤L.b)(hH:Br H p (some (.blk cs))=H'):Sy n T H' ks G0 w0 G a w:=by
 subst hH
 have hold:∀(j:Nat) (e:A6),(Br H p (some (.blk cs)))[j]?=some (some e)→(j=p∧e=.blk cs)∨(j≠p∧H[j]?=some (some e)):=by
  intro j e h
  rw [Ag]at h
  by_cases hj:j=p
  ·subst hj
   rw [List.getElem?_set_self hp]at h
   cases h
   exact .inl ⟨rfl,rfl⟩
  ·rw [List.getElem?_set_ne (Ne.symm hj)]at h;exact .inr ⟨hj,h⟩
 have jF:∀(j:Nat) (e:A6) (M:Loc),H[j]?=some (some e)→G[j]?=some (some M)→¬e.empty→M.b≠L.b:=fun j e M g1 g2 g3 h=>by
  have:=jM j e M g1 g2 g3
  rw [h]at this;simp at this
 refine⟨A.size,A.defers,A.get,⟨by rw [Ag];simpa using A.mem.len,fun j e he=>?_,fun j k e f L' M kQ g1 g2 g3 g4 g5 g6=>?_⟩,A.pre,fun j e L' g1 g2 g3=>?_,A.mix⟩
 ·rcases hold j e he with⟨rfl,rfl⟩|⟨_,h⟩
  ·rw [hG]
   exact⟨L,vs,rfl,by simpa using Al G cs hc,hb⟩
  ·exact A.mem.ent j e h
 ·rcases hold j e g1 with⟨rfl,rfl⟩|⟨hj,h1⟩
  ·rw [hG]at g4;cases g4
   rcases hold k f g2 with⟨rfl,_⟩|⟨_,h2⟩
   ·exact absurd rfl kQ
   ·exact fun h=>jF k f M h2 g5 g6 h.symm
  ·rcases hold k f g2 with⟨rfl,rfl⟩|⟨_,h2⟩
   ·rw [hG]at g5;cases g5
    exact jF j e L' h1 g4 (At g3)
   ·exact A.mem.sep j k e f L' M kQ h1 h2 g3 g4 g5 g6
 ·rcases hold j e g1 with⟨rfl,rfl⟩|⟨_,h1⟩
  ·rw [hG]at g3;cases g3;exact ho
  ·exact A.own j e L' h1 g2 g3
end
theorem Xs (tv:Nat→Value)(m:Rg)(nn:Nat)(ra:Option Addr)(rc:Nat):AE [] (dS tv m nn ra rc)=some (dV tv m nn ra rc):=rfl
section
variable {n:Nat}{ks:List Nat}{G0:Gr}{w0:World}{T:List (Nat×SV)}{H:Hp}{G:Gr}{a:Act}{w:World}{ops:Array Oper}{o:Oper}{rest:List Oper}{Q:Exit→Act→World→Prop}{K:List Fr}{cs:List AD}{ts:List Th}{tr z:List Tr}{ra:Option Addr}{rc nn:Nat}{tv:Nat→Value}{m:Rg}
theorem iL (p t:Nat) {H1 H2:Hp} (A:Sy n T H ks G0 w0 G a w) (rd:RD cs ts tr z ra nn w0.heap.size w (keys H G)) (hC:AH cs w0 ks) (hm:OZ H1 G w0.heap.size) (hp:lg H p=some (some (.blk (dS tv m nn ra rc)))) (ht:look T t=some (.ptr p 0)) (mP:ts.length=nn) (hle:nn≤cs.length) (kP:nn≤3) (th at_:Int) (jU:0≤th∧th<((nn:Nat):Int)) (kT:E6 (cs.getD th.toNat AD.z).l) (jY:(ts.getD th.toNat Th.z).at_<(cs.getD th.toNat AD.z).l.length) (qV:∀k,k<3→inr (m k))
  (h1:∀L:Loc,BS n ops ((t,E3 L.b L.pre.length)::T) o=some (16,[E3 L.b L.pre.length,.agg [.int .i64 2,.int .i64 th,.int .i64 at_,.z9]])) (uQ:Br H p none=H1) (pK:Br H1 p (some (.blk (dS tv (Ex m (ts.getD th.toNat Th.z).r ((cs.getD th.toNat AD.z).l.getD ((((ts.getD th.toNat Th.z).at_:Nat):Int)).toNat In.z)) nn ra rc)))=H2)
  (k:∀tr' {a' w' x} (L:Loc),RD cs (CC cs ts th (JZ m (ts.getD th.toNat Th.z).r ((cs.getD th.toNat AD.z).l.getD ((((ts.getD th.toNat Th.z).at_:Nat):Int)).toNat In.z))) tr' z ra nn w0.heap.size w' (keys H2 G)→Sy n (Ay ((t,E3 L.b L.pre.length)::T) o.dst x) H2 ks G0 w0 G a' w'→Goal Tryz.prog Q K (.ops ops rest) a' w'):Goal Tryz.prog Q K (.ops ops (o::rest)) a w:=by
 have mW:=hp
 rw [Ah]at mW
 have lB:p<H.length:=(List.getElem?_eq_some_iff.1 mW).1
 refine VZ (P:=Tryz.prog) p t A hp (Xs tv m nn ra rc) ht uQ fun L A1 lJ sT jM jX hG=>?_
 have uR:(keys H G).contains L.b=true:=mem_keys.2 ⟨p,_,L,mW,rfl,hG,rfl⟩
 have mT:∀b,(keys H1 G).contains b=true→(keys H G).contains b=true:=fun b hb=>by
  obtain⟨i,e,M,g1,g2,g3,g4⟩:=mem_keys.1 hb
  subst uQ
  rw [Ag]at g1
  by_cases hi:i=p
  ·subst hi;rw [List.getElem?_set_self lB]at g1;cases g1
  ·rw [List.getElem?_set_ne (Ne.symm hi)]at g1;exact mem_keys.2 ⟨i,e,M,g1,g2,g3,g4⟩
 have lE:∀b,(keys H2 G).contains b=true→b=L.b∨(keys H1 G).contains b=true:=fun b hb=>by
  obtain⟨i,e,M,g1,g2,g3,g4⟩:=mem_keys.1 hb
  subst pK
  rw [Ag]at g1
  by_cases hi:i=p
  ·subst hi;rw [hG]at g3;cases g3;exact .inl g4.symm
  ·rw [List.getElem?_set_ne (Ne.symm hi)]at g1;exact .inr (mem_keys.2 ⟨i,e,M,g1,g2,g3,g4⟩)
 have j9:w0.heap.size≤w.heap.size:=A.mix.size
 have pT:∀b,(L.b::Di tr).contains b=true→ks.contains b=true∨w0.heap.size≤b:=fun b hb=>by
  rw [List.contains_cons,Bool.or_eq_true]at hb
  rcases hb with hb|hb
  ·have:b=L.b:=by simpa using hb
   rw [this];exact jX
  ·obtain⟨j,hj,h2⟩:=Cp.1 hb
   exact .inr (rd.jt.lo j hj b h2).1
 have lR:gP tv m cs ts nn ra rc tr L w:=by
  refine⟨lJ,?_,?_,AH.ok _ _ _ _ hC A.mix pT⟩
  ·have jS:AK ra 1 nn (Oa z) w (L.b::Di tr):=AK.ok _ _ _ _ rd.row (CR.refl _ _) fun b hb=>.inl (by
    rw [List.contains_cons,Bool.or_eq_true]at hb
    rcases hb with hb|hb
    ·have:b=L.b:=by simpa using hb
     rw [this];exact CP.2 (.inl uR)
    ·exact CP.2 (.inr hb))
   refine⟨fun j=>⟨_,rfl⟩,?_⟩
   rcases jS.2 with q|⟨b,oo,e1,e2,e3,e4⟩
   ·exact .inl q
   ·refine .inr ⟨b,oo,e1,e2,e3,fun j hj=>?_⟩
    have:=e4 j hj
    unfold Oa at this⊢
    rw [rd.hl j hj];exact this
  ·exact JT.ok _ _ _ _ ⟨rd.jt.out,rd.jt.len,fun j hj b hb=>⟨Nat.zero_le _,(rd.jt.lo j hj b hb).2⟩,rd.jt.ap⟩ (CR.refl _ _) fun b hb=>.inl (by
    have:b=L.b:=by simpa using hb
    rw [this];exact uR)
 have sE:I3 H1 G (L.b::Di tr):=fun i e M q1 q2 q3=>by
  cases hc:(L.b::Di tr).contains M.b with
  |false=>rfl
  | true=>
   rw [List.contains_cons,Bool.or_eq_true]at hc
   rcases hc with hc|hc
   ·have:=jM i e M q1 q2 q3
    simp at this hc
    exact absurd hc this
   ·obtain⟨j,hj,h2⟩:=Cp.1 hc
    have h3:=rd.jt.lo j hj _ h2
    cases pI:e.mut with
    |true=>rw [mT _ (mem_keys.2 ⟨i,e,M,q1,pI,q2,rfl⟩)]at h3;cases h3.2
    |false=>have:=hm i e M q1 pI q2 q3;omega
 refine J3 [] (fF tv m cs ts nn ra rc tr L th at_ rd.ln mP hle kP jU kT jY qV) A1 lR sE pT (h1 L) rfl rfl rfl rfl fun{x a' w'} pO hJ A'=>?_
 obtain⟨tr',j1,j2,j3,j4,j5⟩:=hJ
 have A2:=Pc A' p (by subst uQ;rw [Ag,List.length_set];exact lB) hG (Xs _ _ _ _ _) j1 jM jX pK
 have i7:∀b,(keys H1 G).contains b=true→b<w.heap.size:=fun b hb=>Gz A1.mem hb
 have jO:∀j,j<tr'.length→∀b,(tr'.getD j Tr.z).bl.contains b=true→(w0.heap.size≤b∧(keys H1 G).contains b=false):=fun j hj b hb=>by
  rcases j5 b (Cp.2 ⟨j,hj,hb⟩)with q|q
  ·rw [List.contains_cons,Bool.or_eq_true]at q
   rcases q with q|q
   ·have e:b=L.b:=by simpa using q
    have:=(j2.lo j hj b hb).2
    rw [e]at this;simp at this
   ·obtain⟨j',qZ,h2⟩:=Cp.1 q
    have h3:=rd.jt.lo j' qZ b h2
    refine⟨h3.1,?_⟩
    cases hz:(keys H1 G).contains b with
    |false=>rfl
    |true=>rw [mT b hz]at h3;cases h3.2
  ·refine⟨by omega,?_⟩
   cases hz:(keys H1 G).contains b with
   |false=>rfl
   |true=>have:=i7 b hz;omega
 refine k tr' L ⟨⟨j2.out,j2.len,fun j hj b hb=>⟨(jO j hj b hb).1,?_⟩,j2.ap⟩,?_,j3,fun j hj=>(j4 j hj).trans (rd.hl j hj)⟩ A2
 ·cases hz:(keys H2 G).contains b with
  |false=>rfl
  | true=>
   rcases lE b hz with e|e
   ·have:=(j2.lo j hj b hb).2
    rw [e]at this;simp at this
   ·rw [(jO j hj b hb).2]at e;cases e
 ·have oU:AK ra 1 nn (Oa z) w' (L.b::Di tr):=AK.ok _ _ _ _ (AK.ok _ _ _ _ rd.row (CR.refl _ _) fun b hb=>.inl (by
    rw [List.contains_cons,Bool.or_eq_true]at hb
    rcases hb with hb|hb
    ·have:b=L.b:=by simpa using hb
     rw [this];exact CP.2 (.inl uR)
    ·exact CP.2 (.inr hb))) pO fun b hb=>.inl hb
  refine R8 oU fun q hn hq=>?_
  obtain⟨g1,_⟩:=LA oU hn hq
  obtain⟨g3,g4⟩:=LA rd.row hn hq
  cases hz:(keys H2 G++Di tr').contains q.block with
  |false=>rfl
  | true=>
   rcases CP.1 hz with e|e
   ·rcases lE _ e with e|e
    ·rw [e]at g1;simp at g1
    ·rw [CP.2 (.inl (mT _ e))]at g3;cases g3
   ·rcases j5 _ e with e|e
    ·rw [e]at g1;cases g1
    ·omega
end
section
variable {P:Program}{n:Nat}{ks:List Nat}{G0:Gr}{w0:World}{T:List (Nat×SV)}{H:Hp}{G:Gr}{a:Act}{w:World}{ops:Array Oper}{o:Oper}{Q:Exit→Act→World→Prop}{pre:World→Prop}{i fuel:Nat}{listed:Array Bool}
theorem JO {f:Nat} {args az:List SV} {t:Nat} {cs:List AD} {kd:List Cn} {ar qu:Int} {nm:List UInt8} {mi r:Nat→Int} {H' l:Hp} (m:List Nat) (ho:ops[i]?=some o) (hf:MS P f args H' [] pre (cQ cs kd ar nm mi r qu)) (A:Sy n T H ks G0 w0 G a w) (hp:pre w) (h1:BS n ops T o=some (f,az)) (h2:DU m args=some az) (h3:Cm m H'=some l) (h4:Ca H m=some l) (h5:JY m=true) (hd:o.dst=some t)
  (k:∀(ao1 ao2:Option Addr) (cp1 cp2:Nat) (cs':List AD) {a' w'},cs'.length=cs.length→(∀k,k<cs.length→(cs'.getD k AD.z).l=(cs.getD k AD.z).l)→(AK ao1 1 cs'.length (fun zz=>He (cs'.getD zz AD.z)) w' (keys H G)∧AH cs' w' (keys H G))→Sy n ((t,.agg (EI ar nm mi r (.sla ao1 cs'.length cp1) qu (.sla ao2 kd.length cp2)))::T) H ks G0 w0 G a' w'→wpAny P .any ops Q fuel (listed.setIfInBounds i true) a' w'):wpOp P ops Q i (wpAny P .any ops Q fuel (listed.setIfInBounds i true)) a w:=by
 refine Fj m ho hf A hp I3.nil (fun b h=>by cases h) h1 h2 h3 h4 h5 fun{x a' w'} hm hJ A'=>?_
 obtain⟨ao1,ao2,cp1,cp2,cs',hx,hl,he,hK⟩:=hJ
 have h0:=hK (keys H G) (fun b h=>Gz A.mem h)
 rw [←hl]at hx h0
 subst hx
 rw [hd]at A'
 exact k ao1 ao2 cp1 cp2 cs' hl he h0 A'
theorem HD {f:Nat} {args az:List SV} {cs:List AD} {rg:Nat→Rg} {m:Nat→Int} {t:Nat} {H':List AD→Hp} (ho:ops[i]?=some o) (hf:MS P f args [] [] pre (L6 cs rg m)) (A:Sy n T H ks G0 w0 G a w) (hp:pre w) (h1:BS n ops T o=some (f,az)) (h2:DU [] args=some az) (hd:o.dst=some t)
  (hH:∀cs':List AD,H++[some (AZ cs' (Ac cs rg) cs.length)]++[some (.blk [.sl H.length cs.length 0])]++[some (.blk (YZ (H.length+1) m))]=H' cs')
  (k:∀cs' {G a w'},Ai cs' (Ac cs rg) cs.length→(∀k,k<cs.length→(cs'.getD k AD.z).l=(cs.getD k AD.z).l)→IH cs' w0.heap.size w' (keys (H' cs') G)→Sy n ((t,.ptr (H.length+2) 0)::T) (H' cs') ks G0 w0 G a w'→wpAny P .any ops Q fuel (listed.setIfInBounds i true) a w'):wpOp P ops Q i (wpAny P .any ops Q fuel (listed.setIfInBounds i true)) a w:=by
 refine Fj [] ho hf A hp I3.nil (fun b h=>by cases h) h1 h2 rfl rfl rfl fun{x a' w'} hm hJ A'=>?_
 obtain⟨M,L,bt,cp,cs',rfl,qH,uK,uL,oM,rZ,jJ,heq,jP⟩:=hJ
 rw [hd]at A'
 have hlen:=A.mem.len
 have hold:∀(i:Nat) (e:A6) (M:Loc),H[i]?=some (some e)→G[i]?=some (some M)→¬e.empty→M.b<w.heap.size:=fun i e M q1 q2 q3=>by
  have:=A.mem.ent i e q1
  rw [q2]at this
  exact Ae.lt this q3
 obtain⟨R,hR,A2⟩:=A'.takeCoreG rZ A.mix.size hold
 have r8:(G++[some R]++[some L])[H.length+1]?=some (some L):=by
  rw [List.getElem?_append_right (by simp;omega)];simp [hlen]
 have j7:AE (G++[some R]++[some L]) (YZ (H.length+1) m)=some (Z5 L m):=
  Az (by unfold den;rw [r8];rfl) (by simpa using Al (G:=[]) (G++[some R]++[some L]) [.int .i64 (m 0),.int .i64 (m 1),.int .i64 (m 2)] rfl)
 have mO:∀(i:Nat) (e:A6) (Z:Loc),(H++[some (AZ cs' (Ac cs rg) cs.length)]++[some (.blk [.sl H.length cs.length 0])])[i]?=some (some e)→(G++[some R]++[some L])[i]?=some (some Z)→¬e.empty→Z.b<w.heap.size∨Z.b=L.b∨Z.b=bt:=fun i e Z q1 q2 q3=>by
  by_cases hi:i<H.length
  ·rw [List.append_assoc,List.getElem?_append_left hi]at q1
   rw [List.append_assoc,List.getElem?_append_left (by omega)]at q2
   exact .inl (hold i e Z q1 q2 q3)
  ·by_cases mB:i=H.length
   ·subst mB
    rw [List.append_assoc,List.getElem?_append_right (by omega)]at q2
    simp [hlen]at q2
    subst q2;exact .inr (.inr hR)
   ·have pB:i=H.length+1:=by
     have:=(List.getElem?_eq_some_iff.1 q1).1
     simp at this;omega
    subst pB
    rw [r8]at q2;cases q2
    exact .inr (.inl rfl)
 have A3:=A2.takeEnt (L:=M) (en:=.blk (YZ (H.length+1) m)) ⟨M,_,rfl,j7,oM⟩ rfl (fun i e Z q1 q2 q3=>by
  rcases mO i e Z q1 q2 q3 with q|q|q
  ·omega
  ·rw [q];exact fun h=>uK h.symm
  ·rw [q];exact fun h=>uL h.symm) (Nat.le_trans A.mix.size qH)
 rw [hH cs']at A3
 have kX:∀b,(keys (H' cs') (G++[some R]++[some L]++[some M])).contains b=true→b<w.heap.size∨b=L.b∨b=bt∨b=M.b:=fun b hb=>by
  rw [←hH cs']at hb
  obtain⟨i,en,Z,g1,g2,g3,g4⟩:=mem_keys.1 hb
  by_cases hi:i<H.length+2
  ·rw [List.getElem?_append_left (by simp;omega)]at g1
   rw [List.getElem?_append_left (by simp;omega)]at g3
   rw [←g4]
   rcases mO i en Z g1 g3 (At g2)with q|q|q
   ·exact .inl q
   ·exact .inr (.inl q)
   ·exact .inr (.inr (.inl q))
  ·have pB:i=H.length+2:=by
    have:=(List.getElem?_eq_some_iff.1 g1).1
    simp at this;omega
   subst pB
   rw [List.getElem?_append_right (by simp;omega)]at g3
   simp [hlen]at g3
   subst g3
   exact .inr (.inr (.inr g4.symm))
 refine k cs' (G:=G++[some R]++[some L]++[some M]) jJ heq (fun ks' jQ=>jP ks' fun b hb=>?_) ?_
 ·rcases jQ b hb with q|q
  ·exact .inl (Nat.lt_of_lt_of_le q A.mix.size)
  ·exact kX b q
 have A4:=A3.slotEq t (x:=E3 M.b M.pre.length) (y:=.ptr (H.length+2) 0) (by simp [Ay,look,Nat.beq_refl]) (by
  unfold den
  rw [List.getElem?_append_right (by simp;omega)]
  simp [hlen])
 refine⟨A4.size,A4.defers,fun q x hx=>A4.get q x ?_,A4.mem,A4.pre,A4.own,A4.mix⟩
 unfold look at hx⊢
 cases hb:Nat.beq t q with
 |true=>rw [hb]at hx;exact hx
 |false=>
  rw [hb]at hx
  show look (Ay T (some t) _) q=some x
  simp only [Ay]
  unfold look
  rw [hb]
  exact hx
theorem SB {f:Nat} {args az:List SV} {t:Nat} {cs:List AD} {rg:Nat→Rg} {mi:Rg} {H' l:Hp} (m:List Nat) (ho:ops[i]?=some o) (hf:MS P f args H' [] pre (cR cs rg mi)) (A:Sy n T H ks G0 w0 G a w) (hp:pre w) (h1:BS n ops T o=some (f,az)) (h2:DU m args=some az) (h3:Cm m H'=some l) (h4:Ca H m=some l) (h5:JY m=true) (hd:o.dst=some t)
  (k:∀(tv:Nat→Value) (ra:Option Addr) (rc:Nat) (z:List Tr) {G a' w'},RD cs (Ac cs rg) z z ra cs.length w0.heap.size w' (keys (H++[some (.blk (dS tv mi cs.length ra rc))]) G)→Sy n ((t,.ptr H.length 0)::T) (H++[some (.blk (dS tv mi cs.length ra rc))]) ks G0 w0 G a' w'→wpAny P .any ops Q fuel (listed.setIfInBounds i true) a' w'):wpOp P ops Q i (wpAny P .any ops Q fuel (listed.setIfInBounds i true)) a w:=by
 refine Fj m ho hf A hp I3.nil (fun b h=>by cases h) h1 h2 h3 h4 h5 fun{x a' w'} hm hJ A'=>?_
 obtain⟨tv,ra,rc,tr,DL,rfl,jO,lJ,sF,qI,jS⟩:=hJ
 rw [hd]at A'
 have hlen:=A.mem.len
 have hold:∀(i:Nat) (e:A6) (M:Loc),H[i]?=some (some e)→G[i]?=some (some M)→¬e.empty→M.b<w.heap.size:=fun i e M q1 q2 q3=>by
  have:=A.mem.ent i e q1
  rw [q2]at this
  exact Ae.lt this q3
 have A2:=A'.takeEnt (L:=DL) (en:=.blk (dS tv mi cs.length ra rc)) ⟨DL,_,rfl,by simpa using Al G _ (Xs tv mi cs.length ra rc),lJ⟩ rfl (fun i e M q1 q2 q3=>by have:=hold i e M q1 q2 q3;omega) (Nat.le_trans A.mix.size jO)
 have A3:=A2.slotEq t (x:=E3 DL.b DL.pre.length) (y:=.ptr H.length 0) (by simp [Ay,look,Nat.beq_refl]) (by
  unfold den
  rw [List.getElem?_append_right (by omega),hlen]
  simp)
 have kX:∀b,(keys (H++[some (.blk (dS tv mi cs.length ra rc))]) (G++[some DL])).contains b=true→b<w.heap.size∨b=DL.b:=fun b hb=>by
  obtain⟨j,en,Z,g1,g2,g3,g4⟩:=mem_keys.1 hb
  by_cases hj:j<H.length
  ·rw [List.getElem?_append_left hj]at g1
   rw [List.getElem?_append_left (by omega)]at g3
   rw [←g4]
   exact .inl (hold j en Z g1 g3 (At g2))
  ·have xY:j=H.length:=by
    have:=(List.getElem?_eq_some_iff.1 g1).1
    simp at this;omega
   subst xY
   rw [List.getElem?_append_right (by omega),hlen]at g3
   simp at g3
   subst g3
   exact .inr g4.symm
 have hN:=A.mix.size
 refine k tv ra rc tr ⟨⟨sF.out,sF.len,fun j hj b hb=>⟨Nat.le_trans hN (sF.lo j hj b hb).1,?_⟩,sF.ap⟩,jS _ fun b hb=>?_,qI,fun _ _=>rfl⟩ ⟨A3.size,A3.defers,fun q x hx=>A3.get q x ?_,A3.mem,A3.pre,A3.own,A3.mix⟩
 ·have h4:=sF.lo j hj b hb
  cases hz:(keys (H++[some (.blk (dS tv mi cs.length ra rc))]) (G++[some DL])).contains b with
  |false=>rfl
  | true=>
   rcases kX b hz with q|q
   ·have:=h4.1;omega
   ·have:=h4.2
    rw [q]at this;simp at this
 ·rcases CP.1 hb with q|q
  ·exact(kX b q).elim .inl (fun e=>.inr (.inl e))
  ·exact .inr (.inr q)
 ·unfold look at hx⊢
  cases hb:Nat.beq t q with
  |true=>rw [hb]at hx;exact hx
  |false=>
   rw [hb]at hx
   show look (Ay T (some t) _) q=some x
   simp only [Ay]
   unfold look
   rw [hb]
   exact hx
end
end Go.Proofs.YtbbdanhpphlbpaaGreatDoor.Mc
namespace Go.Proofs.YtbbdanhpphlbpaaGreatDoor.Mc
open Go.RowKit
set_option simprocs false
theorem US (l:List Mv)(hl:l.length≤1000):Fn Tryz.prog 20 [.sl 0 l.length 0,.sl 1 l.length 0] [some (.row 44 4 l.length 0 (E7 l)),some (.row 44 4 l.length 0 (E7 l))] (Rt (.tt) [some (.row 44 4 l.length 0 (E7 l)),some (.row 44 4 l.length 0 (E7 l))]):=
 AG (n:=26) (by kernel_rfl) Tryz.func20 rfl rfl rfl fun G w a h0 A=>N9 13 A rfl rfl fun A=>have A:=AB A 10 (.ff) rfl (fun _=>congrArg (fun b=>some (Value.bool b)) (by simp));N9 12 A rfl rfl fun A=>Bk (fun(k:Nat)=>[(0,.sl 0 l.length 0),(1,.sl 1 l.length 0),(4,.ff),(5,.int .i64 (k:Int))]) (fun(k:Nat)=>[some (.row 44 4 l.length 0 (E7 l)),some (.row 44 4 l.length 0 (E7 l))]) (fun(k:Nat)=>k≤l.length) (fun(k:Nat)=>l.length - k) 0 (Nat.zero_le _) ((A.cut [0,1,4,5] rfl).trunc 2 rfl rfl rfl (iR h0 rfl)) fun k hK {G a w} A=>N9 9 A rfl rfl fun A=>AL 14 A rfl
   (fun h1 A=>N9 6 A rfl rfl fun A=>Hh BK [.sl 0 l.length 0,.int .i64 (k:Int),.el 0 4 (k:Int) 0,.agg [.int .i64 ((l.getD (((k:Int)).toNat) (0,0,0)).1),.int .i64 ((l.getD (((k:Int)).toNat) (0,0,0)).2.1),.int .i64 ((l.getD (((k:Int)).toNat) (0,0,0)).2.2),.z9],.sl 1 l.length 0,.int .i64 (k:Int),.el 1 4 (k:Int) 0,.agg [.int .i64 ((l.getD (((k:Int)).toNat) (0,0,0)).1),.int .i64 ((l.getD (((k:Int)).toNat) (0,0,0)).2.1),.int .i64 ((l.getD (((k:Int)).toNat) (0,0,0)).2.2),.z9],.ff] [] [] 0 [([],[],[some (.row 44 4 l.length 0 (E7 l)),some (.row 44 4 l.length 0 (E7 l))])] [[true,true,true,true,true,true,true,true,true]] A rfl rfl rfl rfl (by kernel_rfl) rfl (by kernel_rfl) ⟨⟨iV 0 rfl rfl,⟨iV 0 rfl rfl,⟨iV 0 rfl (iU (by omega)<|iT),⟨iV 0 rfl (iU (by omega)<|iT),⟨iV 0 rfl rfl,⟨iV 0 rfl rfl,⟨iV 0 rfl (iU (by omega)<|iT),⟨iV 0 rfl (iU (by omega)<|iT),⟨BT 0 rfl (Kt (x:=.bool (!(((((l.getD (((k:Int)).toNat) (0,0,0)).1)==((l.getD (((k:Int)).toNat) (0,0,0)).1))&&((((l.getD (((k:Int)).toNat) (0,0,0)).2.1)==((l.getD (((k:Int)).toNat) (0,0,0)).2.1))&&((((l.getD (((k:Int)).toNat) (0,0,0)).2.2)==((l.getD (((k:Int)).toNat) (0,0,0)).2.2))&&(0==0))))))) (fun _=>congrArg (fun b=>some (Value.bool b)) (by simp)) (Aj (X:=⟨_,true⟩) (out:=.val _ _) hX rfl rfl)),trivial⟩⟩⟩⟩⟩⟩⟩⟩⟩,trivial⟩ fun A=>N9 10 A rfl (iU (by omega)<|iT) fun A=>⟨k+1,_,(by omega),(by omega),((A.cut [0,1,4,5] rfl).trunc 2 rfl rfl rfl (iR h0 rfl)).sayT (by rfl)⟩)
   (fun h1 A=>N9 9 A rfl rfl fun A=>R9 A rfl h0 rfl rfl rfl)
def UT (cs:List AD)(ts:List Th)(nn:Nat)(ra:Option Addr)(bs bo:Nat→Nat)(da:Nat→Option Addr)(dp:Nat→Nat)(pv:Nat→Value):Dd:=fun w ks=>K3 cs ts nn ra bs bo da dp pv w ks∧Hj w ks
theorem UT.ok {cs:List AD}{ts:List Th}{nn:Nat}{ra:Option Addr}{bs bo:Nat→Nat}{da:Nat→Option Addr}{dp:Nat→Nat}{pv:Nat→Value}:Dd.OK (UT cs ts nn ra bs bo da dp pv):=fun w ks w' ks' h m hk=>⟨K3.ok _ _ _ _ h.1 m hk,AK.ok _ _ _ _ h.2 m hk⟩
theorem NN (tv:Nat→Value)(m:Nat→Int)(cs:List AD)(ts:List Th)(nn:Nat)(ra:Option Addr)(rc:Nat)(bs bo:Nat→Nat)(da:Nat→Option Addr)(dp:Nat→Nat)(pv:Nat→Value)(hC:Ai cs ts nn)(kP:nn≤3):Bi (UT cs ts nn ra bs bo da dp pv) Tryz.prog 13 [.ptr 0 0,.ptr 3 0] [some (.blk (BB 1 m)),some (.blk [.sl 2 nn 0]),some (AZ cs ts nn),some (.blk (dS tv m nn ra rc))] (Rt (.tt) [some (.blk (BB 1 m)),some (.blk [.sl 2 nn 0]),some (AZ cs ts nn),some (.blk (dS tv m nn ra rc))]):=
 Ab (n:=48) (by kernel_rfl) Tryz.func13 rfl rfl rfl fun G w a h0 hI A=>N9 9 A rfl rfl fun A=>I9 [0,1,2] AH.ok hI.1.2.1 (YX m cs ts nn hC kP) A rfl fun A=>N9 1 A rfl rfl fun A=>I9 [3] K3.ok hI.1 (Zy tv m cs ts nn ra rc bs bo da dp pv hC kP) A rfl fun A=>C9 [4,5] (US (Bs cs ts nn) (Nat.le_trans (Ic cs ts nn) (by omega))) A rfl fun A=>N9 3 A rfl rfl fun A=>I9 [0,1,2] TI.ok (⟨hI.1.2.1,hI.2⟩:TI cs _ _) (Zr m cs ts nn hC kP) A rfl fun A=>N9 1 A rfl rfl fun A=>I9 [3] K3.ok hI.1 (eV tv m cs ts nn ra rc bs bo da dp pv hC kP) A rfl fun A=>N9 1 A rfl rfl fun A=>have A:=AB A 17 (.ff) rfl (fun _=>congrArg (fun b=>some (Value.bool b)) (by simp));N9 3 A rfl rfl fun A=>C9 [0,1,2] (eN m cs ts nn kP) A rfl fun A=>N9 1 A rfl rfl fun A=>I9 [3] K3.ok hI.1 (Z1 tv m cs ts nn ra rc bs bo da dp pv kP) A rfl fun A=>N9 1 A rfl rfl fun A=>have A:=AB A 24 (.ff) rfl (fun _=>congrArg (fun b=>some (Value.bool b)) (by simp));N9 13 A rfl rfl fun A=>Bk (fun(k:Nat)=>[(0,.ptr 0 0),(1,.ptr 3 0),(4,.ff),(5,.int .i64 (k:Int))]) (fun(k:Nat)=>[some (.blk (BB 1 m)),some (.blk [.sl 2 nn 0]),some (AZ cs ts nn),some (.blk (dS tv m nn ra rc)),some (.row 44 4 ((Bs cs ts nn).length) 0 (E7 (Bs cs ts nn))),some (.row 44 4 ((Bs cs ts nn).length) 0 (E7 (Bs cs ts nn)))]) (fun(k:Nat)=>k≤3) (fun(k:Nat)=>3 - k) 0 (Nat.zero_le _) ((A.cut [0,1,4,5] rfl).trunc 6 rfl rfl rfl (iR h0 rfl)) fun k hK {G a w} A=>N9 7 A rfl rfl fun A=>AL 27 A rfl
   (fun h1 A=>N9 6 A rfl rfl fun A=>Hh BK [.ptr 0 0,.int .i64 (k:Int),.int .i64 (m ((k:Int)).toNat),.ptr 3 0,.int .i64 (k:Int),.ptr 3 0,.ptr 3 33,.ix (.ptr 3 33) 1 3 (k:Int) 0,.int .i64 (m ((k:Int)).toNat),.ff] [2] [] 0 [([],[],[some (.blk (BB 1 m)),some (.blk [.sl 2 nn 0]),some (AZ cs ts nn),some (.blk (dS tv m nn ra rc)),some (.row 44 4 ((Bs cs ts nn).length) 0 (E7 (Bs cs ts nn))),some (.row 44 4 ((Bs cs ts nn).length) 0 (E7 (Bs cs ts nn)))]),([2],[],[some (.blk (BB 1 m)),some (.blk [.sl 2 nn 0]),some (AZ cs ts nn),some (.blk (dS tv m nn ra rc)),some (.row 44 4 ((Bs cs ts nn).length) 0 (E7 (Bs cs ts nn))),some (.row 44 4 ((Bs cs ts nn).length) 0 (E7 (Bs cs ts nn)))])] [[true,true,true,true,true,true,true,true,true,false],[false,false,false,true,true,true,true,true,true,true]] A rfl rfl rfl rfl (by kernel_rfl) rfl (by kernel_rfl) ⟨⟨iV 0 rfl rfl,⟨iV 0 rfl rfl,⟨BT 1 rfl (DV [0,1,2] (W2 m cs ts nn (k:Int) (by omega)) rfl rfl rfl rfl rfl rfl rfl),⟨iV 0 rfl rfl,⟨iV 0 rfl rfl,⟨iV 0 rfl rfl,⟨iV 0 rfl rfl,⟨iV 0 rfl (iU (by omega)<|iT),⟨BT 0 rfl (Jk (v:=fun k=>.int .i64 (m k)) hX rfl rfl rfl rfl rfl rfl rfl (by omega) (fun k hk=>match k,hk with|0,_=>rfl|1,_=>rfl|2,_=>rfl)),trivial⟩⟩⟩⟩⟩⟩⟩⟩⟩,⟨⟨iV 1 rfl rfl,⟨iV 1 rfl rfl,⟨iV 1 rfl rfl,⟨iV 1 rfl rfl,⟨iV 1 rfl (iU (by omega)<|iT),⟨BT 1 rfl (Jk (v:=fun k=>.int .i64 (m k)) hX rfl rfl rfl rfl rfl rfl rfl (by omega) (fun k hk=>match k,hk with|0,_=>rfl|1,_=>rfl|2,_=>rfl)),⟨BT 1 rfl (Kt (x:=.bool (!((m ((k:Int)).toNat)==(m ((k:Int)).toNat)))) (fun _=>congrArg (fun b=>some (Value.bool b)) (by simp)) (Aj (X:=⟨_,true⟩) (out:=.val _ _) hX rfl rfl)),trivial⟩⟩⟩⟩⟩⟩⟩,trivial⟩⟩ fun A=>N9 10 A rfl (iU (by omega)<|iT) fun A=>⟨k+1,_,(by omega),(by omega),((A.cut [0,1,4,5] rfl).trunc 6 rfl rfl rfl (iR h0 rfl)).sayT (by rfl)⟩)
   (fun h1 A=>N9 6 A rfl rfl fun A=>C9 [0,1,2] (VN m cs ts nn 3 (by omega)) A rfl fun A=>N9 1 A rfl rfl fun A=>have A:=AB A 42 (.tt) rfl (fun _=>rfl);N9 2 A rfl rfl fun A=>C9 [0,1,2] (VN m cs ts nn (-1) (by omega)) A rfl fun A=>N9 1 A rfl rfl fun A=>have A:=AB A 46 (.tt) rfl (fun _=>rfl);N9 5 A rfl rfl fun A=>R9 A rfl h0 rfl rfl rfl)
end Go.Proofs.YtbbdanhpphlbpaaGreatDoor.Mc
namespace Go.Proofs.YtbbdanhpphlbpaaGreatDoor
open Go.RowKit
set_option simprocs false
def m1 (ws:List Tk)(s:Ps):Ps:=s.wa (HJ ws s.as [91])
def m2 (ws:List Tk)(s:Ps):Ps:=⟨{s.ins with loc:=KH ws s.as [[120],[121],[122]],ix:= -1},s.lab,(Cy ws s.as [[120],[121],[122]]).e,(Cy ws s.as [[120],[121],[122]]).a,(Cy ws s.as [[120],[121],[122]]).p⟩
def Vo (ws:List Tk)(s:Ps):Bool:=MT ws s.p [43]
def m3 (ws:List Tk)(s:Ps):Ps:=⟨s.ins,s.lab,s.e,s.a,MU ws s.p [43]⟩
def cS (ws:List Tk)(s:Ps):Bool:=(ws.getD s.p Ad).kind==2
def Pd (ws:List Tk)(s:Ps):Ps:=⟨{s.ins with off:=UK ws s.p},s.lab,s.e,s.a,PY ws s.p⟩
def Xt (g:Lg)(ws:List Tk)(s:Ps):Ps:=⟨{s.ins with ix:=KH ws s.as [g.r0,g.r1,g.r2,g.r3,g.r4,g.r5,g.r6,g.r7]},s.lab,(Cy ws s.as [g.r0,g.r1,g.r2,g.r3,g.r4,g.r5,g.r6,g.r7]).e,(Cy ws s.as [g.r0,g.r1,g.r2,g.r3,g.r4,g.r5,g.r6,g.r7]).a,(Cy ws s.as [g.r0,g.r1,g.r2,g.r3,g.r4,g.r5,g.r6,g.r7]).p⟩
def m5 (ws:List Tk)(s:Ps):Ps:=s.wa (HJ ws s.as [93])
def II (ws:List Tk)(s:Ps):Ps:=m3 ws (m2 ws (m1 ws s))
def IJ (g:Lg)(ws:List Tk)(s:Ps):Ps:=m5 ws (if Vo ws (m2 ws (m1 ws s))=true then(if cS ws (II ws s)=true then(if Vo ws (Pd ws (II ws s))=true then Xt g ws (m3 ws (Pd ws (II ws s)))else m3 ws (Pd ws (II ws s)))else Xt g ws (II ws s))else II ws s)
section
variable {g:Lg}{ws:List Tk}{s:Ps}
theorem CQ (h:s.p≤ws.length):(m1 ws s).p≤ws.length:=DC (s:=s.as) h
theorem Eb (h:s.p≤ws.length):(m2 ws s).p≤ws.length:=CU (s:=s.as) h
theorem CH (h:s.p≤ws.length):(m3 ws s).p≤ws.length:=JM h
theorem aZ (h:s.p≤ws.length):(m5 ws s).p≤ws.length:=DC (s:=s.as) h
theorem Af (h:s.p≤ws.length):(Pd ws s).p≤ws.length:=JN h
theorem BC (h:s.p≤ws.length):(Xt g ws s).p≤ws.length:=CU (s:=s.as) h
theorem AO (h:s.p≤ws.length):(II ws s).p≤ws.length:=CH (Eb (CQ h))
theorem UU (h:s.p≤ws.length):(IJ g ws s).p≤ws.length:=by
 unfold IJ
 apply aZ
 split
 ·split
  ·split
   ·exact BC (CH (Af (AO h)))
   ·exact CH (Af (AO h))
  ·exact BC (AO h)
 ·exact AO h
end
abbrev CW (ws:List Tk)(s:Ps):Ps:=(⟨(⟨s.ins.op,s.ins.dst,s.ins.ra,s.ins.rb,s.ins.imm,KH ws (HJ ws s.as [91]) [[120],[121],[122]],s.ins.off,(-1),s.ins.sz,s.ins.fn,s.ins.acq,s.ins.weak,s.ins.rel,s.ins.pred,s.ins.succ,s.ins.to_,s.ins.zero⟩:In),s.lab,(Cy ws (HJ ws s.as [91]) [[120],[121],[122]]).e,(Cy ws (HJ ws s.as [91]) [[120],[121],[122]]).a,MU ws ((Cy ws (HJ ws s.as [91]) [[120],[121],[122]]).p) [43]⟩:Ps)
theorem W2 (g:Lg)(L:List Rw)(c:Nat)(ws:List Tk)(cw:Nat)(s:Ps)(hk:s.p≤ws.length)(hn:ws.length≤1000000)(hw:MI ws):Fn Tryz.prog 255 [.ptr 0 0] [some (.blk (Oj g L.length c s.ins s.lab 1 4)),some (.blk [.ptr 2 0,.int .i64 s.e,.int .i64 s.a]),some (.blk [.sl 3 ws.length cw,.int .i64 ((s.p:Nat):Int)]),some (EY ws),some (EJ L)] (Rt (.tup []) [some (.blk (Oj g L.length c ((IJ g ws s).ins) ((IJ g ws s).lab) 1 4)),some (.blk [.ptr 2 0,.int .i64 ((IJ g ws s).e),.int .i64 ((IJ g ws s).a)]),some (.blk [.sl 3 ws.length cw,.int .i64 (((IJ g ws s).p:Nat):Int)]),some (EY ws),some (EJ L)]):=
 AG (n:=72) (by kernel_rfl) Tryz.func255 rfl rfl rfl fun G w a h0 A=>N9 6 A rfl rfl fun A=>C9 [1,2,3] (MJ ws cw s.as [91] (by first|exact hk|exact CQ hk|exact Eb (CQ hk)|exact AO hk|exact Af (AO hk)|exact CH (Af (AO hk))|exact BC (AO hk)|exact BC (CH (Af (AO hk)))) hn hw) A rfl fun A=>N9 3 A rfl rfl fun A=>Aq hX BK [] [(5,.sl 5 3 3,[some (.blk (Oj g L.length c s.ins s.lab 1 4)),some (.blk [.ptr 2 0,.int .i64 ((HJ ws s.as [91]).e),.int .i64 ((HJ ws s.as [91]).a)]),some (.blk [.sl 3 ws.length cw,.int .i64 (((HJ ws s.as [91]).p:Nat):Int)]),some (EY ws),some (EJ L),some (.blk [.str [120],.str [121],.str [122]])]),(6,.int .i64 (KH ws (HJ ws s.as [91]) [[120],[121],[122]]),[some (.blk (Oj g L.length c s.ins s.lab 1 4)),some (.blk [.ptr 2 0,.int .i64 ((Cy ws (HJ ws s.as [91]) [[120],[121],[122]]).e),.int .i64 ((Cy ws (HJ ws s.as [91]) [[120],[121],[122]]).a)]),some (.blk [.sl 3 ws.length cw,.int .i64 (((Cy ws (HJ ws s.as [91]) [[120],[121],[122]]).p:Nat):Int)]),some (EY ws),some (EJ L),some (.blk [.str [120],.str [121],.str [122]])])] A rfl rfl rfl rfl (by kernel_rfl) ⟨DV [] Vm rfl rfl rfl rfl rfl rfl rfl,⟨DV [1,2,3,5] (UQ ws cw (HJ ws s.as [91]) (by first|exact hk|exact CQ hk|exact Eb (CQ hk)|exact AO hk|exact Af (AO hk)|exact CH (Af (AO hk))|exact BC (AO hk)|exact BC (CH (Af (AO hk)))) hn hw) rfl rfl rfl rfl rfl rfl rfl,⟨trivial,trivial⟩⟩⟩ trivial fun A=>N9 20 A rfl rfl fun A=>C9 [2,3,6] (Rx ws cw ((Cy ws (HJ ws s.as [91]) [[120],[121],[122]]).p) [43] (by first|exact hk|exact CQ hk|exact Eb (CQ hk)|exact AO hk|exact Af (AO hk)|exact CH (Af (AO hk))|exact BC (AO hk)|exact BC (CH (Af (AO hk)))) hn) A rfl fun A=>N9 8 A rfl rfl fun A=>fork 32 A rfl
  (fun h1 A=>N9 1 A rfl rfl fun A=>C9 [0,1,2,3,4] (Pb g L c ws cw (CW ws s) (by first|exact hk|exact CQ hk|exact Eb (CQ hk)|exact AO hk|exact Af (AO hk)|exact CH (Af (AO hk))|exact BC (AO hk)|exact BC (CH (Af (AO hk)))) hn hw) A rfl fun A=>N9 3 A rfl rfl fun A=>AN 35 A rfl
   (fun h2 A=>N9 11 A rfl rfl fun A=>C9 [2,3] (Ry ws cw ((CW ws s).p) (by first|exact hk|exact CQ hk|exact Eb (CQ hk)|exact AO hk|exact Af (AO hk)|exact CH (Af (AO hk))|exact BC (AO hk)|exact BC (CH (Af (AO hk)))) hn) A rfl fun A=>N9 18 A rfl rfl fun A=>C9 [2,3,7] (Rx ws cw (PY ws ((CW ws s).p)) [43] (by first|exact hk|exact CQ hk|exact Eb (CQ hk)|exact AO hk|exact Af (AO hk)|exact CH (Af (AO hk))|exact BC (AO hk)|exact BC (CH (Af (AO hk)))) hn) A rfl fun A=>N9 9 A rfl rfl fun A=>fork 60 A rfl
    (fun h3 A=>N9 4 A rfl rfl fun A=>C9 [0,1,2,3,4] (aW g L c ws cw (⟨(⟨(CW ws s).ins.op,(CW ws s).ins.dst,(CW ws s).ins.ra,(CW ws s).ins.rb,(CW ws s).ins.imm,(CW ws s).ins.loc,UK ws ((CW ws s).p),(CW ws s).ins.ix,(CW ws s).ins.sz,(CW ws s).ins.fn,(CW ws s).ins.acq,(CW ws s).ins.weak,(CW ws s).ins.rel,(CW ws s).ins.pred,(CW ws s).ins.succ,(CW ws s).ins.to_,(CW ws s).ins.zero⟩:In),(CW ws s).lab,(CW ws s).e,(CW ws s).a,MU ws (PY ws ((CW ws s).p)) [43]⟩:Ps) (by first|exact hk|exact CQ hk|exact Eb (CQ hk)|exact AO hk|exact Af (AO hk)|exact CH (Af (AO hk))|exact BC (AO hk)|exact BC (CH (Af (AO hk)))) hn hw) A rfl fun A=>N9 11 A rfl rfl fun A=>C9 [1,2,3] (MJ ws cw (((⟨(⟨(CW ws s).ins.op,(CW ws s).ins.dst,(CW ws s).ins.ra,(CW ws s).ins.rb,(CW ws s).ins.imm,(CW ws s).ins.loc,UK ws ((CW ws s).p),(CW ws s).ins.ix,(CW ws s).ins.sz,(CW ws s).ins.fn,(CW ws s).ins.acq,(CW ws s).ins.weak,(CW ws s).ins.rel,(CW ws s).ins.pred,(CW ws s).ins.succ,(CW ws s).ins.to_,(CW ws s).ins.zero⟩:In),(CW ws s).lab,(CW ws s).e,(CW ws s).a,MU ws (PY ws ((CW ws s).p)) [43]⟩:Ps).wa (Cy ws (⟨(⟨(CW ws s).ins.op,(CW ws s).ins.dst,(CW ws s).ins.ra,(CW ws s).ins.rb,(CW ws s).ins.imm,(CW ws s).ins.loc,UK ws ((CW ws s).p),(CW ws s).ins.ix,(CW ws s).ins.sz,(CW ws s).ins.fn,(CW ws s).ins.acq,(CW ws s).ins.weak,(CW ws s).ins.rel,(CW ws s).ins.pred,(CW ws s).ins.succ,(CW ws s).ins.to_,(CW ws s).ins.zero⟩:In),(CW ws s).lab,(CW ws s).e,(CW ws s).a,MU ws (PY ws ((CW ws s).p)) [43]⟩:Ps).as [g.r0,g.r1,g.r2,g.r3,g.r4,g.r5,g.r6,g.r7])).as) [93] (by first|exact hk|exact CQ hk|exact Eb (CQ hk)|exact AO hk|exact Af (AO hk)|exact CH (Af (AO hk))|exact BC (AO hk)|exact BC (CH (Af (AO hk)))) hn hw) A rfl fun A=>N9 1 A rfl rfl fun A=>Df (R9 A rfl h0 rfl rfl (by unfold IJ;rw [if_pos (show Vo ws (m2 ws (m1 ws s))=true from h1),if_pos (show cS ws (II ws s)=true from(beq_iff_eq.2 h2)),if_pos (show Vo ws (Pd ws (II ws s))=true from h3)]<;>rfl)))
    (fun h3 A=>N9 8 A rfl rfl fun A=>C9 [1,2,3] (MJ ws cw (⟨MU ws (PY ws ((CW ws s).p)) [43],(CW ws s).e,(CW ws s).a⟩:As) [93] (by first|exact hk|exact CQ hk|exact Eb (CQ hk)|exact AO hk|exact Af (AO hk)|exact CH (Af (AO hk))|exact BC (AO hk)|exact BC (CH (Af (AO hk)))) hn hw) A rfl fun A=>N9 1 A rfl rfl fun A=>Df (R9 A rfl h0 rfl rfl (by unfold IJ;rw [if_pos (show Vo ws (m2 ws (m1 ws s))=true from h1),if_pos (show cS ws (II ws s)=true from(beq_iff_eq.2 h2)),if_neg (show¬Vo ws (Pd ws (II ws s))=true from ne_true_of_eq_false h3)]<;>rfl))))
   (fun h2 A=>N9 9 A rfl rfl fun A=>fork 60 A rfl
    (fun h4 A=>N9 4 A rfl rfl fun A=>C9 [0,1,2,3,4] (aW g L c ws cw (CW ws s) (by first|exact hk|exact CQ hk|exact Eb (CQ hk)|exact AO hk|exact Af (AO hk)|exact CH (Af (AO hk))|exact BC (AO hk)|exact BC (CH (Af (AO hk)))) hn hw) A rfl fun A=>N9 11 A rfl rfl fun A=>C9 [1,2,3] (MJ ws cw (((CW ws s).wa (Cy ws (CW ws s).as [g.r0,g.r1,g.r2,g.r3,g.r4,g.r5,g.r6,g.r7])).as) [93] (by first|exact hk|exact CQ hk|exact Eb (CQ hk)|exact AO hk|exact Af (AO hk)|exact CH (Af (AO hk))|exact BC (AO hk)|exact BC (CH (Af (AO hk)))) hn hw) A rfl fun A=>N9 1 A rfl rfl fun A=>Df (R9 A rfl h0 rfl rfl (by unfold IJ;rw [if_pos (show Vo ws (m2 ws (m1 ws s))=true from h1),if_neg (show¬cS ws (II ws s)=true from ne_true_of_eq_false (beq_eq_false_iff_ne.2 h2))]<;>rfl)))
    (fun h4 A=>absurd (h1.symm.trans h4) (by decide))))
  (fun h1 A=>N9 14 A rfl rfl fun A=>fork 60 A rfl
   (fun h5 A=>absurd (h1.symm.trans h5) (by decide))
   (fun h5 A=>N9 8 A rfl rfl fun A=>C9 [1,2,3] (MJ ws cw (⟨MU ws ((Cy ws (HJ ws s.as [91]) [[120],[121],[122]]).p) [43],(Cy ws (HJ ws s.as [91]) [[120],[121],[122]]).e,(Cy ws (HJ ws s.as [91]) [[120],[121],[122]]).a⟩:As) [93] (by first|exact hk|exact CQ hk|exact Eb (CQ hk)|exact AO hk|exact Af (AO hk)|exact CH (Af (AO hk))|exact BC (AO hk)|exact BC (CH (Af (AO hk)))) hn hw) A rfl fun A=>N9 1 A rfl rfl fun A=>Df (R9 A rfl h0 rfl rfl (by unfold IJ;rw [if_neg (show¬Vo ws (m2 ws (m1 ws s))=true from ne_true_of_eq_false h1)]<;>rfl))))
def fK (g:Lg)(t:Tk):Bool:=if g.im=[]then((t.kind==2)||((t.kind==3)&&(t.text==[45])))else((t.kind==3)&&(t.text==g.im))
def fL (g:Lg)(r:Rw)(p:Int)(t:Tk):Bool:=if p=5 then fK g t else if p=6 then((t.kind==3)&&(t.text==[91]))else if p=10 then((t.kind==1)&&(t.text==r.wd))else(t.kind==1)
def fM (g:Lg)(ws:List Tk)(p:Int)(s:Ps):Ps:=
 if p=1 then⟨{s.ins with dst:=KH ws s.as [g.r0,g.r1,g.r2,g.r3,g.r4,g.r5,g.r6,g.r7]},s.lab,(Cy ws s.as [g.r0,g.r1,g.r2,g.r3,g.r4,g.r5,g.r6,g.r7]).e,(Cy ws s.as [g.r0,g.r1,g.r2,g.r3,g.r4,g.r5,g.r6,g.r7]).a,(Cy ws s.as [g.r0,g.r1,g.r2,g.r3,g.r4,g.r5,g.r6,g.r7]).p⟩else
 if p=4 then⟨{s.ins with dst:=KH ws s.as [g.r0,g.r1,g.r2,g.r3,g.r4,g.r5,g.r6,g.r7]},s.lab,(Cy ws s.as [g.r0,g.r1,g.r2,g.r3,g.r4,g.r5,g.r6,g.r7]).e,(Cy ws s.as [g.r0,g.r1,g.r2,g.r3,g.r4,g.r5,g.r6,g.r7]).a,(Cy ws s.as [g.r0,g.r1,g.r2,g.r3,g.r4,g.r5,g.r6,g.r7]).p⟩else
 if p=2 then⟨{s.ins with ra:=KH ws s.as [g.r0,g.r1,g.r2,g.r3,g.r4,g.r5,g.r6,g.r7]},s.lab,(Cy ws s.as [g.r0,g.r1,g.r2,g.r3,g.r4,g.r5,g.r6,g.r7]).e,(Cy ws s.as [g.r0,g.r1,g.r2,g.r3,g.r4,g.r5,g.r6,g.r7]).a,(Cy ws s.as [g.r0,g.r1,g.r2,g.r3,g.r4,g.r5,g.r6,g.r7]).p⟩else
 if p=3 then⟨{s.ins with rb:=KH ws s.as [g.r0,g.r1,g.r2,g.r3,g.r4,g.r5,g.r6,g.r7]},s.lab,(Cy ws s.as [g.r0,g.r1,g.r2,g.r3,g.r4,g.r5,g.r6,g.r7]).e,(Cy ws s.as [g.r0,g.r1,g.r2,g.r3,g.r4,g.r5,g.r6,g.r7]).a,(Cy ws s.as [g.r0,g.r1,g.r2,g.r3,g.r4,g.r5,g.r6,g.r7]).p⟩else
 if p=5 then⟨{s.ins with imm:=fI g ws s.as},s.lab,(R6 g ws s.as).e,(R6 g ws s.as).a,(R6 g ws s.as).p⟩else
 if p=6 then IJ g ws s else
 if p=7 then⟨s.ins,iJ ws s.p,s.e,s.a,fH ws s.p⟩else
 if p=8 then⟨{s.ins with pred:=KH ws s.as [g.f0,g.f1,g.f2]+1},s.lab,(Cy ws s.as [g.f0,g.f1,g.f2]).e,(Cy ws s.as [g.f0,g.f1,g.f2]).a,(Cy ws s.as [g.f0,g.f1,g.f2]).p⟩else
 if p=9 then⟨{s.ins with succ:=KH ws s.as [g.f0,g.f1,g.f2]+1},s.lab,(Cy ws s.as [g.f0,g.f1,g.f2]).e,(Cy ws s.as [g.f0,g.f1,g.f2]).a,(Cy ws s.as [g.f0,g.f1,g.f2]).p⟩else
 if p=10 then⟨s.ins,s.lab,s.e,s.a,UJ ws s.p⟩else
 s
theorem Xu {g:Lg}{ws:List Tk}{p:Int}{s:Ps}(h:s.p≤ws.length):(fM g ws p s).p≤ws.length:=by
 unfold fM
 split
 ·exact CU (s:=s.as) h
 split
 ·exact CU (s:=s.as) h
 split
 ·exact CU (s:=s.as) h
 split
 ·exact CU (s:=s.as) h
 split
 ·exact UR (s:=s.as) h
 split
 ·exact UU h
 split
 ·exact Xi h
 split
 ·exact CU (s:=s.as) h
 split
 ·exact CU (s:=s.as) h
 split
 ·exact JL h
 ·exact h
end Go.Proofs.YtbbdanhpphlbpaaGreatDoor
namespace Go.Proofs.YtbbdanhpphlbpaaGreatDoor
open Go.Shelf Go.RowKit
end Go.Proofs.YtbbdanhpphlbpaaGreatDoor
namespace Go.Proofs.YtbbdanhpphlbpaaGreatDoor
open Go.RowKit
set_option simprocs false
def gQ (g:Lg)(nm:List UInt8):List (List UInt8):=[(Lib.cut nm [42]).1++g.l0++(Lib.cut nm [42]).2.1,(Lib.cut nm [42]).1++g.l1++(Lib.cut nm [42]).2.1,(Lib.cut nm [42]).1++g.l2++(Lib.cut nm [42]).2.1,(Lib.cut nm [42]).1++g.l3++(Lib.cut nm [42]).2.1]
def gR (g:Lg)(nm q:List UInt8):Int×Bool:=if(Lib.cut nm [42]).2.2=true then(if Et (gQ g nm) q<0 then(0,false)else(IntKind.wrap .i64 (1*2^min (Et (gQ g nm) q).toNat (IntKind.bits .i64)),true))else(0,q==nm)
def Xv (g:Lg)(q:List UInt8)(z:Int×List Rw)(r:Rw):Int×List Rw:=if(gR g r.nm q).2=true then((gR g r.nm q).1,z.2++[r])else z
def zK (g:Lg)(q:List UInt8)(L:List Rw)(z:Int)(k:Nat):Int×List Rw:=(L.take k).foldl (Xv g q) (z,[])
section
variable {g:Lg}{q:List UInt8}{L:List Rw}{z:Int}{k:Nat}
theorem gS:∀(l:List Rw) (z:Int×List Rw),(l.foldl (Xv g q) z).2.length≤z.2.length+l.length
 | [],z=>by simp
 |r::l,z=>by
  rw [List.foldl_cons]
  have:=gS l (Xv g q z r)
  have h2:(Xv g q z r).2.length≤z.2.length+1:=by unfold Xv;split<;>simp
  rw [List.length_cons];omega
theorem Xw:(zK g q L z k).2.length≤k:=by
 have:=gS (g:=g) (q:=q) (L.take k) (z,[])
 unfold zK
 have h2:(L.take k).length≤k:=by rw [List.length_take];omega
 simp at this⊢;omega
theorem Vp:∀(l:List Rw) (z:Int×List Rw) (r:Rw),r∈(l.foldl (Xv g q) z).2→r∈z.2∨r∈l
 | [],z,r,h=>.inl h
 | x::l,z,r,h=>by
  rw [List.foldl_cons]at h
  rcases Vp l _ r h with h1|h1
  ·unfold Xv at h1
   split at h1
   ·rcases List.mem_append.1 h1 with h2|h2
    ·exact .inl h2
    ·rw [List.mem_singleton]at h2;subst h2;exact .inr List.mem_cons_self
   ·exact .inl h1
  ·exact .inr (List.mem_cons_of_mem _ h1)
end
def Yc (g:Lg)(ws:List Tk)(L:List Rw)(s:Ps):Int×List Rw:=zK g (ws.getD s.p Ad).text L s.ins.sz L.length
def Vq (g:Lg)(ws:List Tk)(L:List Rw)(s:Ps):List Rw:=if(ws.getD s.p Ad).kind=1 then(Yc g ws L s).2 else []
def cT (g:Lg)(ws:List Tk)(L:List Rw)(s:Ps):Ps:=if(ws.getD s.p Ad).kind=1 then
  (if(Yc g ws L s).2.length=0 then⟨{s.ins with sz:=(Yc g ws L s).1},s.lab,(FA ws s.as 21).e,(FA ws s.as 21).a,UJ ws (FA ws s.as 21).p⟩else⟨{s.ins with sz:=(Yc g ws L s).1},s.lab,s.e,s.a,UJ ws s.p⟩)
 else s.wa (FA ws s.as 22)
theorem Xx {g:Lg}{ws:List Tk}{L:List Rw}{s:Ps}(h:s.p≤ws.length):(cT g ws L s).p≤ws.length:=by
 unfold cT
 split
 ·split
  ·exact JL (k:=(FA ws s.as 21).p) (by rw [GM];exact h)
  ·exact JL h
 ·show(FA ws s.as 22).p≤_
  rw [GM];exact h
def iP (g:Lg)(k:Nat)(t:Tk)(r:Rw):Bool:= !(fL g r (r.ps.getD k 0) t)
def a6 (k:Nat)(r:Rw):Bool:=r.ps.getD k 0==10
def SC (f:Rw→Bool)(R:List Rw):Int:=match(List.range R.length).find? (fun j=>f (R.getD j Rw.z))with|some j=>(j:Int)|none=> -1
structure UV (f:Rw→Bool)(R:List Rw)(k:Nat):Prop where
 le:k≤R.length
 no:∀j,j<k→f (R.getD j Rw.z)=false
section
variable {f:Rw→Bool}{R cur:List Rw}{k i j:Nat}
theorem UV.i0:UV f R 0:=⟨Nat.zero_le _,fun j h=>by omega⟩
theorem UV.nx (hI:UV f R k)(hk:(k:Int)<((R.length:Nat):Int))(h:f (R.getD ((k:Int)).toNat Rw.z)=false):UV f R (k+1):=⟨by omega,fun j hj=>by
 by_cases e:j=k
 ·subst e;rwa [Int.toNat_natCast]at h
 ·exact hI.no j (by omega)⟩
theorem UV.hit (hI:UV f R k)(hk:(k:Int)<((R.length:Nat):Int))(h:f (R.getD ((k:Int)).toNat Rw.z)=true):SC f R=(k:Int):=by
 rw [Int.toNat_natCast]at h
 unfold SC
 have:(List.range R.length).find? (fun j=>f (R.getD j Rw.z))=some k:=by
  rw [List.find?_range_eq_some]
  exact⟨h,by rw [List.mem_range];omega,fun j hj=>by have:=hI.no j hj;rw [this];rfl⟩
 rw [this]
theorem UV.fi (hI:UV f R k)(hk:¬(k:Int)<((R.length:Nat):Int)):SC f R= -1:=by
 unfold SC
 have:(List.range R.length).find? (fun j=>f (R.getD j Rw.z))=none:=by
  rw [List.find?_eq_none]
  intro j hj
  have:=hI.no j (by have:=List.mem_range.1 hj;omega)
  rw [this];decide
 rw [this]
structure cU (f:Rw→Bool)(R cur:List Rw)(i j:Nat):Prop where
 len:cur.length=R.length
 ij:i<j
 jl:j≤R.length
 pre:cur.take i=(R.take j).filter (fun r=> !f r)
 post:∀m,j≤m→cur[m]?=R[m]?
theorem a7 {l:List Rw}(h:j<l.length):l.take (j+1)=l.take j++[l.getD j Rw.z]:=by
 rw [List.take_add_one,List.getD_eq_getElem?_getD,List.getElem?_eq_getElem h];rfl
theorem cU.i0 {k:Nat}(h1:k<R.length)(h2:f (R.getD k Rw.z)=true)(h3:∀j,j<k→f (R.getD j Rw.z)=false):cU f R R k (k+1):=by
 refine⟨rfl,by omega,h1,?_,fun m _=>rfl⟩
 rw [a7 h1,List.filter_append]
 have e1:(R.take k).filter (fun r=> !f r)=R.take k:=by
  rw [List.filter_eq_self]
  intro r hr
  obtain⟨j,hj,hg⟩:=List.getElem_of_mem hr
  rw [List.length_take]at hj
  have:=h3 j (by omega)
  rw [List.getD_eq_getElem?_getD,List.getElem?_eq_getElem (by omega)]at this
  rw [List.getElem_take]at hg
  simp only [Option.getD_some,hg]at this
  rw [this];rfl
 rw [e1,List.filter_cons,h2];simp
theorem cU.at (h:cU f R cur i j):cur.getD j Rw.z=R.getD j Rw.z:=by
 rw [List.getD_eq_getElem?_getD,List.getD_eq_getElem?_getD,h.post j (Nat.le_refl _)]
end
def iM (kk:Nat)(t:Tk)(R:List Rw):Int:=if((decide (SC (a6 kk) R≥0))&&(t.kind==1))=true then 21 else 22
def gT (g:Lg)(kk:Nat)(t:Tk)(R:List Rw):List Rw:=R.filter (fun r=> !iP g kk t r)
def cV (g:Lg)(ws:List Tk)(kk:Nat)(R:List Rw)(s:Ps):Ps:=if(gT g kk (ws.getD s.p Ad) R).length=0 then s.wa (FA ws s.as (iM kk (ws.getD s.p Ad) R))else s
theorem SD {g:Lg}{ws:List Tk}{kk:Nat}{R:List Rw}{s:Ps}(h:s.p≤ws.length):(cV g ws kk R s).p≤ws.length:=by
 unfold cV;split
 ·show(FA ws s.as _).p≤_
  rw [GM];exact h
 ·exact h
section
variable {f:Rw→Bool}{R cur:List Rw}{i j kk:Nat}{w:World}{ks:List Nat}{x:Rw}
end
end Go.Proofs.YtbbdanhpphlbpaaGreatDoor
namespace Go.Proofs.YtbbdanhpphlbpaaGreatDoor
open Go.Shelf Go.RowKit
def a8 (l:List UInt8):List Value:=[.string (S l)]
def HF:Go.Shelf.Ren:=⟨fun|156=>192|165=>229|166=>230|169=>231|240=>262|241=>263|276=>285|277=>286|n=>n,fun|0=>0|3=>3|4=>4|9=>9|20=>20|31=>207|37=>152|70=>242|72=>244|75=>215|76=>245|127=>277|164=>293|5=>5|80=>50|n=>n,fun|n=>n⟩
theorem SE:Go.Proofs.Lays.n156 Tryz.prog HF:={
 mixed:=by kernel_rfl
 f156:=Tryz.func192.trans (congrArg some (by kernel_rfl))
 f165:=Tryz.func229.trans (congrArg some (by kernel_rfl))
 f166:=Tryz.func230.trans (congrArg some (by kernel_rfl))
 f169:=Tryz.func231.trans (congrArg some (by kernel_rfl))
 f240:=Tryz.func262.trans (congrArg some (by kernel_rfl))
 f241:=Tryz.func263.trans (congrArg some (by kernel_rfl))
 f276:=Tryz.func285.trans (congrArg some (by kernel_rfl))
 f277:=Tryz.func286.trans (congrArg some (by kernel_rfl))
 t0:=Tryz.underlying0
 a0:=Tryz.isAgg0
 z0:=Tryz.sizeOf0
 v0:=Tryz.zeroValue0
 t3:=Tryz.underlying3
 a3:=Tryz.isAgg3
 z3:=Tryz.sizeOf3
 v3:=Tryz.zeroValue3
 t4:=Tryz.underlying4
 a4:=Tryz.isAgg4
 z4:=Tryz.sizeOf4
 v4:=Tryz.zeroValue4
 t9:=Tryz.underlying9
 a9:=Tryz.isAgg9
 z9:=Tryz.sizeOf9
 v9:=Tryz.zeroValue9
 t20:=Tryz.underlying20
 a20:=Tryz.isAgg20
 z20:=Tryz.sizeOf20
 v20:=Tryz.zeroValue20
 t31:=Tryz.underlying207
 a31:=Tryz.isAgg207
 z31:=Tryz.sizeOf207
 v31:=Tryz.zeroValue207
 t37:=Tryz.underlying152
 a37:=Tryz.isAgg152
 z37:=Tryz.sizeOf152
 v37:=Tryz.zeroValue152
 t70:=Tryz.underlying242
 a70:=Tryz.isAgg242
 z70:=Tryz.sizeOf242
 v70:=Tryz.zeroValue242
 t72:=Tryz.underlying244
 a72:=Tryz.isAgg244
 z72:=Tryz.sizeOf244
 v72:=Tryz.zeroValue244
 t75:=Tryz.underlying215
 a75:=Tryz.isAgg215
 z75:=Tryz.sizeOf215
 v75:=Tryz.zeroValue215
 t76:=Tryz.underlying245
 a76:=Tryz.isAgg245
 z76:=Tryz.sizeOf245
 v76:=Tryz.zeroValue245
 t127:=Tryz.underlying277
 a127:=Tryz.isAgg277
 z127:=Tryz.sizeOf277
 v127:=Tryz.zeroValue277
 t164:=Tryz.underlying293
 a164:=Tryz.isAgg293
 z164:=Tryz.sizeOf293
 v164:=Tryz.zeroValue293}
theorem Pe:Go.Proofs.Builder.Extra Tryz.prog HF where
 sizeBuilder:=by kernel_rfl
 liesBuilder:=by kernel_rfl
 t5:=Tryz.underlying5
 a5:=Tryz.isAgg5
 z5:=Tryz.sizeOf5
 v5:=Tryz.zeroValue5
 infoByte:=by kernel_rfl
 cellsByte:=by kernel_rfl
 sizeByte:=by kernel_rfl
 neB5:=by decide
theorem SF (mv:Value)(ls:List (List UInt8))(q:List UInt8)(w:World)(hM:Sl a8 1 w.heap.size w mv ls)(h0:ls≠[])(hn:ls.length≤1000)(hl:(Lib.join ls q).length≤1000000):Calls Tryz.prog 192 #[mv,.string (S q)] w fun e w'=>e=.returned (.string (S (Lib.join ls q)))∧BW w w':=by
 obtain⟨ao,cap,rfl,mV,mI⟩:=hM
 obtain⟨x,r,rfl⟩:∃x r,ls=x::r:=by cases ls with
  |nil=>exact absurd rfl h0
  |cons x r=>exact⟨x,r,rfl⟩
 obtain⟨b,o,rfl,hb,_⟩:=mI 0 x rfl
 have sG:((x::r).map S).map (fun s=>s.data.toList)=x::r:=by
  rw [List.map_map]
  conv=>rhs;rw [←List.map_id (x::r)]
  exact List.map_congr_left fun y _=>EC y
 have hlen:((x::r).map S).length=(x::r).length:=List.length_map _
 have hc:=Any.strings_Join SE Pe b o cap ((x::r).map S) (S q) w (fun j y hy=>by
   rw [List.getElem?_map]at hy
   cases hz:(x::r)[j]? with
   |none=>rw [hz]at hy;cases hy
   |some z=>
    rw [hz]at hy
    simp only [Option.map_some,Option.some.injEq]at hy
    subst hy
    obtain⟨b',o',h1,_,h3⟩:=mI j z hz
    simp only [Option.some.injEq,Addr.mk.injEq]at h1
    obtain⟨rfl,rfl,_⟩:=h1
    have:=h3 0 (.string (S z)) rfl
    rw [Nat.mul_one,Nat.add_zero]at this
    exact this) hb (by rw [hlen];omega) (by rw [hlen];exact mV) (by rw [sG,EC];omega)
 rw [hlen,sG,EC]at hc
 exact hc.mono fun e w' h=>⟨h.1,h.2⟩
end Go.Proofs.YtbbdanhpphlbpaaGreatDoor
namespace Go.Proofs.YtbbdanhpphlbpaaGreatDoor
open Go.RowKit
theorem SG {H:Hp}{G:Gr}{w:World}(hl:H.length=G.length)(h:∀(i:Nat) (e:A6),H[i]?=some (some e)→e.mut=false∧Ae G w ((G[i]?).getD none) e):Mem H G w:=
 ⟨hl,fun i e he=>(h i e he).2,fun i j e f L M _ he _ hm=>by rw [(h i e he).1]at hm;cases hm⟩
theorem NO {α:Type} {enc:α→List Value} {f:Nat→List SV} {s B n cap:Nat} {w:World} {l:List α} {bo:Option (Nat×Nat)} (h:Sl enc s B w (.slice (bo.map fun x=>⟨x.1,x.2,none⟩) n cap) l) (hB:B≤w.heap.size)
  (hf:∀k x,l[k]?=some x→AE [] (f k)=some (enc x)) (jC:∀k,∃vs,AE [] (f k)=some vs):
  n=l.length∧∀(G F:Gr),den (G++(bo.map fun x=>(⟨x.1,List.replicate x.2 undef,[],0⟩:Loc))::F) (.sl G.length l.length cap)=some (.slice (bo.map fun x=>⟨x.1,x.2,none⟩) n cap)∧Ae (G++(bo.map fun x=>(⟨x.1,List.replicate x.2 undef,[],0⟩:Loc))::F) w (bo.map fun x=>(⟨x.1,List.replicate x.2 undef,[],0⟩:Loc)) (.lst s l.length f):=by
 obtain⟨ao,cap',hv,mV,he⟩:=h
 simp only [Value.slice.injEq]at hv
 obtain⟨rfl,rfl,rfl⟩:=hv
 refine⟨rfl,fun G F=>⟨?_,jC,?_⟩⟩
 ·unfold den
  rw [List.getElem?_append_right (Nat.le_refl _)]
  cases bo<;>simp [rm]
 ·cases bo with
  |none=>
   left
   cases l with
   |nil=>rfl
   |cons x l=>obtain⟨b,o,h1,_⟩:=he 0 x rfl;cases h1
  | some x=>
   obtain⟨b,o⟩:=x
   cases hl:l with
   |nil=>left;rfl
   | cons y l'=>
    right
    have hb:b<B:=by
     obtain⟨b',o',h1,h2,_⟩:=he 0 y (by rw [hl];rfl)
     cases h1;exact h2
    refine⟨_,rfl,(by show b<_;omega),fun k hk=>?_⟩
    have jQ:k<l.length:=by rw [hl];exact hk
    obtain⟨b',o',h1,h2,h3⟩:=he k l[k] (by simp [jQ])
    cases h1
    exact⟨_,hf k l[k] (by simp [jQ]),by simpa using h3⟩
theorem UW {x:SV}{H H2:Hp}{G:Gr}{w w':World}{e:Ending}(h:Kf (Rt x H2) H G w e w')(nK:∀(i:Nat) (e:A6),H[i]?=some (some e)→e.mut=false):∃v F,den (G++F) x=some v∧e=.returned v∧Mem H2 (G++F) w'∧BW w w':=by
 obtain⟨y,H',F,v,⟨rfl,rfl⟩,h1,h2,h3,jL,_⟩:=h
 have hk:∀k,(keys H G).contains k=false:=fun k=>by
  cases hc:(keys H G).contains k with
  |false=>rfl
  |true=>
   obtain⟨i,e',L,q1,q2,_⟩:=mem_keys.1 hc
   rw [nK i e' q1]at q2;cases q2
 exact⟨v,F,h1,h2,h3,⟨jL.os,jL.tape,jL.output,jL.size,fun k jQ=>jL.block k jQ (hk k)⟩⟩
abbrev SH (ls:List (List UInt8)):A6:=.lst 1 ls.length fun k=>[.str (ls.getD k [])]
theorem bA (ls:List (List UInt8))(q:List UInt8)(h0:ls≠[])(hn:ls.length≤1000)(hl:(Lib.join ls q).length≤1000000):Fn Tryz.prog 192 [.sl 0 ls.length ls.length,.str q] [some (SH ls)] (Rt (.str (Lib.join ls q)) [some (SH ls)]):=by
 refine⟨by kernel_rfl,fun G w vs hM hv=>?_⟩
 obtain⟨p,rfl⟩:∃p,G=[p]:=List.length_eq_one_iff.1 hM.len.symm
 have he:=hM.ent 0 _ rfl
 obtain⟨hd,h|⟨L,hp,hb,hr⟩⟩:=he
 ·exact absurd (List.eq_nil_of_length_eq_zero h) h0
 have xZ:p=some L:=hp
 subst xZ
 have mJ:some [Value.slice (some ⟨L.b,L.pre.length,none⟩) ls.length (ls.length+rm (some L)),.string (S q)]=some vs:=hv
 cases mJ
 have hS:Sl a8 1 w.heap.size w (.slice (some ⟨L.b,L.pre.length,none⟩) ls.length (ls.length+rm (some L))) ls:=⟨_,_,rfl,Nat.le_add_right _ _,fun j x hx=>by
  obtain⟨hj,rfl⟩:=List.getElem?_eq_some_iff.1 hx
  obtain⟨us,q1,q2⟩:=hr j hj
  have e:ls.getD j []=ls[j]:=by simp [List.getD,hj]
  have q3:some [Value.string (S (ls.getD j []))]=some us:=q1
  cases q3
  rw [e]at q2
  exact⟨_,_,rfl,hb,q2⟩⟩
 refine(SF _ ls q w hS h0 hn hl).mono ?_
 rintro e w' ⟨rfl,hg⟩
 have hk:∀k,(keys [some (SH ls)] [some L]).contains k=false:=fun k=>by
  cases hc:(keys [some (SH ls)] [some L]).contains k with
  |false=>rfl
  |true=>
   obtain⟨i,e',M,q1,q2,_⟩:=mem_keys.1 hc
   cases i with
   |zero=>cases q1;cases q2
   |succ i=>cases q1
 refine⟨.str (Lib.join ls q),[some (SH ls)],[],_,⟨rfl,rfl⟩,rfl,rfl,?_,(CR.refl _ w).grow hg,Nat.le_refl _,fun i e he _=>he,fun i e he hm=>?_⟩
 ·refine SG rfl fun i e he=>?_
  cases i with
  | zero=>
   cases he
   refine⟨rfl,hd,.inr ⟨L,rfl,Nat.lt_of_lt_of_le hb hg.size,fun k hk=>?_⟩⟩
   obtain⟨us,q1,q2⟩:=hr k hk
   exact⟨us,q1,fun j x hx=>by
    have:=q2 j x hx
    unfold World.cell? at this⊢
    rw [hg.block _ hb];exact this⟩
  |succ i=>cases he
 ·cases i with
  |zero=>cases he;cases hm
  |succ i=>cases he
end Go.Proofs.YtbbdanhpphlbpaaGreatDoor
namespace Go.Proofs.YtbbdanhpphlbpaaGreatDoor
open Go.RowKit
set_option simprocs false
theorem KJ:∀(f:Nat) (l:List UInt8) (a:Nat) (ws:List Tk),l.length<f+a→a≤l.length→(∃vs,jZ f l a ws=(vs,0,0))∨∃e k,e≠0∧jZ f l a ws=([],e,k)
 |0,l,a,ws,h,h2=>by omega
 | f +1,l,a,ws,h,h2=>by
  cases hs:(iZ (l.drop a)).2 with
  |true=>exact .inr ⟨24,_,by decide,Rr hs⟩
  | false=>
   by_cases h1:a+(iZ (l.drop a)).1=l.length
   ·exact .inl ⟨ws,Rs hs h1⟩
   ·by_cases h3:(iW (l.drop (a+(iZ (l.drop a)).1))).2=0
    ·rw [Ve hs h1 h3]
     have hk:=Of (l.drop a);rw [List.length_drop]at hk
     have hn:=KE h3
     rw [List.length_drop]at hn
     exact KJ f l _ _ (by omega) (by omega)
    ·exact .inr ⟨_,_,h3,Ru hs h1 h3⟩
theorem bB {l:List UInt8}{R:Prop}(h1:∀ws,BP l=(ws,0,0)→R)(h2:∀e k,e≠0→BP l=([],e,k)→R):R:=by
 by_cases h:l.length>8192
 ·exact h2 2 0 (by decide) (H8 h)
 ·rcases KJ (l.length+1) l 0 [] (by omega) (by omega)with⟨vs,h3⟩|⟨e,k,h3,h4⟩
  ·exact h1 vs (by rw [Er (by omega),h3])
  ·exact h2 e k h3 (by rw [Er (by omega),h4])
theorem Xy (ws:List Tk)(l:List UInt8):(((((ws.length:Nat):Int)==1)&&((ws.getD (0:Int).toNat Ad).kind==1))&&((ws.getD (0:Int).toNat Ad).text==l))=(((0:Int)==0)&&(ws.length==1&&((ws.getD 0 Ad).kind==1&&(ws.getD 0 Ad).text==l))):=by
 have h:(((ws.length:Nat):Int)==1)=(ws.length==1):=by rw [Bool.eq_iff_iff,beq_iff_eq,beq_iff_eq];omega
 rw [h,Bool.and_assoc];rfl
def C1 (l:List UInt8):Bool:=(BP l).2.1==0&&((BP l).1.length==1&&(((BP l).1.getD 0 Ad).kind==1&&((BP l).1.getD 0 Ad).text==l))
theorem Ie (l:List UInt8)(os:List (Nat×Obj))(hM:lP os)(hE:lW os):Bi (Gl os) Tryz.prog 47 [.str l] [] (Rt (.bool (C1 l)) []):=
 Ab (n:=34) (by kernel_rfl) Tryz.func47 rfl rfl rfl fun G w a h0 hI A=>N9 8 A rfl rfl fun A=>bB (l:=l)
  (fun ws ht=>I9 [] Gl.ok hI (PW l ws os hM hE ht) A rfl fun A=>N9 13 A rfl rfl fun A=>have A:=AB A 13 (.tt) rfl (fun _=>congrArg (fun b=>some (Value.bool b)) (show(0==0)=true by decide));N9 24 A rfl (BX<|HW (fun hg=>(by have h:=hg;simp at h;omega))<|BX<|HW (fun hg=>(by have h:=hg;simp at h;omega))<|BX<|HW (fun hg=>(by have h:=hg;simp at h;omega))<|BX<|BX<|BX<|HW (fun hg=>(by have h:=hg;simp at h;omega))<|BX<|HW (fun hg=>(by have h:=hg;simp at h;omega))<|BX<|HW (fun hg=>(by have h:=hg;simp at h;omega))<|BX<|BX<|BX<|iT) fun A=>R9 A rfl h0 rfl (by unfold C1;rw [ht];exact congrArg SV.bool (Xy ws l)) rfl)
  (fun e k he ht=>I9 [] Gl.ok hI (PX l e k os hM hE ht he) A rfl fun A=>N9 13 A rfl rfl fun A=>have A:=AB A 13 (.ff) rfl (fun _=>congrArg (fun b=>some (Value.bool b)) (show(e==0)=false by simpa using he));N9 24 A rfl rfl fun A=>R9 A rfl h0 rfl (by unfold C1;rw [ht];simp [he,AX,nb]) rfl)
abbrev Db (i:In):Bool:=(Ek i.op i.dst i.ra i.rb i.imm i.loc i.off i.ix i.sz i.fn i.acq i.weak i.rel i.pred i.succ i.to_ i.zero 0 0)==34
def lS (g:Lg)(r:Rw)(i:In)(lb:List UInt8)(k j:Nat):List UInt8:=if j<k∧j<r.ps.length then Hl g r (r.ps.getD j 0) i lb else []
def Hn (g:Lg)(r:Rw)(i:In)(lb:List UInt8):List (List UInt8):=r.ps.map fun p=>Hl g r p i lb
def Ch (g:Lg)(L:List Rw)(i:In)(lb:List UInt8):List UInt8×Int:=
 if Db i=true then([],34)else
 if Ea L i=false then([],36)else
 if i.op=9∧C1 lb=false then([],37)else
 if(Aa L i).ps.length=0 then(Ey g (Aa L i).nm i.sz,0)else
 ((Ey g (Aa L i).nm i.sz++[32])++Lib.join (Hn g (Aa L i) i lb) [44],0)
structure Jo (g:Lg)(L:List Rw)(i:In)(lb:List UInt8):Prop where
 lg:UO g
 lt:∀k,([g.l0,g.l1,g.l2,g.l3].getD k []).length≤1000
 ps:∀k,(L.getD k Rw.z).ps.length≤1000
 n:L.length≤1000000
 im: -9223372036854775808≤i.imm∧i.imm≤9223372036854775807
 nm:(Aa L i).nm.length≤1000∧Lib.countB (S (Aa L i).nm) (S [42])≤1000
 p:Db i=false→Ea L i=true→∀k,k<(Aa L i).ps.length→((Aa L i).ps.getD k 0=6→Xo i)∧((Aa L i).ps.getD k 0=8→1≤i.pred∧i.pred≤3)∧((Aa L i).ps.getD k 0=9→1≤i.succ∧i.succ≤3)
 nl:(Ey g (Aa L i).nm i.sz).length≤1000000
 jl:(Lib.join (Hn g (Aa L i) i lb) [44]).length≤1000000
theorem If {L:List Rw}{i:In}(h:Ea L i=true):Aa L i∈L:=by
 unfold Ea at h;unfold Aa
 cases hf:L.find? (EZ i)with
 |none=>rw [hf]at h;cases h
 |some r=>exact List.mem_of_find?_eq_some hf
theorem Jo.len {g:Lg}{L:List Rw}{i:In}{lb:List UInt8}(h:Jo g L i lb)(hq:Ea L i=true):(Aa L i).ps.length≤1000:=by
 obtain⟨k,hk,e⟩:=List.getElem_of_mem (If hq)
 have:=h.ps k
 rw [List.getD_eq_getElem?_getD,List.getElem?_eq_getElem hk]at this
 rw [←e];exact this
def EK (os:List (Nat×Obj))(L:List Rw):Dd:=fun w ks=>R0 L w ks∧Gl os w ks
theorem EK.ok {os:List (Nat×Obj)}{L:List Rw}:Dd.OK (EK os L):=fun w ks w' ks' h m hk=>⟨R0.ok _ _ _ _ h.1 m hk,Gl.ok _ _ _ _ h.2 m hk⟩
theorem SJ (ls:List (List UInt8))(n:Nat)(f:Nat→List SV)(x3:n=ls.length)(hf:∀j,f j=[.str (ls.getD j [])])(q:List UInt8)(h0:n≠0)(hn:n≤1000)(hl:(Lib.join ls q).length≤1000000):Fn Tryz.prog 192 [.sl 0 n n,.str q] [some (.lst 1 n f)] (Rt (.str (Lib.join ls q)) [some (.lst 1 n f)]):=by
 have:f=fun j=>[.str (ls.getD j [])]:=funext hf
 subst this;subst x3
 exact bA ls q (fun e=>h0 (by rw [e];rfl)) hn hl
theorem Ol (g:Lg)(r:Rw)(i:In)(lb:List UInt8)(k j:Nat)(h:r.ps.length≤k):lS g r i lb k j=(Hn g r i lb).getD j []:=by
 unfold lS Hn
 by_cases hj:j<r.ps.length
 ·rw [if_pos ⟨by omega,hj⟩];simp [List.getD,hj]
 ·rw [if_neg (by omega)];simp [List.getD,Nat.le_of_not_lt hj]
theorem Om:∃ti,Tryz.prog.info? 9=some ti∧ti.zero=some (.string (S []))∧ti.size=1∧ti.bytes≤1000:=by
 have h:(Tryz.prog.info? 9).map (fun ti=>(ti.zero,ti.size,ti.bytes))=some (some (.string (S [])),1,16):=by kernel_rfl
 cases e:Tryz.prog.info? 9 with
 |none=>rw [e]at h;cases h
 |some ti=>
  rw [e]at h
  simp only [Option.map_some,Option.some.injEq,Prod.mk.injEq]at h
  exact⟨ti,rfl,h.1,h.2.1,by omega⟩
theorem DO {b:Bool}(h:(!b)=false):b=true:=by cases b<;>first|rfl|cases h
theorem bC {b:Bool}(h:(!b)=true):b=false:=by cases b<;>first|rfl|cases h
theorem SK {g:Lg}{r:Rw}{i:In}{lb:List UInt8}{k j:Nat}(h:j≠k):lS g r i lb (k+1) j=lS g r i lb k j:=by
 unfold lS
 by_cases hj:j<k∧j<r.ps.length
 ·rw [if_pos hj,if_pos ⟨by omega,hj.2⟩]
 ·rw [if_neg hj,if_neg (by omega)]
theorem SL {g:Lg}{r:Rw}{i:In}{lb:List UInt8}{k:Nat}(h:k<r.ps.length):lS g r i lb (k+1) k=Hl g r (r.ps.getD k 0) i lb:=by
 unfold lS;rw [if_pos ⟨by omega,h⟩]
theorem LB (g:Lg) (L:List Rw) (c:Nat) (i:In) (lb:List UInt8) (os:List (Nat×Obj)) (hM:lP os) (hT:mR os) (hE:lW os) (h:Jo g L i lb):Bi (EK os L) Tryz.prog 143 [.agg [.str g.r0,.str g.r1,.str g.r2,.str g.r3,.str g.r4,.str g.r5,.str g.r6,.str g.r7,.str g.l0,.str g.l1,.str g.l2,.str g.l3,.str g.im,.str g.f0,.str g.f1,.str g.f2,.sl 0 L.length c],.agg (AS i),.str lb] [some (EJ L)] (Rt (.tup [.str ((Ch g L i lb).1),.int .i64 ((Ch g L i lb).2)]) [some (EJ L)]):=
 Ab (n:=69) (by kernel_rfl) Tryz.func143 rfl rfl rfl fun G w a h0 hI A=>N9 12 A rfl rfl fun A=>C9 [] (Qj i.op i.dst i.ra i.rb i.imm i.loc i.off i.ix i.sz i.fn i.acq i.weak i.rel i.pred i.succ i.to_ i.zero) A rfl fun A=>N9 2 A rfl rfl fun A=>fork 15 A rfl
  (fun h1 A=>N9 8 A rfl rfl fun A=>R9 A rfl h0 rfl (by unfold Ch;rw [if_pos h1];rfl) rfl)
  (fun h1 A=>N9 7 A rfl rfl fun A=>I9 [0] R0.ok hI.1 (Xk g L c i (fun k=>Nat.le_trans (h.ps k) (by decide)) h.n) A rfl fun A=>N9 15 A rfl rfl fun A=>fork 23 A rfl
   (fun h2 A=>N9 8 A rfl rfl fun A=>R9 A rfl h0 rfl (by unfold Ch;rw [if_neg (show¬Db i=true from fun z=>Bool.noConfusion (h1.symm.trans z)),if_pos (bC h2)];rfl) rfl)
   (fun h2 A=>N9 10 A rfl rfl fun A=>AN 27 A rfl
    (fun h3 A=>N9 1 A rfl rfl fun A=>I9 [] Gl.ok hI.2 (Ie lb os hM hE) A rfl fun A=>N9 4 A rfl rfl fun A=>fork 31 A rfl
     (fun h4 A=>N9 8 A rfl rfl fun A=>R9 A rfl h0 rfl (by unfold Ch;rw [if_neg (show¬Db i=true from fun z=>Bool.noConfusion (h1.symm.trans z)),if_neg (show¬Ea L i=false by rw [DO h2];decide),if_pos ⟨h3,bC h4⟩];rfl) rfl)
     (fun h4 A=>N9 9 A rfl rfl fun A=>I9 [0] Gl.ok hI.2 (Oi g L c (Aa L i) i.sz os hM hT h.nm h.lt) A rfl fun A=>N9 12 A rfl rfl fun A=>AN 40 A rfl
      (fun h5 A=>N9 9 A rfl rfl fun A=>R9 A rfl h0 rfl (by unfold Ch;rw [if_neg (show¬Db i=true from fun z=>Bool.noConfusion (h1.symm.trans z)),if_neg (show¬Ea L i=false by rw [DO h2];decide),if_neg (show¬(i.op=9∧C1 lb=false)from fun z=>by rw [DO h4]at z;cases z.2),if_pos (show(Aa L i).ps.length=0 by omega)];rfl) rfl)
      (fun h5 A=>N9 8 A rfl rfl fun A=>AW A rfl (ZI (m:=(Aa L i).ps.length) (fun j=>[.str (lS g (Aa L i) i lb 0 j)]) (fun j=>by show [SV.str (lS g (Aa L i) i lb 0 j)]=_;unfold lS;rw [if_neg (by omega)]) rfl rfl rfl rfl (by kernel_rfl) Om (by have:=h.len (DO h2);omega) rfl) fun A=>N9 8 A rfl rfl fun A=>U4 (y:=.sl 5 ((Aa L i).ps.length) ((Aa L i).cp)) (H':=[some (EJ L),some (.blk [.str g.r0,.str g.r1,.str g.r2,.str g.r3,.str g.r4,.str g.r5,.str g.r6,.str g.r7,.str g.l0,.str g.l1,.str g.l2,.str g.l3,.str g.im,.str g.f0,.str g.f1,.str g.f2,.sl 0 L.length c]),some (.blk (AS i)),some (.blk (HA (Aa L i))),some (.row 9 1 ((Aa L i).ps.length) ((Aa L i).ps.length) (fun j=>[.str (lS g (Aa L i) i lb 0 j)])),some (.lst 1 (((Aa L i).ps).length) (fun j=>[.int .i64 (((Aa L i).ps).getD j 0)]))]) 47 (hI.1 _ (If (DO h2))) A rfl rfl rfl rfl fun A=>N9 5 A rfl rfl fun A=>Bk (fun(k:Nat)=>[(2,.str lb),(3,.ptr 1 0),(4,.ptr 2 0),(6,.str []),(7,.int .i64 0),(8,.ptr 3 0),(10,.str (Ey g (Aa L i).nm i.sz)),(11,.sl 4 ((Aa L i).ps.length) ((Aa L i).ps.length)),(47,.sl 5 ((Aa L i).ps.length) ((Aa L i).cp)),(48,.int .i64 (((Aa L i).ps.length:Nat):Int)),(49,.int .i64 (k:Int))]) (fun(k:Nat)=>[some (EJ L),some (.blk [.str g.r0,.str g.r1,.str g.r2,.str g.r3,.str g.r4,.str g.r5,.str g.r6,.str g.r7,.str g.l0,.str g.l1,.str g.l2,.str g.l3,.str g.im,.str g.f0,.str g.f1,.str g.f2,.sl 0 L.length c]),some (.blk (AS i)),some (.blk (HA (Aa L i))),some (.row 9 1 ((Aa L i).ps.length) ((Aa L i).ps.length) (fun j=>[.str (lS g (Aa L i) i lb k j)])),some (.lst 1 (((Aa L i).ps).length) (fun j=>[.int .i64 (((Aa L i).ps).getD j 0)]))]) (fun(k:Nat)=>k≤(Aa L i).ps.length) (fun(k:Nat)=>(Aa L i).ps.length - k) 0 (Nat.zero_le _) ((A.cut [2,3,4,6,7,8,10,11,47,48,49] rfl).trunc 6 rfl rfl rfl (iR h0 rfl)) fun k jE {G a w} A=>N9 6 A rfl rfl fun A=>AL 50 A rfl
        (fun h6 A=>N9 14 A rfl (iU (by have q1:=h.len (DO h2);omega)<|iU (by have q1:=h.len (DO h2);omega)<|iT) fun A=>N9 8 A rfl rfl fun A=>I9 [0] Gl.ok hI.2 (aT g L c (Aa L i) (((Aa L i).ps).getD (((k:Int)).toNat) 0) i lb os hM hT h.lg h.im (h.p h1 (DO h2) ((k:Int)).toNat (by have:=h6;omega)).1 (h.p h1 (DO h2) ((k:Int)).toNat (by have:=h6;omega)).2.1 (h.p h1 (DO h2) ((k:Int)).toNat (by have:=h6;omega)).2.2) A rfl fun A=>N9 1 A rfl (iU (by have q1:=h.len (DO h2);omega)<|iT) fun A=>gG (i:=4) (e:=9) (s:=1) (m:=(Aa L i).ps.length) (c:=(Aa L i).ps.length) hX k (fun j=>[.str (lS g (Aa L i) i lb (k+1) j)]) A rfl rfl (Int.toNat_natCast k) (by omega) (fun z hz=>by show [SV.str _]=[SV.str _];rw [SK hz]) (by show _=some [SV.str _];rw [SL (by omega)];rfl) fun A=>N9 7 A rfl (iU (by have q1:=h.len (DO h2);omega)<|iT) fun A=>⟨k+1,_,(by omega),(by show k+1≤_;omega),((A.cut [2,3,4,6,7,8,10,11,47,48,49] rfl).trunc 6 rfl rfl rfl (iR h0 rfl))⟩)
        (fun h6 A=>N9 8 A rfl (iU (by have q1:=h.nl;have q2:=h.jl;(try simp only [List.length_append,List.length_cons,List.length_nil]);omega)<|iT) fun A=>have A:=A.freeze 4 rfl;C9 [4] (SJ (Hn g (Aa L i) i lb) ((Aa L i).ps.length) (fun j=>[.str (lS g (Aa L i) i lb k j)]) (by unfold Hn;rw [List.length_map]) (fun j=>by show [SV.str _]=[SV.str _];rw [Ol _ _ _ _ _ _ (by have:=jE;omega)]) [44] (by omega) (h.len (DO h2)) h.jl) A rfl fun A=>N9 6 A rfl (iU (by have q1:=h.nl;have q2:=h.jl;(try simp only [List.length_append,List.length_cons,List.length_nil]);omega)<|iT) fun A=>R9 A rfl h0 rfl (by unfold Ch;rw [if_neg (show¬Db i=true from fun z=>Bool.noConfusion (h1.symm.trans z)),if_neg (show¬Ea L i=false by rw [DO h2];decide),if_neg (show¬(i.op=9∧C1 lb=false)from fun z=>by rw [DO h4]at z;cases z.2),if_neg (show¬(Aa L i).ps.length=0 by omega)];rfl) rfl))))
    (fun h3 A=>N9 15 A rfl rfl fun A=>I9 [0] Gl.ok hI.2 (Oi g L c (Aa L i) i.sz os hM hT h.nm h.lt) A rfl fun A=>N9 12 A rfl rfl fun A=>AN 40 A rfl
     (fun h7 A=>N9 9 A rfl rfl fun A=>R9 A rfl h0 rfl (by unfold Ch;rw [if_neg (show¬Db i=true from fun z=>Bool.noConfusion (h1.symm.trans z)),if_neg (show¬Ea L i=false by rw [DO h2];decide),if_neg (show¬(i.op=9∧C1 lb=false)from fun z=>h3 z.1),if_pos (show(Aa L i).ps.length=0 by omega)];rfl) rfl)
     (fun h7 A=>N9 8 A rfl rfl fun A=>AW A rfl (ZI (m:=(Aa L i).ps.length) (fun j=>[.str (lS g (Aa L i) i lb 0 j)]) (fun j=>by show [SV.str (lS g (Aa L i) i lb 0 j)]=_;unfold lS;rw [if_neg (by omega)]) rfl rfl rfl rfl (by kernel_rfl) Om (by have:=h.len (DO h2);omega) rfl) fun A=>N9 8 A rfl rfl fun A=>U4 (y:=.sl 5 ((Aa L i).ps.length) ((Aa L i).cp)) (H':=[some (EJ L),some (.blk [.str g.r0,.str g.r1,.str g.r2,.str g.r3,.str g.r4,.str g.r5,.str g.r6,.str g.r7,.str g.l0,.str g.l1,.str g.l2,.str g.l3,.str g.im,.str g.f0,.str g.f1,.str g.f2,.sl 0 L.length c]),some (.blk (AS i)),some (.blk (HA (Aa L i))),some (.row 9 1 ((Aa L i).ps.length) ((Aa L i).ps.length) (fun j=>[.str (lS g (Aa L i) i lb 0 j)])),some (.lst 1 (((Aa L i).ps).length) (fun j=>[.int .i64 (((Aa L i).ps).getD j 0)]))]) 47 (hI.1 _ (If (DO h2))) A rfl rfl rfl rfl fun A=>N9 5 A rfl rfl fun A=>Bk (fun(k:Nat)=>[(2,.str lb),(3,.ptr 1 0),(4,.ptr 2 0),(6,.str []),(7,.int .i64 0),(8,.ptr 3 0),(10,.str (Ey g (Aa L i).nm i.sz)),(11,.sl 4 ((Aa L i).ps.length) ((Aa L i).ps.length)),(47,.sl 5 ((Aa L i).ps.length) ((Aa L i).cp)),(48,.int .i64 (((Aa L i).ps.length:Nat):Int)),(49,.int .i64 (k:Int))]) (fun(k:Nat)=>[some (EJ L),some (.blk [.str g.r0,.str g.r1,.str g.r2,.str g.r3,.str g.r4,.str g.r5,.str g.r6,.str g.r7,.str g.l0,.str g.l1,.str g.l2,.str g.l3,.str g.im,.str g.f0,.str g.f1,.str g.f2,.sl 0 L.length c]),some (.blk (AS i)),some (.blk (HA (Aa L i))),some (.row 9 1 ((Aa L i).ps.length) ((Aa L i).ps.length) (fun j=>[.str (lS g (Aa L i) i lb k j)])),some (.lst 1 (((Aa L i).ps).length) (fun j=>[.int .i64 (((Aa L i).ps).getD j 0)]))]) (fun(k:Nat)=>k≤(Aa L i).ps.length) (fun(k:Nat)=>(Aa L i).ps.length - k) 0 (Nat.zero_le _) ((A.cut [2,3,4,6,7,8,10,11,47,48,49] rfl).trunc 6 rfl rfl rfl (iR h0 rfl)) fun k jE {G a w} A=>N9 6 A rfl rfl fun A=>AL 50 A rfl
       (fun h8 A=>N9 14 A rfl (iU (by have q1:=h.len (DO h2);omega)<|iU (by have q1:=h.len (DO h2);omega)<|iT) fun A=>N9 8 A rfl rfl fun A=>I9 [0] Gl.ok hI.2 (aT g L c (Aa L i) (((Aa L i).ps).getD (((k:Int)).toNat) 0) i lb os hM hT h.lg h.im (h.p h1 (DO h2) ((k:Int)).toNat (by have:=h8;omega)).1 (h.p h1 (DO h2) ((k:Int)).toNat (by have:=h8;omega)).2.1 (h.p h1 (DO h2) ((k:Int)).toNat (by have:=h8;omega)).2.2) A rfl fun A=>N9 1 A rfl (iU (by have q1:=h.len (DO h2);omega)<|iT) fun A=>gG (i:=4) (e:=9) (s:=1) (m:=(Aa L i).ps.length) (c:=(Aa L i).ps.length) hX k (fun j=>[.str (lS g (Aa L i) i lb (k+1) j)]) A rfl rfl (Int.toNat_natCast k) (by omega) (fun z hz=>by show [SV.str _]=[SV.str _];rw [SK hz]) (by show _=some [SV.str _];rw [SL (by omega)];rfl) fun A=>N9 7 A rfl (iU (by have q1:=h.len (DO h2);omega)<|iT) fun A=>⟨k+1,_,(by omega),(by show k+1≤_;omega),((A.cut [2,3,4,6,7,8,10,11,47,48,49] rfl).trunc 6 rfl rfl rfl (iR h0 rfl))⟩)
       (fun h8 A=>N9 8 A rfl (iU (by have q1:=h.nl;have q2:=h.jl;(try simp only [List.length_append,List.length_cons,List.length_nil]);omega)<|iT) fun A=>have A:=A.freeze 4 rfl;C9 [4] (SJ (Hn g (Aa L i) i lb) ((Aa L i).ps.length) (fun j=>[.str (lS g (Aa L i) i lb k j)]) (by unfold Hn;rw [List.length_map]) (fun j=>by show [SV.str _]=[SV.str _];rw [Ol _ _ _ _ _ _ (by have:=jE;omega)]) [44] (by omega) (h.len (DO h2)) h.jl) A rfl fun A=>N9 6 A rfl (iU (by have q1:=h.nl;have q2:=h.jl;(try simp only [List.length_append,List.length_cons,List.length_nil]);omega)<|iT) fun A=>R9 A rfl h0 rfl (by unfold Ch;rw [if_neg (show¬Db i=true from fun z=>Bool.noConfusion (h1.symm.trans z)),if_neg (show¬Ea L i=false by rw [DO h2];decide),if_neg (show¬(i.op=9∧C1 lb=false)from fun z=>h3 z.1),if_neg (show¬(Aa L i).ps.length=0 by omega)];rfl) rfl)))))
def n1 (ws:List Tk)(k:Nat)(z:Ps):Ps:=if(k:Int)>0 then z.wa (HJ ws z.as [44])else z
def bD (g:Lg)(ws:List Tk)(k:Nat)(R:List Rw)(z:Ps):List Rw:=gT g k (ws.getD (n1 ws k z).p Ad) R
def cW (g:Lg)(ws:List Tk)(k:Nat)(R:List Rw)(z:Ps):Ps:=if(((bD g ws k R z).length:Nat):Int)>0 then fM g ws (((bD g ws k R z).getD (0:Int).toNat Rw.z).ps.getD k 0) (cV g ws k R (n1 ws k z))else cV g ws k R (n1 ws k z)
def Yd (R:List Rw)(k:Nat):Bool:=(decide (((R.length:Nat):Int)>0))&&(decide ((k:Int)<(((R.getD (0:Int).toNat Rw.z).ps.length:Nat):Int)))
def inst (g:Lg)(ws:List Tk):Nat→Nat→List Rw→Ps→Ps×List Rw
 |0,k,R,z=>(z,R)
 |f+1,k,R,z=>if Yd R k=true then inst g ws f (k+1) (bD g ws k R z) (cW g ws k R z)else(z,R)
def gU (g:Lg)(ws:List Tk)(L:List Rw)(s:Ps):Nat:=((Vq g ws L s).getD 0 Rw.z).ps.length
def iN (g:Lg)(ws:List Tk)(L:List Rw)(s:Ps):Ps×List Rw:=inst g ws (gU g ws L s+1) 0 (Vq g ws L s) (cT g ws L s)
structure UX (g:Lg)(ws:List Tk)(L:List Rw)(N0:Nat)(res:Ps×List Rw)(k:Nat)(z:Ps)(R:List Rw):Prop where
 le:z.p≤ws.length
 sub:∀r∈R,r∈L
 n:∀r∈R,r.ps.length=N0
 ln:R.length≤100000
 rn:∃f,inst g ws f k R z=res∧N0<f+k
section
variable {g:Lg}{ws:List Tk}{L R:List Rw}{N0 k:Nat}{res:Ps×List Rw}{z:Ps}{w:World}{ks:List Nat}
theorem Vr (h:z.p≤ws.length):(n1 ws k z).p≤ws.length:=by
 unfold n1;split
 ·exact DC (s:=z.as) h
 ·exact h
theorem bE (h:z.p≤ws.length):(cW g ws k R z).p≤ws.length:=by
 unfold cW;split
 ·exact Xu (SD (Vr h))
 ·exact SD (Vr h)
theorem UY (h:Yd R k=true):0<R.length∧k<(R.getD 0 Rw.z).ps.length:=by
 unfold Yd at h;rw [Bool.and_eq_true,decide_eq_true_eq,decide_eq_true_eq]at h
 have e:(0:Int).toNat=0:=rfl
 rw [e]at h;omega
theorem SN (h:0<R.length):R.getD 0 Rw.z∈R:=by rw [List.getD_eq_getElem?_getD,List.getElem?_eq_getElem h];exact List.getElem_mem h
theorem SO {r:Rw}(h:r∈bD g ws k R z):r∈R:=(List.mem_filter.1 h).1
theorem UX.lt (hN:UX g ws L N0 res k z R)(h:Yd R k=true):k<N0:=by
 have h2:=UY h
 rw [hN.n _ (SN h2.1)]at h2;exact h2.2
theorem UX.nx (hN:UX g ws L N0 res k z R)(h:Yd R k=true):UX g ws L N0 res (k+1) (cW g ws k R z) (bD g ws k R z):=by
 obtain⟨f,h1,h2⟩:=hN.rn
 refine⟨bE hN.le,fun r hr=>hN.sub r (SO hr),fun r hr=>hN.n r (SO hr),Nat.le_trans (List.length_filter_le _ _) hN.ln,?_⟩
 cases f with
 |zero=>have:=hN.lt h;omega
 |succ f=>unfold inst at h1;rw [if_pos h]at h1;exact⟨f,h1,by omega⟩
theorem UX.fi (hN:UX g ws L N0 res k z R)(h:Yd R k=false):res=(z,R):=by
 obtain⟨f,h1,h2⟩:=hN.rn
 cases f with
 |zero=>exact h1.symm
 |succ f=>unfold inst at h1;rw [h]at h1;exact h1.symm
theorem UX.i0 {s:Ps}(hk:s.p≤ws.length)(hs:∀r∈Vq g ws L s,∀q∈Vq g ws L s,r.ps.length=q.ps.length)(hL:L.length≤100000):UX g ws L (gU g ws L s) (iN g ws L s) 0 (cT g ws L s) (Vq g ws L s):=by
 have kY:∀r∈Vq g ws L s,r∈L:=fun r hr=>by
  unfold Vq at hr
  split at hr
  ·unfold Yc zK at hr
   rcases Vp _ _ _ hr with h|h
   ·cases h
   ·exact List.mem_of_mem_take h
  ·cases hr
 refine⟨Xx hk,kY,fun r hr=>hs r hr _ (SN (List.length_pos_of_mem hr)),?_,_,rfl,by omega⟩
 unfold Vq
 split
 ·have:=Xw (g:=g) (q:=(ws.getD s.p Ad).text) (L:=L) (z:=s.ins.sz) (k:=L.length)
  unfold Yc;omega
 ·exact Nat.zero_le _
theorem R0.sub (h:R0 L w ks)(hs:∀r∈R,r∈L):R0 R w ks:=fun r hr=>h r (hs r hr)
end
theorem M5 (ws:List Tk)(c:Nat)(hn:ws.length≤1000000):Fn Tryz.prog 244 [.sl 0 ws.length c] [some (EY ws)] (Rt (.sl 1 ws.length 0) [some (EY ws),some (.row 134 4 ws.length 0 (fun zz=>MF (ws.getD zz Ad)))]):=
 AG (n:=8) (by kernel_rfl) Tryz.func244 rfl rfl rfl fun G w a h0 A=>N9 9 A rfl rfl fun A=>dN hX A rfl rfl (fun h1 {G a w} A=>N9 9 A rfl rfl fun A=>have A:=A.nilRow 2 134 4 (fun zz=>MF (ws.getD zz Ad)) rfl (fun z=>⟨_,rfl,rfl⟩);have A:=A.rowAs 1 ws.length (fun zz=>MF (ws.getD zz Ad)) rfl h1 (fun _ _=>rfl) (fun z=>⟨_,rfl,rfl⟩);have A:=A.say 2 (.sl 1 ws.length 0) rfl (by rw [h1]<;>rfl);Mj hX [1] A ⟨rfl,rfl⟩ rfl rfl rfl rfl rfl rfl rfl rfl h0) (fun{G a w} A=>N9 9 A rfl rfl fun A=>WR hX ws.length (fun zz=>MF (ws.getD zz Ad)) A rfl rfl rfl rfl (Nat.le_refl _) (by omega) hn (by omega) (fun k hk=>by omega) (fun k hk=>by show MF _=MF _;rw [Nat.zero_add]) (fun z=>⟨_,rfl,rfl⟩) (fun k hk=>⟨_,rfl,iT⟩) fun A=>N9 4 A rfl rfl fun A=>Mj hX [2] A ⟨rfl,rfl⟩ rfl rfl rfl rfl rfl rfl rfl rfl h0)
abbrev Cq (b1 b2 b3 b4 b5 b6 b7 b8 b9 b10:Nat):List (Nat×List SV):=[(b10,[.str [77,79,86],.str [],.int .i64 1,.z9,.z9,.z9,.z9,.z9,.z9,.z9,.z9,.z9,.ff,.ff,.ff,.z9,.z9,.z9,.ff,.sla (some ⟨b1,0,none⟩) 2 2,.str [77,79,86],.str [],.int .i64 2,.z9,.z9,.z9,.z9,.z9,.z9,.z9,.z9,.z9,.ff,.ff,.ff,.z9,.z9,.z9,.ff,.sla (some ⟨b2,0,none⟩) 2 2,.str [77,79,86,42],.str [],.int .i64 4,.z9,.z9,.z9,.z9,.z9,.z9,.z9,.z9,.z9,.ff,.ff,.ff,.z9,.z9,.z9,.ff,.sla (some ⟨b3,0,none⟩) 2 2,.str [77,79,86,42],.str [],.int .i64 5,.z9,.z9,.z9,.z9,.z9,.z9,.z9,.z9,.z9,.ff,.ff,.ff,.z9,.z9,.z9,.ff,.sla (some ⟨b4,0,none⟩) 2 2,.str [77,79,86,42],.str [],.int .i64 5,.z9,.z9,.z9,.z9,.z9,.z9,.z9,.z9,.z9,.ff,.ff,.ff,.z9,.z9,.z9,.ff,.sla (some ⟨b5,0,none⟩) 2 2,.str [88,67,72,71,42],.str [],.int .i64 6,.z9,.z9,.z9,.z9,.z9,.z9,.z9,.z9,.int .i64 6,.tt,.ff,.tt,.z9,.z9,.z9,.ff,.sla (some ⟨b6,0,none⟩) 2 2,.str [88,65,68,68,42],.str [],.int .i64 6,.z9,.z9,.z9,.z9,.z9,.z9,.z9,.z9,.int .i64 1,.tt,.ff,.tt,.z9,.z9,.z9,.ff,.sla (some ⟨b7,0,none⟩) 2 2,.str [77,70,69,78,67,69],.str [],.int .i64 7,.z9,.z9,.z9,.z9,.z9,.z9,.z9,.z9,.z9,.ff,.ff,.ff,.int .i64 3,.int .i64 3,.z9,.ff,.sla none 0 0,.str [74,90],.str [],.int .i64 9,.z9,.z9,.z9,.z9,.z9,.z9,.z9,.z9,.z9,.ff,.ff,.ff,.z9,.z9,.z9,.tt,.sla (some ⟨b8,0,none⟩) 2 2,.str [74,78,90],.str [],.int .i64 9,.z9,.z9,.z9,.z9,.z9,.z9,.z9,.z9,.z9,.ff,.ff,.ff,.z9,.z9,.z9,.ff,.sla (some ⟨b9,0,none⟩) 2 2]),(b9,[.int .i64 2,.int .i64 7]),(b8,[.int .i64 2,.int .i64 7]),(b7,[.int .i64 6,.int .i64 4]),(b6,[.int .i64 4,.int .i64 6]),(b5,[.int .i64 6,.int .i64 5]),(b4,[.int .i64 6,.int .i64 2]),(b3,[.int .i64 1,.int .i64 6]),(b2,[.int .i64 1,.int .i64 2]),(b1,[.int .i64 1,.int .i64 5])]
theorem bF:Jf Tryz.prog 182 [] [] (fun x w w'=>∃b1 b2 b3 b4 b5 b6 b7 b8 b9 b10:Nat,x=.sla (some ⟨b10,0,none⟩) 10 10∧Acc w.heap.size (Cq b1 b2 b3 b4 b5 b6 b7 b8 b9 b10) w' []):=
 DJ (n:=37) (by kernel_rfl) Tryz.func182 rfl rfl rfl fun G w a h0 A=>have B:=A;have hA:Acc w.heap.size [] w _:=Acc.nil;N9 29 A rfl rfl fun A=>C0 [.int .i64 1,.int .i64 5] (X:=⟨_,true⟩) hX B hA A rfl rfl rfl rfl fun b1 B hA A=>
 N9 2 A rfl rfl fun A=>C0 [.int .i64 1,.int .i64 2] (X:=⟨_,true⟩) hX B hA A rfl rfl rfl rfl fun b2 B hA A=>
 N9 2 A rfl rfl fun A=>C0 [.int .i64 1,.int .i64 6] (X:=⟨_,true⟩) hX B hA A rfl rfl rfl rfl fun b3 B hA A=>
 N9 2 A rfl rfl fun A=>C0 [.int .i64 6,.int .i64 2] (X:=⟨_,true⟩) hX B hA A rfl rfl rfl rfl fun b4 B hA A=>
 N9 2 A rfl rfl fun A=>C0 [.int .i64 6,.int .i64 5] (X:=⟨_,true⟩) hX B hA A rfl rfl rfl rfl fun b5 B hA A=>
 N9 2 A rfl rfl fun A=>C0 [.int .i64 4,.int .i64 6] (X:=⟨_,true⟩) hX B hA A rfl rfl rfl rfl fun b6 B hA A=>
 N9 2 A rfl rfl fun A=>C0 [.int .i64 6,.int .i64 4] (X:=⟨_,true⟩) hX B hA A rfl rfl rfl rfl fun b7 B hA A=>
 N9 4 A rfl rfl fun A=>C0 [.int .i64 2,.int .i64 7] (X:=⟨_,true⟩) hX B hA A rfl rfl rfl rfl fun b8 B hA A=>
 N9 2 A rfl rfl fun A=>C0 [.int .i64 2,.int .i64 7] (X:=⟨_,true⟩) hX B hA A rfl rfl rfl rfl fun b9 B hA A=>
 N9 1 A rfl rfl fun A=>C0 [.str [77,79,86],.str [],.int .i64 1,.z9,.z9,.z9,.z9,.z9,.z9,.z9,.z9,.z9,.ff,.ff,.ff,.z9,.z9,.z9,.ff,.sla (some ⟨b1,0,none⟩) 2 2,.str [77,79,86],.str [],.int .i64 2,.z9,.z9,.z9,.z9,.z9,.z9,.z9,.z9,.z9,.ff,.ff,.ff,.z9,.z9,.z9,.ff,.sla (some ⟨b2,0,none⟩) 2 2,.str [77,79,86,42],.str [],.int .i64 4,.z9,.z9,.z9,.z9,.z9,.z9,.z9,.z9,.z9,.ff,.ff,.ff,.z9,.z9,.z9,.ff,.sla (some ⟨b3,0,none⟩) 2 2,.str [77,79,86,42],.str [],.int .i64 5,.z9,.z9,.z9,.z9,.z9,.z9,.z9,.z9,.z9,.ff,.ff,.ff,.z9,.z9,.z9,.ff,.sla (some ⟨b4,0,none⟩) 2 2,.str [77,79,86,42],.str [],.int .i64 5,.z9,.z9,.z9,.z9,.z9,.z9,.z9,.z9,.z9,.ff,.ff,.ff,.z9,.z9,.z9,.ff,.sla (some ⟨b5,0,none⟩) 2 2,.str [88,67,72,71,42],.str [],.int .i64 6,.z9,.z9,.z9,.z9,.z9,.z9,.z9,.z9,.int .i64 6,.tt,.ff,.tt,.z9,.z9,.z9,.ff,.sla (some ⟨b6,0,none⟩) 2 2,.str [88,65,68,68,42],.str [],.int .i64 6,.z9,.z9,.z9,.z9,.z9,.z9,.z9,.z9,.int .i64 1,.tt,.ff,.tt,.z9,.z9,.z9,.ff,.sla (some ⟨b7,0,none⟩) 2 2,.str [77,70,69,78,67,69],.str [],.int .i64 7,.z9,.z9,.z9,.z9,.z9,.z9,.z9,.z9,.z9,.ff,.ff,.ff,.int .i64 3,.int .i64 3,.z9,.ff,.sla none 0 0,.str [74,90],.str [],.int .i64 9,.z9,.z9,.z9,.z9,.z9,.z9,.z9,.z9,.z9,.ff,.ff,.ff,.z9,.z9,.z9,.tt,.sla (some ⟨b8,0,none⟩) 2 2,.str [74,78,90],.str [],.int .i64 9,.z9,.z9,.z9,.z9,.z9,.z9,.z9,.z9,.z9,.ff,.ff,.ff,.z9,.z9,.z9,.ff,.sla (some ⟨b9,0,none⟩) 2 2] (X:=⟨_,true⟩) hX B hA A rfl rfl rfl rfl fun b10 B hA A=>
 N9 4 A rfl rfl fun A=>HY (J:=fun x w w'=>∃b1 b2 b3 b4 b5 b6 b7 b8 b9 b10:Nat,x=.sla (some ⟨b10,0,none⟩) 10 10∧Acc w.heap.size (Cq b1 b2 b3 b4 b5 b6 b7 b8 b9 b10) w' []) hX (B.trans A) (fun i e he=>Bj he) rfl rfl rfl rfl ⟨b1,b2,b3,b4,b5,b6,b7,b8,b9,b10,rfl,(hA.now A).bare⟩
abbrev nz:List UInt8×Int:=([],0)
def Ho (x:List UInt8×Int):List SV:=[.str x.1,.int .i64 x.2]
def x5:List (List UInt8×Int):=[([65,68,68],1),([83,85,66],2),([88,79,82],3),([65,78,68],4),([79,82],5)]
theorem NP:(∀x,(Ho x).length=2)∧(∀x,Fw 0 (Ho x)=true)∧(∀x,∃vs,AE [] (Ho x)=some vs):=⟨fun _=>rfl,fun _=>rfl,fun _=>⟨_,rfl⟩⟩
theorem k7:(∀x,(iX x).length=20)∧(∀x,Fw 0 (iX x)=true)∧(∀x,∃vs,AE [] (iX x)=some vs):=⟨fun _=>rfl,fun _=>rfl,fun _=>⟨_,rfl⟩⟩
def tm (r:Rw):List UInt8×List UInt8×In×List Int:=(r.nm,r.wd,r.ins,r.ps)
def RowsIn (lo:Nat)(L:List Rw):Dd:=fun w ks=>∀r∈L,CT r.pa r.ps w ks∧∀q,r.pa=some q→lo≤q.block
theorem RowsIn.ok {lo:Nat}{L:List Rw}:Dd.OK (RowsIn lo L):=fun w ks w' ks' h m hk r hr=>⟨(h r hr).1.go m hk,(h r hr).2⟩
def IK (op fn:Int):In:=⟨op,0,0,0,0,0,0,0,0,fn,false,false,false,0,0,0,false⟩
abbrev Pf (x:List UInt8×Int)(b1:Nat):Rw:=⟨x.1,[],IK 3 x.2,some ⟨b1,0,none⟩,[4,3],2⟩
abbrev Pg (x:List UInt8×Int)(b2:Nat):Rw:=⟨x.1,[],IK 3 x.2,some ⟨b2,0,none⟩,[4,5],2⟩
def KK:List (List UInt8×List UInt8×In×List Int):=x5.flatMap fun x=>[(x.1,[],IK 3 x.2,[4,3]),(x.1,[],IK 3 x.2,[4,5])]
structure XC (lo:Nat)(z:List Rw×Nat)(w:World)(ks:List Nat):Prop where
 le:z.2≤5
 tm:z.1.map tm=KK.take (2*z.2)
 rw:RowsIn lo z.1 w ks
theorem XC.len {lo:Nat}{z:List Rw×Nat}{w:World}{ks:List Nat}(h:XC lo z w ks):z.1.length=2*z.2:=by
 have h1:=congrArg List.length h.tm
 rw [List.length_map,List.length_take]at h1
 have h2:KK.length=10:=by decide
 have:=h.le
 omega
theorem Ao {lo b:Nat}{cs:List SV}{l:List (Nat×List SV)}{w:World}{ks:List Nat}(ps:List Int)(h:Acc lo l w ks)(hm:(b,ps.map (SV.int .i64 ·))∈l):CT (some ⟨b,0,none⟩) ps w ks∧∀q,(some (⟨b,0,none⟩:Addr))=some q→lo≤q.block:=by
 obtain⟨h1,vs,h2,h3,h4,h5⟩:=h _ hm
 have:∀ps:List Int,AE [] (ps.map (SV.int .i64 ·))=some (ps.map (Value.int .i64)):=by
  intro ps
  induction ps with
  |nil=>rfl
  |cons p ps ih=>rw [List.map_cons];unfold AE;rw [ih];rfl
 rw [this]at h2
 cases h2
 exact⟨.inr ⟨b,rfl,h3,h4,h5⟩,fun q hq=>by cases hq;exact h1⟩
theorem XC.nx {lo b1 b2:Nat}{z:List Rw×Nat}{w w1:World}{ks ks1:List Nat}{l:List (Nat×List SV)}(h:XC lo z w ks)(hk:(z.2:Int)<5)(hr:RowsIn lo z.1 w1 ks1)(hA:Acc lo [(b2,[.int .i64 4,.int .i64 5]),(b1,[.int .i64 4,.int .i64 3])] w1 ks1):XC lo (z.1++[Pf (x5.getD ((z.2:Int)).toNat nz) b1,Pg (x5.getD ((z.2:Int)).toNat nz) b2],z.2+1) w1 ks1:=by
 refine⟨by have:=h.le;show z.2+1≤5;omega,?_,fun r l5=>?_⟩
 ·show List.map _ (z.1++_)=_
  rw [List.map_append,h.tm,Int.toNat_natCast]
  have:z.2=0∨z.2=1∨z.2=2∨z.2=3∨z.2=4:=by omega
  rcases this with e|e|e|e|e<;>rw [e]<;>rfl
 ·rcases List.mem_append.1 l5 with h1|h1
  ·exact hr r h1
  ·simp only [List.mem_cons,List.mem_nil_iff,or_false]at h1
   rcases h1 with rfl|rfl
   ·exact Ao (cs:=[]) [4,3] hA (List.mem_cons_of_mem _ (List.mem_cons_self))
   ·exact Ao (cs:=[]) [4,5] hA (List.mem_cons_self)
theorem Xz:Jf Tryz.prog 181 [] [] (fun x w w'=>∃(L:List Rw) (b cp:Nat),x=.sla (some ⟨b,0,none⟩) 10 cp∧(L.map tm=KK∧RowsIn w.heap.size L w' [b])∧w.heap.size≤b∧Bm 203 20 10 (fun zz=>iX (L.getD zz Rw.z)) b cp w'):=
 DJ (n:=36) (by kernel_rfl) Tryz.func181 rfl rfl rfl fun G w a h0 A=>N9 13 A rfl rfl fun A=>have A:=A.asT nz Ho 2 NP.1 NP.2.1 NP.2.2 x5 0 rfl;N9 17 A rfl rfl fun A=>have A:=A.nilRow 2 203 20 (fun zz=>iX (([]:List Rw).getD zz Rw.z)) rfl (fun z=>⟨_,rfl,rfl⟩);Ew (fun(z:List Rw×Nat)=>[(0,.sla none 0 0),(2,.sl 1 z.1.length 0),(12,.sl 0 5 5),(13,.int .i64 ((5:Nat):Int)),(14,.int .i64 (z.2:Int))]) (fun(z:List Rw×Nat)=>[some (.lst 2 5 (fun zz=>Ho (x5.getD zz nz))),some (.row 203 20 z.1.length 0 (fun zz=>iX (z.1.getD zz Rw.z)))]) (fun z w1 ks1=>XC w.heap.size z w1 ks1) (fun z=>5 - z.2) ([],0) (A.cut [0,2,12,13,14] rfl) ⟨by decide,rfl,fun r hr=>by cases hr⟩ fun z G1 a1 w1 hJ hg A B=>have hA:Acc w.heap.size [] w1 _:=Acc.nil;have hR:=hJ.rw;
 N9 6 A rfl rfl fun A=>AL 15 A rfl
   (fun h1 A=>N9 14 A rfl (iU (by omega)<|iU (by omega)<|iT) fun A=>N9 4 A rfl rfl fun A=>have A:=AB A 20 (.agg [.int .i64 3,.z9,.z9,.z9,.z9,.z9,.z9,.z9,.z9,.int .i64 ((x5.getD (((z.2:Int)).toNat) nz).2),.bool false,.bool false,.bool false,.z9,.z9,.z9,.bool false]) rfl (fun _=>rfl);N9 9 A rfl rfl fun A=>lZ [.int .i64 4,.int .i64 3] (X:=⟨_,true⟩) hX RowsIn.ok B hA hR A rfl rfl rfl rfl fun b1 B hA hR A=>
 N9 4 A rfl rfl fun A=>lZ [.int .i64 4,.int .i64 5] (X:=⟨_,true⟩) hX RowsIn.ok B hA hR A rfl rfl rfl rfl fun b2 B hA hR A=>
 N9 2 A rfl rfl fun A=>have A:=A.asT Rw.z iX 20 k7.1 k7.2.1 k7.2.2 [Pf (x5.getD (((z.2:Int)).toNat) nz) b1,Pg (x5.getD (((z.2:Int)).toNat) nz) b2] 4 rfl;AW A rfl (GG hX ((z.1++[Pf (x5.getD (((z.2:Int)).toNat) nz) b1,Pg (x5.getD (((z.2:Int)).toNat) nz) b2]).length) (fun zz=>iX ((z.1++[Pf (x5.getD (((z.2:Int)).toNat) nz) b1,Pg (x5.getD (((z.2:Int)).toNat) nz) b2]).getD zz Rw.z)) rfl rfl rfl rfl (Nat.le_refl _) (by have:=hJ.len;have:=hJ.le;omega) (by decide) List.length_append (fun k hk=>by show iX _=iX _;rw [i6 hk]) (fun k hk=>by show iX _=iX _;rw [Bh]) (fun z=>⟨_,rfl,rfl⟩) (fun k hk=>⟨_,rfl,iT⟩)) fun A=>
 N9 8 A rfl (iU (by omega)<|iT) fun A=>⟨(z.1++[Pf (x5.getD (((z.2:Int)).toNat) nz) b1,Pg (x5.getD (((z.2:Int)).toNat) nz) b2],z.2+1),_,(by have:=h1;show _ - _<_ - _;omega),(hJ.nx (l:=[]) h1 (RowsIn.ok _ _ _ _ hR A.mix fun b hb=>A.keys_own b ((BQ (H:=[some (.lst 2 5 (fun zz=>Ho (x5.getD zz nz))),none,some (.blk [.str ((x5.getD (((z.2:Int)).toNat) nz).1),.int .i64 ((x5.getD (((z.2:Int)).toNat) nz).2)]),some (.blk [.int .i64 3,.z9,.z9,.z9,.z9,.z9,.z9,.z9,.z9,.int .i64 ((x5.getD (((z.2:Int)).toNat) nz).2),.bool false,.bool false,.bool false,.z9,.z9,.z9,.bool false]),some (.lst 20 ([Pf (x5.getD (((z.2:Int)).toNat) nz) b1,Pg (x5.getD (((z.2:Int)).toNat) nz) b2].length) (fun zz=>iX ([Pf (x5.getD (((z.2:Int)).toNat) nz) b1,Pg (x5.getD (((z.2:Int)).toNat) nz) b2].getD zz Rw.z))),some (.row 203 20 ((z.1++[Pf (x5.getD (((z.2:Int)).toNat) nz) b1,Pg (x5.getD (((z.2:Int)).toNat) nz) b2]).length) 0 (fun zz=>iX ((z.1++[Pf (x5.getD (((z.2:Int)).toNat) nz) b1,Pg (x5.getD (((z.2:Int)).toNat) nz) b2]).getD zz Rw.z)))]) (m:=[0,5]) A.mem.len rfl rfl) b hb)) (hA.go A.mix fun b hb=>A.keys_own b ((BQ (H:=[some (.lst 2 5 (fun zz=>Ho (x5.getD zz nz))),none,some (.blk [.str ((x5.getD (((z.2:Int)).toNat) nz).1),.int .i64 ((x5.getD (((z.2:Int)).toNat) nz).2)]),some (.blk [.int .i64 3,.z9,.z9,.z9,.z9,.z9,.z9,.z9,.z9,.int .i64 ((x5.getD (((z.2:Int)).toNat) nz).2),.bool false,.bool false,.bool false,.z9,.z9,.z9,.bool false]),some (.lst 20 ([Pf (x5.getD (((z.2:Int)).toNat) nz) b1,Pg (x5.getD (((z.2:Int)).toNat) nz) b2].length) (fun zz=>iX ([Pf (x5.getD (((z.2:Int)).toNat) nz) b1,Pg (x5.getD (((z.2:Int)).toNat) nz) b2].getD zz Rw.z))),some (.row 203 20 ((z.1++[Pf (x5.getD (((z.2:Int)).toNat) nz) b1,Pg (x5.getD (((z.2:Int)).toNat) nz) b2]).length) 0 (fun zz=>iX ((z.1++[Pf (x5.getD (((z.2:Int)).toNat) nz) b1,Pg (x5.getD (((z.2:Int)).toNat) nz) b2]).getD zz Rw.z)))]) (m:=[0,5]) A.mem.len rfl rfl) b hb))),((B.trans A).cut [0,2,12,13,14] rfl).mv 0 [0,5] rfl rfl rfl rfl (by simp only [List.length_nil]at h0;omega)⟩)
   (fun h1 A=>N9 10 A rfl rfl fun A=>(have e5:z.2=5:=(by have:=hJ.le;omega);have e:z.1.length=10:=(by have:=hJ.len;omega);match A.giveRow 1 0 (by omega) rfl rfl rfl with|⟨b,cp,A2,hG,ho,hk⟩=>HY (J:=fun x w w'=>∃(L:List Rw) (b cp:Nat),x=.sla (some ⟨b,0,none⟩) 10 cp∧(L.map tm=KK∧RowsIn w.heap.size L w' [b])∧w.heap.size≤b∧Bm 203 20 10 (fun zz=>iX (L.getD zz Rw.z)) b cp w') hX (B.trans A2) (fun i e he=>Bj he) rfl rfl rfl rfl ⟨z.1,b,cp,(by show SV.sla _ z.1.length cp=_;rw [e]),⟨(by have h2:=hJ.tm;rw [e5]at h2;exact h2),(RowsIn.ok _ _ _ _ hJ.rw A.mix fun b2 hb=>by have:b2=b:=(by simpa using hb);rw [this];exact ho)⟩,Gg B (fun i e he=>Bj he) ho,(by rw [←e];exact hG)⟩))
def IA (b1 b2 b3 b4 b5 b6 b7 b8 b9:Nat):List Rw:=[⟨[77,79,86],[],⟨1,0,0,0,0,0,0,0,0,0,false,false,false,0,0,0,false⟩,some ⟨b1,0,none⟩,[1,5],2⟩,⟨[77,79,86],[],⟨2,0,0,0,0,0,0,0,0,0,false,false,false,0,0,0,false⟩,some ⟨b2,0,none⟩,[1,2],2⟩,⟨[77,79,86,42],[],⟨4,0,0,0,0,0,0,0,0,0,false,false,false,0,0,0,false⟩,some ⟨b3,0,none⟩,[1,6],2⟩,⟨[77,79,86,42],[],⟨5,0,0,0,0,0,0,0,0,0,false,false,false,0,0,0,false⟩,some ⟨b4,0,none⟩,[6,2],2⟩,⟨[77,79,86,42],[],⟨5,0,0,0,0,0,0,0,0,0,false,false,false,0,0,0,false⟩,some ⟨b5,0,none⟩,[6,5],2⟩,⟨[88,67,72,71,42],[],⟨6,0,0,0,0,0,0,0,0,6,true,false,true,0,0,0,false⟩,some ⟨b6,0,none⟩,[4,6],2⟩,⟨[88,65,68,68,42],[],⟨6,0,0,0,0,0,0,0,0,1,true,false,true,0,0,0,false⟩,some ⟨b7,0,none⟩,[6,4],2⟩,⟨[77,70,69,78,67,69],[],⟨7,0,0,0,0,0,0,0,0,0,false,false,false,3,3,0,false⟩,none,[],0⟩,⟨[74,90],[],⟨9,0,0,0,0,0,0,0,0,0,false,false,false,0,0,0,true⟩,some ⟨b8,0,none⟩,[2,7],2⟩,⟨[74,78,90],[],⟨9,0,0,0,0,0,0,0,0,0,false,false,false,0,0,0,false⟩,some ⟨b9,0,none⟩,[2,7],2⟩]
def bG:List (List UInt8×List UInt8×In×List Int):=[([77,79,86],[],⟨1,0,0,0,0,0,0,0,0,0,false,false,false,0,0,0,false⟩,[1,5]),([77,79,86],[],⟨2,0,0,0,0,0,0,0,0,0,false,false,false,0,0,0,false⟩,[1,2]),([77,79,86,42],[],⟨4,0,0,0,0,0,0,0,0,0,false,false,false,0,0,0,false⟩,[1,6]),([77,79,86,42],[],⟨5,0,0,0,0,0,0,0,0,0,false,false,false,0,0,0,false⟩,[6,2]),([77,79,86,42],[],⟨5,0,0,0,0,0,0,0,0,0,false,false,false,0,0,0,false⟩,[6,5]),([88,67,72,71,42],[],⟨6,0,0,0,0,0,0,0,0,6,true,false,true,0,0,0,false⟩,[4,6]),([88,65,68,68,42],[],⟨6,0,0,0,0,0,0,0,0,1,true,false,true,0,0,0,false⟩,[6,4]),([77,70,69,78,67,69],[],⟨7,0,0,0,0,0,0,0,0,0,false,false,false,3,3,0,false⟩,[]),([74,90],[],⟨9,0,0,0,0,0,0,0,0,0,false,false,false,0,0,0,true⟩,[2,7]),([74,78,90],[],⟨9,0,0,0,0,0,0,0,0,0,false,false,false,0,0,0,false⟩,[2,7])]
def HG:List (List UInt8×List UInt8×In×List Int):=KK++bG
theorem Ph {b1 b2 b3 b4 b5 b6 b7 b8 b9 b10 lo lo2:Nat}{w:World}{ks:List Nat}(h:Acc lo (Cq b1 b2 b3 b4 b5 b6 b7 b8 b9 b10) w ks)(jO:lo2≤lo):RowsIn lo2 (IA b1 b2 b3 b4 b5 b6 b7 b8 b9) w ks:=by
 intro r hr
 unfold IA at hr
 simp only [List.mem_cons,List.mem_nil_iff,or_false]at hr
 rcases hr with rfl|rfl|rfl|rfl|rfl|rfl|rfl|rfl|rfl|rfl
 ·have q:=Ao (b:=b1) (cs:=[]) [1,5] h (by show _∈Cq b1 b2 b3 b4 b5 b6 b7 b8 b9 b10;unfold Cq;simp);exact⟨q.1,fun z hz=>Nat.le_trans jO (q.2 z hz)⟩
 ·have q:=Ao (b:=b2) (cs:=[]) [1,2] h (by show _∈Cq b1 b2 b3 b4 b5 b6 b7 b8 b9 b10;unfold Cq;simp);exact⟨q.1,fun z hz=>Nat.le_trans jO (q.2 z hz)⟩
 ·have q:=Ao (b:=b3) (cs:=[]) [1,6] h (by show _∈Cq b1 b2 b3 b4 b5 b6 b7 b8 b9 b10;unfold Cq;simp);exact⟨q.1,fun z hz=>Nat.le_trans jO (q.2 z hz)⟩
 ·have q:=Ao (b:=b4) (cs:=[]) [6,2] h (by show _∈Cq b1 b2 b3 b4 b5 b6 b7 b8 b9 b10;unfold Cq;simp);exact⟨q.1,fun z hz=>Nat.le_trans jO (q.2 z hz)⟩
 ·have q:=Ao (b:=b5) (cs:=[]) [6,5] h (by show _∈Cq b1 b2 b3 b4 b5 b6 b7 b8 b9 b10;unfold Cq;simp);exact⟨q.1,fun z hz=>Nat.le_trans jO (q.2 z hz)⟩
 ·have q:=Ao (b:=b6) (cs:=[]) [4,6] h (by show _∈Cq b1 b2 b3 b4 b5 b6 b7 b8 b9 b10;unfold Cq;simp);exact⟨q.1,fun z hz=>Nat.le_trans jO (q.2 z hz)⟩
 ·have q:=Ao (b:=b7) (cs:=[]) [6,4] h (by show _∈Cq b1 b2 b3 b4 b5 b6 b7 b8 b9 b10;unfold Cq;simp);exact⟨q.1,fun z hz=>Nat.le_trans jO (q.2 z hz)⟩
 ·exact⟨.inl ⟨rfl,rfl⟩,fun q hq=>by cases hq⟩
 ·have q:=Ao (b:=b8) (cs:=[]) [2,7] h (by show _∈Cq b1 b2 b3 b4 b5 b6 b7 b8 b9 b10;unfold Cq;simp);exact⟨q.1,fun z hz=>Nat.le_trans jO (q.2 z hz)⟩
 ·have q:=Ao (b:=b9) (cs:=[]) [2,7] h (by show _∈Cq b1 b2 b3 b4 b5 b6 b7 b8 b9 b10;unfold Cq;simp);exact⟨q.1,fun z hz=>Nat.le_trans jO (q.2 z hz)⟩
theorem Ax {lo b1:Nat}{L:List Rw}{w:World}{ks:List Nat}(h:RowsIn lo L w [b1])(hk:∀b,ks.contains b=true→b<lo∨b=b1):RowsIn lo L w ks:=fun r hr=>by
 obtain⟨h1,h2⟩:=h r hr
 refine⟨?_,h2⟩
 rcases h1 with h1|⟨b,e,q1,q2,q3⟩
 ·exact .inl h1
 ·refine .inr ⟨b,e,q1,?_,q3⟩
  cases hc:ks.contains b with
  |false=>rfl
  |true=>
   have h3:=h2 _ e
   simp only at h3
   rcases hk b hc with h4|h4
   ·omega
   ·rw [h4]at q2;simp at q2
theorem HH {lo:Nat}{l:List (Nat×List SV)}{w:World}{ks:List Nat}(h:Acc lo l w [])(hk:∀b,ks.contains b=true→b<lo):Acc lo l w ks:=fun p hp=>by
 obtain⟨h1,vs,h2,h3,h4,h5⟩:=h p hp
 refine⟨h1,vs,h2,h3,?_,h5⟩
 cases hc:ks.contains p.1 with
 |false=>rfl
 |true=>have:=hk _ hc;omega
theorem SP (b1 b2 b3 b4 b5 b6 b7 b8 b9 b10:Nat):AE [] ((IA b1 b2 b3 b4 b5 b6 b7 b8 b9).flatMap iX)=AE [] [.str [77,79,86],.str [],.int .i64 1,.z9,.z9,.z9,.z9,.z9,.z9,.z9,.z9,.z9,.ff,.ff,.ff,.z9,.z9,.z9,.ff,.sla (some ⟨b1,0,none⟩) 2 2,.str [77,79,86],.str [],.int .i64 2,.z9,.z9,.z9,.z9,.z9,.z9,.z9,.z9,.z9,.ff,.ff,.ff,.z9,.z9,.z9,.ff,.sla (some ⟨b2,0,none⟩) 2 2,.str [77,79,86,42],.str [],.int .i64 4,.z9,.z9,.z9,.z9,.z9,.z9,.z9,.z9,.z9,.ff,.ff,.ff,.z9,.z9,.z9,.ff,.sla (some ⟨b3,0,none⟩) 2 2,.str [77,79,86,42],.str [],.int .i64 5,.z9,.z9,.z9,.z9,.z9,.z9,.z9,.z9,.z9,.ff,.ff,.ff,.z9,.z9,.z9,.ff,.sla (some ⟨b4,0,none⟩) 2 2,.str [77,79,86,42],.str [],.int .i64 5,.z9,.z9,.z9,.z9,.z9,.z9,.z9,.z9,.z9,.ff,.ff,.ff,.z9,.z9,.z9,.ff,.sla (some ⟨b5,0,none⟩) 2 2,.str [88,67,72,71,42],.str [],.int .i64 6,.z9,.z9,.z9,.z9,.z9,.z9,.z9,.z9,.int .i64 6,.tt,.ff,.tt,.z9,.z9,.z9,.ff,.sla (some ⟨b6,0,none⟩) 2 2,.str [88,65,68,68,42],.str [],.int .i64 6,.z9,.z9,.z9,.z9,.z9,.z9,.z9,.z9,.int .i64 1,.tt,.ff,.tt,.z9,.z9,.z9,.ff,.sla (some ⟨b7,0,none⟩) 2 2,.str [77,70,69,78,67,69],.str [],.int .i64 7,.z9,.z9,.z9,.z9,.z9,.z9,.z9,.z9,.z9,.ff,.ff,.ff,.int .i64 3,.int .i64 3,.z9,.ff,.sla none 0 0,.str [74,90],.str [],.int .i64 9,.z9,.z9,.z9,.z9,.z9,.z9,.z9,.z9,.z9,.ff,.ff,.ff,.z9,.z9,.z9,.tt,.sla (some ⟨b8,0,none⟩) 2 2,.str [74,78,90],.str [],.int .i64 9,.z9,.z9,.z9,.z9,.z9,.z9,.z9,.z9,.z9,.ff,.ff,.ff,.z9,.z9,.z9,.ff,.sla (some ⟨b9,0,none⟩) 2 2]:=by rfl
theorem RowsIn.mono {lo lo2:Nat}{L:List Rw}{w:World}{ks:List Nat}(h:RowsIn lo L w ks)(hl:lo2≤lo):RowsIn lo2 L w ks:=fun r hr=>⟨(h r hr).1,fun q hq=>Nat.le_trans hl ((h r hr).2 q hq)⟩
theorem RowsIn.app {lo:Nat}{L R:List Rw}{w:World}{ks:List Nat}(h:RowsIn lo L w ks)(h2:RowsIn lo R w ks):RowsIn lo (L++R) w ks:=fun r hr=>by
 rcases List.mem_append.1 hr with h3|h3
 ·exact h r h3
 ·exact h2 r h3
theorem RowsIn.one {lo b:Nat}{L:List Rw}{w w':World}{ks:List Nat}(h:RowsIn lo L w ks)(h2:RowsIn lo L w [b])(m:CR ks w w'):RowsIn lo L w' [b]:=fun r hr=>by
 refine⟨?_,(h r hr).2⟩
 rcases(h r hr).1.go m (ks':=[]) (fun b hb=>by cases hb)with h1|⟨q,e,q1,_,q3⟩
 ·exact .inl h1
 ·rcases(h2 r hr).1 with h3|⟨q',e',_,q2',_⟩
  ·rw [h3.1]at e;cases e
  ·rw [e]at e';cases e';exact .inr ⟨q,e,q1,q2',q3⟩
theorem Bm.mix {e s m b cp:Nat}{f:Nat→List SV}{w w':World}{ks:List Nat}(h:Bm e s m f b cp w)(mx:CR ks w w')(hk:ks.contains b=false):Bm e s m f b cp w':=by
 obtain⟨h1,xs,h2,h3⟩:=h
 exact⟨h1,xs,h2,KY h3 mx (fun k lE=>by cases lE;exact hk)⟩
section
variable {n:Nat}{ks:List Nat}{G0:Gr}{w0:World}{T:List (Nat×SV)}{H:Hp}{G:Gr}{a:Act}{w:World}{Q:Exit→Act→World→Prop}{K:List Fr}{ops:Array Oper}{o:Oper}{rest:List Oper}
theorem UZ (A:Sy n T H ks G0 w0 G a w) (h1:BS n ops T o=some (182,[]))
  (k:∀b1 b2 b3 b4 b5 b6 b7 b8 b9 b10 vs a' w',AE [] ((IA b1 b2 b3 b4 b5 b6 b7 b8 b9).flatMap iX)=some vs→Iv b10 0 vs w' (keys H G)→RowsIn w.heap.size (IA b1 b2 b3 b4 b5 b6 b7 b8 b9) w' (keys H G)→Sy n (Ay T o.dst (.sla (some ⟨b10,0,none⟩) 10 10)) H ks G0 w0 G a' w'→Goal Tryz.prog Q K (.ops ops rest) a' w'):Goal Tryz.prog Q K (.ops ops (o::rest)) a w:=by
 refine Iw [] bF A h1 rfl rfl rfl rfl fun x a' w' hJ hk A'=>?_
 obtain⟨b1,b2,b3,b4,b5,b6,b7,b8,b9,b10,rfl,hA⟩:=hJ
 have hA:=HH hA hk
 obtain⟨_,vs,q1,q2⟩:=hA _ List.mem_cons_self
 exact k b1 b2 b3 b4 b5 b6 b7 b8 b9 b10 vs a' w' ((SP b1 b2 b3 b4 b5 b6 b7 b8 b9 b10).trans q1) q2 (Ph hA (Nat.le_refl _)) A'
end
theorem X0:Fn Tryz.prog 144 [] [] (Rt (.agg [.str [82,65,88],.str [82,66,88],.str [82,67,88],.str [82,68,88],.str [82,83,73],.str [82,68,73],.str [82,56],.str [82,57]]) []):=
 AG (n:=2) (by kernel_rfl) Tryz.func144 rfl rfl rfl fun G w a h0 A=>N9 12 A rfl rfl fun A=>R9 A rfl h0 rfl rfl rfl
theorem JP:Jf Tryz.prog 141 [] [] (fun x w w'=>∃(L:List Rw) (b cp:Nat),x=.agg [.str [82,65,88],.str [82,66,88],.str [82,67,88],.str [82,68,88],.str [82,83,73],.str [82,68,73],.str [82,56],.str [82,57],.str [66],.str [87],.str [76],.str [81],.str [36],.str [],.str [],.str [],.sla (some ⟨b,0,none⟩) 20 cp]∧(L.map tm=HG∧RowsIn w.heap.size L w' [b])∧w.heap.size≤b∧Bm 203 20 20 (fun zz=>iX (L.getD zz Rw.z)) b cp w'):=
 DJ (n:=7) (by kernel_rfl) Tryz.func141 rfl rfl rfl fun G w a h0 A=>N9 7 A rfl rfl fun A=>C9 [] (X0) A rfl fun A=>N9 1 A rfl rfl fun A=>have hz:=A.mix.size;Fg (t:=3) (F:=fun(L:List Rw) zz=>iX (L.getD zz Rw.z)) (R:=fun L b w w'=>L.map tm=KK∧RowsIn w.heap.size L w' [b]) Xz A rfl rfl fun L b1 cp1 a1 w1 G1 hR jO hk A=>have hl:L.length=10:=(by have q:=congrArg List.length hR.1;rw [List.length_map]at q;exact q);have hI:=(Ax hR.2 hk).mono hz;have B:=A;have A:=B.base;
 UZ A rfl fun c1 c2 c3 c4 c5 c6 c7 c8 c9 c10 vs a2 w2 hv hL hO A=>have hI:=RowsIn.ok _ _ _ _ hI A.mix A.keys_own;have hO:=hO.mono B.mix.size;have B:=B.trans A;have A:=A.base;have A:=A.adoptL Rw.z iX 20 k7.1 k7.2.1 k7.2.2 (IA c1 c2 c3 c4 c5 c6 c7 c8 c9) hL hv 4 rfl;
 AW A rfl (GG hX 20 (fun zz=>iX ((L++(IA c1 c2 c3 c4 c5 c6 c7 c8 c9)).getD zz Rw.z)) rfl rfl rfl rfl (Nat.le_refl _) (by decide) (show 10≤1000000 by decide) rfl (fun k hk=>by show iX _=iX _;rw [i6 (by omega)]) (fun k hk=>by show iX ((L++_).getD (10+k) Rw.z)=iX _;rw [show 10+k=L.length+k by omega,Bh]) (fun z=>⟨_,rfl,rfl⟩) (fun k hk=>⟨_,rfl,iT⟩)) fun A=>match A.giveRow 3 5 (by decide) rfl rfl rfl with|⟨b,cp,A2,hG,ho,sH⟩=>(have hW:=hI.app hO;have h1:=RowsIn.ok _ _ _ _ hW A2.mix A2.keys_own;have h2:=RowsIn.ok _ _ _ [b] hW A2.mix (fun b2 hb=>by have:b2=b:=(by simpa using hb);rw [this];exact ho);have pF:=Gg B (fun i e he=>Bj he) ho;have B:=B.trans A2;have A:=A2.base;
 N9 5 A rfl rfl fun A=>HY (J:=fun x w w'=>∃(L:List Rw) (b cp:Nat),x=.agg [.str [82,65,88],.str [82,66,88],.str [82,67,88],.str [82,68,88],.str [82,83,73],.str [82,68,73],.str [82,56],.str [82,57],.str [66],.str [87],.str [76],.str [81],.str [36],.str [],.str [],.str [],.sla (some ⟨b,0,none⟩) 20 cp]∧(L.map tm=HG∧RowsIn w.heap.size L w' [b])∧w.heap.size≤b∧Bm 203 20 20 (fun zz=>iX (L.getD zz Rw.z)) b cp w') hX (B.trans A) (fun i e he=>Bj he) rfl rfl rfl rfl ⟨L++(IA c1 c2 c3 c4 c5 c6 c7 c8 c9),b,cp,rfl,⟨by rw [List.map_append,hR.1];rfl,h1.one h2 A.mix⟩,pF,hG.mix A.mix sH⟩)
end Go.Proofs.YtbbdanhpphlbpaaGreatDoor
namespace Go.Proofs.YtbbdanhpphlbpaaGreatDoor
open Go.RowKit
def Dk:Lg:=⟨[82,65,88],[82,66,88],[82,67,88],[82,68,88],[82,83,73],[82,68,73],[82,56],[82,57],[66],[87],[76],[81],[36],[],[],[]⟩
section
variable {g:Lg}{q:List UInt8}{L:List Rw}{ws:List Tk}{s:Ps}
theorem X1 {r:Rw}{T:List (List UInt8×List UInt8×In×List Int)}(h:L.map tm=T)(hr:r∈L):tm r∈T:=by rw [←h];exact List.mem_map_of_mem hr
end
end Go.Proofs.YtbbdanhpphlbpaaGreatDoor
namespace Go.Proofs.YtbbdanhpphlbpaaGreatDoor
open Go.RowKit
def cn (r:Rw):Rw:=⟨r.nm,r.wd,r.ins,none,r.ps,0⟩
def Ua (x:List UInt8×List UInt8×In×List Int):Rw:=⟨x.1,x.2.1,x.2.2.1,none,x.2.2.2,0⟩
theorem SQ {L:List Rw}{T:List (List UInt8×List UInt8×In×List Int)}(h:L.map tm=T):L.map cn=T.map Ua:=by rw [←h,List.map_map];rfl
section
variable {g:Lg}{q:List UInt8}{L R:List Rw}{ws:List Tk}{s z:Ps}{k:Nat}{t:Tk}{x:Int}
end
def NQ:List Rw:=HG.map Ua
end Go.Proofs.YtbbdanhpphlbpaaGreatDoor
namespace Go.Proofs.YtbbdanhpphlbpaaGreatDoor
open Go.RowKit
set_option simprocs false
section
variable {g:Lg}{L:List Rw}{i:In}{lb:List UInt8}
theorem LC:∀(L:List Rw),(L.map cn).find? (EZ i)=(L.find? (EZ i)).map cn
 | []=>rfl
 |r::L=>by
  rw [List.map_cons,List.find?_cons,List.find?_cons]
  have e:EZ i (cn r)=EZ i r:=rfl
  rw [e]
  split
  ·rfl
  ·exact LC L
theorem Ub:Aa (L.map cn) i=cn (Aa L i):=by
 unfold Aa;rw [LC];cases L.find? (EZ i)<;>rfl
theorem Uc:Ea (L.map cn) i=Ea L i:=by
 unfold Ea;rw [LC];cases L.find? (EZ i)<;>rfl
theorem NR:Ch g (L.map cn) i lb=Ch g L i lb:=by
 unfold Ch;rw [Ub,Uc];rfl
theorem SR (h:L.map tm=HG):Ch Dk L i lb=Ch Dk NQ i lb:=by
 have:=NR (g:=Dk) (L:=L) (i:=i) (lb:=lb)
 rw [SQ h]at this
 exact this.symm
end
theorem Ud (i:In)(lb:List UInt8)(os:List (Nat×Obj))(hM:lP os)(hT:mR os)(hE:lW os)(hp:∀L:List Rw,L.map tm=HG→Jo Dk L i lb):Bi (Gl os) Tryz.prog 110 [.agg (AS i),.str lb] [] (Rt (.tup [.str ((Ch Dk NQ i lb).1),.int .i64 ((Ch Dk NQ i lb).2)]) []):=
 Ab (n:=12) (by kernel_rfl) Tryz.func110 rfl rfl rfl fun G w a h0 hI A=>N9 8 A rfl rfl fun A=>I8 8 BK rfl A fun{w2} A=>Gs (fun(tail:∀(L:List Rw) {G1:Gr} {a1:Act} {w1:World},L.map tm=HG→L.length=20→EK os L w1 (keys [some (.blk (AS i)),some (EJ L)] G1)→Sy 12 [(6,.agg [.str [82,65,88],.str [82,66,88],.str [82,67,88],.str [82,68,88],.str [82,83,73],.str [82,68,73],.str [82,56],.str [82,57],.str [66],.str [87],.str [76],.str [81],.str [36],.str [],.str [],.str [],.sl 1 L.length 0]),(7,.agg (AS i)),(8,.str lb)] [some (.blk (AS i)),some (EJ L)] (keys [] G) G w G1 a1 w1→wpAny Tryz.prog .any _ _ _ _ a1 w1)=>AM (rs:=[0,1,2]) (by kernel_rfl) (by decide) (Bg ⟨CK (t:=6) (l:=[.str [82,65,88],.str [82,66,88],.str [82,67,88],.str [82,68,88],.str [82,83,73],.str [82,68,73],.str [82,56],.str [82,57],.str [66],.str [87],.str [76],.str [81],.str [36],.str [],.str [],.str []]) (F:=fun(L:List Rw) zz=>iX (L.getD zz Rw.z)) (R:=fun L b w w'=>L.map tm=HG∧RowsIn w.heap.size L w' [b]) rfl JP A rfl rfl fun L b cp a1 w1 G1 hR jO k8 A=>have jA:L.length=20:=(by have q:=congrArg List.length hR.1;rw [List.length_map]at q;exact q.trans (by decide+kernel));have k9:=Ax hR.2 k8;have B0:=A;have A:=A.base;have A:=A.rowAs 1 L.length (fun zz=>iX (L.getD zz Rw.z)) rfl jA (fun _ _=>rfl) (fun z=>⟨_,rfl,rfl⟩);have A:=A.say 6 (.agg [.str [82,65,88],.str [82,66,88],.str [82,67,88],.str [82,68,88],.str [82,83,73],.str [82,68,73],.str [82,56],.str [82,57],.str [66],.str [87],.str [76],.str [81],.str [36],.str [],.str [],.str [],.sl 1 L.length 0]) rfl (by rw [jA]<;>rfl);have A:=A.freeze 1 rfl;have lA:=RowsIn.ok.now A k9;have B:=B0.trans A;have A:=A.base;have jE:EK os L _ _:=⟨fun r hr=>(lA r hr).1,Gl.ok.now B hI⟩;AM (rs:=[1,2]) (by kernel_rfl) (by decide) (Bg ⟨CM (.agg (AS i)) rfl A rfl rfl fun A=>AM (rs:=[2]) (by kernel_rfl) (by decide) (Bg ⟨CM (.str lb) rfl A rfl rfl fun A=>tail L hR.1 jA (EK.ok.now A jE) ((B.trans A).cut [6,7,8] rfl),
    (CF)⟩),
   (Bg ⟨CM (.str lb) rfl A rfl rfl fun A=>AM (rs:=[1]) (by kernel_rfl) (by decide) (Bg ⟨CM (.agg (AS i)) rfl A rfl rfl fun A=>tail L hR.1 jA (EK.ok.now A jE) ((B.trans A).cut [6,7,8] rfl),
    (CF)⟩),
   (CF)⟩)⟩),
  (Bg ⟨CM (.agg (AS i)) rfl A rfl rfl fun A=>AM (rs:=[0,2]) (by kernel_rfl) (by decide) (Bg ⟨CK (t:=6) (l:=[.str [82,65,88],.str [82,66,88],.str [82,67,88],.str [82,68,88],.str [82,83,73],.str [82,68,73],.str [82,56],.str [82,57],.str [66],.str [87],.str [76],.str [81],.str [36],.str [],.str [],.str []]) (F:=fun(L:List Rw) zz=>iX (L.getD zz Rw.z)) (R:=fun L b w w'=>L.map tm=HG∧RowsIn w.heap.size L w' [b]) rfl JP A rfl rfl fun L b cp a1 w1 G1 hR jO k8 A=>have jA:L.length=20:=(by have q:=congrArg List.length hR.1;rw [List.length_map]at q;exact q.trans (by decide+kernel));have k9:=Ax hR.2 k8;have B0:=A;have A:=A.base;have A:=A.rowAs 1 L.length (fun zz=>iX (L.getD zz Rw.z)) rfl jA (fun _ _=>rfl) (fun z=>⟨_,rfl,rfl⟩);have A:=A.say 6 (.agg [.str [82,65,88],.str [82,66,88],.str [82,67,88],.str [82,68,88],.str [82,83,73],.str [82,68,73],.str [82,56],.str [82,57],.str [66],.str [87],.str [76],.str [81],.str [36],.str [],.str [],.str [],.sl 1 L.length 0]) rfl (by rw [jA]<;>rfl);have A:=A.freeze 1 rfl;have lA:=RowsIn.ok.now A k9;have B:=B0.trans A;have A:=A.base;have jE:EK os L _ _:=⟨fun r hr=>(lA r hr).1,Gl.ok.now B hI⟩;AM (rs:=[2]) (by kernel_rfl) (by decide) (Bg ⟨CM (.str lb) rfl A rfl rfl fun A=>tail L hR.1 jA (EK.ok.now A jE) ((B.trans A).cut [6,7,8] rfl),
    (CF)⟩),
   (Bg ⟨CM (.str lb) rfl A rfl rfl fun A=>AM (rs:=[0]) (by kernel_rfl) (by decide) (Bg ⟨CK (t:=6) (l:=[.str [82,65,88],.str [82,66,88],.str [82,67,88],.str [82,68,88],.str [82,83,73],.str [82,68,73],.str [82,56],.str [82,57],.str [66],.str [87],.str [76],.str [81],.str [36],.str [],.str [],.str []]) (F:=fun(L:List Rw) zz=>iX (L.getD zz Rw.z)) (R:=fun L b w w'=>L.map tm=HG∧RowsIn w.heap.size L w' [b]) rfl JP A rfl rfl fun L b cp a1 w1 G1 hR jO k8 A=>have jA:L.length=20:=(by have q:=congrArg List.length hR.1;rw [List.length_map]at q;exact q.trans (by decide+kernel));have k9:=Ax hR.2 k8;have B0:=A;have A:=A.base;have A:=A.rowAs 1 L.length (fun zz=>iX (L.getD zz Rw.z)) rfl jA (fun _ _=>rfl) (fun z=>⟨_,rfl,rfl⟩);have A:=A.say 6 (.agg [.str [82,65,88],.str [82,66,88],.str [82,67,88],.str [82,68,88],.str [82,83,73],.str [82,68,73],.str [82,56],.str [82,57],.str [66],.str [87],.str [76],.str [81],.str [36],.str [],.str [],.str [],.sl 1 L.length 0]) rfl (by rw [jA]<;>rfl);have A:=A.freeze 1 rfl;have lA:=RowsIn.ok.now A k9;have B:=B0.trans A;have A:=A.base;have jE:EK os L _ _:=⟨fun r hr=>(lA r hr).1,Gl.ok.now B hI⟩;tail L hR.1 jA (EK.ok.now A jE) ((B.trans A).cut [6,7,8] rfl),
    (CF)⟩),
   (CF)⟩)⟩),
  (Bg ⟨CM (.str lb) rfl A rfl rfl fun A=>AM (rs:=[0,1]) (by kernel_rfl) (by decide) (Bg ⟨CK (t:=6) (l:=[.str [82,65,88],.str [82,66,88],.str [82,67,88],.str [82,68,88],.str [82,83,73],.str [82,68,73],.str [82,56],.str [82,57],.str [66],.str [87],.str [76],.str [81],.str [36],.str [],.str [],.str []]) (F:=fun(L:List Rw) zz=>iX (L.getD zz Rw.z)) (R:=fun L b w w'=>L.map tm=HG∧RowsIn w.heap.size L w' [b]) rfl JP A rfl rfl fun L b cp a1 w1 G1 hR jO k8 A=>have jA:L.length=20:=(by have q:=congrArg List.length hR.1;rw [List.length_map]at q;exact q.trans (by decide+kernel));have k9:=Ax hR.2 k8;have B0:=A;have A:=A.base;have A:=A.rowAs 1 L.length (fun zz=>iX (L.getD zz Rw.z)) rfl jA (fun _ _=>rfl) (fun z=>⟨_,rfl,rfl⟩);have A:=A.say 6 (.agg [.str [82,65,88],.str [82,66,88],.str [82,67,88],.str [82,68,88],.str [82,83,73],.str [82,68,73],.str [82,56],.str [82,57],.str [66],.str [87],.str [76],.str [81],.str [36],.str [],.str [],.str [],.sl 1 L.length 0]) rfl (by rw [jA]<;>rfl);have A:=A.freeze 1 rfl;have lA:=RowsIn.ok.now A k9;have B:=B0.trans A;have A:=A.base;have jE:EK os L _ _:=⟨fun r hr=>(lA r hr).1,Gl.ok.now B hI⟩;AM (rs:=[1]) (by kernel_rfl) (by decide) (Bg ⟨CM (.agg (AS i)) rfl A rfl rfl fun A=>tail L hR.1 jA (EK.ok.now A jE) ((B.trans A).cut [6,7,8] rfl),
    (CF)⟩),
   (Bg ⟨CM (.agg (AS i)) rfl A rfl rfl fun A=>AM (rs:=[0]) (by kernel_rfl) (by decide) (Bg ⟨CK (t:=6) (l:=[.str [82,65,88],.str [82,66,88],.str [82,67,88],.str [82,68,88],.str [82,83,73],.str [82,68,73],.str [82,56],.str [82,57],.str [66],.str [87],.str [76],.str [81],.str [36],.str [],.str [],.str []]) (F:=fun(L:List Rw) zz=>iX (L.getD zz Rw.z)) (R:=fun L b w w'=>L.map tm=HG∧RowsIn w.heap.size L w' [b]) rfl JP A rfl rfl fun L b cp a1 w1 G1 hR jO k8 A=>have jA:L.length=20:=(by have q:=congrArg List.length hR.1;rw [List.length_map]at q;exact q.trans (by decide+kernel));have k9:=Ax hR.2 k8;have B0:=A;have A:=A.base;have A:=A.rowAs 1 L.length (fun zz=>iX (L.getD zz Rw.z)) rfl jA (fun _ _=>rfl) (fun z=>⟨_,rfl,rfl⟩);have A:=A.say 6 (.agg [.str [82,65,88],.str [82,66,88],.str [82,67,88],.str [82,68,88],.str [82,83,73],.str [82,68,73],.str [82,56],.str [82,57],.str [66],.str [87],.str [76],.str [81],.str [36],.str [],.str [],.str [],.sl 1 L.length 0]) rfl (by rw [jA]<;>rfl);have A:=A.freeze 1 rfl;have lA:=RowsIn.ok.now A k9;have B:=B0.trans A;have A:=A.base;have jE:EK os L _ _:=⟨fun r hr=>(lA r hr).1,Gl.ok.now B hI⟩;tail L hR.1 jA (EK.ok.now A jE) ((B.trans A).cut [6,7,8] rfl),
    (CF)⟩),
   (CF)⟩)⟩),
  (CF)⟩)⟩)⟩)) (fun L {G1 a1 w1} sI jA jE A=>have hR:L.map tm=HG∧True:=⟨sI,trivial⟩;have B:=A;have A:=B.base;AM (rs:=[3]) (by kernel_rfl) (by decide) (Bg ⟨En (x:=.tup [.str ((Ch Dk L i lb).1),.int .i64 ((Ch Dk L i lb).2)]) (H':=[some (.blk (AS i)),some (EJ L)]) rfl A rfl (C8 [1] EK.ok jE (LB Dk L 0 i lb os hM hT hE (hp L hR.1)) rfl rfl rfl rfl rfl rfl rfl) fun A=>AM (rs:=[4,5]) (by kernel_rfl) (by decide) (Bg ⟨CM (.str ((Ch Dk L i lb).1)) rfl A rfl rfl fun A=>AM (rs:=[5]) (by kernel_rfl) (by decide) (Bg ⟨CM (.int .i64 ((Ch Dk L i lb).2)) rfl A rfl rfl fun A=>AM (rs:=[6]) (by kernel_rfl) (by decide) (Bg ⟨CM (.str ((Ch Dk L i lb).1)) rfl A rfl rfl fun A=>AM (rs:=[7]) (by kernel_rfl) (by decide) (Bg ⟨CM (.int .i64 ((Ch Dk L i lb).2)) rfl A rfl rfl fun A=>Dh (by kernel_rfl) (N9 2 A rfl rfl fun A=>R9 (B.trans A) rfl h0 rfl (by rw [←SR hR.1]<;>rfl) rfl),
      (CF)⟩),
     (CF)⟩),
    (CF)⟩),
   (Bg ⟨CM (.int .i64 ((Ch Dk L i lb).2)) rfl A rfl rfl fun A=>AM (rs:=[4]) (by kernel_rfl) (by decide) (Bg ⟨CM (.str ((Ch Dk L i lb).1)) rfl A rfl rfl fun A=>AM (rs:=[6]) (by kernel_rfl) (by decide) (Bg ⟨CM (.str ((Ch Dk L i lb).1)) rfl A rfl rfl fun A=>AM (rs:=[7]) (by kernel_rfl) (by decide) (Bg ⟨CM (.int .i64 ((Ch Dk L i lb).2)) rfl A rfl rfl fun A=>Dh (by kernel_rfl) (N9 2 A rfl rfl fun A=>R9 (B.trans A) rfl h0 rfl (by rw [←SR hR.1]<;>rfl) rfl),
      (CF)⟩),
     (CF)⟩),
    (CF)⟩),
   (CF)⟩)⟩),
  (CF)⟩))
end Go.Proofs.YtbbdanhpphlbpaaGreatDoor
namespace Go.Proofs.YtbbdanhpphlbpaaGreatDoor
end Go.Proofs.YtbbdanhpphlbpaaGreatDoor
