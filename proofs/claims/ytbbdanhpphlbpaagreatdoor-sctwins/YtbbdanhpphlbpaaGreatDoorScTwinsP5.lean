/- ScTwins, part 5: the engine, contracts, theory. -/
import Derived.Test.YtbbdanhpphlbpaaGreatDoorScTwinsP4
import Derived.Shelf.Pu.ParseUintPublic10
import Derived.Ground.MpProg
import Derived.Shelf.Strconv.Itoa3
import Derived.Shelf.Strings.Replace
import Derived.Lib.ItoaLen
import Derived.Shelf.Strings.Cut
import Derived.Shelf.Strings.OnBuilder
import Derived.Shelf.Spec.SlicesGrow
set_option linter.unusedVariables false
set_option linter.unusedSimpArgs false
set_option linter.unusedSectionVars false
set_option maxRecDepth 100000
set_option maxHeartbeats 2000000
namespace Go.Proofs.YtbbdanhpphlbpaaGreatDoor
open Go.RowKit
set_option simprocs false
theorem eO (c:Int):Fn Tryz.prog 266 [.int .u8 c] [] (Rt (.int .u8 (IntKind.wrap .u8 ((((BitVec.ofInt (IntKind.bits .u8) c)|||(BitVec.ofInt (IntKind.bits .u8) 32)).toNat:Nat):Int))) []):=
 Am (n:=5) (by kernel_rfl) Tryz.func266 rfl rfl rfl fun G w a h0 A=>N9 13 A rfl rfl fun A=>R9 A rfl h0 rfl rfl rfl
theorem eP (b:UInt8):IntKind.wrap .u8 ((((BitVec.ofInt (IntKind.bits .u8) ((b.toNat:Nat):Int))|||(BitVec.ofInt (IntKind.bits .u8) 32)).toNat:Nat):Int)=((Gy b:Nat):Int):=by
 have h:(BitVec.ofInt 8 ((b.toNat:Nat):Int)|||BitVec.ofInt 8 32).toNat=(b|||32).toNat:=by
  have e1:BitVec.ofInt 8 ((b.toNat:Nat):Int)=b.toBitVec:=by
   apply π4
   rw [BitVec.toNat_ofInt]
   have:=b.toNat_lt
   simp;omega
  rw [e1];rfl
 show IntKind.wrap .u8 (((BitVec.ofInt 8 ((b.toNat:Nat):Int)|||BitVec.ofInt 8 32).toNat:Nat):Int)=_
 rw [h]
 have:=YP b
 unfold Gy at this⊢
 exact Ko (by omega) (by omega)
theorem ME (b:UInt8):Fn Tryz.prog 266 [.int .u8 ((b.toNat:Nat):Int)] [] (Rt (.int .u8 ((Gy b:Nat):Int)) []):=JI (eO _) (Bx (eP b))
def jZ (bs:Nat)(l:List UInt8):SV:=match EK bs l with|some n=>.tup [.int .u64 (n:Int),.v .nilIface]|none=>.tup [.int .u64 0,.v (.iface 280 (.int .i64 2))]
theorem DI {bs:Nat}{l:List UInt8}(h:EK bs l=none):jZ bs l=.tup [.int .u64 0,.v (.iface 280 (.int .i64 2))]:=by unfold jZ;rw [h]
theorem Il {bs:Nat}{l:List UInt8}{n:Nat}(h:EK bs l=some n):jZ bs l=.tup [.int .u64 (n:Int),.v .nilIface]:=by unfold jZ;rw [h]
structure NI (bs:Nat)(l:List UInt8)(j:Nat):Prop where
 le:j≤l.length
 al:K4 bs (l.take j)=true
theorem Oq (l:List UInt8) (hl:l.length≤19):Fn Tryz.prog 238 [.str l,.int .i64 10,.int .i64 64] [] (Rt (jZ 10 l) []):=
 Am (n :=172) (by kernel_rfl) Tryz.func238 rfl rfl rfl fun G w a h0 A=>N9 13 A rfl rfl fun A=>Au 19 A rfl
  (fun h1 A=>N9 3 A rfl rfl fun A=>A9 A rfl (Lb rfl rfl rfl rfl (by kernel_rfl)) fun A=>N9 5 A rfl rfl fun A=>R9 A rfl h0 rfl (by rw [DI (Rp h1)];rfl) rfl)
  (fun h1 A=>N9 7 A rfl rfl fun A=>have A:=Ai A 22 (.ff) rfl (fun _=>congrArg (fun b=>some (Value.bool b)) (show(10==0)=false by decide));N9 19 A rfl rfl fun A=>have A:=Ai A 31 (.tt) rfl (fun _=>congrArg (fun b=>some (Value.bool b)) (show((decide (2≤10))&&(decide (10≤36)))=true by decide));N9 14 A rfl rfl fun A=>Au 77 A rfl
   (fun h2 A=>absurd h2 (by decide))
   (fun h2 A=>N9 9 A rfl rfl fun A=>have A:=Ai A 83 (.ff) rfl (fun _=>congrArg (fun b=>some (Value.bool b)) (show((decide (64<0))||(decide (64>64)))=false by decide));N9 23 A rfl rfl fun A=>Au 90 A rfl
    (fun h3 A=>N9 10 A rfl rfl fun A=>have A:=Ai A 95 (.int .u64 64) rfl (Bx (show IntKind.wrap .u64 64=64 by decide));N9 1 A rfl (Aj (by omega)<|Ah) fun A=>have A:=Ai A 96 (.int .u64 0) rfl (Bx (show IntKind.wrap .u64 (1*2^min (64:Int).toNat (IntKind.bits .u64))=0 by decide));N9 1 A rfl rfl fun A=>have A:=Ai A 97 (.int .u64 18446744073709551615) rfl (Bx (show IntKind.wrap .u64 (0 - 1)=18446744073709551615 by decide));N9 17 A rfl rfl fun A=>A9 A rfl (Ul (i:=0) (e:=5) rfl rfl rfl (by kernel_rfl) (by kernel_rfl) (by kernel_rfl) rfl) fun A=>N9 5 A rfl rfl fun A=>B7 (fun(j:Nat)=>[(1,.int .i64 10),(6,.int .u64 0),(7,.v .nilIface),(8,.ff),(9,.str l),(10,.int .u64 1844674407370955162),(11,.int .u64 18446744073709551615),(12,.ff),(13,.int .u64 ((nv 10 (l.take j):Nat):Int)),(99,.sl 0 l.length 0),(100,.int .i64 ((l.length:Nat):Int)),(101,.int .i64 (j:Int))]) (fun(j:Nat)=>[some (.lst 1 l.length (fun k=>[.int .u8 (((l.getD k 0).toNat:Nat):Int)]))]) (fun(j:Nat)=>NI 10 l j) (fun(j:Nat)=>l.length - j) 0 ⟨β8 _,rfl⟩ ((A.cut [1,6,7,8,9,10,11,12,13,99,100,101] rfl).trunc 1 rfl rfl rfl (Cj h0 rfl)) fun j hI {G a w} A=>N9 6 A rfl rfl fun A=>Aq 102 A rfl
      (fun h4 A=>N9 13 A rfl (Aj (by have:=hI.le;omega)<|Aj (by have:=hI.le;omega)<|Ah) fun A=>N9 13 A rfl rfl fun A=>have A:=Ai A 111 (.ff) rfl (fun _=>congrArg (fun b=>some (Value.bool b)) (show(bif (((l.getD (((j:Int)).toNat) 0).toNat:Nat):Int)==95 then false else false)=false by simp));N9 15 A rfl rfl fun A=>fork 112 A rfl
       (fun h5 A=>N9 4 A rfl rfl fun A=>have A:=Ai A 120 (.int .u8 ((dv (l.getD (((j:Int)).toNat) 0):Nat):Int)) rfl (Bx (show IntKind.wrap .u8 ((((l.getD (((j:Int)).toNat) 0).toNat:Nat):Int) - 48)=((dv (l.getD (((j:Int)).toNat) 0):Nat):Int) by have h:=h5;simp only [α3,δ5]at h;rw [Ve (by omega) (by omega),Ko (by omega) (by omega)];omega));N9 10 A rfl rfl fun A=>have A:=Ai A 136 (.int .u8 10) rfl (Bx (show IntKind.wrap .u8 10=10 by decide));N9 3 A rfl rfl fun A=>Aq 137 A rfl
        (fun h6 A=>N9 3 A rfl rfl fun A=>A9 A rfl (Lb rfl rfl rfl rfl (by kernel_rfl)) fun A=>N9 5 A rfl rfl fun A=>R9 A rfl h0 rfl (by rw [DI (FK (DB h4) (by have:=h6;omega))];rfl) rfl)
        (fun h6 A=>N9 11 A rfl rfl fun A=>Aq 141 A rfl
         (fun h7 A=>absurd h7 (by have hp:=Jh hI.al;have hle:=hI.le;have hj:=h4;omega))
         (fun h7 A=>N9 8 A rfl rfl fun A=>have A:=Ai A 146 (.int .u64 10) rfl (Bx (show IntKind.wrap .u64 10=10 by decide));N9 1 A rfl rfl fun A=>have A:=Ai A 147 (.int .u64 (((nv 10 (l.take j):Nat):Int)*10)) rfl (Bx (show IntKind.wrap .u64 (((nv 10 (l.take j):Nat):Int)*10)=((nv 10 (l.take j):Nat):Int)*10 by have hp:=Jh hI.al;have hle:=hI.le;have hj:=h4;exact wrap64 (by omega) (by omega)));N9 8 A rfl rfl fun A=>have A:=Ai A 150 (.int .u64 ((dv (l.getD (((j:Int)).toNat) 0):Nat):Int)) rfl (Bx (show IntKind.wrap .u64 ((dv (l.getD (((j:Int)).toNat) 0):Nat):Int)=((dv (l.getD (((j:Int)).toNat) 0):Nat):Int) by have:=h6;exact wrap64 (by omega) (by omega)));N9 1 A rfl rfl fun A=>have A:=Ai A 151 (.int .u64 ((nv 10 (l.take (j+1)):Nat):Int)) rfl (Bx (show IntKind.wrap .u64 ((((nv 10 (l.take j):Nat):Int)*10)+((dv (l.getD (((j:Int)).toNat) 0):Nat):Int))=((nv 10 (l.take (j+1)):Nat):Int) by have hp:=Jh hI.al;have hle:=hI.le;have hj:=h4;have hd:dv (l.getD (((j:Int)).toNat) 0)<10:=(by have:=h6;omega);rw [Ik (DB hj)];have e0:(((j:Int)).toNat)=((j:Int)).toNat:=rfl;rw [wrap64 (by omega) (by omega)];omega));N9 14 A rfl rfl fun A=>have A:=Ai A 159 (.ff) rfl (fun _=>congrArg (fun b=>some (Value.bool b)) (show((decide (((nv 10 (l.take (j+1)):Nat):Int)<(((nv 10 (l.take j):Nat):Int)*10)))||(decide (((nv 10 (l.take (j+1)):Nat):Int)>18446744073709551615)))=false by have hp:=Jh hI.al;have hle:=hI.le;have hj:=h4;have hd:dv (l.getD (((j:Int)).toNat) 0)<10:=(by have:=h6;omega);have hg:=Ik (bs:=10) (DB hj);rw [π1];intro hc;simp only [β9,δ5]at hc;omega));N9 15 A rfl (Aj (by have:=hI.le;omega)<|Ah) fun A=>⟨j+1,_,(by omega),⟨by have:=hI.le;omega,NS (DB h4) hI.al (by have:=h6;omega)⟩,((A.cut [1,6,7,8,9,10,11,12,13,99,100,101] rfl).trunc 1 rfl rfl rfl (Cj h0 rfl))⟩)))
       (fun h5 A=>N9 4 A rfl rfl fun A=>C9 [] (ME (l.getD (((j:Int)).toNat) 0)) A rfl fun A=>N9 2 A rfl rfl fun A=>Aq 125 A rfl
        (fun h8 A=>N9 1 A rfl rfl fun A=>C9 [] (ME (l.getD (((j:Int)).toNat) 0)) A rfl fun A=>N9 5 A rfl rfl fun A=>Aq 121 A rfl
         (fun h9 A=>N9 3 A rfl rfl fun A=>C9 [] (ME (l.getD (((j:Int)).toNat) 0)) A rfl fun A=>N9 2 A rfl rfl fun A=>have A:=Ai A 133 (.int .u8 ((dv (l.getD (((j:Int)).toNat) 0):Nat):Int)) rfl (Bx (show IntKind.wrap .u8 ((IntKind.wrap .u8 (((Gy (l.getD (((j:Int)).toNat) 0):Nat):Int) - 97))+10)=((dv (l.getD (((j:Int)).toNat) 0):Nat):Int) by have h:=h5;simp only [κ4,δ9]at h;have h2:=h8;have h3:=h9;rw [Vf (by omega) (by omega) (by omega),Ko (n:=((Gy (l.getD (((j:Int)).toNat) 0):Nat):Int) - 97) (by omega) (by omega),Ko (by omega) (by omega)];omega));N9 10 A rfl rfl fun A=>have A:=Ai A 136 (.int .u8 10) rfl (Bx (show IntKind.wrap .u8 10=10 by decide));N9 3 A rfl rfl fun A=>Aq 137 A rfl
          (fun GL A=>N9 3 A rfl rfl fun A=>A9 A rfl (Lb rfl rfl rfl rfl (by kernel_rfl)) fun A=>N9 5 A rfl rfl fun A=>R9 A rfl h0 rfl (by rw [DI (FK (DB h4) (by have:=GL;omega))];rfl) rfl)
          (fun GL A=>N9 11 A rfl rfl fun A=>Aq 141 A rfl
           (fun Fv A=>absurd Fv (by have hp:=Jh hI.al;have hle:=hI.le;have hj:=h4;omega))
           (fun Fv A=>N9 8 A rfl rfl fun A=>have A:=Ai A 146 (.int .u64 10) rfl (Bx (show IntKind.wrap .u64 10=10 by decide));N9 1 A rfl rfl fun A=>have A:=Ai A 147 (.int .u64 (((nv 10 (l.take j):Nat):Int)*10)) rfl (Bx (show IntKind.wrap .u64 (((nv 10 (l.take j):Nat):Int)*10)=((nv 10 (l.take j):Nat):Int)*10 by have hp:=Jh hI.al;have hle:=hI.le;have hj:=h4;exact wrap64 (by omega) (by omega)));N9 8 A rfl rfl fun A=>have A:=Ai A 150 (.int .u64 ((dv (l.getD (((j:Int)).toNat) 0):Nat):Int)) rfl (Bx (show IntKind.wrap .u64 ((dv (l.getD (((j:Int)).toNat) 0):Nat):Int)=((dv (l.getD (((j:Int)).toNat) 0):Nat):Int) by have:=GL;exact wrap64 (by omega) (by omega)));N9 1 A rfl rfl fun A=>have A:=Ai A 151 (.int .u64 ((nv 10 (l.take (j+1)):Nat):Int)) rfl (Bx (show IntKind.wrap .u64 ((((nv 10 (l.take j):Nat):Int)*10)+((dv (l.getD (((j:Int)).toNat) 0):Nat):Int))=((nv 10 (l.take (j+1)):Nat):Int) by have hp:=Jh hI.al;have hle:=hI.le;have hj:=h4;have hd:dv (l.getD (((j:Int)).toNat) 0)<10:=(by have:=GL;omega);rw [Ik (DB hj)];have e0:(((j:Int)).toNat)=((j:Int)).toNat:=rfl;rw [wrap64 (by omega) (by omega)];omega));N9 14 A rfl rfl fun A=>have A:=Ai A 159 (.ff) rfl (fun _=>congrArg (fun b=>some (Value.bool b)) (show((decide (((nv 10 (l.take (j+1)):Nat):Int)<(((nv 10 (l.take j):Nat):Int)*10)))||(decide (((nv 10 (l.take (j+1)):Nat):Int)>18446744073709551615)))=false by have hp:=Jh hI.al;have hle:=hI.le;have hj:=h4;have hd:dv (l.getD (((j:Int)).toNat) 0)<10:=(by have:=GL;omega);have hg:=Ik (bs:=10) (DB hj);rw [π1];intro hc;simp only [β9,δ5]at hc;omega));N9 15 A rfl (Aj (by have:=hI.le;omega)<|Ah) fun A=>⟨j+1,_,(by omega),⟨by have:=hI.le;omega,NS (DB h4) hI.al (by have:=GL;omega)⟩,((A.cut [1,6,7,8,9,10,11,12,13,99,100,101] rfl).trunc 1 rfl rfl rfl (Cj h0 rfl))⟩)))
         (fun h9 A=>N9 3 A rfl rfl fun A=>A9 A rfl (Lb rfl rfl rfl rfl (by kernel_rfl)) fun A=>N9 5 A rfl rfl fun A=>R9 A rfl h0 rfl (by rw [DI (FK (DB h4) (by have h:=h5;simp only [κ4,δ9]at h;have h0:=h8;have h1:=h9;rw [NQ (by omega) (by omega)];omega))];rfl) rfl))
        (fun h8 A=>N9 10 A rfl rfl fun A=>A9 A rfl (Lb rfl rfl rfl rfl (by kernel_rfl)) fun A=>N9 5 A rfl rfl fun A=>R9 A rfl h0 rfl (by rw [DI (FK (DB h4) (by have h:=h5;simp only [κ4,δ9]at h;have h0:=h8;rw [NQ (by omega) (by omega)];omega))];rfl) rfl)))
      (fun h4 A=>N9 25 A rfl rfl fun A=>R9 A rfl h0 rfl (by rw [Il (Rq h1 hI.al (by have:=h4;omega))];rfl) rfl))
    (fun h3 A=>absurd rfl h3)))
theorem Sz (l:List UInt8)(n:Nat)(hl:l.length≤19)(h:EK 10 l=some n):Fn Tryz.prog 238 [.str l,.int .i64 10,.int .i64 64] [] (Rt (.tup [.int .u64 (n:Int),.v .nilIface]) []):=by have:=Oq l hl;rw [Il h]at this;exact this
theorem S0 (l:List UInt8)(hl:l.length≤19)(h:EK 10 l=none):Fn Tryz.prog 238 [.str l,.int .i64 10,.int .i64 64] [] (Rt (.tup [.int .u64 0,.v (.iface 280 (.int .i64 2))]) []):=by have:=Oq l hl;rw [DI h]at this;exact this
theorem Ot (l:List UInt8) (hl:l.length≤16):Fn Tryz.prog 238 [.str l,.int .i64 16,.int .i64 64] [] (Rt (jZ 16 l) []):=
 Am (n :=172) (by kernel_rfl) Tryz.func238 rfl rfl rfl fun G w a h0 A=>N9 13 A rfl rfl fun A=>Au 19 A rfl
  (fun h1 A=>N9 3 A rfl rfl fun A=>A9 A rfl (Lb rfl rfl rfl rfl (by kernel_rfl)) fun A=>N9 5 A rfl rfl fun A=>R9 A rfl h0 rfl (by rw [DI (Rp h1)];rfl) rfl)
  (fun h1 A =>N9 7 A rfl rfl fun A=>have A:=Ai A 22 (.ff) rfl (fun _=>congrArg (fun b=>some (Value.bool b)) (show(16==0)=false by decide));N9 19 A rfl rfl fun A=>have A:=Ai A 31 (.tt) rfl (fun _=>congrArg (fun b=>some (Value.bool b)) (show((decide (2≤16))&&(decide (16≤36)))=true by decide));N9 14 A rfl rfl fun A=>Au 77 A rfl
   (fun h2 A=>absurd h2 (by decide))
   (fun h2 A=>N9 9 A rfl rfl fun A=>have A:=Ai A 83 (.ff) rfl (fun _=>congrArg (fun b=>some (Value.bool b)) (show((decide (64<0))||(decide (64>64)))=false by decide));N9 23 A rfl rfl fun A=>Au 90 A rfl
    (fun h3 A=>absurd h3 (by decide))
    (fun h3 A=>N9 7 A rfl rfl fun A=>Au 92 A rfl
     (fun h4 A=>N9 10 A rfl rfl fun A=>have A:=Ai A 95 (.int .u64 64) rfl (Bx (show IntKind.wrap .u64 64=64 by decide));N9 1 A rfl (Aj (by omega)<|Ah) fun A=>have A:=Ai A 96 (.int .u64 0) rfl (Bx (show IntKind.wrap .u64 (1*2^min (64:Int).toNat (IntKind.bits .u64))=0 by decide));N9 1 A rfl rfl fun A=>have A:=Ai A 97 (.int .u64 18446744073709551615) rfl (Bx (show IntKind.wrap .u64 (0 - 1)=18446744073709551615 by decide));N9 17 A rfl rfl fun A=>A9 A rfl (Ul (i:=0) (e:=5) rfl rfl rfl (by kernel_rfl) (by kernel_rfl) (by kernel_rfl) rfl) fun A=>N9 5 A rfl rfl fun A=>B7 (fun(j:Nat)=>[(1,.int .i64 16),(6,.int .u64 0),(7,.v .nilIface),(8,.ff),(9,.str l),(10,.int .u64 1152921504606846976),(11,.int .u64 18446744073709551615),(12,.ff),(13,.int .u64 ((nv 16 (l.take j):Nat):Int)),(99,.sl 0 l.length 0),(100,.int .i64 ((l.length:Nat):Int)),(101,.int .i64 (j:Int))]) (fun(j:Nat)=>[some (.lst 1 l.length (fun k=>[.int .u8 (((l.getD k 0).toNat:Nat):Int)]))]) (fun(j:Nat)=>NI 16 l j) (fun(j:Nat)=>l.length - j) 0 ⟨β8 _,rfl⟩ ((A.cut [1,6,7,8,9,10,11,12,13,99,100,101] rfl).trunc 1 rfl rfl rfl (Cj h0 rfl)) fun j hI {G a w} A=>N9 6 A rfl rfl fun A=>Aq 102 A rfl
       (fun h5 A=>N9 13 A rfl (Aj (by have:=hI.le;omega)<|Aj (by have:=hI.le;omega)<|Ah) fun A=>N9 13 A rfl rfl fun A=>have A:=Ai A 111 (.ff) rfl (fun _=>congrArg (fun b=>some (Value.bool b)) (show(bif (((l.getD (((j:Int)).toNat) 0).toNat:Nat):Int)==95 then false else false)=false by simp));N9 15 A rfl rfl fun A=>fork 112 A rfl
        (fun h6 A=>N9 4 A rfl rfl fun A=>have A:=Ai A 120 (.int .u8 ((dv (l.getD (((j:Int)).toNat) 0):Nat):Int)) rfl (Bx (show IntKind.wrap .u8 ((((l.getD (((j:Int)).toNat) 0).toNat:Nat):Int) - 48)=((dv (l.getD (((j:Int)).toNat) 0):Nat):Int) by have h:=h6;simp only [α3,δ5]at h;rw [Ve (by omega) (by omega),Ko (by omega) (by omega)];omega));N9 10 A rfl rfl fun A=>have A:=Ai A 136 (.int .u8 16) rfl (Bx (show IntKind.wrap .u8 16=16 by decide));N9 3 A rfl rfl fun A=>Aq 137 A rfl
         (fun h7 A=>N9 3 A rfl rfl fun A=>A9 A rfl (Lb rfl rfl rfl rfl (by kernel_rfl)) fun A=>N9 5 A rfl rfl fun A=>R9 A rfl h0 rfl (by rw [DI (FK (DB h5) (by have:=h7;omega))];rfl) rfl)
         (fun h7 A=>N9 11 A rfl rfl fun A=>Aq 141 A rfl
          (fun h8 A=>absurd h8 (by have hp:=Ji hI.al;have hle:=hI.le;have hj:=h5;omega))
          (fun h8 A=>N9 8 A rfl rfl fun A=>have A:=Ai A 146 (.int .u64 16) rfl (Bx (show IntKind.wrap .u64 16=16 by decide));N9 1 A rfl rfl fun A=>have A:=Ai A 147 (.int .u64 (((nv 16 (l.take j):Nat):Int)*16)) rfl (Bx (show IntKind.wrap .u64 (((nv 16 (l.take j):Nat):Int)*16)=((nv 16 (l.take j):Nat):Int)*16 by have hp:=Ji hI.al;have hle:=hI.le;have hj:=h5;exact wrap64 (by omega) (by omega)));N9 8 A rfl rfl fun A=>have A:=Ai A 150 (.int .u64 ((dv (l.getD (((j:Int)).toNat) 0):Nat):Int)) rfl (Bx (show IntKind.wrap .u64 ((dv (l.getD (((j:Int)).toNat) 0):Nat):Int)=((dv (l.getD (((j:Int)).toNat) 0):Nat):Int) by have:=h7;exact wrap64 (by omega) (by omega)));N9 1 A rfl rfl fun A=>have A:=Ai A 151 (.int .u64 ((nv 16 (l.take (j+1)):Nat):Int)) rfl (Bx (show IntKind.wrap .u64 ((((nv 16 (l.take j):Nat):Int)*16)+((dv (l.getD (((j:Int)).toNat) 0):Nat):Int))=((nv 16 (l.take (j+1)):Nat):Int) by have hp:=Ji hI.al;have hle:=hI.le;have hj:=h5;have hd:dv (l.getD (((j:Int)).toNat) 0)<16:=(by have:=h7;omega);rw [Ik (DB hj)];have e0:(((j:Int)).toNat)=((j:Int)).toNat:=rfl;rw [wrap64 (by omega) (by omega)];omega));N9 14 A rfl rfl fun A=>have A:=Ai A 159 (.ff) rfl (fun _=>congrArg (fun b=>some (Value.bool b)) (show((decide (((nv 16 (l.take (j+1)):Nat):Int)<(((nv 16 (l.take j):Nat):Int)*16)))||(decide (((nv 16 (l.take (j+1)):Nat):Int)>18446744073709551615)))=false by have hp:=Ji hI.al;have hle:=hI.le;have hj:=h5;have hd:dv (l.getD (((j:Int)).toNat) 0)<16:=(by have:=h7;omega);have hg:=Ik (bs:=16) (DB hj);rw [π1];intro hc;simp only [β9,δ5]at hc;omega));N9 15 A rfl (Aj (by have:=hI.le;omega)<|Ah) fun A=>⟨j+1,_,(by omega),⟨by have:=hI.le;omega,NS (DB h5) hI.al (by have:=h7;omega)⟩,((A.cut [1,6,7,8,9,10,11,12,13,99,100,101] rfl).trunc 1 rfl rfl rfl (Cj h0 rfl))⟩)))
        (fun h6 A=>N9 4 A rfl rfl fun A=>C9 [] (ME (l.getD (((j:Int)).toNat) 0)) A rfl fun A=>N9 2 A rfl rfl fun A=>Aq 125 A rfl
         (fun h9 A=>N9 1 A rfl rfl fun A=>C9 [] (ME (l.getD (((j:Int)).toNat) 0)) A rfl fun A=>N9 5 A rfl rfl fun A=>Aq 121 A rfl
          (fun GL A=>N9 3 A rfl rfl fun A=>C9 [] (ME (l.getD (((j:Int)).toNat) 0)) A rfl fun A=>N9 2 A rfl rfl fun A=>have A:=Ai A 133 (.int .u8 ((dv (l.getD (((j:Int)).toNat) 0):Nat):Int)) rfl (Bx (show IntKind.wrap .u8 ((IntKind.wrap .u8 (((Gy (l.getD (((j:Int)).toNat) 0):Nat):Int) - 97))+10)=((dv (l.getD (((j:Int)).toNat) 0):Nat):Int) by have h:=h6;simp only [κ4,δ9]at h;have h2:=h9;have h3:=GL;rw [Vf (by omega) (by omega) (by omega),Ko (n:=((Gy (l.getD (((j:Int)).toNat) 0):Nat):Int) - 97) (by omega) (by omega),Ko (by omega) (by omega)];omega));N9 10 A rfl rfl fun A=>have A:=Ai A 136 (.int .u8 16) rfl (Bx (show IntKind.wrap .u8 16=16 by decide));N9 3 A rfl rfl fun A=>Aq 137 A rfl
           (fun Fv A=>N9 3 A rfl rfl fun A=>A9 A rfl (Lb rfl rfl rfl rfl (by kernel_rfl)) fun A=>N9 5 A rfl rfl fun A=>R9 A rfl h0 rfl (by rw [DI (FK (DB h5) (by have:=Fv;omega))];rfl) rfl)
           (fun Fv A=>N9 11 A rfl rfl fun A=>Aq 141 A rfl
            (fun No A=>absurd No (by have hp:=Ji hI.al;have hle:=hI.le;have hj:=h5;omega))
            (fun No A=>N9 8 A rfl rfl fun A=>have A:=Ai A 146 (.int .u64 16) rfl (Bx (show IntKind.wrap .u64 16=16 by decide));N9 1 A rfl rfl fun A=>have A:=Ai A 147 (.int .u64 (((nv 16 (l.take j):Nat):Int)*16)) rfl (Bx (show IntKind.wrap .u64 (((nv 16 (l.take j):Nat):Int)*16)=((nv 16 (l.take j):Nat):Int)*16 by have hp:=Ji hI.al;have hle:=hI.le;have hj:=h5;exact wrap64 (by omega) (by omega)));N9 8 A rfl rfl fun A=>have A:=Ai A 150 (.int .u64 ((dv (l.getD (((j:Int)).toNat) 0):Nat):Int)) rfl (Bx (show IntKind.wrap .u64 ((dv (l.getD (((j:Int)).toNat) 0):Nat):Int)=((dv (l.getD (((j:Int)).toNat) 0):Nat):Int) by have:=Fv;exact wrap64 (by omega) (by omega)));N9 1 A rfl rfl fun A=>have A:=Ai A 151 (.int .u64 ((nv 16 (l.take (j+1)):Nat):Int)) rfl (Bx (show IntKind.wrap .u64 ((((nv 16 (l.take j):Nat):Int)*16)+((dv (l.getD (((j:Int)).toNat) 0):Nat):Int))=((nv 16 (l.take (j+1)):Nat):Int) by have hp:=Ji hI.al;have hle:=hI.le;have hj:=h5;have hd:dv (l.getD (((j:Int)).toNat) 0)<16:=(by have:=Fv;omega);rw [Ik (DB hj)];have e0:(((j:Int)).toNat)=((j:Int)).toNat:=rfl;rw [wrap64 (by omega) (by omega)];omega));N9 14 A rfl rfl fun A=>have A:=Ai A 159 (.ff) rfl (fun _=>congrArg (fun b=>some (Value.bool b)) (show((decide (((nv 16 (l.take (j+1)):Nat):Int)<(((nv 16 (l.take j):Nat):Int)*16)))||(decide (((nv 16 (l.take (j+1)):Nat):Int)>18446744073709551615)))=false by have hp:=Ji hI.al;have hle:=hI.le;have hj:=h5;have hd:dv (l.getD (((j:Int)).toNat) 0)<16:=(by have:=Fv;omega);have hg:=Ik (bs:=16) (DB hj);rw [π1];intro hc;simp only [β9,δ5]at hc;omega));N9 15 A rfl (Aj (by have:=hI.le;omega)<|Ah) fun A=>⟨j+1,_,(by omega),⟨by have:=hI.le;omega,NS (DB h5) hI.al (by have:=Fv;omega)⟩,((A.cut [1,6,7,8,9,10,11,12,13,99,100,101] rfl).trunc 1 rfl rfl rfl (Cj h0 rfl))⟩)))
          (fun GL A=>N9 3 A rfl rfl fun A=>A9 A rfl (Lb rfl rfl rfl rfl (by kernel_rfl)) fun A=>N9 5 A rfl rfl fun A=>R9 A rfl h0 rfl (by rw [DI (FK (DB h5) (by have h:=h6;simp only [κ4,δ9]at h;have h0:=h9;have h1:=GL;rw [NQ (by omega) (by omega)];omega))];rfl) rfl))
         (fun h9 A=>N9 10 A rfl rfl fun A=>A9 A rfl (Lb rfl rfl rfl rfl (by kernel_rfl)) fun A=>N9 5 A rfl rfl fun A=>R9 A rfl h0 rfl (by rw [DI (FK (DB h5) (by have h:=h6;simp only [κ4,δ9]at h;have h0:=h9;rw [NQ (by omega) (by omega)];omega))];rfl) rfl)))
       (fun h5 A=>N9 25 A rfl rfl fun A=>R9 A rfl h0 rfl (by rw [Il (Rq h1 hI.al (by have:=h5;omega))];rfl) rfl))
     (fun h4 A=>absurd rfl h4))))
theorem S3 (l:List UInt8)(n:Nat)(hl:l.length≤16)(h:EK 16 l=some n):Fn Tryz.prog 238 [.str l,.int .i64 16,.int .i64 64] [] (Rt (.tup [.int .u64 (n:Int),.v .nilIface]) []):=by have:=Ot l hl;rw [Il h]at this;exact this
theorem S4 (l:List UInt8)(hl:l.length≤16)(h:EK 16 l=none):Fn Tryz.prog 238 [.str l,.int .i64 16,.int .i64 64] [] (Rt (.tup [.int .u64 0,.v (.iface 280 (.int .i64 2))]) []):=by have:=Ot l hl;rw [DI h]at this;exact this
end Go.Proofs.YtbbdanhpphlbpaaGreatDoor
namespace Go.Proofs.YtbbdanhpphlbpaaGreatDoor
open Go.Shelf Go.RowKit
def P1:Go.Shelf.Ren:=⟨fun|14=>205|16=>238|17=>239|19=>266|20=>267|21=>268|22=>269|23=>270|24=>271|25=>287|27=>125|26=>288|28=>167|29=>208|30=>210|31=>211|32=>212|33=>213|35=>241|34=>240|36=>242|37=>243|38=>179|39=>214|40=>215|n=>n,fun|9=>9|3=>3|22=>185|24=>215|25=>216|4=>4|34=>280|5=>5|36=>188|37=>152|0=>0|39=>282|21=>21|44=>298|47=>277|50=>308|48=>306|2=>2|52=>220|55=>223|59=>260|60=>226|20=>20|61=>261|65=>262|66=>263|67=>50|n=>n,fun|0=>4|1=>5|2=>1|3=>2|4=>3|n=>n⟩
theorem eQ:Go.Proofs.LaysPu.n14 Tryz.prog P1:={
 mixed:=by kernel_rfl
 f14:=Tryz.func205.trans (congrArg some (by kernel_rfl))
 f16:=Tryz.func238.trans (congrArg some (by kernel_rfl))
 f17:=Tryz.func239.trans (congrArg some (by kernel_rfl))
 f19:=Tryz.func266.trans (congrArg some (by kernel_rfl))
 f20:=Tryz.func267.trans (congrArg some (by kernel_rfl))
 f21:=Tryz.func268.trans (congrArg some (by kernel_rfl))
 f22:=Tryz.func269.trans (congrArg some (by kernel_rfl))
 f23:=Tryz.func270.trans (congrArg some (by kernel_rfl))
 f24:=Tryz.func271.trans (congrArg some (by kernel_rfl))
 f25:=Tryz.func287.trans (congrArg some (by kernel_rfl))
 f26:=Tryz.func288.trans (congrArg some (by kernel_rfl))
 f27:=Tryz.func125.trans (congrArg some (by kernel_rfl))
 f28:=Tryz.func167.trans (congrArg some (by kernel_rfl))
 f29:=Tryz.func208.trans (congrArg some (by kernel_rfl))
 f30:=Tryz.func210.trans (congrArg some (by kernel_rfl))
 f31:=Tryz.func211.trans (congrArg some (by kernel_rfl))
 f32:=Tryz.func212.trans (congrArg some (by kernel_rfl))
 f33:=Tryz.func213.trans (congrArg some (by kernel_rfl))
 f34:=Tryz.func240.trans (congrArg some (by kernel_rfl))
 f35:=Tryz.func241.trans (congrArg some (by kernel_rfl))
 f36:=Tryz.func242.trans (congrArg some (by kernel_rfl))
 f37:=Tryz.func243.trans (congrArg some (by kernel_rfl))
 f38:=Tryz.func179.trans (congrArg some (by kernel_rfl))
 f39:=Tryz.func214.trans (congrArg some (by kernel_rfl))
 f40:=Tryz.func215.trans (congrArg some (by kernel_rfl))
 t0:=Tryz.underlying0
 a0:=Tryz.isAgg0
 z0:=Tryz.sizeOf0
 v0:=Tryz.zeroValue0
 i0:=by kernel_rfl
 t2:=Tryz.underlying2
 a2:=Tryz.isAgg2
 z2:=Tryz.sizeOf2
 v2:=Tryz.zeroValue2
 i2:=by kernel_rfl
 t3:=Tryz.underlying3
 a3:=Tryz.isAgg3
 z3:=Tryz.sizeOf3
 v3:=Tryz.zeroValue3
 i3:=by kernel_rfl
 t4:=Tryz.underlying4
 a4:=Tryz.isAgg4
 z4:=Tryz.sizeOf4
 v4:=Tryz.zeroValue4
 i4:=by kernel_rfl
 t5:=Tryz.underlying5
 a5:=Tryz.isAgg5
 z5:=Tryz.sizeOf5
 v5:=Tryz.zeroValue5
 i5:=by kernel_rfl
 t9:=Tryz.underlying9
 a9:=Tryz.isAgg9
 z9:=Tryz.sizeOf9
 v9:=Tryz.zeroValue9
 i9:=by kernel_rfl
 t20:=Tryz.underlying20
 a20:=Tryz.isAgg20
 z20:=Tryz.sizeOf20
 v20:=Tryz.zeroValue20
 i20:=by kernel_rfl
 t21:=Tryz.underlying21
 a21:=Tryz.isAgg21
 z21:=Tryz.sizeOf21
 v21:=Tryz.zeroValue21
 i21:=by kernel_rfl
 t22:=Tryz.underlying185
 a22:=Tryz.isAgg185
 z22:=Tryz.sizeOf185
 v22:=Tryz.zeroValue185
 i22:=by kernel_rfl
 t24:=Tryz.underlying215
 a24:=Tryz.isAgg215
 z24:=Tryz.sizeOf215
 v24:=Tryz.zeroValue215
 i24:=by kernel_rfl
 t25:=Tryz.underlying216
 a25:=Tryz.isAgg216
 z25:=Tryz.sizeOf216
 v25:=Tryz.zeroValue216
 i25:=by kernel_rfl
 t34:=Tryz.underlying280
 a34:=Tryz.isAgg280
 z34:=Tryz.sizeOf280
 v34:=Tryz.zeroValue280
 i34:=by kernel_rfl
 c34:=by kernel_rfl
 t36:=Tryz.underlying188
 a36:=Tryz.isAgg188
 z36:=Tryz.sizeOf188
 v36:=Tryz.zeroValue188
 i36:=by kernel_rfl
 t37:=Tryz.underlying152
 a37:=Tryz.isAgg152
 z37:=Tryz.sizeOf152
 v37:=Tryz.zeroValue152
 i37:=by kernel_rfl
 t39:=Tryz.underlying282
 a39:=Tryz.isAgg282
 z39:=Tryz.sizeOf282
 v39:=Tryz.zeroValue282
 i39:=by kernel_rfl
 t44:=Tryz.underlying298
 a44:=Tryz.isAgg298
 z44:=Tryz.sizeOf298
 v44:=Tryz.zeroValue298
 i44:=by kernel_rfl
 t47:=Tryz.underlying277
 a47:=Tryz.isAgg277
 z47:=Tryz.sizeOf277
 v47:=Tryz.zeroValue277
 i47:=by kernel_rfl
 t48:=Tryz.underlying306
 a48:=Tryz.isAgg306
 z48:=Tryz.sizeOf306
 v48:=Tryz.zeroValue306
 i48:=by kernel_rfl
 t50:=Tryz.underlying308
 a50:=Tryz.isAgg308
 z50:=Tryz.sizeOf308
 v50:=Tryz.zeroValue308
 i50:=by kernel_rfl
 t52:=Tryz.underlying220
 a52:=Tryz.isAgg220
 z52:=Tryz.sizeOf220
 v52:=Tryz.zeroValue220
 i52:=by kernel_rfl
 t55:=Tryz.underlying223
 a55:=Tryz.isAgg223
 z55:=Tryz.sizeOf223
 v55:=Tryz.zeroValue223
 i55:=by kernel_rfl
 t59:=Tryz.underlying260
 a59:=Tryz.isAgg260
 z59:=Tryz.sizeOf260
 v59:=Tryz.zeroValue260
 i59:=by kernel_rfl
 t60:=Tryz.underlying226
 a60:=Tryz.isAgg226
 z60:=Tryz.sizeOf226
 v60:=Tryz.zeroValue226
 i60:=by kernel_rfl
 t61:=Tryz.underlying261
 a61:=Tryz.isAgg261
 z61:=Tryz.sizeOf261
 t65:=Tryz.underlying262
 a65:=Tryz.isAgg262
 z65:=Tryz.sizeOf262
 v65:=Tryz.zeroValue262
 i65:=by kernel_rfl
 t66:=Tryz.underlying263
 a66:=Tryz.isAgg263
 z66:=Tryz.sizeOf263
 v66:=Tryz.zeroValue263
 i66:=by kernel_rfl
 t67:=Tryz.underlying50
 a67:=Tryz.isAgg50
 z67:=Tryz.sizeOf50
 v67:=Tryz.zeroValue50
 i67:=by kernel_rfl
 g0:=by kernel_rfl
 m0:=by kernel_rfl
 g1:=by kernel_rfl
 m1:=by kernel_rfl
 g2:=by kernel_rfl
 m2:=by kernel_rfl
 g3:=by kernel_rfl
 m3:=by kernel_rfl
 g4:=by kernel_rfl
 m4:=by kernel_rfl}
theorem Ou (fn l:List UInt8)(base bits:Int)(ev:Value)(w:World)(hl:l.length≤19)(hv:w.cell? ⟨4,0,none⟩=some ev)(Ac:ev=.nilIface∨∃te pe,ev=.iface te pe):
  Calls Tryz.prog 239 #[.string (S fn),.string (S l),.int .i64 base,.int .i64 bits,.iface 280 (.int .i64 2)] w fun e w'=>(∃N,e=.returned (.iface 282 (.pointer (some ⟨N,0,none⟩))))∧CI w w':=by
 refine(AnyPu.strconv_toError_syntax {eQ with} (S fn) (S l) base bits ev w (by rw [DV];omega) hv Ac).mono ?_
 rintro e w' ⟨N,he,_,_,hb⟩
 exact⟨⟨N,he⟩,hb⟩
end Go.Proofs.YtbbdanhpphlbpaaGreatDoor
namespace Go.Proofs.YtbbdanhpphlbpaaGreatDoor
open Go.RowKit
set_option simprocs false
abbrev _root_.Go.Proofs.YtbbdanhpphlbpaaGreatDoor.MF (os:List (Nat×Obj)):Prop:=∀w ks,Gl os w ks→∃ev,w.cell? ⟨4,0,none⟩=some ev∧(ev=.nilIface∨∃te pe,ev=.iface te pe)
theorem Vh (fn l:List UInt8)(base bits:Int)(os:List (Nat×Obj))(hE:MF os)(hl:l.length≤19):jS (Gl os) Tryz.prog 239 [.str fn,.str l,.int .i64 base,.int .i64 bits,.v (.iface 280 (.int .i64 2))] (fun x=>∃pN,x=.v (.iface 282 (.pointer (some ⟨pN,0,none⟩)))):=by
 refine⟨by kernel_rfl,fun w ks vs hv hI=>?_⟩
 cases hv
 obtain⟨ev,h1,h2⟩:=hE w ks hI
 refine(Ou fn l base bits ev w hl h1 h2).mono ?_
 rintro e w' ⟨⟨pN,rfl⟩,hg⟩
 exact⟨_,_,⟨pN,rfl⟩,rfl,rfl,hg⟩
theorem eR (l:List UInt8)(n:Nat)(hl:l.length≤19)(hv:EK 10 l=some n):Fn Tryz.prog 205 [.str l,.int .i64 10,.int .i64 64] [] (Rt (.tup [.int .u64 (n:Int),.v .nilIface]) []):=
 Am (n:=26) (by kernel_rfl) Tryz.func205 rfl rfl rfl fun G w a h0 A=>N9 11 A rfl rfl fun A=>C9 [] (Sz l n hl hv) A rfl fun A=>N9 11 A rfl rfl fun A=>A9 A rfl (M4 rfl rfl rfl rfl (by kernel_rfl)) fun A=>N9 13 A rfl rfl fun A=>R9 A rfl h0 rfl rfl rfl
theorem eS (l:List UInt8)(os:List (Nat×Obj))(hE:MF os)(hl:l.length≤19)(hv:EK 10 l=none):jS (Gl os) Tryz.prog 205 [.str l,.int .i64 10,.int .i64 64] (fun x=>∃pN,x=.tup [.int .u64 0,.v (.iface 282 (.pointer (some ⟨pN,0,none⟩)))]):=
 Um Gl.ok (n:=26) (by kernel_rfl) Tryz.func205 rfl rfl rfl fun w a hI A=>N9 11 A rfl rfl fun A=>C9 [] (S0 l hl hv) A rfl fun A=>N9 11 A rfl rfl fun A=>A9 A rfl (RL rfl rfl rfl rfl (by kernel_rfl)) fun A=>N9 10 A rfl rfl fun A=>RM (fun pN=>.v (.iface 282 (.pointer (some ⟨pN,0,none⟩)))) Gl.ok hI (Vh [80,97,114,115,101,85,105,110,116] l 10 64 os hE (by omega)) A rfl rfl fun pN=>fun A=>N9 5 A rfl rfl fun A=>lN (J:=fun x=>∃pN,x=.tup [.int .u64 0,.v (.iface 282 (.pointer (some ⟨pN,0,none⟩)))]) hX A rfl rfl rfl rfl ⟨pN,rfl⟩
theorem eT (l:List UInt8)(n:Nat)(hl:l.length≤16)(hv:EK 16 l=some n):Fn Tryz.prog 205 [.str l,.int .i64 16,.int .i64 64] [] (Rt (.tup [.int .u64 (n:Int),.v .nilIface]) []):=
 Am (n:=26) (by kernel_rfl) Tryz.func205 rfl rfl rfl fun G w a h0 A=>N9 11 A rfl rfl fun A=>C9 [] (S3 l n hl hv) A rfl fun A=>N9 11 A rfl rfl fun A=>A9 A rfl (M4 rfl rfl rfl rfl (by kernel_rfl)) fun A=>N9 13 A rfl rfl fun A=>R9 A rfl h0 rfl rfl rfl
theorem eU (l:List UInt8)(os:List (Nat×Obj))(hE:MF os)(hl:l.length≤16)(hv:EK 16 l=none):jS (Gl os) Tryz.prog 205 [.str l,.int .i64 16,.int .i64 64] (fun x=>∃pN,x=.tup [.int .u64 0,.v (.iface 282 (.pointer (some ⟨pN,0,none⟩)))]):=
 Um Gl.ok (n:=26) (by kernel_rfl) Tryz.func205 rfl rfl rfl fun w a hI A=>N9 11 A rfl rfl fun A=>C9 [] (S4 l hl hv) A rfl fun A=>N9 11 A rfl rfl fun A=>A9 A rfl (RL rfl rfl rfl rfl (by kernel_rfl)) fun A=>N9 10 A rfl rfl fun A=>RM (fun pN=>.v (.iface 282 (.pointer (some ⟨pN,0,none⟩)))) Gl.ok hI (Vh [80,97,114,115,101,85,105,110,116] l 16 64 os hE (by omega)) A rfl rfl fun pN=>fun A=>N9 5 A rfl rfl fun A=>lN (J:=fun x=>∃pN,x=.tup [.int .u64 0,.v (.iface 282 (.pointer (some ⟨pN,0,none⟩)))]) hX A rfl rfl rfl rfl ⟨pN,rfl⟩
end Go.Proofs.YtbbdanhpphlbpaaGreatDoor
namespace Go.Proofs.YtbbdanhpphlbpaaGreatDoor
structure Tk where
 kind:Int
 text:List UInt8
 n:Int
 at_:Int
def BH:Tk:=⟨0,[],0,0⟩
def fits (o:Option Nat):Option Int:=match o with|some n=>if n>9223372036854775808 then none else some (IntKind.wrap .i64 (n:Int))|none=>none
def EL (l:List UInt8):Option Int:=
 if preB l [48,120]then(if(Ij l [48,120]).length>16 then none else fits (EK 16 (Ij l [48,120])))else(if l.length>19 then none else fits (EK 10 l))
section
variable {l:List UInt8}{n:Nat}
theorem S5 (h:preB l [48,120]=true)(hl:(Ij l [48,120]).length>16):EL l=none:=by unfold EL;rw [if_pos h,if_pos hl]
theorem S6 (h:preB l [48,120]=false)(hl:l.length>19):EL l=none:=by unfold EL;rw [if_neg (by simp [h]),if_pos hl]
theorem S7 (h:preB l [48,120]=true)(hv:EK 16 (Ij l [48,120])=none):EL l=none:=by unfold EL;rw [if_pos h,hv];simp [fits]
theorem S8 (h:preB l [48,120]=false)(hv:EK 10 l=none):EL l=none:=by unfold EL;rw [if_neg (by simp [h]),hv];simp [fits]
theorem Vi (h:preB l [48,120]=true)(hv:EK 16 (Ij l [48,120])=some n)(hn:n>9223372036854775808):EL l=none:=by unfold EL;rw [if_pos h,hv];simp [fits,hn]
theorem Vj (h:preB l [48,120]=false)(hv:EK 10 l=some n)(hn:n>9223372036854775808):EL l=none:=by unfold EL;rw [if_neg (by simp [h]),hv];simp [fits,hn]
theorem YR (h:preB l [48,120]=true)(hl:(Ij l [48,120]).length≤16)(hv:EK 16 (Ij l [48,120])=some n)(hn:n≤9223372036854775808):EL l=some (IntKind.wrap .i64 (n:Int)):=by
 unfold EL;rw [if_pos h,if_neg (by omega),hv];simp only [fits];rw [if_neg (by omega)]
theorem YS (h:preB l [48,120]=false)(hl:l.length≤19)(hv:EK 10 l=some n)(hn:n≤9223372036854775808):EL l=some (IntKind.wrap .i64 (n:Int)):=by
 unfold EL;rw [if_neg (by simp [h]),if_neg (by omega),hv];simp only [fits];rw [if_neg (by omega)]
end
end Go.Proofs.YtbbdanhpphlbpaaGreatDoor
namespace Go.Proofs.YtbbdanhpphlbpaaGreatDoor
open Go.RowKit
set_option simprocs false
def nk (l:List UInt8):Int:=match EL l with|some _=>2|none=>0
def nt (l:List UInt8):List UInt8:=match EL l with|some _=>l|none=>[]
def nn (l:List UInt8):Int:=match EL l with|some n=>n|none=>0
def n5 (l:List UInt8):Int:=match EL l with|some _=>0|none=>23
theorem H4 {l:List UInt8}(h:EL l=none):nk l=0∧nt l=[]∧nn l=0∧n5 l=23:=by unfold nk nt nn n5;rw [h];exact⟨rfl,rfl,rfl,rfl⟩
theorem P2 {l:List UInt8}{n:Int}(h:EL l=some n):nk l=2∧nt l=l∧nn l=n∧n5 l=0:=by unfold nk nt nn n5;rw [h];exact⟨rfl,rfl,rfl,rfl⟩
theorem YT (l:List UInt8)(os:List (Nat×Obj))(hE:MF os)(hlen:l.length≤8192):CE (Gl os) Tryz.prog 154 [.str l] [] (Rt (.tup [.agg [.int .i64 (nk l),.str (nt l),.int .i64 (nn l),.z9],.int .i64 (n5 l)]) []):=
 BB (n:=41) (by kernel_rfl) Tryz.func154 rfl rfl rfl fun G w a h0 hI A=>N9 18 A rfl rfl fun A=>C9 [] (nZ l [48,120]) A rfl fun A=>N9 12 A rfl rfl fun A=>fork 17 A rfl
  (fun h1 A=>N9 17 A rfl rfl fun A=>Aq 22 A rfl
   (fun h2 A=>N9 9 A rfl rfl fun A=>R9 A rfl h0 rfl (by obtain⟨e1,e2,e3,e4⟩:=H4 (S5 h1 (by have:=h2;omega));rw [e1,e2,e3,e4];rfl) rfl)
   (fun h2 A=>N9 7 A rfl rfl fun A=>lL (EK 16 (Ij l [48,120]))
    (fun hv=>RM (fun pN=>.tup [.int .u64 0,.v (.iface 282 (.pointer (some ⟨pN,0,none⟩)))]) Gl.ok hI (eU (Ij l [48,120]) os hE (by have:=h2;omega) hv) A rfl rfl fun pN=>fun A=>N9 11 A rfl rfl fun A=>A9 A rfl (RL rfl rfl rfl rfl (by kernel_rfl)) fun A=>N9 15 A rfl rfl fun A=>R9 A rfl h0 rfl (by obtain⟨e1,e2,e3,e4⟩:=H4 (S7 h1 hv);rw [e1,e2,e3,e4];rfl) rfl)
    (fun n hv=>C9 [] (eT (Ij l [48,120]) n (by have:=h2;omega) hv) A rfl fun A=>N9 11 A rfl rfl fun A=>A9 A rfl (M4 rfl rfl rfl rfl (by kernel_rfl)) fun A=>N9 6 A rfl rfl fun A=>Aq 35 A rfl
     (fun h3 A=>N9 9 A rfl rfl fun A=>R9 A rfl h0 rfl (by obtain⟨e1,e2,e3,e4⟩:=H4 (Vi h1 hv (by have:=h3;omega));rw [e1,e2,e3,e4];rfl) rfl)
     (fun h3 A=>N9 14 A rfl rfl fun A=>R9 A rfl h0 rfl (by obtain⟨e1,e2,e3,e4⟩:=P2 (YR h1 (by have:=h2;omega) hv (by have:=h3;omega));rw [e1,e2,e3,e4];rfl) rfl))))
  (fun h1 A=>N9 12 A rfl rfl fun A=>Aq 22 A rfl
   (fun h4 A=>N9 9 A rfl rfl fun A=>R9 A rfl h0 rfl (by obtain⟨e1,e2,e3,e4⟩:=H4 (S6 h1 (by have:=h4;omega));rw [e1,e2,e3,e4];rfl) rfl)
   (fun h4 A=>N9 7 A rfl rfl fun A=>lL (EK 10 l)
    (fun hv=>RM (fun pN=>.tup [.int .u64 0,.v (.iface 282 (.pointer (some ⟨pN,0,none⟩)))]) Gl.ok hI (eS l os hE (by have:=h4;omega) hv) A rfl rfl fun pN=>fun A=>N9 11 A rfl rfl fun A=>A9 A rfl (RL rfl rfl rfl rfl (by kernel_rfl)) fun A=>N9 15 A rfl rfl fun A=>R9 A rfl h0 rfl (by obtain⟨e1,e2,e3,e4⟩:=H4 (S8 h1 hv);rw [e1,e2,e3,e4];rfl) rfl)
    (fun n hv=>C9 [] (eR l n (by have:=h4;omega) hv) A rfl fun A=>N9 11 A rfl rfl fun A=>A9 A rfl (M4 rfl rfl rfl rfl (by kernel_rfl)) fun A=>N9 6 A rfl rfl fun A=>Aq 35 A rfl
     (fun h5 A=>N9 9 A rfl rfl fun A=>R9 A rfl h0 rfl (by obtain⟨e1,e2,e3,e4⟩:=H4 (Vj h1 hv (by have:=h5;omega));rw [e1,e2,e3,e4];rfl) rfl)
     (fun h5 A=>N9 14 A rfl rfl fun A=>R9 A rfl h0 rfl (by obtain⟨e1,e2,e3,e4⟩:=P2 (YS h1 (by have:=h4;omega) hv (by have:=h5;omega));rw [e1,e2,e3,e4];rfl) rfl))))
end Go.Proofs.YtbbdanhpphlbpaaGreatDoor
namespace Go.Proofs.YtbbdanhpphlbpaaGreatDoor
theorem H5 {l:List UInt8}(h:0<l.length):Ei l≤l.length:=by
 unfold Ei
 split
 ·next h1=>
  rw [β9]at h1
  rcases h1 with h1|h1
  ·exact Eo h1
  ·exact Eo h1
 ·split<;>split<;>omega
def BC (l:List UInt8):Tk×Int:=
 match l[0]? with
 |none=>(BH,20)
 |some b=>
  if Hv b then(match EL (l.take (rn Ek l))with|some n=>(⟨2,l.take (rn Ek l),n,0⟩,0)|none=>(BH,23))
  else if Ju b then(⟨1,l.take (rn GQ l),0,0⟩,0)
  else if Ei l>0 then(⟨3,l.take (Ei l),0,0⟩,0)else(BH,20)
section
variable {l:List UInt8}{b:UInt8}
theorem MG {n:Int}(hb:l[0]?=some b)(h:Hv b=true)(hn:EL (l.take (rn Ek l))=some n):BC l=(⟨2,l.take (rn Ek l),n,0⟩,0):=by unfold BC;simp [hb,h,hn]
theorem MH (hb:l[0]?=some b)(h:Hv b=true)(hn:EL (l.take (rn Ek l))=none):BC l=(BH,23):=by unfold BC;simp [hb,h,hn]
theorem K5 (hb:l[0]?=some b)(h:Hv b=false)(h2:Ju b=true):BC l=(⟨1,l.take (rn GQ l),0,0⟩,0):=by unfold BC;simp [hb,h,h2]
theorem K6 (hb:l[0]?=some b)(h:Hv b=false)(h2:Ju b=false)(h3:Ei l>0):BC l=(⟨3,l.take (Ei l),0,0⟩,0):=by unfold BC;simp [hb,h,h2,h3]
theorem K7 (hb:l[0]?=some b)(h:Hv b=false)(h2:Ju b=false)(h3:¬Ei l>0):BC l=(BH,20):=by unfold BC;simp [hb,h,h2,h3]
end
end Go.Proofs.YtbbdanhpphlbpaaGreatDoor
namespace Go.Proofs.YtbbdanhpphlbpaaGreatDoor
open Go.RowKit
set_option simprocs false
theorem eV (l:List UInt8)(os:List (Nat×Obj))(hE:MF os)(hl:0<l.length)(hlen:l.length≤8192):CE (Gl os) Tryz.prog 119 [.str l] [] (Rt (.tup [.agg [.int .i64 ((BC l).1.kind),.str ((BC l).1.text),.int .i64 ((BC l).1.n),.int .i64 ((BC l).1.at_)],.int .i64 ((BC l).2)]) []):=
 BB (n:=35) (by kernel_rfl) Tryz.func119 rfl rfl rfl fun G w a h0 hI A=>N9 16 A rfl (Aj (by have h1:=FD Ek l;have h2:=FD GQ l;have h3:=H5 hl;(try simp only [δ8]);omega)<|Ah) fun A=>N9 2 A rfl rfl fun A=>C9 [] (Sf (l.getD (0:Int).toNat 0)) A rfl fun A=>N9 3 A rfl rfl fun A=>fork 8 A rfl
  (fun h1 A=>N9 5 A rfl rfl fun A=>C9 [] (lD 156 Ek l Km (by omega)) A rfl fun A=>N9 1 A rfl (Aj (by have h1:=FD Ek l;have h2:=FD GQ l;have h3:=H5 hl;(try simp only [δ8]);omega)<|Ah) fun A=>I9 [] Gl.ok hI (YT (l.take (((rn Ek l:Nat):Int)).toNat) os hE (by have h1:=FD Ek l;have h2:=FD GQ l;have h3:=H5 hl;(try simp only [δ8]);omega)) A rfl fun A=>N9 7 A rfl rfl fun A=>R9 A rfl h0 rfl (by cases hn:EL (l.take (rn Ek l))with|none=>(obtain⟨e1,e2,e3,e4⟩:=H4 hn;rw [MH (eM hl) h1 hn];simp only [β5,e1,e2,e3,e4];rfl)|some n=>(obtain⟨e1,e2,e3,e4⟩:=P2 hn;rw [MG (eM hl) h1 hn];simp only [β5,e1,e2,e3,e4];rfl)) rfl)
  (fun h1 A=>N9 4 A rfl rfl fun A=>C9 [] (LZ (l.getD (0:Int).toNat 0)) A rfl fun A=>N9 3 A rfl rfl fun A=>fork 18 A rfl
   (fun h2 A=>N9 5 A rfl rfl fun A=>C9 [] (lD 158 GQ l My (by omega)) A rfl fun A=>N9 7 A rfl (Aj (by have h1:=FD Ek l;have h2:=FD GQ l;have h3:=H5 hl;(try simp only [δ8]);omega)<|Ah) fun A=>R9 A rfl h0 rfl (by rw [K5 (eM hl) h1 h2];rfl) rfl)
   (fun h2 A=>N9 8 A rfl rfl fun A=>C9 [] (eN l (by have h1:=FD Ek l;have h2:=FD GQ l;have h3:=H5 hl;(try simp only [δ8]);omega)) A rfl fun A=>N9 9 A rfl rfl fun A=>Aq 29 A rfl
    (fun h3 A=>N9 12 A rfl (Aj (by have h1:=FD Ek l;have h2:=FD GQ l;have h3:=H5 hl;(try simp only [δ8]);omega)<|Ah) fun A=>R9 A rfl h0 rfl (by rw [K6 (eM hl) h1 h2 (by have:=h3;omega)];rfl) rfl)
    (fun h3 A=>N9 11 A rfl rfl fun A=>R9 A rfl h0 rfl (by rw [K7 (eM hl) h1 h2 (by have:=h3;omega)];rfl) rfl)))
end Go.Proofs.YtbbdanhpphlbpaaGreatDoor
namespace Go.Proofs.YtbbdanhpphlbpaaGreatDoor
theorem Rr (l:List UInt8):(BP l).1≤l.length:=by
 have go:∀n (l:List UInt8),l.length≤n→(BP l).1≤l.length:=by
  intro n
  induction n with
  |zero=>intro l hl;obtain rfl:l=[]:=δ3 (Nat.le_zero.1 hl);rw [K2];simp
  | succ n ih=>
   intro l hl
   match l,hl with
   | [],_=>rw [K2];simp
   | b ::r,hl=>
    have h0:(b::r)[0]?=some b:=rfl
    rcases μ8 (HS b)with h1|h1
    ·have e:=K3 h0 h1
     rw [ζ8]at e
     rw [e]
     have:=ih r (by simpa using hl)
     simp only [α5,ε0,List.drop_succ_cons,ζ8]
     omega
    ·rcases μ8 (preB (b::r) [40,42])with h2|h2
     ·by_cases h3:EJ ((b::r).drop 2)<0
      ·have e:=MD (n:=0) h0 h1 (by rw [ζ8];exact h2) (by rw [ε0];exact h3)
       rw [ζ8]at e;rw [e];simp
      ·have e:=Jg (n:=0) h0 h1 (by rw [ζ8];exact h2) (by rw [ε0];exact h3)
       rw [ζ8]at e;rw [e]
       simp only [ε0]
       have h4:=GF ((b::r).drop 2)
       have h5:=ih ((b::r).drop (2+(EJ ((b::r).drop 2)).toNat+2)) (by rw [γ5];omega)
       rw [γ5]at h4 h5
       omega
     ·have e:=MC (n:=0) h0 h1 (by rw [ζ8];exact h2)
      rw [ζ8]at e;rw [e];simp
 exact go l.length l (β7 _)
theorem Vk {p:UInt8→Bool}{l:List UInt8}{b:UInt8}(hb:l[0]?=some b)(h:p b=true):0<rn p l:=by
 have:=Za (p:=p) (n:=0) hb h
 rw [ζ8]at this;omega
theorem MI {l:List UInt8}(h:(BC l).2=0):0<(BC l).1.text.length∧(BC l).1.text.length≤l.length:=by
 cases hb:l[0]? with
 |none=>unfold BC at h;simp [hb]at h
 | some b=>
  have hl:0<l.length:=(α0.1 hb).1
  rcases μ8 (Hv b)with h1|h1
  ·cases hn:EL (l.take (rn Ek l))with
   |none=>rw [MH hb h1 hn]at h;simp at h
   |some n=>
    rw [MG hb h1 hn]
    have h2:=Vk (p:=Ek) hb (by unfold Ek;rw [h1,σ0])
    have h3:=FD Ek l
    simp only [δ8];omega
  ·rcases μ8 (Ju b)with h2|h2
   ·rw [K5 hb h1 h2]
    have h3:=Vk (p:=GQ) hb (by unfold GQ;rw [h2,Bool.true_or])
    have h4:=FD GQ l
    simp only [δ8];omega
   ·by_cases h3:Ei l>0
    ·rw [K6 hb h1 h2 h3]
     have h4:=H5 hl
     simp only [δ8];omega
    ·rw [K7 hb h1 h2 h3]at h;simp at h
def E5:Nat→List UInt8→Nat→List Tk→List Tk×Int×Nat
 |0,_,_,_=>([],0,0)
 | f+1,l,a,ws=>
  if(BP (l.drop a)).2 then([],24,a+(BP (l.drop a)).1)
  else if a+(BP (l.drop a)).1=l.length then(ws,0,0)
  else if(BC (l.drop (a+(BP (l.drop a)).1))).2=0 then
   E5 f l (a+(BP (l.drop a)).1+(BC (l.drop (a+(BP (l.drop a)).1))).1.text.length) (ws++[{(BC (l.drop (a+(BP (l.drop a)).1))).1 with at_:=((a+(BP (l.drop a)).1:Nat):Int)}])
  else([],(BC (l.drop (a+(BP (l.drop a)).1))).2,a+(BP (l.drop a)).1)
def B9 (l:List UInt8):List Tk×Int×Nat:=if l.length>8192 then([],2,0)else E5 (l.length+1) l 0 []
section
variable {f a:Nat}{l:List UInt8}{ws:List Tk}
theorem Vl (h:(BP (l.drop a)).2=true):E5 (f+1) l a ws=([],24,a+(BP (l.drop a)).1):=by rw [E5,if_pos h]
theorem Vm (h:(BP (l.drop a)).2=false)(h1:a+(BP (l.drop a)).1=l.length):E5 (f+1) l a ws=(ws,0,0):=by rw [E5,if_neg (by simp [h]),if_pos h1]
theorem Vn (h:(BP (l.drop a)).2=false)(h1:¬a+(BP (l.drop a)).1=l.length)(h2:¬(BC (l.drop (a+(BP (l.drop a)).1))).2=0):E5 (f+1) l a ws=([],(BC (l.drop (a+(BP (l.drop a)).1))).2,a+(BP (l.drop a)).1):=by
 rw [E5,if_neg (by simp [h]),if_neg h1,if_neg h2]
theorem Z8 (h:(BP (l.drop a)).2=false)(h1:¬a+(BP (l.drop a)).1=l.length)(h2:(BC (l.drop (a+(BP (l.drop a)).1))).2=0):E5 (f+1) l a ws=E5 f l (a+(BP (l.drop a)).1+(BC (l.drop (a+(BP (l.drop a)).1))).1.text.length) (ws++[{(BC (l.drop (a+(BP (l.drop a)).1))).1 with at_:=((a+(BP (l.drop a)).1:Nat):Int)}]):=by
 rw [E5,if_neg (by simp [h]),if_neg h1,if_pos h2]
theorem Jj (h:l.length>8192):B9 l=([],2,0):=by unfold B9;rw [if_pos h]
theorem GG (h:l.length≤8192):B9 l=E5 (l.length+1) l 0 []:=by unfold B9;rw [if_neg (by omega)]
end
end Go.Proofs.YtbbdanhpphlbpaaGreatDoor
namespace Go.Proofs.YtbbdanhpphlbpaaGreatDoor
open Go.RowKit
set_option simprocs false
def Ov (t:Tk):List SV:=[.int .i64 t.kind,.str t.text,.int .i64 t.n,.int .i64 t.at_]
abbrev Fj (ws:List Tk):Bo:=.lst 4 ws.length (fun zz=>Ov (ws.getD zz BH))
structure Ow (l:List UInt8)(a:Nat)(ws:List Tk):Prop where
 le:a≤l.length
 wl:ws.length≤a
 eq:∃f,l.length<f+a∧B9 l=E5 f l a ws
section
variable {l:List UInt8}{a:Nat}{ws:List Tk}
def Ed (l:List UInt8)(a:Nat):Nat:=a+(BP (l.drop a)).1
theorem Ow.i0 (h:l.length≤8192):Ow l 0 []:=⟨β8 _,β8 _,l.length+1,by omega,GG h⟩
theorem Ow.sk (hI:Ow l a ws):Ed l a≤l.length:=by
 have h:=Rr (l.drop a);rw [γ5]at h;have:=hI.le;unfold Ed;omega
theorem Ow.rem (hI:Ow l a ws)(h:P0 l a≠0):B9 l=([],24,Ed l a)∧P0 l a=24:=by
 have hs:(BP (l.drop a)).2=true:=by
  cases hc:(BP (l.drop a)).2 with
  |true=>rfl
  |false=>unfold P0 at h;rw [hc]at h;exact absurd rfl h
 obtain⟨f,hf,he⟩:=hI.eq
 cases f with
 |zero=>have:=hI.le;omega
 |succ f=>exact⟨by rw [he,Vl hs];rfl,by unfold P0;rw [hs];rfl⟩
theorem P3 (h:P0 l a=0):(BP (l.drop a)).2=false:=by
 cases hc:(BP (l.drop a)).2 with
 |false=>rfl
 |true=>unfold P0 at h;rw [hc]at h;exact absurd h (by decide)
theorem Ow.done (hI:Ow l a ws)(h:P0 l a=0)(h1:Ed l a=l.length):B9 l=(ws,0,0):=by
 obtain⟨f,hf,he⟩:=hI.eq
 cases f with
 |zero=>have:=hI.le;omega
 |succ f=>rw [he,Vm (P3 h) h1]
theorem Ow.bad (hI:Ow l a ws)(h:P0 l a=0)(h1:Ed l a≠l.length)(h2:(BC (l.drop (Ed l a))).2≠0):B9 l=([],(BC (l.drop (Ed l a))).2,Ed l a):=by
 obtain⟨f,hf,he⟩:=hI.eq
 cases f with
 |zero=>have:=hI.le;omega
 |succ f=>rw [he,Vn (P3 h) h1 h2];rfl
theorem Ow.len (hI:Ow l a ws)(h1:Ed l a≠l.length)(h2:(BC (l.drop (Ed l a))).2=0):0<(BC (l.drop (Ed l a))).1.text.length∧(BC (l.drop (Ed l a))).1.text.length+Ed l a≤l.length:=by
 have h:=MI h2
 rw [γ5]at h
 have:=hI.sk
 omega
theorem Ow.nx (hI:Ow l a ws)(h:P0 l a=0)(h1:Ed l a≠l.length)(h2:(BC (l.drop (Ed l a))).2=0):Ow l (Ed l a+(BC (l.drop (Ed l a))).1.text.length) (ws++[⟨(BC (l.drop (Ed l a))).1.kind,(BC (l.drop (Ed l a))).1.text,(BC (l.drop (Ed l a))).1.n,((Ed l a:Nat):Int)⟩]):=by
 obtain⟨f,hf,he⟩:=hI.eq
 have hn:=hI.len h1 h2
 have hw:=hI.wl
 have hs:a≤Ed l a:=by unfold Ed;omega
 cases f with
 |zero=>have:=hI.le;omega
 |succ f=>exact⟨by omega,by simp;omega,f,by omega,by rw [he,Z8 (P3 h) h1 h2];rfl⟩
theorem eW {x:Tk}{k:Nat}(hk:k<ws.length):(ws++[x]).getD k BH=ws.getD k BH:=by simp [List.getD,α1 hk]
theorem eX {x:Tk}:(ws++[x]).getD ws.length BH=x:=by simp [List.getD]
end
def eY (l:List UInt8):SV→Hp→Prop:=fun x H2=>((B9 l).2.1=0∧x=.tup [.sl 0 (B9 l).1.length 0,.z9,.z9]∧H2=[some (.row 134 4 (B9 l).1.length 0 fun zz=>Ov ((B9 l).1.getD zz BH))])∨((B9 l).2.1≠0∧x=.tup [.sla none 0 0,.int .i64 (B9 l).2.1,.int .i64 ((B9 l).2.2:Int)]∧H2=[])
theorem Rs (l:List UInt8)(os:List (Nat×Obj))(hM:LR os)(hE:MF os):CE (Gl os) Tryz.prog 81 [.str l] [] (eY l):=
 BB (n:=50) (by kernel_rfl) Tryz.func81 rfl rfl rfl fun G w a h0 hI A=>N9 15 A rfl rfl fun A=>Aq 12 A rfl
  (fun h1 A=>N9 9 A rfl rfl fun A=>Ns (x:=.tup [.sla none 0 0,.int .i64 2,.z9]) (H':=[]) hX [] A (by have e:=Jj (l:=l) (by omega);unfold eY;rw [e];exact .inr ⟨(by show(2:Int)≠0;decide),rfl,rfl⟩) rfl rfl rfl rfl rfl rfl rfl rfl h0)
  (fun h1 A=>N9 14 A rfl rfl fun A=>have A:=A.nilRow 5 134 4 (fun zz=>Ov (([]:List Tk).getD zz BH)) rfl (fun z=>⟨_,rfl,rfl⟩);ON (fun(e0:Nat) (ws:List Tk)=>[(0,.str l),(2,.sla none 0 0),(3,.int .i64 0),(4,.int .i64 0),(5,.sl 0 ws.length 0),(6,.int .i64 (e0:Int))]) (fun(e0:Nat) (ws:List Tk)=>[some (.row 134 4 ws.length 0 (fun zz=>Ov (ws.getD zz BH)))]) (fun(e0:Nat) (ws:List Tk)=>Ow l e0 ws) (fun(e0:Nat) (ws:List Tk)=>l.length - e0) 0 [] (Ow.i0 (by omega)) ((A.cut [0,2,3,4,5,6] rfl).trunc 1 rfl rfl rfl (Cj h0 rfl)) fun e0 ws CT {G a w} A=>N9 5 A rfl rfl fun A=>I9 [] Gl.ok hI (RE (n0 l e0 os hM CT.le (by omega)) (y:=.tup [.int .i64 ((Ed l e0:Nat):Int),.int .i64 (P0 l e0)]) fun _=>rfl) A rfl fun A=>N9 14 A rfl rfl fun A=>EZ 20 A rfl
    (fun h2 A=>N9 11 A rfl rfl fun A=>Ns (x:=.tup [.sla none 0 0,.int .i64 (P0 l e0),.int .i64 ((Ed l e0:Nat):Int)]) (H':=[]) hX [] A (by have e:=(CT.rem h2).1;unfold eY;rw [e];have e2:=(CT.rem h2).2;rw [e2];exact .inr ⟨(by show(24:Int)≠0;decide),rfl,rfl⟩) rfl rfl rfl rfl rfl rfl rfl rfl h0)
    (fun h2 A=>N9 12 A rfl rfl fun A=>Au 26 A rfl
     (fun h3 A=>N9 10 A rfl rfl fun A=>Ns (x:=.tup [.sl 0 ws.length 0,.z9,.z9]) (H':=[some (.row 134 4 ws.length 0 (fun zz=>Ov (ws.getD zz BH)))]) hX [0] A (by have e:=CT.done h2 (by omega);unfold eY;rw [e];exact .inl ⟨rfl,rfl,rfl⟩) rfl rfl rfl rfl rfl rfl rfl rfl h0)
     (fun h3 A=>N9 8 A rfl (Aj (by have hs:=CT.sk;have hle:=CT.le;have sT:=CT.wl;(try simp only [γ5,β5]);omega)<|Ah) fun A=>I9 [] Gl.ok hI (eV (l.drop (((Ed l e0:Nat):Int)).toNat) os hE (by have hs:=CT.sk;have hle:=CT.le;have sT:=CT.wl;(try simp only [γ5,β5]);omega) (by have hs:=CT.sk;have hle:=CT.le;have sT:=CT.wl;(try simp only [γ5,β5]);omega)) A rfl fun A=>N9 15 A rfl rfl fun A=>EZ 36 A rfl
      (fun h4 A=>N9 11 A rfl rfl fun A=>Ns (x:=.tup [.sla none 0 0,.int .i64 ((BC (l.drop (((Ed l e0:Nat):Int)).toNat)).2),.int .i64 ((Ed l e0:Nat):Int)]) (H':=[]) hX [] A (by have e:=CT.bad h2 (by intro e;apply h3;rw [e]) (by have:=h4;rwa [β5]at this);unfold eY;rw [e];exact .inr ⟨(by have:=h4;rwa [β5]at this),by simp only [β5],rfl⟩) rfl rfl rfl rfl rfl rfl rfl rfl h0)
      (fun h4 A=>N9 15 A rfl rfl fun A=>OP hX (ws.length+1) (fun zz=>Ov ((ws++[(⟨(BC (l.drop (((Ed l e0:Nat):Int)).toNat)).1.kind,(BC (l.drop (((Ed l e0:Nat):Int)).toNat)).1.text,(BC (l.drop (((Ed l e0:Nat):Int)).toNat)).1.n,((Ed l e0:Nat):Int)⟩:Tk)]).getD zz BH)) A rfl rfl rfl rfl (by have hs:=CT.sk;have hle:=CT.le;have sT:=CT.wl;have hn:=CT.len (by intro e;apply h3;rw [e]) (by have:=h4;rwa [β5]at this);(try simp only [γ5,β5]);omega) rfl (fun k hk=>by show Ov _=Ov _;rw [eW hk]) (by show Ov _=_;rw [eX];rfl) (fun z=>⟨_,rfl,rfl⟩) fun A=>have A:=(A.rowAs 3 ((ws++[(⟨(BC (l.drop (((Ed l e0:Nat):Int)).toNat)).1.kind,(BC (l.drop (((Ed l e0:Nat):Int)).toNat)).1.text,(BC (l.drop (((Ed l e0:Nat):Int)).toNat)).1.n,((Ed l e0:Nat):Int)⟩:Tk)]).length) (fun zz=>Ov ((ws++[(⟨(BC (l.drop (((Ed l e0:Nat):Int)).toNat)).1.kind,(BC (l.drop (((Ed l e0:Nat):Int)).toNat)).1.text,(BC (l.drop (((Ed l e0:Nat):Int)).toNat)).1.n,((Ed l e0:Nat):Int)⟩:Tk)]).getD zz BH)) rfl (by rw [α4];rfl) (fun q hq=>rfl) (fun z=>⟨_,rfl,rfl⟩)).say 44 (.sl 3 ((ws++[(⟨(BC (l.drop (((Ed l e0:Nat):Int)).toNat)).1.kind,(BC (l.drop (((Ed l e0:Nat):Int)).toNat)).1.text,(BC (l.drop (((Ed l e0:Nat):Int)).toNat)).1.n,((Ed l e0:Nat):Int)⟩:Tk)]).length) 0) rfl (by rw [α4]<;>rfl);N9 12 A rfl (Aj (by have hs:=CT.sk;have hle:=CT.le;have sT:=CT.wl;have hn:=CT.len (by intro e;apply h3;rw [e]) (by have:=h4;rwa [β5]at this);(try simp only [γ5,β5]);omega)<|Ah) fun A=>⟨Ed l e0+(BC (l.drop (Ed l e0))).1.text.length,ws++[(⟨(BC (l.drop (((Ed l e0:Nat):Int)).toNat)).1.kind,(BC (l.drop (((Ed l e0:Nat):Int)).toNat)).1.text,(BC (l.drop (((Ed l e0:Nat):Int)).toNat)).1.n,((Ed l e0:Nat):Int)⟩:Tk)],_,(by have:=CT.len (by intro e;apply h3;rw [e]) (by have:=h4;rwa [β5]at this);have:=CT.le;have hq:e0≤Ed l e0:=(by unfold Ed;omega);omega),(CT.nx h2 (by intro e;apply h3;rw [e]) (by have:=h4;rwa [β5]at this)),((A.cut [0,2,3,4,5,6] rfl).mv 0 [3] rfl rfl rfl rfl (by simp only [α5,α7]at h0;omega)).sayT (by simp only [β5];rfl)⟩))))
theorem Ox {I:Ef}{P:Program}{f:Nat}{az:List SV}{H:Hp}{R R':SV→Hp→Prop}(h:CE I P f az H R)(e:∀x H2,R x H2→R' x H2):CE I P f az H R':=⟨h.1,fun G w vs hM hI hv=>ν6 (h.2 G w vs hM hI hv) fun e' w' ⟨x',H',F,v,q,r⟩=>⟨x',H',F,v,e _ _ q,r⟩⟩
theorem S9 (l:List UInt8)(ws:List Tk)(os:List (Nat×Obj))(hM:LR os)(hE:MF os)(h:B9 l=(ws,0,0)):CE (Gl os) Tryz.prog 81 [.str l] [] (Rt (.tup [.sl 0 ws.length 0,.z9,.z9]) [some (.row 134 4 ws.length 0 (fun zz=>Ov (ws.getD zz BH)))]):=Ox (Rs l os hM hE) fun x H2 q=>by
 unfold eY at q
 rw [h]at q
 rcases q with⟨_,q1,q2⟩|⟨q1,_⟩
 ·exact⟨q1,q2⟩
 ·exact absurd rfl q1
theorem TA (l:List UInt8)(e:Int)(k:Nat)(os:List (Nat×Obj))(hM:LR os)(hE:MF os)(h:B9 l=([],e,k))(he:e≠0):CE (Gl os) Tryz.prog 81 [.str l] [] (Rt (.tup [.sla none 0 0,.int .i64 e,.int .i64 (k:Int)]) []):=Ox (Rs l os hM hE) fun x H2 q=>by
 unfold eY at q
 rw [h]at q
 rcases q with⟨q1,_⟩|⟨_,q1,q2⟩
 ·exact absurd q1 he
 ·exact⟨q1,q2⟩
theorem eZ {ws:List Tk}{k:Nat}(h:ws.length≤k):ws.getD k BH=BH:=by rw [α6,γ4 h];rfl
theorem Z9 {p:Prop}[Decidable p](h:p):decide p=true:=η4 h
theorem aA {p:Prop}[Decidable p](h:¬p):decide p=false:=η8 h
def YU (ws:List Tk)(k:Nat):Nat:=if k<ws.length then k+1 else k
def PJ (ws:List Tk)(k:Nat)(m:List UInt8):Bool:=decide (k<ws.length)&&(!((ws.getD k BH).kind==2)&&((ws.getD k BH).text==m))
def PK (ws:List Tk)(k:Nat)(m:List UInt8):Nat:=if PJ ws k m=true then k+1 else k
def e7 (ws:List Tk)(k:Nat):Int:=if k<ws.length then(ws.getD k BH).at_ else if ws.length=0 then 0 else(ws.getD (ws.length - 1) BH).at_+((ws.getD (ws.length - 1) BH).text.length:Int)
def r9 (ws:List Tk)(k:Nat):Bool:=decide (k<ws.length)&&((ws.getD k BH).kind==1)
def vC (ws:List Tk)(k:Nat):Nat:=if r9 ws k=true then k+1 else k
def nmT (ws:List Tk)(k:Nat):List UInt8:=if r9 ws k=true then(ws.getD k BH).text else []
def P4 (ws:List Tk)(k:Nat):Bool:=decide (k<ws.length)&&((ws.getD k BH).kind==2)
def e8 (ws:List Tk)(k:Nat):Bool:=((decide (k<ws.length))&&((ws.getD k BH).kind==3))&&((ws.getD k BH).text==[45])
def sA (ws:List Tk)(k:Nat):Bool:=if e8 ws k=true then P4 ws (k+1)else P4 ws k
def TC (ws:List Tk)(k:Nat):Nat:=if e8 ws k=true then(if P4 ws (k+1)=true then k+1+1 else k)else(if P4 ws k=true then k+1 else k)
def YV (ws:List Tk)(k:Nat):Int:=if e8 ws k=true then IntKind.wrap .i64 (0 - (if P4 ws (k+1)=true then(ws.getD (k+1) BH).n else 0))else(if P4 ws k=true then(ws.getD k BH).n else 0)
section
variable {ws:List Tk}{k:Nat}{m:List UInt8}
theorem aC (h:(((!(decide (k<ws.length)))||((ws.getD k BH).kind==2))||(!((ws.getD k BH).text==m)))=true):PJ ws k m=false:=by
 unfold PJ;revert h
 generalize decide (k<ws.length)=x;generalize ((ws.getD k BH).kind==2)=y;generalize ((ws.getD k BH).text==m)=z
 cases x<;>cases y<;>cases z<;>intro h<;>first|rfl|cases h
theorem e9 (h:(((!(decide (k<ws.length)))||((ws.getD k BH).kind==2))||(!((ws.getD k BH).text==m)))=false):PJ ws k m=true:=by
 unfold PJ;revert h
 generalize decide (k<ws.length)=x;generalize ((ws.getD k BH).kind==2)=y;generalize ((ws.getD k BH).text==m)=z
 cases x<;>cases y<;>cases z<;>intro h<;>first|rfl|cases h
theorem aD (h:((!(decide (k<ws.length)))||(!((ws.getD k BH).kind==2)))=true):P4 ws k=false:=by
 unfold P4;revert h
 generalize decide (k<ws.length)=x;generalize ((ws.getD k BH).kind==2)=y
 cases x<;>cases y<;>intro h<;>first|rfl|cases h
theorem Vo (h:((!(decide (k<ws.length)))||(!((ws.getD k BH).kind==2)))=false):P4 ws k=true:=by
 unfold P4;revert h
 generalize decide (k<ws.length)=x;generalize ((ws.getD k BH).kind==2)=y
 cases x<;>cases y<;>intro h<;>first|rfl|cases h
theorem fA (h:k<ws.length):ws.getD k BH∈ws:=by rw [α6,β0 h];exact η9 h
theorem n6 (h:r9 ws k=true):k<ws.length:=by unfold r9 at h;rw [α3]at h;exact δ0 h.1
theorem aE (h:P4 ws k=true):k<ws.length:=by unfold P4 at h;rw [α3]at h;exact δ0 h.1
theorem n7 (h:PJ ws k m=true):k<ws.length:=by unfold PJ at h;rw [α3]at h;exact δ0 h.1
theorem K8 (h:k≤ws.length):YU ws k≤ws.length:=by unfold YU;split<;>omega
theorem K9 (h:k≤ws.length):PK ws k m≤ws.length:=by
 unfold PK;split
 ·next q=>have:=n7 q;omega
 ·exact h
theorem fB (h:k≤ws.length):vC ws k≤ws.length:=by
 unfold vC;split
 ·next q=>have:=n6 q;omega
 ·exact h
theorem LA (h:k≤ws.length):TC ws k≤ws.length:=by
 unfold TC;split
 ·split
  ·next q=>have:=aE q;omega
  ·exact h
 ·split
  ·next q=>have:=aE q;omega
  ·exact h
end
theorem aF (ws:List Tk)(cw k:Nat)(hk:k≤ws.length)(hn:ws.length≤1000000):Fn Tryz.prog 223 [.ptr 0 0] [some (.blk [.sl 1 ws.length cw,.int .i64 ((k:Nat):Int)]),some (Fj ws)] (Rt (.int .i64 (((ws.length:Nat):Int) - (k:Int))) [some (.blk [.sl 1 ws.length cw,.int .i64 ((k:Nat):Int)]),some (Fj ws)]):=
 Am (n:=13) (by kernel_rfl) Tryz.func223 rfl rfl rfl fun G w a h0 A=>N9 6 A rfl rfl fun A=>Ba hX By [] [] A rfl (Aj (by omega)<|Ah) rfl rfl (by kernel_rfl) (A8 _ _) trivial fun A=>N9 2 A rfl rfl fun A=>R9 A rfl h0 rfl rfl rfl
theorem P5 (ws:List Tk)(cw k j:Nat)(hk:k≤ws.length)(hn:ws.length≤1000000)(hj:j≤1000000):Fn Tryz.prog 245 [.ptr 0 0,.int .i64 (j:Int)] [some (.blk [.sl 1 ws.length cw,.int .i64 ((k:Nat):Int)]),some (Fj ws)] (Rt (.tup [.agg [.int .i64 ((ws.getD (k+j) BH).kind),.str ((ws.getD (k+j) BH).text),.int .i64 ((ws.getD (k+j) BH).n),.int .i64 ((ws.getD (k+j) BH).at_)],.bool (decide (k+j<ws.length))]) [some (.blk [.sl 1 ws.length cw,.int .i64 ((k:Nat):Int)]),some (Fj ws)]):=
 Am (n:=23) (by kernel_rfl) Tryz.func245 rfl rfl rfl fun G w a h0 A=>N9 11 A rfl rfl fun A=>C9 [0,1] (aF ws cw k (by omega) (by omega)) A rfl fun A=>N9 3 A rfl rfl fun A=>Aq 9 A rfl
  (fun h1 A=>N9 9 A rfl rfl fun A=>R9 A rfl h0 rfl (by rw [eZ (by omega),aA (by omega)];rfl) rfl)
  (fun h1 A=>N9 4 A rfl rfl fun A=>Ba hX By [] [] A rfl (Aj (by omega)<|Aj (by omega)<|Aj (by omega)<|Ah) rfl rfl (by kernel_rfl) (A8 _ _) trivial fun A=>N9 2 A rfl rfl fun A=>R9 A rfl h0 rfl (by rw [Z9 (p:=k+j<ws.length) (by omega),show k+j=((k:Int)+(j:Int)).toNat by omega];rfl) rfl)
theorem MJ (ws:List Tk)(cw k:Nat)(hk:k≤ws.length)(hn:ws.length≤1000000):Fn Tryz.prog 217 [.ptr 0 0] [some (.blk [.sl 1 ws.length cw,.int .i64 ((k:Nat):Int)]),some (Fj ws)] (Rt (.tup [.agg [.int .i64 ((ws.getD k BH).kind),.str ((ws.getD k BH).text),.int .i64 ((ws.getD k BH).n),.int .i64 ((ws.getD k BH).at_)],.bool (decide (k<ws.length))]) [some (.blk [.sl 1 ws.length cw,.int .i64 ((k:Nat):Int)]),some (Fj ws)]):=
 Am (n:=8) (by kernel_rfl) Tryz.func217 rfl rfl rfl fun G w a h0 A=>N9 9 A rfl rfl fun A=>C9 [0,1] (P5 ws cw k 0 (by omega) (by omega) (by omega)) A rfl fun A=>N9 7 A rfl rfl fun A=>R9 A rfl h0 rfl rfl rfl
theorem aG (ws:List Tk)(cw k:Nat)(hk:k≤ws.length)(hn:ws.length≤1000000):Fn Tryz.prog 247 [.ptr 0 0] [some (.blk [.sl 1 ws.length cw,.int .i64 ((k:Nat):Int)]),some (Fj ws)] (Rt (.tup [.agg [.int .i64 ((ws.getD k BH).kind),.str ((ws.getD k BH).text),.int .i64 ((ws.getD k BH).n),.int .i64 ((ws.getD k BH).at_)],.bool (decide (k<ws.length))]) [some (.blk [.sl 1 ws.length cw,.int .i64 ((YU ws k:Nat):Int)]),some (Fj ws)]):=
 Am (n:=21) (by kernel_rfl) Tryz.func247 rfl rfl rfl fun G w a h0 A=>N9 9 A rfl rfl fun A=>C9 [0,1] (MJ ws cw k (by omega) (by omega)) A rfl fun A=>N9 14 A rfl rfl fun A=>Aq 11 A rfl
  (fun h1 A=>N9 13 A rfl (Aj (by omega)<|Ah) fun A=>N9 8 A rfl rfl fun A=>R9 A rfl h0 rfl (by first|rfl|(rw [Z9 (p:=k<ws.length) h1]<;>rfl)) (by unfold YU;rw [if_pos h1]<;>rfl))
  (fun h1 A=>N9 12 A rfl rfl fun A=>R9 A rfl h0 rfl (by first|rfl|(rw [aA (p:=k<ws.length) h1]<;>rfl)) (by unfold YU;rw [if_neg h1]<;>rfl))
theorem Vp (ws:List Tk)(cw k:Nat)(m:List UInt8)(hk:k≤ws.length)(hn:ws.length≤1000000):Fn Tryz.prog 248 [.ptr 0 0,.sl 2 1 1] [some (.blk [.sl 1 ws.length cw,.int .i64 ((k:Nat):Int)]),some (Fj ws),some (.blk [.str m])] (Rt (.bool (PJ ws k m)) [some (.blk [.sl 1 ws.length cw,.int .i64 ((PK ws k m:Nat):Int)]),some (Fj ws),some (.blk [.str m])]):=
 Am (n:=45) (by kernel_rfl) Tryz.func248 rfl rfl rfl fun G w a h0 A=>N9 14 A rfl rfl fun A=>lQ [(0,.ptr 0 0),(1,.sl 2 1 1),(4,.ff),(9,.sl 2 1 1),(10,.int .i64 ((1:Nat):Int)),(11,.int .i64 1)] [some (.blk [.sl 1 ws.length cw,.int .i64 ((k:Nat):Int)]),some (Fj ws),some (.blk [.str m])] (PJ ws k m=true) (A.cut [0,1,4,9,10,11] rfl) (fun{G a w} A=>N9 6 A rfl rfl fun A=>Aq 12 A rfl
   (fun h1 A=>N9 15 A rfl (Aj (by omega)<|Aj (by omega)<|Ah) fun A=>N9 3 A rfl rfl fun A=>C9 [0,1] (P5 ws cw k 0 (by omega) (by omega) (by omega)) A rfl fun A=>N9 25 A rfl rfl fun A=>fork 34 A rfl
    (fun h2 A=>N9 7 A rfl rfl fun A=>R9 A rfl h0 rfl (by have z:PJ ws k m=false:=aC (k:=k) (m:=m) h2;rw [z];rfl) (by have z:PJ ws k m=false:=aC (k:=k) (m:=m) h2;unfold PK;rw [z];rfl))
    (fun h2 A=>N9 8 A rfl (Aj (by omega)<|Ah) fun A=>⟨_,(e9 h2),((A.cut [0,1,4,9,10,11] rfl).trunc 3 rfl rfl rfl (Cj h0 rfl)).sayT rfl⟩))
   (fun h1 A=>absurd (by decide) h1)) (fun hU {G a w} A=>N9 6 A rfl rfl fun A=>Aq 12 A rfl
   (fun h3 A=>absurd h3 (by decide))
   (fun h3 A=>N9 18 A rfl (Aj (by omega)<|Ah) fun A=>N9 5 A rfl rfl fun A=>R9 A rfl h0 rfl (by rw [hU];rfl) (by unfold PK;rw [if_pos hU];rfl)))
theorem Ru (ws:List Tk)(cw k j:Nat)(hk:k≤ws.length)(hn:ws.length≤1000000)(hj:j≤1000000):Fn Tryz.prog 291 [.ptr 0 0,.int .i64 (j:Int)] [some (.blk [.sl 1 ws.length cw,.int .i64 ((k:Nat):Int)]),some (Fj ws)] (Rt (.tup [.int .i64 (if P4 ws (k+j)=true then(ws.getD (k+j) BH).n else 0),.bool (P4 ws (k+j))]) [some (.blk [.sl 1 ws.length cw,.int .i64 (((if P4 ws (k+j)=true then k+j+1 else k):Nat):Int)]),some (Fj ws)]):=
 Am (n:=32) (by kernel_rfl) Tryz.func291 rfl rfl rfl fun G w a h0 A=>N9 10 A rfl rfl fun A=>C9 [0,1] (P5 ws cw k j (by omega) (by omega) (by omega)) A rfl fun A=>N9 20 A rfl rfl fun A=>fork 20 A rfl
  (fun h1 A=>N9 8 A rfl rfl fun A=>R9 A rfl h0 rfl (by rw [aD h1];rfl) (by rw [aD h1];rfl))
  (fun h1 A=>N9 18 A rfl (Aj (by omega)<|Aj (by omega)<|Ah) fun A=>N9 8 A rfl rfl fun A=>R9 A rfl h0 rfl (by rw [Vo h1];rfl) (by rw [Vo h1];rfl))
theorem Vq (ws:List Tk)(cw k:Nat)(hk:k≤ws.length)(hn:ws.length≤1000000):Fn Tryz.prog 281 [.ptr 0 0] [some (.blk [.sl 1 ws.length cw,.int .i64 ((k:Nat):Int)]),some (Fj ws)] (Rt (.tup [.int .i64 (YV ws k),.bool (sA ws k)]) [some (.blk [.sl 1 ws.length cw,.int .i64 ((TC ws k:Nat):Int)]),some (Fj ws)]):=
 Am (n:=36) (by kernel_rfl) Tryz.func281 rfl rfl rfl fun G w a h0 A=>N9 9 A rfl rfl fun A=>C9 [0,1] (MJ ws cw k (by omega) (by omega)) A rfl fun A=>N9 24 A rfl rfl fun A=>fork 23 A rfl
  (fun h1 A=>N9 4 A rfl rfl fun A=>C9 [0,1] (Ru ws cw k 1 (by omega) (by omega) (by omega)) A rfl fun A=>N9 17 A rfl rfl fun A=>R9 A rfl h0 rfl (by have z:e8 ws k=true:=h1;unfold YV sA;rw [if_pos z,if_pos z];rfl) (by have z:e8 ws k=true:=h1;unfold TC;rw [if_pos z];rfl))
  (fun h1 A=>N9 6 A rfl rfl fun A=>C9 [0,1] (Ru ws cw k 0 (by omega) (by omega) (by omega)) A rfl fun A=>N9 7 A rfl rfl fun A=>R9 A rfl h0 rfl (by have z:e8 ws k=false:=h1;unfold YV sA;rw [if_neg (α8 z),if_neg (α8 z)];rfl) (by have z:e8 ws k=false:=h1;unfold TC;rw [if_neg (α8 z)];rfl))
theorem n8 (ws:List Tk)(cw k:Nat)(hk:k≤ws.length)(hn:ws.length≤1000000)(hw:∀t∈ws,0≤t.at_∧t.at_≤1000000∧t.text.length≤1000000):Fn Tryz.prog 184 [.ptr 0 0] [some (.blk [.sl 1 ws.length cw,.int .i64 ((k:Nat):Int)]),some (Fj ws)] (Rt (.int .i64 (e7 ws k)) [some (.blk [.sl 1 ws.length cw,.int .i64 ((k:Nat):Int)]),some (Fj ws)]):=
 Am (n:=38) (by kernel_rfl) Tryz.func184 rfl rfl rfl fun G w a h0 A=>N9 9 A rfl rfl fun A=>C9 [0,1] (MJ ws cw k (by omega) (by omega)) A rfl fun A=>N9 13 A rfl rfl fun A=>Aq 11 A rfl
  (fun h1 A=>N9 9 A rfl rfl fun A=>R9 A rfl h0 rfl (by unfold e7;rw [if_pos h1];rfl) rfl)
  (fun h1 A=>N9 14 A rfl rfl fun A=>Au 19 A rfl
   (fun h2 A=>N9 7 A rfl rfl fun A=>R9 A rfl h0 rfl (by unfold e7;rw [if_neg h1,if_pos (show ws.length=0 by omega)];rfl) rfl)
   (fun h2 A=>N9 4 A rfl rfl fun A=>Ba hX By [] [] A rfl (Aj (by omega)<|Aj (by omega)<|Aj (by omega)<|Aj (by omega)<|Aj (by omega)<|Aj (by omega)<|Ah) rfl rfl (by kernel_rfl) (A8 _ _) trivial fun A=>N9 13 A rfl (Aj (by have:=hw (ws.getD (((ws.length:Nat):Int) - 1).toNat BH) (fA (by omega));omega)<|Ah) fun A=>R9 A rfl h0 rfl (by unfold e7;rw [if_neg h1,if_neg (show¬ws.length=0 by omega),show ws.length - 1=(((ws.length:Nat):Int) - 1).toNat by omega];rfl) rfl))
structure As where (p:Nat) (e a:Int)
def Oy (ws:List Tk):Prop:=∀t∈ws,0≤t.at_∧t.at_≤1000000∧t.text.length≤1000000
def Jk (s:As)(x y:Int):As:=if s.e=0 then⟨s.p,x,y⟩else s
def GW (ws:List Tk)(s:As)(x:Int):As:=Jk s (if s.p<ws.length then x else 24) (e7 ws s.p)
def n9 (s:As)(k:Nat):As:=⟨k,s.e,s.a⟩
def I0 (ws:List Tk)(s:As)(m:List UInt8):As:=if PJ ws s.p m=true then n9 s (PK ws s.p m)else GW ws (n9 s (PK ws s.p m)) 22
def YW (ws:List Tk)(s:As):As:=if sA ws s.p=true then n9 s (TC ws s.p)else GW ws (n9 s (PK ws (TC ws s.p) [45])) 22
section
variable {ws:List Tk}{s:As}{x y:Int}{m:List UInt8}
theorem YX:(Jk s x y).p=s.p:=by unfold Jk;split<;>rfl
theorem H6:(GW ws s x).p=s.p:=YX
theorem D8 (h:s.p≤ws.length):(I0 ws s m).p≤ws.length:=by unfold I0;split<;>(try rw [H6])<;>exact K9 h
theorem Dm (h:s.p≤ws.length):(YW ws s).p≤ws.length:=by
 unfold YW;split
 ·exact LA h
 ·rw [H6];exact K9 (LA h)
end
theorem Vr (ws:List Tk)(cw:Nat)(s:As)(x y:Int)(hk:s.p≤ws.length)(hn:ws.length≤1000000)(hw:Oy ws):Fn Tryz.prog 258 [.ptr 0 0,.int .i64 x,.int .i64 y] [some (.blk [.ptr 1 0,.int .i64 s.e,.int .i64 s.a]),some (.blk [.sl 2 ws.length cw,.int .i64 ((s.p:Nat):Int)]),some (Fj ws)] (Rt (.tup []) [some (.blk [.ptr 1 0,.int .i64 ((Jk s x y).e),.int .i64 ((Jk s x y).a)]),some (.blk [.sl 2 ws.length cw,.int .i64 (((Jk s x y).p:Nat):Int)]),some (Fj ws)]):=
 Am (n:=19) (by kernel_rfl) Tryz.func258 rfl rfl rfl fun G w a h0 A=>N9 9 A rfl rfl fun A=>Au 10 A rfl
  (fun h1 A=>N9 13 A rfl rfl fun A=>Ee (R9 A rfl h0 rfl rfl (by unfold Jk;rw [if_pos h1]<;>rfl)))
  (fun h1 A=>N9 2 A rfl rfl fun A=>Ee (R9 A rfl h0 rfl rfl (by unfold Jk;rw [if_neg h1]<;>rfl)))
theorem Im (ws:List Tk)(cw:Nat)(s:As)(x:Int)(hk:s.p≤ws.length)(hn:ws.length≤1000000)(hw:Oy ws):Fn Tryz.prog 224 [.ptr 0 0,.int .i64 x] [some (.blk [.ptr 1 0,.int .i64 s.e,.int .i64 s.a]),some (.blk [.sl 2 ws.length cw,.int .i64 ((s.p:Nat):Int)]),some (Fj ws)] (Rt (.tup []) [some (.blk [.ptr 1 0,.int .i64 ((GW ws s x).e),.int .i64 ((GW ws s x).a)]),some (.blk [.sl 2 ws.length cw,.int .i64 (((GW ws s x).p:Nat):Int)]),some (Fj ws)]):=
 Am (n:=18) (by kernel_rfl) Tryz.func224 rfl rfl rfl fun G w a h0 A=>N9 7 A rfl rfl fun A=>C9 [1,2] (aF ws cw s.p hk hn) A rfl fun A=>N9 3 A rfl rfl fun A=>Au 9 A rfl
  (fun h1 A=>N9 12 A rfl rfl fun A=>C9 [1,2] (n8 ws cw s.p hk hn hw) A rfl fun A=>C9 [0,1,2] (Vr ws cw s 24 (e7 ws s.p) hk hn hw) A rfl fun A=>N9 1 A rfl rfl fun A=>Ee (R9 A rfl h0 rfl rfl (by unfold GW;rw [if_neg (show¬s.p<ws.length by omega)]<;>rfl)))
  (fun h1 A=>N9 10 A rfl rfl fun A=>C9 [1,2] (n8 ws cw s.p hk hn hw) A rfl fun A=>C9 [0,1,2] (Vr ws cw s x (e7 ws s.p) hk hn hw) A rfl fun A=>N9 1 A rfl rfl fun A=>Ee (R9 A rfl h0 rfl rfl (by unfold GW;rw [if_pos (show s.p<ws.length by omega)]<;>rfl)))
theorem Oz (ws:List Tk)(cw:Nat)(s:As)(m:List UInt8)(hk:s.p≤ws.length)(hn:ws.length≤1000000)(hw:Oy ws):Fn Tryz.prog 219 [.ptr 0 0,.str m] [some (.blk [.ptr 1 0,.int .i64 s.e,.int .i64 s.a]),some (.blk [.sl 2 ws.length cw,.int .i64 ((s.p:Nat):Int)]),some (Fj ws)] (Rt (.tup []) [some (.blk [.ptr 1 0,.int .i64 ((I0 ws s m).e),.int .i64 ((I0 ws s m).a)]),some (.blk [.sl 2 ws.length cw,.int .i64 (((I0 ws s m).p:Nat):Int)]),some (Fj ws)]):=
 Am (n:=14) (by kernel_rfl) Tryz.func219 rfl rfl rfl fun G w a h0 A=>N9 8 A rfl rfl fun A=>C9 [1,2,3] (Vp ws cw s.p m hk hn) A rfl fun A=>N9 3 A rfl rfl fun A=>fork 11 A rfl
  (fun h1 A=>N9 3 A rfl rfl fun A=>C9 [0,1,2] (Im ws cw (⟨PK ws s.p m,s.e,s.a⟩:As) 22 (by first|exact K9 (LA hk)|exact K9 hk|exact LA hk|exact K8 hk|exact hk) hn hw) A rfl fun A=>N9 1 A rfl rfl fun A=>Ee (R9 A rfl h0 rfl rfl (by unfold I0;rw [if_neg (show¬PJ ws s.p m=true by intro z;rw [z]at h1;cases h1)]<;>rfl)))
  (fun h1 A=>N9 2 A rfl rfl fun A=>Ee (R9 A rfl h0 rfl rfl (by unfold I0;rw [if_pos (show PJ ws s.p m=true by cases q:PJ ws s.p m with|true=>rfl|false=>rw [q]at h1;cases h1)]<;>rfl)))
structure Rw where (nm wd:List UInt8) (ins:In) (pa:Option Addr) (ps:List Int) (cp:Nat)
def Rw.z:Rw:=⟨[],[],⟨0,0,0,0,0,0,0,0,0,0,false,false,false,0,0,0,false⟩,none,[],0⟩
def Rw.lay (r:Rw)(i:In):In:=r.ps.foldl (D6 i) (bare r.ins)
def Vs (L:List Rw):Ef:=fun w ks=>∀r∈L,DQ r.pa r.ps w ks
theorem Vs.ok {L:List Rw}:Ef.OK (Vs L):=fun w ks w' ks' h m hk r hr=>(h r hr).go m hk
theorem Vs.at {L:List Rw}{w:World}{ks:List Nat}(h:Vs L w ks){k:Nat}(hk:k<L.length):DQ (L.getD k Rw.z).pa (L.getD k Rw.z).ps w ks:=by
 rw [α6,β0 hk];exact h _ (η9 hk)
def BG (r:Rw):List SV:=[.str r.nm,.str r.wd,.int .i64 r.ins.op,.int .i64 r.ins.dst,.int .i64 r.ins.ra,.int .i64 r.ins.rb,.int .i64 r.ins.imm,.int .i64 r.ins.loc,.int .i64 r.ins.off,.int .i64 r.ins.ix,.int .i64 r.ins.sz,.int .i64 r.ins.fn,.bool r.ins.acq,.bool r.ins.weak,.bool r.ins.rel,.int .i64 r.ins.pred,.int .i64 r.ins.succ,.int .i64 r.ins.to_,.bool r.ins.zero,.sla r.pa r.ps.length r.cp]
abbrev Io (r:Rw):List SV:=[.str r.nm,.str r.wd,.int .i64 r.ins.op,.int .i64 r.ins.dst,.int .i64 r.ins.ra,.int .i64 r.ins.rb,.int .i64 r.ins.imm,.int .i64 r.ins.loc,.int .i64 r.ins.off,.int .i64 r.ins.ix,.int .i64 r.ins.sz,.int .i64 r.ins.fn,.bool r.ins.acq,.bool r.ins.weak,.bool r.ins.rel,.int .i64 r.ins.pred,.int .i64 r.ins.succ,.int .i64 r.ins.to_,.bool r.ins.zero,.sla r.pa r.ps.length r.cp]
abbrev FT (L:List Rw):Bo:=.lst 20 L.length (fun zz=>BG (L.getD zz Rw.z))
theorem CW {i:Nat}{e:Option Bo}{R:Prop}(h:([]:Hp)[i]?=some e):R:=by rw [κ1]at h;cases h
theorem MK {P:Program}{f:Nat}{az az':List SV}{ao:Option Addr}{ps:List Int}{x:SV}(h:Fn P f az [some (jR ps)] (Rt x [some (jR ps)]))(ha:cB 0 az'=az)(hs:Pb az'=[ao])(hx:LQ 0 x=true):CE (DQ ao ps) P f az' [] (Rt x []):=by
 refine⟨h.1,fun G w vs hM hI hv=>?_⟩
 have hG:G=[]:=δ3 hM.len.symm
 subst hG
 have zJ:DQ ao ps w []:=DQ.ok _ _ _ _ hI (DO.refl _ _) fun b hb=>(by cases hb)
 have A1:Sy 1 [(0,.tt)] [] [] [] w [] ⟨#[.bool true],[]⟩ w:=⟨rfl,rfl,fun t x hx=>(by
  unfold look at hx
  cases hb:Nat.beq 0 t with
  |true=>rw [hb]at hx;cases hx;have:=α9 hb;subst this;rfl
  |false=>rw [hb]at hx;cases hx),hM,⟨[],by simp⟩,fun i e L h1=>CW h1,DO.refl _ _⟩
 have A2:=A1.adopt zJ 0 (x:=.tt) rfl (fun z hz=>by cases hz)
 have ha0:∀q,ao=some q→q=⟨q.block,0,none⟩:=by
  intro q hq
  rcases zJ with⟨h1,_⟩|⟨b,h1,_⟩
  ·rw [h1]at hq;cases hq
  ·rw [h1]at hq;cases hq;rfl
 have hd:=Mx (G:=[Kj ao]) (i:=0) ha0 rfl az' (fun z hz=>by rw [hs]at hz;exact η5.1 hz)
 rw [ha]at hd
 have Qb:Al [Kj ao] az'=some vs:=by simpa using BT [Kj ao] az' hv
 rw [Qb]at hd
 refine(h.2 [Kj ao] w vs (by simpa using A2.mem) hd).mono ?_
 rintro e w' ⟨y,H',F,v,⟨rfl,rfl⟩,h1,rfl,h3,DN,_⟩
 have hk:keys [some (jR ps)] [Kj ao]=[]:=by cases ao<;>rfl
 rw [hk]at DN
 refine⟨y,[],[],v,⟨rfl,rfl⟩,?_,rfl,⟨rfl,fun i e he=>CW he,fun i j e f L M _ he=>CW he⟩,by simpa [keys]using DN,β7 _,fun i e he _=>CW he,fun i e he=>CW he⟩
 have:=DZ (G:=[Kj ao]++F) (k:=0) y hx
 simp only [ι6]at this
 rw [ε9,this];exact h1
theorem fC (r:Rw)(i:In)(hn:r.ps.length≤1000000):CE (DQ r.pa r.ps) Tryz.prog 222 [.agg (Io r),.agg (A5 i)] [] (Rt (.agg (A5 (r.lay i))) []):=MK (lE r.nm r.wd r.ins r.ps r.cp i hn) rfl rfl rfl
theorem YY (r:Rw)(i:In)(hn:r.ps.length≤1000000):CE (DQ r.pa r.ps) Tryz.prog 225 [.agg (Io r),.agg (A5 i)] [] (Rt (.bool (Gn r.ps i)) []):=MK (cH r.nm r.wd r.ins r.ps r.cp i hn) rfl rfl rfl
structure Lg where (r0 r1 r2 r3 r4 r5 r6 r7 l0 l1 l2 l3 im f0 f1 f2:List UInt8)
def O0 (a b:In):Bool:=((a.op==b.op)&&((a.dst==b.dst)&&((a.ra==b.ra)&&((a.rb==b.rb)&&((a.imm==b.imm)&&((a.loc==b.loc)&&((a.off==b.off)&&((a.ix==b.ix)&&((a.sz==b.sz)&&((a.fn==b.fn)&&((a.acq==b.acq)&&((a.weak==b.weak)&&((a.rel==b.rel)&&((a.pred==b.pred)&&((a.succ==b.succ)&&((a.to_==b.to_)&&(a.zero==b.zero)))))))))))))))))
def Fk (i:In)(r:Rw):Bool:=O0 (r.lay i) i&&Gn r.ps i
def BD (L:List Rw)(i:In):Rw:=(L.find? (Fk i)).getD Rw.z
def Fl (L:List Rw)(i:In):Bool:=(L.find? (Fk i)).isSome
structure FI (L:List Rw)(i:In)(k:Nat):Prop where
 le:k≤L.length
 eq:L.find? (Fk i)=(L.drop k).find? (Fk i)
section
variable {L:List Rw}{i:In}{k:Nat}
theorem FI.i0:FI L i 0:=⟨β8 _,by simp⟩
theorem FI.at (hI:FI L i k)(h1:(k:Int)<((L.length:Nat):Int)):L.find? (Fk i)=if Fk i (L.getD ((k:Int)).toNat Rw.z)then some (L.getD ((k:Int)).toNat Rw.z)else(L.drop (k+1)).find? (Fk i):=by
 have hk:k<L.length:=by omega
 have e:L.getD ((k:Int)).toNat Rw.z=L[k]:=by simp [List.getD,hk]
 rw [hI.eq,η2 hk,υ5,e]
 cases Fk i L[k]<;>rfl
theorem FI.hit (hI:FI L i k)(h1:(k:Int)<((L.length:Nat):Int))(h:Fk i (L.getD ((k:Int)).toNat Rw.z)=true):BD L i=L.getD ((k:Int)).toNat Rw.z∧Fl L i=true:=by
 unfold BD Fl;rw [hI.at h1,h];exact⟨rfl,rfl⟩
theorem FI.nx (hI:FI L i k)(h1:(k:Int)<((L.length:Nat):Int))(h:Fk i (L.getD ((k:Int)).toNat Rw.z)=false):FI L i (k+1):=⟨by omega,by rw [hI.at h1,h];rfl⟩
theorem FI.fi (hI:FI L i k)(h1:¬(k:Int)<((L.length:Nat):Int)):BD L i=Rw.z∧Fl L i=false:=by
 unfold BD Fl;rw [hI.eq,ι0 (by omega)];exact⟨rfl,rfl⟩
end
theorem fD (g:Lg)(L:List Rw)(c:Nat)(i:In)(hp:∀k,(L.getD k Rw.z).ps.length≤1000000)(hn:L.length≤1000000):CE (Vs L) Tryz.prog 189 [.agg [.str g.r0,.str g.r1,.str g.r2,.str g.r3,.str g.r4,.str g.r5,.str g.r6,.str g.r7,.str g.l0,.str g.l1,.str g.l2,.str g.l3,.str g.im,.str g.f0,.str g.f1,.str g.f2,.sl 0 L.length c],.agg (A5 i)] [some (FT L)] (Rt (.tup [.agg (Io (BD L i)),.bool (Fl L i)]) [some (FT L)]):=
 BB (n:=28) (by kernel_rfl) Tryz.func189 rfl rfl rfl fun G w a h0 hI A=>N9 18 A rfl rfl fun A=>B7 (fun(k:Nat)=>[(3,.ptr 2 0),(4,.ptr 3 0),(5,.ff),(9,.sl 0 L.length c),(10,.int .i64 ((L.length:Nat):Int)),(11,.int .i64 (k:Int))]) (fun(k:Nat)=>[some (FT L),some (.blk [.str g.r0,.str g.r1,.str g.r2,.str g.r3,.str g.r4,.str g.r5,.str g.r6,.str g.r7,.str g.l0,.str g.l1,.str g.l2,.str g.l3,.str g.im,.str g.f0,.str g.f1,.str g.f2,.sl 0 L.length c]),some (.blk (A5 i)),some (.blk [.str [],.str [],.z9,.z9,.z9,.z9,.z9,.z9,.z9,.z9,.z9,.z9,.ff,.ff,.ff,.z9,.z9,.z9,.ff,.sla none 0 0])]) (fun(k:Nat)=>FI L i k) (fun(k:Nat)=>L.length - k) 0 FI.i0 ((A.cut [3,4,5,9,10,11] rfl).trunc 4 rfl rfl rfl (Cj h0 rfl)) fun k CT {G a w} A=>N9 6 A rfl rfl fun A=>Aq 12 A rfl
   (fun h1 A=>N9 14 A rfl (Aj (by have:=CT.le;omega)<|Aj (by have:=CT.le;omega)<|Ah) fun A=>JO By [.agg (Io (L.getD (((k:Int)).toNat) Rw.z)),.agg (A5 i),.agg (A5 ((L.getD (((k:Int)).toNat) Rw.z).lay i)),.agg (A5 i),.bool (O0 ((L.getD (((k:Int)).toNat) Rw.z).lay i) i),.bool (O0 ((L.getD (((k:Int)).toNat) Rw.z).lay i) i),.opt (O0 ((L.getD (((k:Int)).toNat) Rw.z).lay i) i) (.agg (Io (L.getD (((k:Int)).toNat) Rw.z))),.opt (O0 ((L.getD (((k:Int)).toNat) Rw.z).lay i) i) (.agg (A5 i)),.opt (O0 ((L.getD (((k:Int)).toNat) Rw.z).lay i) i) (.bool (Gn (L.getD (((k:Int)).toNat) Rw.z).ps i)),.bool ((O0 ((L.getD (((k:Int)).toNat) Rw.z).lay i) i)&&(Gn (L.getD (((k:Int)).toNat) Rw.z).ps i))] [] [] 0 [([],[],[some (FT L),some (.blk [.str g.r0,.str g.r1,.str g.r2,.str g.r3,.str g.r4,.str g.r5,.str g.r6,.str g.r7,.str g.l0,.str g.l1,.str g.l2,.str g.l3,.str g.im,.str g.f0,.str g.f1,.str g.f2,.sl 0 L.length c]),some (.blk (A5 i)),some (.blk [.str [],.str [],.z9,.z9,.z9,.z9,.z9,.z9,.z9,.z9,.z9,.z9,.ff,.ff,.ff,.z9,.z9,.z9,.ff,.sla none 0 0]),some (.blk (Io (L.getD (((k:Int)).toNat) Rw.z)))])] [[true,true,true,true,true,true,true,true,true,true]] A rfl rfl rfl rfl (by kernel_rfl) rfl (by kernel_rfl) ⟨⟨Ao 0 rfl rfl,⟨Ao 0 rfl rfl,⟨CF 0 rfl (De [] DQ.ok (hI.at (k:=((k:Int)).toNat) (by omega)) (fC (L.getD (((k:Int)).toNat) Rw.z) i (hp _)) rfl rfl rfl rfl rfl rfl rfl),⟨Ao 0 rfl rfl,⟨CF 0 rfl (M8 (x:=.bool (((((L.getD (((k:Int)).toNat) Rw.z).lay i).op)==i.op)&&(((((L.getD (((k:Int)).toNat) Rw.z).lay i).dst)==i.dst)&&(((((L.getD (((k:Int)).toNat) Rw.z).lay i).ra)==i.ra)&&(((((L.getD (((k:Int)).toNat) Rw.z).lay i).rb)==i.rb)&&(((((L.getD (((k:Int)).toNat) Rw.z).lay i).imm)==i.imm)&&(((((L.getD (((k:Int)).toNat) Rw.z).lay i).loc)==i.loc)&&(((((L.getD (((k:Int)).toNat) Rw.z).lay i).off)==i.off)&&(((((L.getD (((k:Int)).toNat) Rw.z).lay i).ix)==i.ix)&&(((((L.getD (((k:Int)).toNat) Rw.z).lay i).sz)==i.sz)&&(((((L.getD (((k:Int)).toNat) Rw.z).lay i).fn)==i.fn)&&(((((L.getD (((k:Int)).toNat) Rw.z).lay i).acq)==i.acq)&&(((((L.getD (((k:Int)).toNat) Rw.z).lay i).weak)==i.weak)&&(((((L.getD (((k:Int)).toNat) Rw.z).lay i).rel)==i.rel)&&(((((L.getD (((k:Int)).toNat) Rw.z).lay i).pred)==i.pred)&&(((((L.getD (((k:Int)).toNat) Rw.z).lay i).succ)==i.succ)&&(((((L.getD (((k:Int)).toNat) Rw.z).lay i).to_)==i.to_)&&((((L.getD (((k:Int)).toNat) Rw.z).lay i).zero)==i.zero)))))))))))))))))) (fun _=>rfl) (BN (X:=⟨_,true⟩) (out:=.val _ _) hX rfl rfl)),⟨Ao 0 rfl rfl,⟨Ao 0 rfl rfl,⟨Ao 0 rfl rfl,⟨CF 0 rfl (Pc DQ.ok (hI.at (k:=((k:Int)).toNat) (by omega)) rfl rfl rfl rfl (fun hg=>YY (L.getD (((k:Int)).toNat) Rw.z) i (hp _))),⟨Ao 0 rfl rfl,trivial⟩⟩⟩⟩⟩⟩⟩⟩⟩⟩,trivial⟩ fun A=>N9 1 A rfl rfl fun A=>fork 24 A rfl
    (fun h2 A=>N9 9 A rfl rfl fun A=>R9 A rfl h0 rfl (by obtain⟨e1,e2⟩:=CT.hit h1 h2;rw [e1,e2];rfl) rfl)
    (fun h2 A=>N9 8 A rfl (Aj (by have:=CT.le;omega)<|Ah) fun A=>⟨k+1,_,(by omega),(CT.nx h1 h2),((A.cut [3,4,5,9,10,11] rfl).trunc 4 rfl rfl rfl (Cj h0 rfl))⟩))
   (fun h1 A=>N9 11 A rfl rfl fun A=>R9 A rfl h0 rfl (by obtain⟨e1,e2⟩:=CT.fi h1;rw [e1,e2];rfl) rfl)
end Go.Proofs.YtbbdanhpphlbpaaGreatDoor
namespace Go.Proofs.YtbbdanhpphlbpaaGreatDoor
open Go.Shelf Go.RowKit
def NT:Go.Shelf.Ren:=⟨fun|129=>241|171=>125|243=>167|246=>208|283=>210|284=>211|285=>212|286=>213|317=>240|318=>242|319=>243|320=>179|337=>214|338=>215|n=>n,fun|0=>0|2=>2|3=>3|4=>4|5=>5|9=>9|20=>20|37=>152|46=>188|51=>226|53=>185|171=>220|173=>223|212=>260|213=>261|232=>262|233=>263|n=>n,fun|17=>1|18=>2|19=>3|n=>n⟩
theorem Vt:Go.Proofs.LaysM.n171 Tryz.prog NT:={
 mixed:=by kernel_rfl
 f129:=Tryz.func241.trans (congrArg some (by kernel_rfl))
 f171:=Tryz.func125.trans (congrArg some (by kernel_rfl))
 f243:=Tryz.func167.trans (congrArg some (by kernel_rfl))
 f246:=Tryz.func208.trans (congrArg some (by kernel_rfl))
 f283:=Tryz.func210.trans (congrArg some (by kernel_rfl))
 f284:=Tryz.func211.trans (congrArg some (by kernel_rfl))
 f285:=Tryz.func212.trans (congrArg some (by kernel_rfl))
 f286:=Tryz.func213.trans (congrArg some (by kernel_rfl))
 f317:=Tryz.func240.trans (congrArg some (by kernel_rfl))
 f318:=Tryz.func242.trans (congrArg some (by kernel_rfl))
 f319:=Tryz.func243.trans (congrArg some (by kernel_rfl))
 f320:=Tryz.func179.trans (congrArg some (by kernel_rfl))
 f337:=Tryz.func214.trans (congrArg some (by kernel_rfl))
 f338:=Tryz.func215.trans (congrArg some (by kernel_rfl))
 t0:=Tryz.underlying0
 a0:=Tryz.isAgg0
 z0:=Tryz.sizeOf0
 v0:=Tryz.zeroValue0
 t2:=Tryz.underlying2
 a2:=Tryz.isAgg2
 z2:=Tryz.sizeOf2
 v2:=Tryz.zeroValue2
 t3:=Tryz.underlying3
 a3:=Tryz.isAgg3
 z3:=Tryz.sizeOf3
 v3:=Tryz.zeroValue3
 t4:=Tryz.underlying4
 a4:=Tryz.isAgg4
 z4:=Tryz.sizeOf4
 v4:=Tryz.zeroValue4
 t5:=Tryz.underlying5
 a5:=Tryz.isAgg5
 z5:=Tryz.sizeOf5
 v5:=Tryz.zeroValue5
 t9:=Tryz.underlying9
 a9:=Tryz.isAgg9
 z9:=Tryz.sizeOf9
 v9:=Tryz.zeroValue9
 t20:=Tryz.underlying20
 a20:=Tryz.isAgg20
 z20:=Tryz.sizeOf20
 v20:=Tryz.zeroValue20
 t37:=Tryz.underlying152
 a37:=Tryz.isAgg152
 z37:=Tryz.sizeOf152
 v37:=Tryz.zeroValue152
 t46:=Tryz.underlying188
 a46:=Tryz.isAgg188
 z46:=Tryz.sizeOf188
 v46:=Tryz.zeroValue188
 t51:=Tryz.underlying226
 a51:=Tryz.isAgg226
 z51:=Tryz.sizeOf226
 v51:=Tryz.zeroValue226
 t53:=Tryz.underlying185
 a53:=Tryz.isAgg185
 z53:=Tryz.sizeOf185
 v53:=Tryz.zeroValue185
 t171:=Tryz.underlying220
 a171:=Tryz.isAgg220
 z171:=Tryz.sizeOf220
 v171:=Tryz.zeroValue220
 t173:=Tryz.underlying223
 a173:=Tryz.isAgg223
 z173:=Tryz.sizeOf223
 v173:=Tryz.zeroValue223
 t212:=Tryz.underlying260
 a212:=Tryz.isAgg260
 z212:=Tryz.sizeOf260
 v212:=Tryz.zeroValue260
 t213:=Tryz.underlying261
 a213:=Tryz.isAgg261
 z213:=Tryz.sizeOf261
 t232:=Tryz.underlying262
 a232:=Tryz.isAgg262
 z232:=Tryz.sizeOf262
 v232:=Tryz.zeroValue262
 t233:=Tryz.underlying263
 a233:=Tryz.isAgg263
 z233:=Tryz.sizeOf263
 v233:=Tryz.zeroValue263
 g17:=by kernel_rfl
 g18:=by kernel_rfl
 g19:=by kernel_rfl
 i0:=by kernel_rfl
 i2:=by kernel_rfl
 i3:=by kernel_rfl
 i4:=by kernel_rfl
 i5:=by kernel_rfl
 i9:=by kernel_rfl
 i20:=by kernel_rfl
 i37:=by kernel_rfl
 i46:=by kernel_rfl
 i51:=by kernel_rfl
 i53:=by kernel_rfl
 i171:=by kernel_rfl
 i173:=by kernel_rfl
 i212:=by kernel_rfl
 i232:=by kernel_rfl
 i233:=by kernel_rfl
 m17:=by kernel_rfl
 m18:=by kernel_rfl
 m19:=by kernel_rfl}
theorem Vu (n:Int)(h0: -9223372036854775808≤n)(h1:n≤9223372036854775807)(w:World)(J4:Lib.TabIs Tryz.prog w "internal/strconv.uint64pow10" .u64 Lib.pow10Tab):Calls Tryz.prog 125 #[.int .i64 n] w fun e w'=>e=.returned (.string (S (Lib.itoa n)))∧CI w w':=by
 refine(Any.strconv_Itoa Vt n h0 h1 w J4).mono ?_
 rintro e w' ⟨rfl,k,os,rfl⟩
 refine⟨rfl,⟨rfl,rfl,rfl,?_,fun j hj=>?_⟩⟩
 ·show w.heap.size≤((w.drewN k).heap++os).size
  rw [Array.size_append]
  exact υ0 _ _
 ·show((w.drewN k).heap++os)[j]?=w.heap[j]?
  exact Array.getElem?_append_left hj
def Ip:Go.Shelf.Ren:=⟨fun|138=>259|143=>152|154=>226|165=>229|166=>230|169=>231|195=>282|197=>260|217=>233|218=>283|219=>203|224=>235|225=>234|240=>262|241=>263|260=>284|266=>264|267=>236|276=>285|277=>286|314=>265|n=>n,fun|0=>0|3=>3|4=>4|5=>5|9=>9|20=>20|21=>21|37=>152|46=>188|51=>226|70=>242|72=>244|75=>215|76=>245|105=>274|119=>302|127=>277|138=>304|139=>305|146=>278|164=>293|80=>50|n=>n,fun|1=>0|3=>6|4=>7|n=>n⟩
theorem Vv:Go.Proofs.Lays.n154 Tryz.prog Ip:={
 mixed:=by kernel_rfl
 f138:=Tryz.func259.trans (congrArg some (by kernel_rfl))
 f143:=Tryz.func152.trans (congrArg some (by kernel_rfl))
 f154:=Tryz.func226.trans (congrArg some (by kernel_rfl))
 f165:=Tryz.func229.trans (congrArg some (by kernel_rfl))
 f166:=Tryz.func230.trans (congrArg some (by kernel_rfl))
 f169:=Tryz.func231.trans (congrArg some (by kernel_rfl))
 f195:=Tryz.func282.trans (congrArg some (by kernel_rfl))
 f197:=Tryz.func260.trans (congrArg some (by kernel_rfl))
 f217:=Tryz.func233.trans (congrArg some (by kernel_rfl))
 f218:=Tryz.func283.trans (congrArg some (by kernel_rfl))
 f219:=Tryz.func203.trans (congrArg some (by kernel_rfl))
 f224:=Tryz.func235.trans (congrArg some (by kernel_rfl))
 f225:=Tryz.func234.trans (congrArg some (by kernel_rfl))
 f240:=Tryz.func262.trans (congrArg some (by kernel_rfl))
 f241:=Tryz.func263.trans (congrArg some (by kernel_rfl))
 f260:=Tryz.func284.trans (congrArg some (by kernel_rfl))
 f266:=Tryz.func264.trans (congrArg some (by kernel_rfl))
 f267:=Tryz.func236.trans (congrArg some (by kernel_rfl))
 f276:=Tryz.func285.trans (congrArg some (by kernel_rfl))
 f277:=Tryz.func286.trans (congrArg some (by kernel_rfl))
 f314:=Tryz.func265.trans (congrArg some (by kernel_rfl))
 t0:=Tryz.underlying0
 a0:=Tryz.isAgg0
 z0:=Tryz.sizeOf0
 v0:=Tryz.zeroValue0
 t3:=Tryz.underlying3
 a3:=Tryz.isAgg3
 z3:=Tryz.sizeOf3
 v3:=Tryz.zeroValue3
 t4:=Tryz.underlying4
 a4:=Tryz.isAgg4
 z4:=Tryz.sizeOf4
 v4:=Tryz.zeroValue4
 t5:=Tryz.underlying5
 a5:=Tryz.isAgg5
 z5:=Tryz.sizeOf5
 v5:=Tryz.zeroValue5
 t9:=Tryz.underlying9
 a9:=Tryz.isAgg9
 z9:=Tryz.sizeOf9
 v9:=Tryz.zeroValue9
 t20:=Tryz.underlying20
 a20:=Tryz.isAgg20
 z20:=Tryz.sizeOf20
 v20:=Tryz.zeroValue20
 t21:=Tryz.underlying21
 a21:=Tryz.isAgg21
 z21:=Tryz.sizeOf21
 v21:=Tryz.zeroValue21
 t37:=Tryz.underlying152
 a37:=Tryz.isAgg152
 z37:=Tryz.sizeOf152
 v37:=Tryz.zeroValue152
 t46:=Tryz.underlying188
 a46:=Tryz.isAgg188
 z46:=Tryz.sizeOf188
 v46:=Tryz.zeroValue188
 t51:=Tryz.underlying226
 a51:=Tryz.isAgg226
 z51:=Tryz.sizeOf226
 v51:=Tryz.zeroValue226
 t70:=Tryz.underlying242
 a70:=Tryz.isAgg242
 z70:=Tryz.sizeOf242
 v70:=Tryz.zeroValue242
 t72:=Tryz.underlying244
 a72:=Tryz.isAgg244
 z72:=Tryz.sizeOf244
 v72:=Tryz.zeroValue244
 t75:=Tryz.underlying215
 a75:=Tryz.isAgg215
 z75:=Tryz.sizeOf215
 v75:=Tryz.zeroValue215
 t76:=Tryz.underlying245
 a76:=Tryz.isAgg245
 z76:=Tryz.sizeOf245
 v76:=Tryz.zeroValue245
 t105:=Tryz.underlying274
 a105:=Tryz.isAgg274
 z105:=Tryz.sizeOf274
 v105:=Tryz.zeroValue274
 t119:=Tryz.underlying302
 a119:=Tryz.isAgg302
 z119:=Tryz.sizeOf302
 t127:=Tryz.underlying277
 a127:=Tryz.isAgg277
 z127:=Tryz.sizeOf277
 v127:=Tryz.zeroValue277
 t138:=Tryz.underlying304
 a138:=Tryz.isAgg304
 z138:=Tryz.sizeOf304
 v138:=Tryz.zeroValue304
 t139:=Tryz.underlying305
 a139:=Tryz.isAgg305
 z139:=Tryz.sizeOf305
 v139:=Tryz.zeroValue305
 t146:=Tryz.underlying278
 a146:=Tryz.isAgg278
 z146:=Tryz.sizeOf278
 v146:=Tryz.zeroValue278
 t164:=Tryz.underlying293
 a164:=Tryz.isAgg293
 z164:=Tryz.sizeOf293
 v164:=Tryz.zeroValue293
 g1:=by kernel_rfl
 g3:=by kernel_rfl
 g4:=by kernel_rfl}
theorem TD:Go.Proofs.Builder.Extra Tryz.prog Ip where
 sizeBuilder:=by kernel_rfl
 liesBuilder:=by kernel_rfl
 t5:=Tryz.underlying5
 a5:=Tryz.isAgg5
 z5:=Tryz.sizeOf5
 v5:=Tryz.zeroValue5
 infoByte:=by kernel_rfl
 cellsByte:=by kernel_rfl
 sizeByte:=by kernel_rfl
 neB5:=by decide
theorem O1 (l o q:List UInt8)(n m:Int)(w:World)(hl:l.length≤1000)(ho:1≤o.length)(hq:q.length≤1000)(hc:Lib.countB (S l) (S o)≤1000)(hm:w.cell? ⟨0,0,none⟩=some (.int .i64 m)):Calls Tryz.prog 226 #[.string (S l),.string (S o),.string (S q),.int .i64 n] w fun e w'=>e=.returned (.string (S (Lib.replace l o q n)))∧CI w w':=by
 have hmul:Lib.countB (S l) (S o)*(S q).size≤1000*1000:=ν7 hc (by rw [DV];exact hq)
 refine(Any.strings_Replace Vv TD (S l) (S o) (S q) n m w (by rw [DV];omega) hm (by rw [DV];omega) (by rw [DV];omega)).mono ?_
 rintro e w' ⟨rfl,hb⟩
 exact⟨by rw [FN,FN,FN];rfl,hb⟩
end Go.Proofs.YtbbdanhpphlbpaaGreatDoor
namespace Go.Proofs.YtbbdanhpphlbpaaGreatDoor
open Go.RowKit
set_option simprocs false
abbrev _root_.Go.Proofs.YtbbdanhpphlbpaaGreatDoor.NU (os:List (Nat×Obj)):Prop:=∀w ks,Gl os w ks→Lib.TabIs Tryz.prog w "internal/strconv.uint64pow10" .u64 Lib.pow10Tab
theorem P6 (v:Int)(os:List (Nat×Obj))(hM:LR os)(hT:NU os)(h0: -9223372036854775808≤v)(h1:v≤9223372036854775807):CE (Gl os) Tryz.prog 125 [.int .i64 v] [] (Rt (.str (Lib.itoa v)) []):=IT (by kernel_rfl) rfl rfl fun w ks h=>Vu v h0 h1 w (hT w ks h)
theorem fE (l q r:List UInt8)(n:Int)(os:List (Nat×Obj))(hM:LR os)(hT:NU os)(hl:l.length≤1000)(ho:1≤q.length)(hq:r.length≤1000)(hc:Lib.countB (S l) (S q)≤1000):CE (Gl os) Tryz.prog 226 [.str l,.str q,.str r,.int .i64 n] [] (Rt (.str (Lib.replace l q r n)) []):=IT (by kernel_rfl) rfl rfl fun w ks h=>by
 obtain⟨m,hm⟩:=hM w ks h
 exact O1 l q r n m w hl ho hq hc hm
def GH (s0 s1 s2 s3 s4 s5 s6 s7:List UInt8)(r:Int):List UInt8:=if((decide (r<0))||(decide (r≥8)))=true then []else [s0,s1,s2,s3,s4,s5,s6,s7].getD (r).toNat []
theorem P7 (s0 s1 s2 s3 s4 s5 s6 s7:List UInt8)(r:Int):Fn Tryz.prog 145 [.agg [.str s0,.str s1,.str s2,.str s3,.str s4,.str s5,.str s6,.str s7],.int .i64 r] [] (Rt (.str (GH s0 s1 s2 s3 s4 s5 s6 s7 r)) []):=
 Am (n:=14) (by kernel_rfl) Tryz.func145 rfl rfl rfl fun G w a h0 A=>N9 17 A rfl rfl fun A=>fork 10 A rfl
  (fun h1 A=>N9 7 A rfl rfl fun A=>R9 A rfl h0 rfl (by simp only [BA,nb,CK,CC,GH,if_pos h1]) rfl)
  (fun h1 A=>N9 12 A rfl (Aj (by have hz:=h1;simp only [δ6,δ9]at hz;omega)<|Aj (by have hz:=h1;simp only [δ6,δ9]at hz;omega)<|Ah) fun A=>R9 A rfl h0 rfl (by simp only [BA,nb,CK,CC,GH,if_neg (α8 h1)]) rfl)
def Vw (sz:Int):Nat:=if sz=1 then 0 else if sz=2 then 1 else if sz=4 then 2 else if sz=8 then 3 else 4
def Lg.let (g:Lg):List (List UInt8):=[g.l0,g.l1,g.l2,g.l3]
def GO (g:Lg)(nm:List UInt8)(sz:Int):List UInt8:=if Vw sz<4 then Lib.replace nm [42] (g.let.getD (Vw sz) []) 1 else nm
structure NK (sz:Int)(k:Nat):Prop where
 le:k≤4
 ge:k≤Vw sz
section
variable {g:Lg}{nm:List UInt8}{sz:Int}{k:Nat}
theorem fF (k:Nat)(hk:k<4)(h:sz=IntKind.wrap .i64 (1*2^min ((k:Int)).toNat (IntKind.bits .i64))):Vw sz=k:=by
 have:k=0∨k=1∨k=2∨k=3:=by omega
 rcases this with rfl|rfl|rfl|rfl<;>(subst h;decide)
theorem NK.i0:NK sz 0:=⟨by omega,by omega⟩
theorem NK.nx (hI:NK sz k)(h1:(k:Int)<4)(h:sz≠IntKind.wrap .i64 (1*2^min ((k:Int)).toNat (IntKind.bits .i64))):NK sz (k+1):=by
 have hg:=hI.ge
 refine⟨by omega,?_⟩
 rcases Nat.lt_or_ge k (Vw sz)with h2|h2
 ·exact h2
 ·exfalso
  have he:Vw sz=k:=by omega
  have:k=0∨k=1∨k=2∨k=3:=by omega
  apply h
  unfold Vw at he
  rcases this with rfl|rfl|rfl|rfl
  all_goals
   split at he
   ·next e=>first|(rw [e];decide)|omega
   ·split at he
    ·next e=>first|(rw [e];decide)|omega
    ·split at he
     ·next e=>first|(rw [e];decide)|omega
     ·split at he
      ·next e=>first|(rw [e];decide)|omega
      ·omega
theorem NK.hit (hI:NK sz k)(h1:(k:Int)<4)(h:sz=IntKind.wrap .i64 (1*2^min ((k:Int)).toNat (IntKind.bits .i64))):GO g nm sz=Lib.replace nm [42] ([g.l0,g.l1,g.l2,g.l3].getD ((k:Int)).toNat []) 1:=by
 have e:=fF (sz:=sz) k (by omega) h
 unfold GO
 rw [e,if_pos (by omega),β5];rfl
theorem NK.fi (hI:NK sz k)(h1:¬(k:Int)<4):GO g nm sz=nm:=by
 unfold GO;have:=hI.ge;rw [if_neg (by omega)]
end
theorem Rv (g:Lg)(L:List Rw)(c:Nat)(r:Rw)(sz:Int)(os:List (Nat×Obj))(hM:LR os)(hT:NU os)(qZ:r.nm.length≤1000∧Lib.countB (S r.nm) (S [42])≤1000)(xP:∀k,([g.l0,g.l1,g.l2,g.l3].getD k []).length≤1000):CE (Gl os) Tryz.prog 190 [.agg [.str g.r0,.str g.r1,.str g.r2,.str g.r3,.str g.r4,.str g.r5,.str g.r6,.str g.r7,.str g.l0,.str g.l1,.str g.l2,.str g.l3,.str g.im,.str g.f0,.str g.f1,.str g.f2,.sl 0 L.length c],.agg (Io r),.int .i64 sz] [some (FT L)] (Rt (.str (GO g r.nm sz)) [some (FT L)]):=
 BB (n:=26) (by kernel_rfl) Tryz.func190 rfl rfl rfl fun G w a h0 hI A=>N9 16 A rfl rfl fun A=>B7 (fun(k:Nat)=>[(2,.int .i64 sz),(4,.ptr 2 0),(6,.str []),(10,.agg [.str g.l0,.str g.l1,.str g.l2,.str g.l3]),(11,.int .i64 (k:Int))]) (fun(k:Nat)=>[some (FT L),some (.blk [.str g.r0,.str g.r1,.str g.r2,.str g.r3,.str g.r4,.str g.r5,.str g.r6,.str g.r7,.str g.l0,.str g.l1,.str g.l2,.str g.l3,.str g.im,.str g.f0,.str g.f1,.str g.f2,.sl 0 L.length c]),some (.blk (Io r))]) (fun(k:Nat)=>NK sz k) (fun(k:Nat)=>4 - k) 0 NK.i0 ((A.cut [2,4,6,10,11] rfl).trunc 3 rfl rfl rfl (Cj h0 rfl)) fun k CT {G a w} A=>N9 6 A rfl rfl fun A=>Aq 12 A rfl
   (fun h1 A=>N9 14 A rfl (Aj (by have:=CT.le;omega)<|Ah) fun A=>N9 7 A rfl (Aj (by have:=CT.le;omega)<|Ah) fun A=>Au 18 A rfl
    (fun h2 A=>N9 6 A rfl rfl fun A=>I9 [] Gl.ok hI (fE r.nm [42] ([g.l0,g.l1,g.l2,g.l3].getD ((k:Int)).toNat []) 1 os hM hT qZ.1 (by decide) (xP _) qZ.2) A rfl fun A=>N9 4 A rfl rfl fun A=>R9 A rfl h0 rfl (by rw [CT.hit h1 h2];rfl) rfl)
    (fun h2 A=>N9 8 A rfl (Aj (by have:=CT.le;omega)<|Ah) fun A=>⟨k+1,_,(by omega),(CT.nx h1 h2),((A.cut [2,4,6,10,11] rfl).trunc 3 rfl rfl rfl (Cj h0 rfl))⟩))
   (fun h1 A=>N9 11 A rfl rfl fun A=>R9 A rfl h0 rfl (by rw [CT.fi h1];rfl) rfl)
theorem aH:Fn Tryz.prog 261 [] [] (Rt (.sl 0 3 3) [some (.blk [.str [120],.str [121],.str [122]])]):=
 Am (n:=2) (by kernel_rfl) Tryz.func261 rfl rfl rfl fun G w a h0 A=>N9 12 A rfl rfl fun A=>Ns hX [0] A ⟨rfl,rfl⟩ rfl rfl rfl rfl rfl rfl rfl rfl h0
def fG (i:In):List UInt8:=[91]++([[120],[121],[122]].getD (i.loc).toNat [])
def P8 (i:In):List UInt8:=if i.off≠0 then fG i++([43]++Lib.itoa i.off)else fG i
def O2 (g:Lg)(i:In):List UInt8:=(if i.ix≠ -1 then P8 i++([43]++GH g.r0 g.r1 g.r2 g.r3 g.r4 g.r5 g.r6 g.r7 i.ix)else P8 i)++[93]
def JR (g:Lg)(r:Rw)(p:Int)(i:In)(lb:List UInt8):List UInt8:=
 if(F8 p i).2=true then GH g.r0 g.r1 g.r2 g.r3 g.r4 g.r5 g.r6 g.r7 (F8 p i).1 else
 if p=5 then g.im++Lib.itoa i.imm else
 if p=6 then O2 g i else
 if p=8 then [g.f0,g.f1,g.f2].getD (i.pred - 1).toNat []else
 if p=9 then [g.f0,g.f1,g.f2].getD (i.succ - 1).toNat []else
 if p=10 then r.wd else lb
structure YZ (g:Lg):Prop where
 rg:∀r,(GH g.r0 g.r1 g.r2 g.r3 g.r4 g.r5 g.r6 g.r7 r).length≤1000
 im:g.im.length≤1000
structure fH (i:In):Prop where
 lc:0≤i.loc∧i.loc<3
 of_: -9223372036854775808≤i.off∧i.off≤9223372036854775807
theorem E6 (g:Int)(h:0≤g∧g<3):([[120],[121],[122]].getD (g).toNat ([]:List UInt8)).length≤1:=by
 have:(g).toNat=0∨(g).toNat=1∨(g).toNat=2:=by omega
 rcases this with e|e|e<;>rw [e]<;>decide
theorem oA (g:Lg)(L:List Rw)(c:Nat)(i:In)(os:List (Nat×Obj))(hM:LR os)(hT:NU os)(hg:YZ g)(hi:fH i):CE (Gl os) Tryz.prog 228 [.agg [.str g.r0,.str g.r1,.str g.r2,.str g.r3,.str g.r4,.str g.r5,.str g.r6,.str g.r7,.str g.l0,.str g.l1,.str g.l2,.str g.l3,.str g.im,.str g.f0,.str g.f1,.str g.f2,.sl 0 L.length c],.agg (A5 i)] [some (FT L)] (Rt (.str (O2 g i)) [some (FT L)]):=
 BB (n:=34) (by kernel_rfl) Tryz.func228 rfl rfl rfl fun G w a h0 hI A=>N9 8 A rfl rfl fun A=>Ba hX By [] [(0,.sl 3 3 3,[some (FT L),some (.blk [.str g.r0,.str g.r1,.str g.r2,.str g.r3,.str g.r4,.str g.r5,.str g.r6,.str g.r7,.str g.l0,.str g.l1,.str g.l2,.str g.l3,.str g.im,.str g.f0,.str g.f1,.str g.f2,.sl 0 L.length c]),some (.blk (A5 i)),some (.blk [.str [120],.str [121],.str [122]])])] A rfl (Aj (by have q1:=hi.lc;have q2:=hi.of_;omega)<|Aj (by have q1:=hi.lc;have q2:=hi.of_;omega)<|Aj (by have q1:=hg.rg i.ix;have q2:=Lib.itoa_length_le i.off hi.of_.1 hi.of_.2;have q3:=E6 i.loc hi.lc;(try simp only [α4,α5,α7]);omega)<|Ah) rfl rfl (by kernel_rfl) ⟨ED [] aH rfl rfl rfl rfl rfl rfl rfl,trivial⟩ trivial fun A=>N9 9 A rfl rfl fun A=>EZ 14 A rfl
  (fun h1 A=>N9 5 A rfl rfl fun A=>I9 [] Gl.ok hI (P6 i.off os hM hT (by have q1:=hi.lc;have q2:=hi.of_;omega) (by have q1:=hi.lc;have q2:=hi.of_;omega)) A rfl fun A=>N9 7 A rfl (Aj (by have q1:=hg.rg i.ix;have q2:=Lib.itoa_length_le i.off hi.of_.1 hi.of_.2;have q3:=E6 i.loc hi.lc;(try simp only [α4,α5,α7]);omega)<|Aj (by have q1:=hg.rg i.ix;have q2:=Lib.itoa_length_le i.off hi.of_.1 hi.of_.2;have q3:=E6 i.loc hi.lc;(try simp only [α4,α5,α7]);omega)<|Ah) fun A=>N9 6 A rfl rfl fun A=>EZ 23 A rfl
   (fun h2 A=>N9 7 A rfl rfl fun A=>C9 [] (P7 g.r0 g.r1 g.r2 g.r3 g.r4 g.r5 g.r6 g.r7 i.ix) A rfl fun A=>N9 6 A rfl (Aj (by have q1:=hg.rg i.ix;have q2:=Lib.itoa_length_le i.off hi.of_.1 hi.of_.2;have q3:=E6 i.loc hi.lc;(try simp only [α4,α5,α7]);omega)<|Aj (by have q1:=hg.rg i.ix;have q2:=Lib.itoa_length_le i.off hi.of_.1 hi.of_.2;have q3:=E6 i.loc hi.lc;(try simp only [α4,α5,α7]);omega)<|Ah) fun A=>N9 7 A rfl (Aj (by have q1:=hg.rg i.ix;have q2:=Lib.itoa_length_le i.off hi.of_.1 hi.of_.2;have q3:=E6 i.loc hi.lc;(try simp only [α4,α5,α7]);omega)<|Ah) fun A=>R9 A rfl h0 rfl (by unfold O2 P8;rw [if_pos h2,if_pos h1];rfl) rfl)
   (fun h2 A=>N9 11 A rfl (Aj (by have q1:=hg.rg i.ix;have q2:=Lib.itoa_length_le i.off hi.of_.1 hi.of_.2;have q3:=E6 i.loc hi.lc;(try simp only [α4,α5,α7]);omega)<|Ah) fun A=>R9 A rfl h0 rfl (by unfold O2 P8;rw [if_neg (fun z=>z h2),if_pos h1];rfl) rfl))
  (fun h1 A=>N9 11 A rfl rfl fun A=>EZ 23 A rfl
   (fun h3 A=>N9 7 A rfl rfl fun A=>C9 [] (P7 g.r0 g.r1 g.r2 g.r3 g.r4 g.r5 g.r6 g.r7 i.ix) A rfl fun A=>N9 6 A rfl (Aj (by have q1:=hg.rg i.ix;have q2:=Lib.itoa_length_le i.off hi.of_.1 hi.of_.2;have q3:=E6 i.loc hi.lc;(try simp only [α4,α5,α7]);omega)<|Aj (by have q1:=hg.rg i.ix;have q2:=Lib.itoa_length_le i.off hi.of_.1 hi.of_.2;have q3:=E6 i.loc hi.lc;(try simp only [α4,α5,α7]);omega)<|Ah) fun A=>N9 7 A rfl (Aj (by have q1:=hg.rg i.ix;have q2:=Lib.itoa_length_le i.off hi.of_.1 hi.of_.2;have q3:=E6 i.loc hi.lc;(try simp only [α4,α5,α7]);omega)<|Ah) fun A=>R9 A rfl h0 rfl (by unfold O2 P8;rw [if_pos h3,if_neg (fun z=>z h1)];rfl) rfl)
   (fun h3 A=>N9 11 A rfl (Aj (by have q1:=hg.rg i.ix;have q2:=Lib.itoa_length_le i.off hi.of_.1 hi.of_.2;have q3:=E6 i.loc hi.lc;(try simp only [α4,α5,α7]);omega)<|Ah) fun A=>R9 A rfl h0 rfl (by unfold O2 P8;rw [if_neg (fun z=>z h3),if_neg (fun z=>z h1)];rfl) rfl))
theorem oB (g:Lg)(L:List Rw)(c:Nat)(r:Rw)(p:Int)(i:In)(lb:List UInt8)(os:List (Nat×Obj))(hM:LR os)(hT:NU os)(hg:YZ g)(hv: -9223372036854775808≤i.imm∧i.imm≤9223372036854775807)(hi6:p=6→fH i)(xQ:p=8→1≤i.pred∧i.pred≤3)(xR:p=9→1≤i.succ∧i.succ≤3):CE (Gl os) Tryz.prog 191 [.agg [.str g.r0,.str g.r1,.str g.r2,.str g.r3,.str g.r4,.str g.r5,.str g.r6,.str g.r7,.str g.l0,.str g.l1,.str g.l2,.str g.l3,.str g.im,.str g.f0,.str g.f1,.str g.f2,.sl 0 L.length c],.agg (Io r),.int .i64 p,.agg (A5 i),.str lb] [some (FT L)] (Rt (.str (JR g r p i lb)) [some (FT L)]):=
 BB (n:=59) (by kernel_rfl) Tryz.func191 rfl rfl rfl fun G w a h0 hI A=>N9 13 A rfl rfl fun A=>C9 [] (Zb p i) A rfl fun A=>N9 12 A rfl rfl fun A=>fork 19 A rfl
  (fun h1 A=>N9 6 A rfl rfl fun A=>C9 [] (P7 g.r0 g.r1 g.r2 g.r3 g.r4 g.r5 g.r6 g.r7 ((F8 p i).1)) A rfl fun A=>N9 4 A rfl rfl fun A=>R9 A rfl h0 rfl (by unfold JR;rw [if_pos h1];rfl) rfl)
  (fun h1 A=>N9 16 A rfl rfl fun A=>Au 25 A rfl
   (fun h2 A=>N9 2 A rfl rfl fun A=>JO By [.ptr 1 12,.str g.im,.ptr 3 4,.int .i64 i.imm,.str (Lib.itoa i.imm),.str (g.im++(Lib.itoa i.imm)),.str (g.im++(Lib.itoa i.imm))] [] [] 0 [([],[],[some (FT L),some (.blk [.str g.r0,.str g.r1,.str g.r2,.str g.r3,.str g.r4,.str g.r5,.str g.r6,.str g.r7,.str g.l0,.str g.l1,.str g.l2,.str g.l3,.str g.im,.str g.f0,.str g.f1,.str g.f2,.sl 0 L.length c]),some (.blk (Io r)),some (.blk (A5 i))])] [[true,true,true,true,true,true,true]] A rfl rfl rfl rfl (by kernel_rfl) rfl (by kernel_rfl) ⟨⟨Ao 0 rfl rfl,⟨Ao 0 rfl rfl,⟨Ao 0 rfl rfl,⟨Ao 0 rfl rfl,⟨CF 0 rfl (De [] Gl.ok hI (P6 i.imm os hM hT (by have q0:=hv;omega) (by have q0:=hv;omega)) rfl rfl rfl rfl rfl rfl rfl),⟨Ao 0 rfl (Aj (by have q0:=hv;have q1:=hg.im;have q2:=Lib.itoa_length_le i.imm hv.1 hv.2;(try simp only [α4,α5,α7]);omega)<|Ah),⟨Ao 0 rfl rfl,trivial⟩⟩⟩⟩⟩⟩⟩,trivial⟩ fun A=>N9 2 A rfl rfl fun A=>R9 A rfl h0 rfl (by unfold JR;rw [if_neg (by rw [h1];decide),if_pos h2];rfl) rfl)
   (fun h2 A=>N9 7 A rfl rfl fun A=>Au 33 A rfl
    (fun h3 A=>N9 5 A rfl rfl fun A=>I9 [0] Gl.ok hI (oA g L c i os hM hT hg (hi6 h3)) A rfl fun A=>N9 4 A rfl rfl fun A=>R9 A rfl h0 rfl (by unfold JR;rw [if_neg (by rw [h1];decide),if_neg h2,if_pos h3];rfl) rfl)
    (fun h3 A=>N9 7 A rfl rfl fun A=>Au 38 A rfl
     (fun h4 A=>N9 13 A rfl (Aj (by have q0:=hv;have q8:=xQ h4;omega)<|Aj (by have q0:=hv;have q8:=xQ h4;omega)<|Aj (by have q0:=hv;have q8:=xQ h4;omega)<|Ah) fun A=>R9 A rfl h0 rfl (by unfold JR;rw [if_neg (by rw [h1];decide),if_neg h2,if_neg h3,if_pos h4];rfl) rfl)
     (fun h4 A=>N9 7 A rfl rfl fun A=>Au 46 A rfl
      (fun h5 A=>N9 13 A rfl (Aj (by have q0:=hv;have q9:=xR h5;omega)<|Aj (by have q0:=hv;have q9:=xR h5;omega)<|Aj (by have q0:=hv;have q9:=xR h5;omega)<|Ah) fun A=>R9 A rfl h0 rfl (by unfold JR;rw [if_neg (by rw [h1];decide),if_neg h2,if_neg h3,if_neg h4,if_pos h5];rfl) rfl)
      (fun h5 A=>N9 7 A rfl rfl fun A=>Au 54 A rfl
       (fun h6 A=>N9 9 A rfl rfl fun A=>R9 A rfl h0 rfl (by unfold JR;rw [if_neg (by rw [h1];decide),if_neg h2,if_neg h3,if_neg h4,if_neg h5,if_pos h6];rfl) rfl)
       (fun h6 A=>N9 11 A rfl rfl fun A=>R9 A rfl h0 rfl (by unfold JR;rw [if_neg (by rw [h1];decide),if_neg h2,if_neg h3,if_neg h4,if_neg h5,if_neg h6];rfl) rfl))))))
abbrev Rx (g:Lg)(n c:Nat)(i:In)(lb:List UInt8)(ap rp:Nat):List SV:=.ptr ap 0::.str g.r0::.str g.r1::.str g.r2::.str g.r3::.str g.r4::.str g.r5::.str g.r6::.str g.r7::.str g.l0::.str g.l1::.str g.l2::.str g.l3::.str g.im::.str g.f0::.str g.f1::.str g.f2::.sl rp n c::.int .i64 i.op::.int .i64 i.dst::.int .i64 i.ra::.int .i64 i.rb::.int .i64 i.imm::.int .i64 i.loc::.int .i64 i.off::.int .i64 i.ix::.int .i64 i.sz::.int .i64 i.fn::.bool i.acq::.bool i.weak::.bool i.rel::.int .i64 i.pred::.int .i64 i.succ::.int .i64 i.to_::.bool i.zero::.str lb::[]
structure Ps where (ins:In) (lab:List UInt8) (e a:Int) (p:Nat)
def Ps.as (s:Ps):As:=⟨s.p,s.e,s.a⟩
def Ps.wa (s:Ps)(t:As):Ps:=⟨s.ins,s.lab,t.e,t.a,t.p⟩
def GI (ls:List (List UInt8))(q:List UInt8):Int:=match(List.range ls.length).find? (fun j=>q==ls.getD j [])with|some j=>(j:Int)|none=> -1
structure TE (ls:List (List UInt8))(q:List UInt8)(k:Nat):Prop where
 le:k≤ls.length
 no:∀j,j<k→(q==ls.getD j [])=false
section
variable {ls:List (List UInt8)}{q:List UInt8}{k:Nat}
theorem TE.i0:TE ls q 0:=⟨β8 _,fun j h=>by omega⟩
theorem TE.nx (hI:TE ls q k)(hk:k<ls.length)(h:(q==ls.getD k [])=false):TE ls q (k+1):=⟨hk,fun j hj=>by
 by_cases e:j=k
 ·subst e;exact h
 ·exact hI.no j (by omega)⟩
theorem TE.hit (hI:TE ls q k)(hk:k<ls.length)(h:(q==ls.getD k [])=true):GI ls q=(k:Int):=by
 unfold GI
 have:(List.range ls.length).find? (fun j=>q==ls.getD j [])=some k:=by
  rw [κ7]
  exact⟨h,by simpa using hk,fun j hj=>by have:=hI.no j hj;rw [this];rfl⟩
 rw [this]
theorem TE.fi (hI:TE ls q k)(hk:ls.length≤k):GI ls q= -1:=by
 unfold GI
 have:(List.range ls.length).find? (fun j=>q==ls.getD j [])=none:=by
  rw [ι8]
  intro j hj
  have:=hI.no j (by have:=ε8.1 hj;omega)
  rw [this];decide
 rw [this]
end
def ML (ws:List Tk)(s:As)(ls:List (List UInt8)):Int:=if(ws.getD s.p BH).kind=1 then(if GI ls (ws.getD s.p BH).text<0 then -1 else GI ls (ws.getD s.p BH).text)else -1
def Du (ws:List Tk)(s:As)(ls:List (List UInt8)):As:=if(ws.getD s.p BH).kind=1 then(if GI ls (ws.getD s.p BH).text<0 then GW ws s 21 else n9 s (YU ws s.p))else GW ws s 22
section
variable {ws:List Tk}{s:As}{ls:List (List UInt8)}
theorem DR (h:s.p≤ws.length):(Du ws s ls).p≤ws.length:=by
 unfold Du;split
 ·split
  ·rw [H6];exact h
  ·exact K8 h
 ·rw [H6];exact h
end
theorem oC (g:Lg)(L:List Rw)(c:Nat)(ws:List Tk)(cw:Nat)(s:Ps)(q:List UInt8):Fn Tryz.prog 290 [.sp (.ptr 0 1) 8 8,.str q] [some (.blk (Rx g L.length c s.ins s.lab 1 4)),some (.blk [.ptr 2 0,.int .i64 s.e,.int .i64 s.a]),some (.blk [.sl 3 ws.length cw,.int .i64 ((s.p:Nat):Int)]),some (Fj ws),some (FT L)] (Rt (.int .i64 (GI [g.r0,g.r1,g.r2,g.r3,g.r4,g.r5,g.r6,g.r7] q)) [some (.blk (Rx g L.length c s.ins s.lab 1 4)),some (.blk [.ptr 2 0,.int .i64 s.e,.int .i64 s.a]),some (.blk [.sl 3 ws.length cw,.int .i64 ((s.p:Nat):Int)]),some (Fj ws),some (FT L)]):=
 Am (n:=19) (by kernel_rfl) Tryz.func290 rfl rfl rfl fun G w a h0 A=>N9 14 A rfl rfl fun A=>B7 (fun(k:Nat)=>[(0,.sp (.ptr 0 1) 8 8),(1,.str q),(4,.int .i64 0),(7,.int .i64 ((8:Nat):Int)),(8,.int .i64 (k:Int))]) (fun(k:Nat)=>[some (.blk (Rx g L.length c s.ins s.lab 1 4)),some (.blk [.ptr 2 0,.int .i64 s.e,.int .i64 s.a]),some (.blk [.sl 3 ws.length cw,.int .i64 ((s.p:Nat):Int)]),some (Fj ws),some (FT L)]) (fun(k:Nat)=>TE [g.r0,g.r1,g.r2,g.r3,g.r4,g.r5,g.r6,g.r7] q k) (fun(k:Nat)=>8 - k) 0 TE.i0 ((A.cut [0,1,4,7,8] rfl).trunc 5 rfl rfl rfl (Cj h0 rfl)) fun k hI {G a w} A=>N9 6 A rfl rfl fun A=>Aq 9 A rfl
   (fun h1 A=>N9 21 A rfl (Aj (by have:=hI.le;simp only [α5,α7]at this;omega)<|Aj (by have:=hI.le;simp only [α5,α7]at this;omega)<|Ah) fun A=>Au 16 A rfl
    (fun h2 A=>N9 8 A rfl rfl fun A=>R9 A rfl h0 rfl (by rw [hI.hit (by show k<8;omega) (by rw [show k=((k:Int)).toNat from rfl];simpa using h2)];rfl) rfl)
    (fun h2 A=>N9 8 A rfl (Aj (by have:=hI.le;simp only [α5,α7]at this;omega)<|Ah) fun A=>⟨k+1,_,(by omega),(hI.nx (by show k<8;omega) (by rw [show k=((k:Int)).toNat from rfl];simpa using h2)),((A.cut [0,1,4,7,8] rfl).trunc 5 rfl rfl rfl (Cj h0 rfl))⟩))
   (fun h1 A=>N9 9 A rfl rfl fun A=>R9 A rfl h0 rfl (by rw [hI.fi (by show 8≤k;omega)];rfl) rfl)
theorem oD (q:List UInt8):Fn Tryz.prog 290 [.sl 0 3 3,.str q] [some (.blk [.str [120],.str [121],.str [122]])] (Rt (.int .i64 (GI [[120],[121],[122]] q)) [some (.blk [.str [120],.str [121],.str [122]])]):=
 Am (n:=19) (by kernel_rfl) Tryz.func290 rfl rfl rfl fun G w a h0 A=>N9 14 A rfl rfl fun A=>B7 (fun(k:Nat)=>[(0,.sl 0 3 3),(1,.str q),(4,.int .i64 0),(7,.int .i64 ((3:Nat):Int)),(8,.int .i64 (k:Int))]) (fun(k:Nat)=>[some (.blk [.str [120],.str [121],.str [122]])]) (fun(k:Nat)=>TE [[120],[121],[122]] q k) (fun(k:Nat)=>3 - k) 0 TE.i0 ((A.cut [0,1,4,7,8] rfl).trunc 1 rfl rfl rfl (Cj h0 rfl)) fun k hI {G a w} A=>N9 6 A rfl rfl fun A=>Aq 9 A rfl
   (fun h1 A=>N9 21 A rfl (Aj (by have:=hI.le;simp only [α5,α7]at this;omega)<|Aj (by have:=hI.le;simp only [α5,α7]at this;omega)<|Ah) fun A=>Au 16 A rfl
    (fun h2 A=>N9 8 A rfl rfl fun A=>R9 A rfl h0 rfl (by rw [hI.hit (by show k<3;omega) (by rw [show k=((k:Int)).toNat from rfl];simpa using h2)];rfl) rfl)
    (fun h2 A=>N9 8 A rfl (Aj (by have:=hI.le;simp only [α5,α7]at this;omega)<|Ah) fun A=>⟨k+1,_,(by omega),(hI.nx (by show k<3;omega) (by rw [show k=((k:Int)).toNat from rfl];simpa using h2)),((A.cut [0,1,4,7,8] rfl).trunc 1 rfl rfl rfl (Cj h0 rfl))⟩))
   (fun h1 A=>N9 9 A rfl rfl fun A=>R9 A rfl h0 rfl (by rw [hI.fi (by show 3≤k;omega)];rfl) rfl)
theorem Ya (g:Lg)(L:List Rw)(c:Nat)(ws:List Tk)(cw:Nat)(s:Ps)(hk:s.p≤ws.length)(hn:ws.length≤1000000)(hw:Oy ws):Fn Tryz.prog 278 [.ptr 1 0,.sp (.ptr 0 1) 8 8] [some (.blk (Rx g L.length c s.ins s.lab 1 4)),some (.blk [.ptr 2 0,.int .i64 s.e,.int .i64 s.a]),some (.blk [.sl 3 ws.length cw,.int .i64 ((s.p:Nat):Int)]),some (Fj ws),some (FT L)] (Rt (.int .i64 (ML ws s.as [g.r0,g.r1,g.r2,g.r3,g.r4,g.r5,g.r6,g.r7])) [some (.blk (Rx g L.length c ((s.wa (Du ws s.as [g.r0,g.r1,g.r2,g.r3,g.r4,g.r5,g.r6,g.r7])).ins) ((s.wa (Du ws s.as [g.r0,g.r1,g.r2,g.r3,g.r4,g.r5,g.r6,g.r7])).lab) 1 4)),some (.blk [.ptr 2 0,.int .i64 ((s.wa (Du ws s.as [g.r0,g.r1,g.r2,g.r3,g.r4,g.r5,g.r6,g.r7])).e),.int .i64 ((s.wa (Du ws s.as [g.r0,g.r1,g.r2,g.r3,g.r4,g.r5,g.r6,g.r7])).a)]),some (.blk [.sl 3 ws.length cw,.int .i64 (((s.wa (Du ws s.as [g.r0,g.r1,g.r2,g.r3,g.r4,g.r5,g.r6,g.r7])).p:Nat):Int)]),some (Fj ws),some (FT L)]):=
 Am (n:=35) (by kernel_rfl) Tryz.func278 rfl rfl rfl fun G w a h0 A=>N9 11 A rfl rfl fun A=>C9 [2,3] (MJ ws cw s.p (by first|exact hk|exact DR hk|exact D8 hk|exact Dm hk|(show _≤_;omega)) hn) A rfl fun A=>N9 16 A rfl rfl fun A=>EZ 18 A rfl
  (fun h1 A=>N9 4 A rfl rfl fun A=>C9 [1,2,3] (Im ws cw s.as 22 (by first|exact hk|exact DR hk|exact D8 hk|exact Dm hk|(show _≤_;omega)) hn hw) A rfl fun A=>N9 8 A rfl rfl fun A=>R9 A rfl h0 rfl (by unfold ML;rw [if_neg (show¬(ws.getD s.as.p BH).kind=1 from h1)]<;>rfl) (by unfold Du;rw [if_neg (show¬(ws.getD s.as.p BH).kind=1 from h1)]<;>rfl))
  (fun h1 A=>N9 8 A rfl rfl fun A=>C9 [0,1,2,3,4] (oC g L c ws cw s ((ws.getD s.p BH).text)) A rfl fun A=>N9 10 A rfl rfl fun A=>Aq 26 A rfl
   (fun h2 A=>N9 4 A rfl rfl fun A=>C9 [1,2,3] (Im ws cw s.as 21 (by first|exact hk|exact DR hk|exact D8 hk|exact Dm hk|(show _≤_;omega)) hn hw) A rfl fun A=>N9 8 A rfl rfl fun A=>R9 A rfl h0 rfl (by unfold ML;rw [if_pos (show(ws.getD s.as.p BH).kind=1 from h1),if_pos (show GI [g.r0,g.r1,g.r2,g.r3,g.r4,g.r5,g.r6,g.r7] (ws.getD s.as.p BH).text<0 from h2)]<;>rfl) (by unfold Du;rw [if_pos (show(ws.getD s.as.p BH).kind=1 from h1),if_pos (show GI [g.r0,g.r1,g.r2,g.r3,g.r4,g.r5,g.r6,g.r7] (ws.getD s.as.p BH).text<0 from h2)]<;>rfl))
   (fun h2 A=>N9 9 A rfl rfl fun A=>C9 [2,3] (aG ws cw s.p (by first|exact hk|exact DR hk|exact D8 hk|exact Dm hk|(show _≤_;omega)) hn) A rfl fun A=>N9 9 A rfl rfl fun A=>R9 A rfl h0 rfl (by unfold ML;rw [if_pos (show(ws.getD s.as.p BH).kind=1 from h1),if_neg (show¬GI [g.r0,g.r1,g.r2,g.r3,g.r4,g.r5,g.r6,g.r7] (ws.getD s.as.p BH).text<0 from h2)]<;>rfl) (by unfold Du;rw [if_pos (show(ws.getD s.as.p BH).kind=1 from h1),if_neg (show¬GI [g.r0,g.r1,g.r2,g.r3,g.r4,g.r5,g.r6,g.r7] (ws.getD s.as.p BH).text<0 from h2)]<;>rfl)))
theorem Yb (ws:List Tk)(cw:Nat)(s:As)(hk:s.p≤ws.length)(hn:ws.length≤1000000)(hw:Oy ws):Fn Tryz.prog 278 [.ptr 0 0,.sl 3 3 3] [some (.blk [.ptr 1 0,.int .i64 s.e,.int .i64 s.a]),some (.blk [.sl 2 ws.length cw,.int .i64 ((s.p:Nat):Int)]),some (Fj ws),some (.blk [.str [120],.str [121],.str [122]])] (Rt (.int .i64 (ML ws s [[120],[121],[122]])) [some (.blk [.ptr 1 0,.int .i64 ((Du ws s [[120],[121],[122]]).e),.int .i64 ((Du ws s [[120],[121],[122]]).a)]),some (.blk [.sl 2 ws.length cw,.int .i64 (((Du ws s [[120],[121],[122]]).p:Nat):Int)]),some (Fj ws),some (.blk [.str [120],.str [121],.str [122]])]):=
 Am (n:=35) (by kernel_rfl) Tryz.func278 rfl rfl rfl fun G w a h0 A=>N9 11 A rfl rfl fun A=>C9 [1,2] (MJ ws cw s.p (by first|exact hk|exact DR hk|exact D8 hk|exact Dm hk|(show _≤_;omega)) hn) A rfl fun A=>N9 16 A rfl rfl fun A=>EZ 18 A rfl
  (fun h1 A=>N9 4 A rfl rfl fun A=>C9 [0,1,2] (Im ws cw s 22 (by first|exact hk|exact DR hk|exact D8 hk|exact Dm hk|(show _≤_;omega)) hn hw) A rfl fun A=>N9 8 A rfl rfl fun A=>R9 A rfl h0 rfl (by unfold ML;rw [if_neg (show¬(ws.getD s.p BH).kind=1 from h1)]<;>rfl) (by unfold Du;rw [if_neg (show¬(ws.getD s.p BH).kind=1 from h1)]<;>rfl))
  (fun h1 A=>N9 8 A rfl rfl fun A=>C9 [3] (oD ((ws.getD s.p BH).text)) A rfl fun A=>N9 10 A rfl rfl fun A=>Aq 26 A rfl
   (fun h2 A=>N9 4 A rfl rfl fun A=>C9 [0,1,2] (Im ws cw s 21 (by first|exact hk|exact DR hk|exact D8 hk|exact Dm hk|(show _≤_;omega)) hn hw) A rfl fun A=>N9 8 A rfl rfl fun A=>R9 A rfl h0 rfl (by unfold ML;rw [if_pos (show(ws.getD s.p BH).kind=1 from h1),if_pos (show GI [[120],[121],[122]] (ws.getD s.p BH).text<0 from h2)]<;>rfl) (by unfold Du;rw [if_pos (show(ws.getD s.p BH).kind=1 from h1),if_pos (show GI [[120],[121],[122]] (ws.getD s.p BH).text<0 from h2)]<;>rfl))
   (fun h2 A=>N9 9 A rfl rfl fun A=>C9 [1,2] (aG ws cw s.p (by first|exact hk|exact DR hk|exact D8 hk|exact Dm hk|(show _≤_;omega)) hn) A rfl fun A=>N9 9 A rfl rfl fun A=>R9 A rfl h0 rfl (by unfold ML;rw [if_pos (show(ws.getD s.p BH).kind=1 from h1),if_neg (show¬GI [[120],[121],[122]] (ws.getD s.p BH).text<0 from h2)]<;>rfl) (by unfold Du;rw [if_pos (show(ws.getD s.p BH).kind=1 from h1),if_neg (show¬GI [[120],[121],[122]] (ws.getD s.p BH).text<0 from h2)]<;>rfl)))
theorem oE (g:Lg)(L:List Rw)(c:Nat)(ws:List Tk)(cw:Nat)(s:Ps)(hk:s.p≤ws.length)(hn:ws.length≤1000000)(hw:Oy ws):Fn Tryz.prog 253 [.ptr 0 0] [some (.blk (Rx g L.length c s.ins s.lab 1 4)),some (.blk [.ptr 2 0,.int .i64 s.e,.int .i64 s.a]),some (.blk [.sl 3 ws.length cw,.int .i64 ((s.p:Nat):Int)]),some (Fj ws),some (FT L)] (Rt (.int .i64 (ML ws s.as [g.r0,g.r1,g.r2,g.r3,g.r4,g.r5,g.r6,g.r7])) [some (.blk (Rx g L.length c ((s.wa (Du ws s.as [g.r0,g.r1,g.r2,g.r3,g.r4,g.r5,g.r6,g.r7])).ins) ((s.wa (Du ws s.as [g.r0,g.r1,g.r2,g.r3,g.r4,g.r5,g.r6,g.r7])).lab) 1 4)),some (.blk [.ptr 2 0,.int .i64 ((s.wa (Du ws s.as [g.r0,g.r1,g.r2,g.r3,g.r4,g.r5,g.r6,g.r7])).e),.int .i64 ((s.wa (Du ws s.as [g.r0,g.r1,g.r2,g.r3,g.r4,g.r5,g.r6,g.r7])).a)]),some (.blk [.sl 3 ws.length cw,.int .i64 (((s.wa (Du ws s.as [g.r0,g.r1,g.r2,g.r3,g.r4,g.r5,g.r6,g.r7])).p:Nat):Int)]),some (Fj ws),some (FT L)]):=
 Am (n:=13) (by kernel_rfl) Tryz.func253 rfl rfl rfl fun G w a h0 A=>N9 6 A rfl rfl fun A=>Ba hX By [] [(9,.int .i64 (ML ws s.as [g.r0,g.r1,g.r2,g.r3,g.r4,g.r5,g.r6,g.r7]),[some (.blk (Rx g L.length c ((Ps.wa s (Du ws s.as [g.r0,g.r1,g.r2,g.r3,g.r4,g.r5,g.r6,g.r7])).ins) ((Ps.wa s (Du ws s.as [g.r0,g.r1,g.r2,g.r3,g.r4,g.r5,g.r6,g.r7])).lab) 1 4)),some (.blk [.ptr 2 0,.int .i64 ((Ps.wa s (Du ws s.as [g.r0,g.r1,g.r2,g.r3,g.r4,g.r5,g.r6,g.r7])).e),.int .i64 ((Ps.wa s (Du ws s.as [g.r0,g.r1,g.r2,g.r3,g.r4,g.r5,g.r6,g.r7])).a)]),some (.blk [.sl 3 ws.length cw,.int .i64 (((Ps.wa s (Du ws s.as [g.r0,g.r1,g.r2,g.r3,g.r4,g.r5,g.r6,g.r7])).p:Nat):Int)]),some (Fj ws),some (FT L)])] A rfl rfl rfl rfl (by kernel_rfl) ⟨ED [0,1,2,3,4] (Ya g L c ws cw s (by first|exact hk|exact DR hk|exact D8 hk|exact Dm hk|(show _≤_;omega)) hn hw) rfl rfl rfl rfl rfl rfl rfl,trivial⟩ trivial fun A=>N9 2 A rfl rfl fun A=>R9 A rfl h0 rfl rfl rfl
theorem TF (g:Lg)(L:List Rw)(c:Nat)(ws:List Tk)(cw:Nat)(s:Ps)(hk:s.p≤ws.length)(hn:ws.length≤1000000)(hw:Oy ws):Fn Tryz.prog 280 [.ptr 0 0] [some (.blk (Rx g L.length c s.ins s.lab 1 4)),some (.blk [.ptr 2 0,.int .i64 s.e,.int .i64 s.a]),some (.blk [.sl 3 ws.length cw,.int .i64 ((s.p:Nat):Int)]),some (Fj ws),some (FT L)] (Rt (.bool ((ws.getD s.p BH).kind==2)) [some (.blk (Rx g L.length c s.ins s.lab 1 4)),some (.blk [.ptr 2 0,.int .i64 s.e,.int .i64 s.a]),some (.blk [.sl 3 ws.length cw,.int .i64 ((s.p:Nat):Int)]),some (Fj ws),some (FT L)]):=
 Am (n:=19) (by kernel_rfl) Tryz.func280 rfl rfl rfl fun G w a h0 A=>N9 14 A rfl rfl fun A=>C9 [2,3] (MJ ws cw s.p (by first|exact hk|exact DR hk|exact D8 hk|exact Dm hk|(show _≤_;omega)) hn) A rfl fun A=>N9 17 A rfl rfl fun A=>R9 A rfl h0 rfl rfl rfl
def Vx (g:Lg)(ws:List Tk)(s:As):As:=if g.im=[]then YW ws s else YW ws (I0 ws s g.im)
def vD (g:Lg)(ws:List Tk)(s:As):Int:=if g.im=[]then YV ws s.p else YV ws (I0 ws s g.im).p
theorem Yc {g:Lg}{ws:List Tk}{s:As}(h:s.p≤ws.length):(Vx g ws s).p≤ws.length:=by
 unfold Vx;split
 ·exact Dm h
 ·exact Dm (D8 h)
structure Cn where (k t r l v:Int)
def Cn.z:Cn:=⟨0,0,0,0,0⟩
def cc (c:Cn):List SV:=[.int .i64 c.k,.int .i64 c.t,.int .i64 c.r,.int .i64 c.l,.int .i64 c.v]
def GS (k:Int)(wf:Nat→Int):Nat→List Cn→Nat×List Cn
 |0,ns=>(0,ns)
 |n+1,ns=>if wf n≤k then GS k wf n (ns++[⟨wf n,0,0,0,0⟩])else(n+1,ns)
structure Yd (k:Int)(wf:Nat→Int)(m:Nat)(ns:List Cn)(j:Nat)(cur:List Cn):Prop where
 eq:GS k wf j cur=GS k wf m ns
 le:j≤m
 ln:cur.length+j≤ns.length+m
section
variable {k:Int}{wf:Nat→Int}{m:Nat}{ns cur:List Cn}{j:Nat}
theorem Yd.i0:Yd k wf m ns m ns:=⟨rfl,β7 _,β7 _⟩
theorem Yd.go (h:Yd k wf m ns j cur)(hc:(decide ((j:Int)>0)&&decide (wf ((j:Int) - 1).toNat≤k))=true):Yd k wf m ns (j - 1) (cur++[⟨wf ((j:Int) - 1).toNat,0,0,0,0⟩])∧0<j:=by
 rw [α3]at hc
 have h0:=δ0 hc.1
 have h1:=δ0 hc.2
 obtain⟨i,rfl⟩:∃i,j=i+1:=⟨j - 1,by omega⟩
 have e:(((i+1:Nat):Int) - 1).toNat=i:=by omega
 rw [e]at h1⊢
 refine⟨⟨?_,?_,?_⟩,by omega⟩
 ·rw [←h.eq]
  show GS k wf i _=_
  conv=>rhs;unfold GS
  rw [if_pos h1]
 ·have:=h.le;omega
 ·have:=h.ln;rw [α4];simp only [α5,α7];omega
theorem Yd.no (h:Yd k wf m ns j cur)(hc:(decide ((j:Int)>0)&&decide (wf ((j:Int) - 1).toNat≤k))=false):GS k wf m ns=(j,cur):=by
 rw [←h.eq]
 cases j with
 |zero=>rfl
 |succ i=>
  have e:(((i+1:Nat):Int) - 1).toNat=i:=by omega
  rw [e,η4 (by omega:((i+1:Nat):Int)>0),τ2]at hc
  unfold GS
  rw [if_neg (of_decide_eq_false hc)]
theorem Yd.pos (h:Yd k wf m ns j cur)(hc:(decide ((j:Int)>0)&&decide (wf ((j:Int) - 1).toNat≤k))=true):0<j:=(h.go hc).2
end
end Go.Proofs.YtbbdanhpphlbpaaGreatDoor
namespace Go.Proofs.YtbbdanhpphlbpaaGreatDoor.Mc
open Go.RowKit
set_option simprocs false
abbrev _root_.Go.Proofs.YtbbdanhpphlbpaaGreatDoor.FS (ar:Int)(nm:List UInt8)(mi r:Nat→Int)(c:SV)(q:Int)(k:SV):List SV:=[.int .i64 ar,.str nm,.int .i64 (mi 0),.int .i64 (mi 1),.int .i64 (mi 2),.int .i64 (r 0),.int .i64 (r 1),.int .i64 (r 2),.int .i64 (r 3),.int .i64 (r 4),.int .i64 (r 5),.int .i64 (r 6),.int .i64 (r 7),.int .i64 (r 8),.int .i64 (r 9),.int .i64 (r 10),.int .i64 (r 11),.int .i64 (r 12),.int .i64 (r 13),.int .i64 (r 14),.int .i64 (r 15),.int .i64 (r 16),.int .i64 (r 17),.int .i64 (r 18),.int .i64 (r 19),.int .i64 (r 20),.int .i64 (r 21),.int .i64 (r 22),.int .i64 (r 23),c,.int .i64 q,k]
abbrev _root_.Go.Proofs.YtbbdanhpphlbpaaGreatDoor.oF (ar:Int)(nm:List UInt8)(mi r:Nat→Int):List SV:=[.int .i64 ar,.str nm,.int .i64 (mi 0),.int .i64 (mi 1),.int .i64 (mi 2),.int .i64 (r 0),.int .i64 (r 1),.int .i64 (r 2),.int .i64 (r 3),.int .i64 (r 4),.int .i64 (r 5),.int .i64 (r 6),.int .i64 (r 7),.int .i64 (r 8),.int .i64 (r 9),.int .i64 (r 10),.int .i64 (r 11),.int .i64 (r 12),.int .i64 (r 13),.int .i64 (r 14),.int .i64 (r 15),.int .i64 (r 16),.int .i64 (r 17),.int .i64 (r 18),.int .i64 (r 19),.int .i64 (r 20),.int .i64 (r 21),.int .i64 (r 22),.int .i64 (r 23)]
def sB (cs:List Ak)(kd:List Cn)(ar:Int)(nm:List UInt8)(mi r:Nat→Int)(qu:Int):SV→World→World→Prop:=fun x w w'=>∃(ao1 ao2:Option Addr) (cp1 cp2:Nat) (cs':List Ak),x=.agg (FS ar nm mi r (.sla ao1 cs.length cp1) qu (.sla ao2 kd.length cp2))∧cs'.length=cs.length∧(∀k,k<cs.length→(cs'.getD k Ak.z).l=(cs.getD k Ak.z).l)∧∀ks,(∀b,ks.contains b=true→b<w.heap.size)→At ao1 1 cs.length (fun zz=>JL (cs'.getD zz Ak.z)) w' ks∧An cs' w' ks
theorem Ry {ao:Option Addr}{s n N:Nat}{f:Nat→List SV}{w:World}{ks:List Nat}(h:At ao s n f w ks)(hf:∀q:Addr,ao=some q→N≤q.block){ks':List Nat}(hk:∀b,ks'.contains b=true→b<N):At ao s n f w ks':=by
 refine⟨h.1,?_⟩
 rcases h.2 with h|⟨b,o,e1,e2,e3,e4⟩
 ·exact .inl h
 ·refine .inr ⟨b,o,e1,e2,?_,e4⟩
  cases hq:ks'.contains b with
  |false=>rfl
  |true=>have h1:=hk b hq;have h2:N≤b:=hf _ e1;omega
theorem fI {cs:List Ak}{kd:List Cn}{ar:Int}{nm:List UInt8}{mi r:Nat→Int}{qu:Int}{z:List Ak×Nat}{w w':World}{ks ks1:List Nat}{ao1 ao2:Option Addr}{cp1 cp2:Nat}(Hn:∀c∈cs,Fs c.l)(hz:NJ cs w.heap.size z w' ks)(Nu:z.2=cs.length)(hl:At ao1 1 z.2 (fun zz=>JL (z.1.getD zz Ak.z)) w' ks1)(hf:∀q:Addr,ao1=some q→w.heap.size≤q.block):sB cs kd ar nm mi r qu (.agg (FS ar nm mi r (.sla ao1 z.2 cp1) qu (.sla ao2 kd.length cp2))) w w':=by
 have hm:=hz.m
 refine⟨ao1,ao2,cp1,cp2,z.1,by rw [Nu],by omega,fun k hk=>hz.eq k (by omega),fun ks' hk=>⟨by rw [←Nu];exact Ry hl hf hk,fun c hc=>Ry (hz.at_ c hc).1 (hz.at_ c hc).2 hk⟩⟩
theorem vE {n:Nat}{T:List (Nat×SV)}{H:Hp}{G0:Gr}{w0:World}{G:Gr}{a:Act}{w:World}(B:Sy n T H [] G0 w0 G a w){ao:Option Addr}(h:∀q:Addr,ao=some q→(keys H G).contains q.block=true∨w.heap.size≤q.block):∀q:Addr,ao=some q→w0.heap.size≤q.block:=fun q hq=>(h q hq).elim (fun h=>(B.keys_own _ h).elim (fun h=>by cases h) id) (fun h=>β4 B.mix.size h)
abbrev aI:List SV:=[.z9,.str [],.z9,.z9,.z9,.z9,.z9,.z9,.z9,.z9,.z9,.z9,.z9,.z9,.z9,.z9,.z9,.z9,.z9,.z9,.z9,.z9,.z9,.z9,.z9,.z9,.z9,.z9,.z9,.sla none 0 0,.z9,.sla none 0 0]
abbrev _root_.Go.Proofs.YtbbdanhpphlbpaaGreatDoor.Bu (kd:List Cn):Bo:=.lst 5 kd.length (fun zz=>cc (kd.getD zz Cn.z))
abbrev _root_.Go.Proofs.YtbbdanhpphlbpaaGreatDoor.CY (ar:Int)(nm:List UInt8)(mi r:Nat→Int)(cs:List Ak)(cx:Nat)(qu:Int)(kd:List Cn)(ck:Nat):List SV:=FS ar nm mi r (.sl 0 cs.length cx) qu (.sl 1 kd.length ck)
theorem oG (cs:List Ak)(cx:Nat)(kd:List Cn)(ck:Nat)(ar:Int)(nm:List UInt8)(mi r:Nat→Int)(qu:Int)(GX:M2 cs=0)(hk:kd.length≤1000000):PG Tryz.prog 11 [.agg (CY ar nm mi r cs cx qu kd ck)] [some (Bc cs),some (Bu kd)] [] (fun w=>An cs w []) (sB cs kd ar nm mi r qu):=
 Gq (n:=32) (by kernel_rfl) Tryz.func11 rfl rfl rfl (fun i e h=>by match i,h with|0,h=>cases h;rfl|1,h=>cases h;rfl|i+2,h=>cases h) fun G w a h0 ho hp A=>have Hn:=GA GX;N9 26 A rfl rfl fun A=>l4 4 64 1 (fun zz=>JL (([]:List Ak).getD zz Ak.z)) (oF ar nm mi r) [.int .i64 qu,.sl 1 kd.length ck] A rfl (fun z=>⟨_,rfl,rfl⟩) rfl fun A=>Gm (fun(z:List Ak×Nat)=>[(1,.ptr 2 0),(2,.ptr 3 0),(3,.ptr 4 0),(4,.int .i64 ((z.2:Nat):Int))]) (fun(z:List Ak×Nat)=>[some (Bc cs),some (Bu kd),some (.blk (CY ar nm mi r cs cx qu kd ck)),some (.blk aI),some (.blk (FS ar nm mi r (.sl 5 z.2 0) qu (.sl 1 kd.length ck))),some (.row 64 1 z.2 0 (fun zz=>JL (z.1.getD zz Ak.z)))]) (fun z w' ks=>NJ cs w.heap.size z w' ks) (fun z=>cs.length - z.2) ([],0) ((A.cut [1,2,3,4] rfl).mv 2 [2,3,4,5] rfl rfl rfl rfl h0.symm) NJ.i0 fun z G a w hz T6 A B=>have T8:=h0;have B0:=B;have h0:=B.mem.len;N9 10 A rfl rfl fun A=>Aq 11 A rfl
   (fun h1 A=>N9 5 A rfl rfl fun A=>have Bn:z.2<cs.length:=(by omega);have EO:=(An.ok.now B hp).at Bn;have A:=A.cut [1,2,3,4] rfl;lZ 10 8 By [.ptr 4 29,.sl 5 z.2 0,.sl 6 0 0,.ptr 2 29,.sl 0 cs.length cx,.int .i64 ((z.2:Nat):Int),.el 0 1 ((z.2:Nat):Int) 0,.sla ((cs.getD ((((z.2:Nat):Int)).toNat) Ak.z).ao) ((cs.getD ((((z.2:Nat):Int)).toNat) Ak.z).l.length) ((cs.getD ((((z.2:Nat):Int)).toNat) Ak.z).cp),.sl 7 ((cs.getD ((((z.2:Nat):Int)).toNat) Ak.z).l.length) 0,.sl 8 1 1,.tup [],.tup [],.tup []] [2,8,9] [6,7,8] 3 [([],[6,7,8],[some (Bc cs),some (Bu kd),some (.blk (CY ar nm mi r cs cx qu kd ck)),some (.blk aI),some (.blk (FS ar nm mi r (.sl 5 z.2 0) qu (.sl 1 kd.length ck))),some (.row 64 1 z.2 0 (fun zz=>JL (z.1.getD zz Ak.z))),none,none,none]),([2],[7,8],[some (Bc cs),some (Bu kd),some (.blk (CY ar nm mi r cs cx qu kd ck)),some (.blk aI),some (.blk (FS ar nm mi r (.sl 5 z.2 0) qu (.sl 1 kd.length ck))),some (.row 64 1 z.2 0 (fun zz=>JL (z.1.getD zz Ak.z))),some (.row 63 17 0 0 (fun _=>[.z9,.z9,.z9,.z9,.z9,.z9,.z9,.z9,.z9,.z9,.ff,.ff,.ff,.z9,.z9,.z9,.ff])),none,none]),([2,8],[8],[some (Bc cs),some (Bu kd),some (.blk (CY ar nm mi r cs cx qu kd ck)),some (.blk aI),some (.blk (FS ar nm mi r (.sl 5 z.2 0) qu (.sl 1 kd.length ck))),some (.row 64 1 z.2 0 (fun zz=>JL (z.1.getD zz Ak.z))),none,some (.row 63 17 ((cs.getD ((((z.2:Nat):Int)).toNat) Ak.z).l.length) 0 (fun zz=>C3 ((cs.getD ((((z.2:Nat):Int)).toNat) Ak.z).l.getD zz In.z))),none]),([2,8,9],[],[some (Bc cs),some (Bu kd),some (.blk (CY ar nm mi r cs cx qu kd ck)),some (.blk aI),some (.blk (FS ar nm mi r (.sl 5 z.2 0) qu (.sl 1 kd.length ck))),some (.row 64 1 z.2 0 (fun zz=>JL (z.1.getD zz Ak.z))),none,some (.row 63 17 ((cs.getD ((((z.2:Nat):Int)).toNat) Ak.z).l.length) 0 (fun zz=>C3 ((cs.getD ((((z.2:Nat):Int)).toNat) Ak.z).l.getD zz In.z))),some (.blk [.sl 7 ((cs.getD ((((z.2:Nat):Int)).toNat) Ak.z).l.length) 0])])] [[true,true,true,true,true,true,true,true,false,false],[true,true,false,true,true,true,true,true,true,false],[true,true,false,true,true,true,true,false,false,true],[true,true,false,true,true,true,true,false,false,false]] A rfl rfl rfl rfl (by kernel_rfl) rfl (by kernel_rfl) rfl (by kernel_rfl) (by kernel_rfl) ⟨⟨Ao 0 rfl rfl,⟨Ao 0 rfl rfl,⟨⟨_,_,_,_,1,rfl,rfl,rfl,rfl,Eh 6 (X:=⟨_,true⟩) hX rfl rfl (Ph h0 rfl) rfl rfl rfl rfl⟩,⟨Ao 0 rfl rfl,⟨Ao 0 rfl rfl,⟨Ao 0 rfl rfl,⟨Ao 0 rfl (Aj (by have:=hz.le;omega)<|Ah),⟨Ao 0 rfl (Aj (by have:=hz.le;omega)<|Ah),trivial⟩⟩⟩⟩⟩⟩⟩⟩,⟨⟨Ao 1 rfl rfl,⟨Ao 1 rfl rfl,⟨Ao 1 rfl rfl,⟨Ao 1 rfl rfl,⟨Ao 1 rfl rfl,⟨Ao 1 rfl (Aj (by have:=hz.le;omega)<|Ah),⟨Ao 1 rfl (Aj (by have:=hz.le;omega)<|Ah),⟨⟨_,_,_,_,2,rfl,rfl,rfl,rfl,Pj 7 (tT hX rfl rfl rfl rfl rfl rfl rfl rfl EO (β4 (Of Hn.2 Bn).n (by decide)) (fun z=>⟨_,rfl,rfl⟩) (fun k hk=>⟨_,rfl,Ah⟩)) rfl rfl (Ph h0 rfl) rfl rfl rfl rfl⟩,trivial⟩⟩⟩⟩⟩⟩⟩⟩,⟨⟨Ao 2 rfl rfl,⟨Ao 2 rfl rfl,⟨Ao 2 rfl rfl,⟨Ao 2 rfl rfl,⟨Ao 2 rfl rfl,⟨Ao 2 rfl (Aj (by have:=hz.le;omega)<|Ah),⟨⟨_,_,_,_,3,rfl,rfl,rfl,rfl,Eh 8 (X:=⟨_,true⟩) hX rfl rfl (Ph h0 rfl) rfl rfl rfl rfl⟩,trivial⟩⟩⟩⟩⟩⟩⟩,⟨⟨Ao 3 rfl rfl,⟨Ao 3 rfl rfl,⟨Ao 3 rfl rfl,⟨Ao 3 rfl rfl,⟨Ao 3 rfl rfl,⟨Ao 3 rfl (Aj (by have:=hz.le;omega)<|Ah),trivial⟩⟩⟩⟩⟩⟩,trivial⟩⟩⟩⟩ fun fuel listed {_ _ _} Jp qP A=>RZ (k:=3) Jp qP fun f=>tU 7 8 (fun ao' cp'=>[some (Bc cs),some (Bu kd),some (.blk (CY ar nm mi r cs cx qu kd ck)),some (.blk aI),some (.blk (FS ar nm mi r (.sl 5 z.2 0) qu (.sl 1 kd.length ck))),some (.row 64 1 z.2 0 (fun zz=>JL (z.1.getD zz Ak.z))),none,none,some (.blk [.sla ao' ((cs.getD ((((z.2:Nat):Int)).toNat) Ak.z).l.length) cp'])]) A rfl rfl rfl (fun _ _=>rfl) fun ao' cp' A hl Qd=>have hz:=NJ.ok.now A hz;have Qd:∀q:Addr,ao'=some q→_≤q.block:=fun q hq=>(Qd q hq).elim (fun h=>(B.keys_own _ h).elim (fun h=>by cases h) id) (fun h=>β4 B.mix.size h);have B:=B.trans A;have A:=B.base;have h0:=B.mem.len;Aw (rs:=[10]) (by kernel_rfl) (by decide) (Cc ⟨Em (x:=.sl 9 (z.2+1) 0) (H':=[some (Bc cs),some (Bu kd),some (.blk (CY ar nm mi r cs cx qu kd ck)),some (.blk aI),some (.blk (FS ar nm mi r (.sl 5 z.2 0) qu (.sl 1 kd.length ck))),none,none,none,some (.blk [.sla ao' ((cs.getD ((((z.2:Nat):Int)).toNat) Ak.z).l.length) cp']),some (.row 64 1 (z.2+1) 0 (fun zz=>JL ((z.1++[(⟨ao',(cs.getD (((z.2:Nat):Int)).toNat Ak.z).l,cp'⟩:Ak)]).getD zz Ak.z)))]) rfl A rfl (OO (i:=5) hX (z.2+1) (fun zz=>JL ((z.1++[(⟨ao',(cs.getD (((z.2:Nat):Int)).toNat Ak.z).l,cp'⟩:Ak)]).getD zz Ak.z)) rfl rfl rfl rfl (by omega) rfl (fun k hk=>by show JL _=JL _;rw [dE hz.m hk]) (by show JL _=_;rw [dF hz.m]<;>rfl) (fun z=>⟨_,rfl,rfl⟩)) fun A=>Aw (rs:=[11]) (by kernel_rfl) (by decide) (Cc ⟨Da (.ptr 4 29) rfl A rfl rfl fun A=>Aw (rs:=[12]) (by kernel_rfl) (by decide) (Cc ⟨Em (x:=.tup []) (H':=[some (Bc cs),some (Bu kd),some (.blk (CY ar nm mi r cs cx qu kd ck)),some (.blk aI),some (.blk (FS ar nm mi r (.sl 9 (z.2+1) 0) qu (.sl 1 kd.length ck))),none,none,none,some (.blk [.sla ao' ((cs.getD ((((z.2:Nat):Int)).toNat) Ak.z).l.length) cp']),some (.row 64 1 (z.2+1) 0 (fun zz=>JL ((z.1++[(⟨ao',(cs.getD (((z.2:Nat):Int)).toNat Ak.z).l,cp'⟩:Ak)]).getD zz Ak.z)))]) rfl A rfl (BN (X:=⟨_,true⟩) (out:=.upd 4 (FS ar nm mi r (.sl 9 (z.2+1) 0) qu (.sl 1 kd.length ck)) _) hX rfl rfl) fun A=>El (by kernel_rfl) (N9 7 A rfl (Aj (by have:=hz.le;omega)<|Ah) fun A=>⟨((z.1++[(⟨ao',(cs.getD (((z.2:Nat):Int)).toNat Ak.z).l,cp'⟩:Ak)]),z.2+1),_,(by show cs.length - (z.2+1)<cs.length - z.2;omega),((NJ.ok.now A hz).nx Bn (At.ok.now A hl) Qd).mv (m:=[0,1,2,3,4,9]) A.mem.len rfl rfl,(((B.trans A).cut [1,2,3,4] rfl).mv 2 [2,3,4,9] rfl rfl rfl rfl T8.symm)⟩),DF⟩),DF⟩),DF⟩))
   (fun h1 A=>N9 4 A rfl rfl fun A=>have Nu:z.2=cs.length:=(by have:=hz.le;omega);N9 4 A rfl rfl fun A=>Xz hX kd.length (fun zz=>cc (kd.getD zz Cn.z)) A rfl rfl rfl rfl (β7 _) (by omega) hk (by omega) (fun k hk=>by omega) (fun k hk=>by show cc _=cc _;rw [ε0]) (fun z=>⟨_,rfl,rfl⟩) (fun k hk=>⟨_,rfl,Ah⟩) fun A=>N9 11 A rfl rfl fun A=>cY 5 3 (oF ar nm mi r) [.int .i64 qu,.sl 7 kd.length 0] (fun ao1 cp1=>[some (Bc cs),some (Bu kd),some (.blk (CY ar nm mi r cs cx qu kd ck)),some (.blk (FS ar nm mi r (.sla ao1 z.2 cp1) qu (.sl 7 kd.length 0))),some (.blk (FS ar nm mi r (.sl 5 z.2 0) qu (.sl 7 kd.length 0))),none,none,some (.row 66 5 kd.length 0 (fun zz=>cc (kd.getD zz Cn.z)))]) A rfl rfl rfl (fun _ _=>rfl) fun ao1 cp1 A Nq SN=>have B:=B.trans A;have hz:=NJ.ok.now A hz;have A:=B.base;cY 7 3 [.int .i64 ar,.str nm,.int .i64 (mi 0),.int .i64 (mi 1),.int .i64 (mi 2),.int .i64 (r 0),.int .i64 (r 1),.int .i64 (r 2),.int .i64 (r 3),.int .i64 (r 4),.int .i64 (r 5),.int .i64 (r 6),.int .i64 (r 7),.int .i64 (r 8),.int .i64 (r 9),.int .i64 (r 10),.int .i64 (r 11),.int .i64 (r 12),.int .i64 (r 13),.int .i64 (r 14),.int .i64 (r 15),.int .i64 (r 16),.int .i64 (r 17),.int .i64 (r 18),.int .i64 (r 19),.int .i64 (r 20),.int .i64 (r 21),.int .i64 (r 22),.int .i64 (r 23),.sla ao1 z.2 cp1,.int .i64 qu] [] (fun ao2 cp2=>[some (Bc cs),some (Bu kd),some (.blk (CY ar nm mi r cs cx qu kd ck)),some (.blk (FS ar nm mi r (.sla ao1 z.2 cp1) qu (.sla ao2 kd.length cp2))),some (.blk (FS ar nm mi r (.sl 5 z.2 0) qu (.sl 7 kd.length 0))),none,none,none]) A rfl rfl rfl (fun _ _=>rfl) fun ao2 cp2 A Ma iQ=>Hw (J:=sB cs kd ar nm mi r qu) hX (B.trans A) rfl rfl rfl rfl (fI Hn.2 (NJ.ok.now A hz) Nu (At.ok.now A Nq) (vE B0 SN)))
end Go.Proofs.YtbbdanhpphlbpaaGreatDoor.Mc
namespace Go.Proofs.YtbbdanhpphlbpaaGreatDoor.Mc
open Go.RowKit
set_option simprocs false
theorem Vy {ao:Option Addr}{s n:Nat}{f:Nat→List SV}{w:World}{ks ks':List Nat}(h:At ao s n f w ks)(hk:∀q:Addr,n≠0→ao=some q→ks'.contains q.block=false):At ao s n f w ks':=by
 refine⟨h.1,?_⟩
 rcases h.2 with h2|⟨b,o,e1,e2,e3,e4⟩
 ·exact .inl h2
 ·by_cases hn:n=0
  ·exact .inl hn
  ·exact .inr ⟨b,o,e1,e2,hk _ hn e1,e4⟩
theorem NV {ao:Option Addr}{s n:Nat}{f:Nat→List SV}{w:World}{ks:List Nat}(h:At ao s n f w ks)(hn:n≠0){q:Addr}(hq:ao=some q):ks.contains q.block=false∧q.block<w.heap.size:=by
 rcases h.2 with h2|⟨b,o,e1,e2,e3,e4⟩
 ·exact absurd h2 hn
 ·rw [hq]at e1
  cases e1
  exact⟨e3,e2⟩
theorem l32 {vs:List Value}(h:vs.length=32):∃tv:Nat→Value,vs=[tv 0,tv 1,tv 2,tv 3,tv 4,tv 5,tv 6,tv 7,tv 8,tv 9,tv 10,tv 11,tv 12,tv 13,tv 14,tv 15,tv 16,tv 17,tv 18,tv 19,tv 20,tv 21,tv 22,tv 23,tv 24,tv 25,tv 26,tv 27,tv 28,tv 29,tv 30,tv 31]:=by
 refine⟨fun k=>vs.getD k undef,?_⟩
 apply τ7
 ·simpa using h
 ·intro k h1 h2
  have e:vs.getD k undef=vs[k]:=by rw [α6,β0 h1,γ8]
  rw [←e]
  have hk:k<32:=by omega
  have key:∀f:Nat→Value,∀k:Nat,k<32→[f 0,f 1,f 2,f 3,f 4,f 5,f 6,f 7,f 8,f 9,f 10,f 11,f 12,f 13,f 14,f 15,f 16,f 17,f 18,f 19,f 20,f 21,f 22,f 23,f 24,f 25,f 26,f 27,f 28,f 29,f 30,f 31][k]?=some (f k):=fun f k hk=>by
   rw [show [f 0,f 1,f 2,f 3,f 4,f 5,f 6,f 7,f 8,f 9,f 10,f 11,f 12,f 13,f 14,f 15,f 16,f 17,f 18,f 19,f 20,f 21,f 22,f 23,f 24,f 25,f 26,f 27,f 28,f 29,f 30,f 31]=(List.range 32).map f from rfl,μ6,List.getElem?_range hk];rfl
  have h3:=key (fun k=>vs.getD k undef) k hk
  exact(β6 ((β0 h2).symm.trans h3)).symm
def sC (cs:List Ak)(rg:Nat→Rg)(mi:Rg):SV→World→World→Prop:=fun x w w'=>∃(tv:Nat→Value) (ra:Option Addr) (rc:Nat) (tr:List Tr) (DL:Loc),x=GP DL.b DL.pre.length∧w.heap.size≤DL.b∧EV w' DL.b (DL.pre++dV tv mi cs.length ra rc++DL.post).toArray DL.t∧JT cs (BU cs rg) tr w.heap.size w' [DL.b]∧tr.length=cs.length∧∀ks,(∀b,ks.contains b=true→b<w.heap.size∨b=DL.b∨(En tr).contains b=true)→At ra 1 cs.length (Rl tr) w' ks
section
variable {n:Nat}{T:List (Nat×SV)}{H H2:Hp}{G0 G0':Gr}{w0:World}{G:Gr}{a a':Act}{w:World}{cs:List Ak}{rg:Nat→Rg}{mi:Rg}{z:List Tr}
theorem fJ {l:List SV}{ra:Option Addr}{rc:Nat}(p t:Nat)(A:Sy n T H [] G0 w0 G a w)(hp:lg H p=some (some (.blk (l++[.sla ra cs.length rc,.int .i64 (mi 0),.int .i64 (mi 1),.int .i64 (mi 2),.sla none 0 0,.sla none 0 0,.sla none 0 0,.ff]))))(hl:l.length=32)(ht:look T t=some (.ptr p 0))(jt:JT cs (BU cs rg) z w0.heap.size w (keys H G))(hz:z.length=cs.length)(Df:At ra 1 cs.length (Rl z) w (keys H G))(hf:∀q:Addr,cs.length≠0→ra=some q→w0.heap.size≤q.block∧(En z).contains q.block=false):
  ∃M:Loc,Sy n ((t,GP M.b M.pre.length)::T) H [] G0 w0 G a w∧sC cs rg mi (GP M.b M.pre.length) w0 w:=by
 rw [BI]at hp
 obtain⟨M,vs,p1,p2,p3⟩:=A.mem.ent p _ hp
 have ZO:G[p]?=some (some M):=by
  cases hq:G[p]? with
  |none=>rw [hq]at p1;cases p1
  |some q=>rw [hq]at p1;simp only [γ8]at p1;rw [p1]
 obtain⟨us,ws,q1,q2,q3⟩:=GB p2
 have hw:ws=[.slice ra cs.length rc,.int .i64 (mi 0),.int .i64 (mi 1),.int .i64 (mi 2),.slice none 0 0,.slice none 0 0,.slice none 0 0,.bool false]:=by
  have e:Al G [.sla ra cs.length rc,.int .i64 (mi 0),.int .i64 (mi 1),.int .i64 (mi 2),.sla none 0 0,.sla none 0 0,.sla none 0 0,.ff]=some [.slice ra cs.length rc,.int .i64 (mi 0),.int .i64 (mi 1),.int .i64 (mi 2),.slice none 0 0,.slice none 0 0,.slice none 0 0,.bool false]:=rfl
  rw [e]at q2;exact(β6 q2).symm
 obtain⟨tv,htv⟩:=l32 (vs:=us) (by rw [Be q1,hl])
 have hv:vs=dV tv mi cs.length ra rc:=by rw [q3,hw,htv];rfl
 subst hv
 have J1:(keys H G).contains M.b=true:=mem_keys.2 ⟨p,_,M,hp,rfl,ZO,rfl⟩
 have own:w0.heap.size≤M.b:=(A.own _ _ _ hp rfl ZO).elim (fun h=>by cases h) id
 refine⟨M,A.slotEq t ht (by unfold den;rw [ZO];rfl),tv,ra,rc,z,M,rfl,own,p3,?_,hz,fun ks hk=>Vy Df fun q hn hq=>?_⟩
 ·refine JT.ok _ _ _ _ jt (DO.refl _ _) fun b hb=>.inl ?_
  have:b=M.b:=by simpa using hb
  rw [this];exact J1
 ·obtain⟨g1,g2⟩:=hf q hn hq
  cases hc:ks.contains q.block with
  |false=>rfl
  | true=>
   rcases hk _ hc with r|r|r
   ·omega
   ·have:=(NV Df hn hq).1
    rw [r,J1]at this;cases this
   ·rw [g2]at r;cases r
theorem fK (B:Sy n T H [] G0 w0 G a w)(jt:JT cs (BU cs rg) z w0.heap.size w (keys H G)){ra:Option Addr}{f:Nat→List SV}{m:Nat}{ks:List Nat}(hl:At ra 1 m f w ks)(hf:∀q:Addr,ra=some q→(keys H G).contains q.block=true∨w.heap.size≤q.block):∀q:Addr,m≠0→ra=some q→w0.heap.size≤q.block∧(En z).contains q.block=false:=fun q hm hq=>by
 have h1:=(NV hl hm hq).2
 have h2:(keys H G).contains q.block=true:=(hf q hq).elim id (fun h=>by omega)
 refine⟨(B.keys_own _ h2).elim (fun h=>by cases h) id,?_⟩
 cases hc:(En z).contains q.block with
 |false=>rfl
 |true=>
  obtain⟨k,hk,hb⟩:=Di.1 hc
  rw [(jt.lo k hk _ hb).2]at h2;cases h2
end
theorem Vz {cs:List Ak}{kd:List Cn}{ar:Int}{nm:List UInt8}{mi r:Nat→Int}{qu:Int}{cx ck k:Nat}(h:k<3):DX ⟨X,true⟩ 23 (CY ar nm mi r cs cx qu kd ck) (5+k*8)=some (.agg [.int .i64 (r (8*k+0)),.int .i64 (r (8*k+1)),.int .i64 (r (8*k+2)),.int .i64 (r (8*k+3)),.int .i64 (r (8*k+4)),.int .i64 (r (8*k+5)),.int .i64 (r (8*k+6)),.int .i64 (r (8*k+7))]):=by
 match k,h with
 |0,_=>rfl
 |1,_=>rfl
 |2,_=>rfl
theorem oH (ar:Int)(nm:List UInt8)(mi r:Nat→Int)(cs:List Ak)(cx:Nat)(qu:Int)(kd:List Cn)(ck:Nat)(Hn:∀c∈cs,Fs c.l)(EP:cs.length≤3):PG Tryz.prog 12 [.agg (CY ar nm mi r cs cx qu kd ck),.ff] [some (Bc cs),some (Bu kd)] [] (fun w=>An cs w []) (sC cs (fun k j=>r (8*k+j)) mi):=
 Gq (n:=45) (by kernel_rfl) Tryz.func12 rfl rfl rfl (fun i e h=>by match i,h with|0,h=>cases h;rfl|1,h=>cases h;rfl|i+2,h=>cases h) fun G w a h0 ho hp A=>have hM0:=A.mem;N9 24 A rfl rfl fun A=>l4 3 99 1 (Rl ([]:List Tr)) (CY ar nm mi r cs cx qu kd ck) [.int .i64 (mi 0),.int .i64 (mi 1),.int .i64 (mi 2),.sla none 0 0,.sla none 0 0,.sla none 0 0,.ff] A rfl (fun z=>⟨_,rfl,rfl⟩) rfl fun A=>Gm (fun(z:List Tr)=>[(2,.ptr 2 0),(5,.ptr 3 0),(6,.int .i64 (z.length:Int))]) (fun(z:List Tr)=>[some (Bc cs),some (Bu kd),some (.blk (CY ar nm mi r cs cx qu kd ck)),some (.blk [.int .i64 ar,.str nm,.int .i64 (mi 0),.int .i64 (mi 1),.int .i64 (mi 2),.int .i64 (r 0),.int .i64 (r 1),.int .i64 (r 2),.int .i64 (r 3),.int .i64 (r 4),.int .i64 (r 5),.int .i64 (r 6),.int .i64 (r 7),.int .i64 (r 8),.int .i64 (r 9),.int .i64 (r 10),.int .i64 (r 11),.int .i64 (r 12),.int .i64 (r 13),.int .i64 (r 14),.int .i64 (r 15),.int .i64 (r 16),.int .i64 (r 17),.int .i64 (r 18),.int .i64 (r 19),.int .i64 (r 20),.int .i64 (r 21),.int .i64 (r 22),.int .i64 (r 23),.sl 0 cs.length cx,.int .i64 qu,.sl 1 kd.length ck,.sl 4 z.length 0,.int .i64 (mi 0),.int .i64 (mi 1),.int .i64 (mi 2),.sla none 0 0,.sla none 0 0,.sla none 0 0,.ff]),some (.row 99 1 z.length 0 (Rl z))]) (fun z w' ks=>JT cs (BU cs (fun k j=>r (8*k+j))) z w.heap.size w' ks∧z.length≤cs.length) (fun z=>cs.length - z.length) [] ((A.cut [2,5,6] rfl).mv 2 [2,3,4] rfl rfl rfl rfl h0.symm) ⟨JT.i0,β8 _⟩ fun z G a w hz T6 A B=>have T8:=h0;have h0:=B.mem.len;N9 10 A rfl rfl fun A=>Aq 18 A rfl
   (fun h1 A=>N9 6 A rfl rfl fun A=>have sS:z.length<cs.length:=(by omega);JO By [.ptr 2 29,.sl 0 cs.length cx,.int .i64 (z.length:Int),.el 0 1 (z.length:Int) 0,.sla ((cs.getD (((z.length:Int)).toNat) Ak.z).ao) ((cs.getD (((z.length:Int)).toNat) Ak.z).l.length) ((cs.getD (((z.length:Int)).toNat) Ak.z).cp),.int .i64 (z.length:Int),.ptr 2 5,.ix (.ptr 2 5) 8 3 (z.length:Int) 0,.agg [.int .i64 (r (8*z.length+0)),.int .i64 (r (8*z.length+1)),.int .i64 (r (8*z.length+2)),.int .i64 (r (8*z.length+3)),.int .i64 (r (8*z.length+4)),.int .i64 (r (8*z.length+5)),.int .i64 (r (8*z.length+6)),.int .i64 (r (8*z.length+7))],.agg [.sla ((cs.getD (((z.length:Int)).toNat) Ak.z).ao) ((cs.getD (((z.length:Int)).toNat) Ak.z).l.length) ((cs.getD (((z.length:Int)).toNat) Ak.z).cp),.int .i64 (r (8*z.length+0)),.int .i64 (r (8*z.length+1)),.int .i64 (r (8*z.length+2)),.int .i64 (r (8*z.length+3)),.int .i64 (r (8*z.length+4)),.int .i64 (r (8*z.length+5)),.int .i64 (r (8*z.length+6)),.int .i64 (r (8*z.length+7)),.z9,.sla none 0 0],.ptr 5 0,.ptr 5 0] [10] [5] 1 [([],[5],[some (Bc cs),some (Bu kd),some (.blk (CY ar nm mi r cs cx qu kd ck)),some (.blk [.int .i64 ar,.str nm,.int .i64 (mi 0),.int .i64 (mi 1),.int .i64 (mi 2),.int .i64 (r 0),.int .i64 (r 1),.int .i64 (r 2),.int .i64 (r 3),.int .i64 (r 4),.int .i64 (r 5),.int .i64 (r 6),.int .i64 (r 7),.int .i64 (r 8),.int .i64 (r 9),.int .i64 (r 10),.int .i64 (r 11),.int .i64 (r 12),.int .i64 (r 13),.int .i64 (r 14),.int .i64 (r 15),.int .i64 (r 16),.int .i64 (r 17),.int .i64 (r 18),.int .i64 (r 19),.int .i64 (r 20),.int .i64 (r 21),.int .i64 (r 22),.int .i64 (r 23),.sl 0 cs.length cx,.int .i64 qu,.sl 1 kd.length ck,.sl 4 z.length 0,.int .i64 (mi 0),.int .i64 (mi 1),.int .i64 (mi 2),.sla none 0 0,.sla none 0 0,.sla none 0 0,.ff]),some (.row 99 1 z.length 0 (Rl z)),none]),([10],[],[some (Bc cs),some (Bu kd),some (.blk (CY ar nm mi r cs cx qu kd ck)),some (.blk [.int .i64 ar,.str nm,.int .i64 (mi 0),.int .i64 (mi 1),.int .i64 (mi 2),.int .i64 (r 0),.int .i64 (r 1),.int .i64 (r 2),.int .i64 (r 3),.int .i64 (r 4),.int .i64 (r 5),.int .i64 (r 6),.int .i64 (r 7),.int .i64 (r 8),.int .i64 (r 9),.int .i64 (r 10),.int .i64 (r 11),.int .i64 (r 12),.int .i64 (r 13),.int .i64 (r 14),.int .i64 (r 15),.int .i64 (r 16),.int .i64 (r 17),.int .i64 (r 18),.int .i64 (r 19),.int .i64 (r 20),.int .i64 (r 21),.int .i64 (r 22),.int .i64 (r 23),.sl 0 cs.length cx,.int .i64 qu,.sl 1 kd.length ck,.sl 4 z.length 0,.int .i64 (mi 0),.int .i64 (mi 1),.int .i64 (mi 2),.sla none 0 0,.sla none 0 0,.sla none 0 0,.ff]),some (.row 99 1 z.length 0 (Rl z)),some (.blk [.sla ((cs.getD (((z.length:Int)).toNat) Ak.z).ao) ((cs.getD (((z.length:Int)).toNat) Ak.z).l.length) ((cs.getD (((z.length:Int)).toNat) Ak.z).cp),.int .i64 (r (8*z.length+0)),.int .i64 (r (8*z.length+1)),.int .i64 (r (8*z.length+2)),.int .i64 (r (8*z.length+3)),.int .i64 (r (8*z.length+4)),.int .i64 (r (8*z.length+5)),.int .i64 (r (8*z.length+6)),.int .i64 (r (8*z.length+7)),.z9,.sla none 0 0])])] [[true,true,true,true,true,true,true,true,true,true,true,false],[true,true,true,true,true,true,true,true,true,false,false,true]] A rfl rfl rfl rfl (by kernel_rfl) rfl (by kernel_rfl) ⟨⟨Ao 0 rfl rfl,⟨Ao 0 rfl rfl,⟨Ao 0 rfl rfl,⟨Ao 0 rfl (Aj (by omega)<|Ah),⟨Ao 0 rfl (Aj (by omega)<|Ah),⟨Ao 0 rfl rfl,⟨Ao 0 rfl rfl,⟨Ao 0 rfl (Aj (by omega)<|Ah),⟨CF 0 rfl (MA (k:=z.length) hX rfl rfl rfl rfl (Vz (by omega))),⟨Ao 0 rfl rfl,⟨⟨_,_,_,_,1,rfl,rfl,rfl,rfl,Eh 5 (X:=⟨_,true⟩) hX rfl rfl (Ph h0 rfl) rfl rfl rfl rfl⟩,trivial⟩⟩⟩⟩⟩⟩⟩⟩⟩⟩⟩,⟨⟨Ao 1 rfl rfl,⟨Ao 1 rfl rfl,⟨Ao 1 rfl rfl,⟨Ao 1 rfl (Aj (by omega)<|Ah),⟨Ao 1 rfl (Aj (by omega)<|Ah),⟨Ao 1 rfl rfl,⟨Ao 1 rfl rfl,⟨Ao 1 rfl (Aj (by omega)<|Ah),⟨CF 1 rfl (MA (k:=z.length) hX rfl rfl rfl rfl (Vz (by omega))),⟨Ao 1 rfl rfl,trivial⟩⟩⟩⟩⟩⟩⟩⟩⟩⟩,trivial⟩⟩ fun A=>N9 4 A rfl rfl fun A=>nH (rg:=(fun k j=>r (8*k+j))) 32 B A hz.1 sS hp (Of Hn sS) (yL 2 hM0 (B.trans A).pre rfl rfl) rfl rfl (fun _=>rfl) fun L pb ps {a w x} hJ Fq B=>have A:=B.base;have h0:=B.mem.len;
 N9 10 A rfl rfl fun A=>have A:=A.cellEq 6 (cs':=[GP L.b L.pre.length]) rfl (VR (A.at_pre Fq)) rfl;OP hX (z.length+1) (Rl (z++[Tr.mk L pb ps])) A rfl rfl rfl rfl (by omega) rfl (fun k hk=>by show [_]=[_];rw [trA hk]) (by show [_]=[_];rw [trN]) (fun z=>⟨_,rfl,rfl⟩) fun A=>have A:=(A.rowAs 7 ((z++[Tr.mk L pb ps]).length) (Rl (z++[Tr.mk L pb ps])) rfl (by rw [α4];rfl) (fun q hq=>rfl) (fun z=>⟨_,rfl,rfl⟩)).say 41 (.sl 7 ((z++[Tr.mk L pb ps]).length) 0) rfl (by rw [α4]<;>rfl);N9 11 A rfl (Aj (by omega)<|Ah) fun A=>⟨(z++[Tr.mk L pb ps]),_,(by rw [α4];show cs.length - (z.length+1)<cs.length - z.length;omega),⟨((JT.ok.now A hJ).mv (m:=[0,1,2,3,7]) A.mem.len rfl rfl),(by rw [α4];show z.length+1≤cs.length;omega)⟩,(((Ai (B.trans A) 6 (.int .i64 (((z++[Tr.mk L pb ps]).length:Nat):Int)) rfl (fun _=>congrArg (fun b=>some (Value.int .i64 b)) (by rw [α4];rfl))).cut [2,5,6] rfl).mv 2 [2,3,7] rfl rfl rfl rfl T8.symm)⟩)
   (fun h1 A=>N9 4 A rfl rfl fun A=>have zL:z.length=cs.length:=(by have:=hz.2;omega);have A:=A.sayH (H':=[some (Bc cs),some (Bu kd),some (.blk (CY ar nm mi r cs cx qu kd ck)),some (.blk [.int .i64 ar,.str nm,.int .i64 (mi 0),.int .i64 (mi 1),.int .i64 (mi 2),.int .i64 (r 0),.int .i64 (r 1),.int .i64 (r 2),.int .i64 (r 3),.int .i64 (r 4),.int .i64 (r 5),.int .i64 (r 6),.int .i64 (r 7),.int .i64 (r 8),.int .i64 (r 9),.int .i64 (r 10),.int .i64 (r 11),.int .i64 (r 12),.int .i64 (r 13),.int .i64 (r 14),.int .i64 (r 15),.int .i64 (r 16),.int .i64 (r 17),.int .i64 (r 18),.int .i64 (r 19),.int .i64 (r 20),.int .i64 (r 21),.int .i64 (r 22),.int .i64 (r 23),.sl 0 cs.length cx,.int .i64 qu,.sl 1 kd.length ck,.sl 4 cs.length 0,.int .i64 (mi 0),.int .i64 (mi 1),.int .i64 (mi 2),.sla none 0 0,.sla none 0 0,.sla none 0 0,.ff]),some (.row 99 1 cs.length 0 (Rl z))]) (by rw [zL]);N9 6 A rfl rfl fun A=>have zM:=JT.ok.now A hz.1;have B:=B.trans A;have A:=B.base;have h0:=B.mem.len;cY 4 3 (CY ar nm mi r cs cx qu kd ck) [.int .i64 (mi 0),.int .i64 (mi 1),.int .i64 (mi 2),.sla none 0 0,.sla none 0 0,.sla none 0 0,.ff] (fun ra rc=>[some (Bc cs),some (Bu kd),some (.blk (CY ar nm mi r cs cx qu kd ck)),some (.blk [.int .i64 ar,.str nm,.int .i64 (mi 0),.int .i64 (mi 1),.int .i64 (mi 2),.int .i64 (r 0),.int .i64 (r 1),.int .i64 (r 2),.int .i64 (r 3),.int .i64 (r 4),.int .i64 (r 5),.int .i64 (r 6),.int .i64 (r 7),.int .i64 (r 8),.int .i64 (r 9),.int .i64 (r 10),.int .i64 (r 11),.int .i64 (r 12),.int .i64 (r 13),.int .i64 (r 14),.int .i64 (r 15),.int .i64 (r 16),.int .i64 (r 17),.int .i64 (r 18),.int .i64 (r 19),.int .i64 (r 20),.int .i64 (r 21),.int .i64 (r 22),.int .i64 (r 23),.sl 0 cs.length cx,.int .i64 qu,.sl 1 kd.length ck,.sla ra cs.length rc,.int .i64 (mi 0),.int .i64 (mi 1),.int .i64 (mi 2),.sla none 0 0,.sla none 0 0,.sla none 0 0,.ff]),none]) A rfl rfl rfl (fun _ _=>rfl) fun ra rc A hl hf=>have SG:=fK B zM hl hf;have hze:=hz.2;ρ5 (fJ (l:=(CY ar nm mi r cs cx qu kd ck)) 3 4 (B.trans A) rfl rfl rfl (JT.ok.now A zM) zL hl SG) fun M ⟨A,hJ⟩=>Hw (J:=sC cs (fun k j=>r (8*k+j)) mi) hX A rfl rfl rfl rfl hJ)
end Go.Proofs.YtbbdanhpphlbpaaGreatDoor.Mc
namespace Go.Proofs.YtbbdanhpphlbpaaGreatDoor.Mc
open Go.RowKit
set_option simprocs false
theorem LB {cs:List Ak}{w:World}{ks:List Nat}(h:An cs w ks):An cs w []:=An.ok _ _ _ _ h (DO.refl _ _) (fun b hb=>by cases hb)
structure RD (cs:List Ak)(ts:List Th)(tr z:List Tr)(ra:Option Addr)(nn N:Nat)(w:World)(ks:List Nat):Prop where
 jt:JT cs ts tr N w ks
 row:At ra 1 nn (Rl z) w (ks++En tr)
 ln:tr.length=nn
 hl:∀k,k<nn→(tr.getD k Tr.z).L=(z.getD k Tr.z).L
theorem DJ {a b:List Nat}{x:Nat}:(a++b).contains x=true↔a.contains x=true∨b.contains x=true:=by
 rw [ε5,ε5,ε5,ζ6]
theorem RD.ok {cs:List Ak}{ts:List Th}{tr z:List Tr}{ra:Option Addr}{nn N:Nat}:Ef.OK (RD cs ts tr z ra nn N):=fun w ks w' ks' h m hk=>by
 refine⟨JT.ok _ _ _ _ h.jt m hk,?_,h.ln,h.hl⟩
 refine At.ok _ _ _ _ h.row ⟨m.os,m.tape,m.output,m.size,fun k JW hc=>m.block k JW ?_⟩ fun b hb=>?_
 ·cases hq:ks.contains k with
  |false=>rfl
  |true=>rw [DJ.2 (.inl hq)]at hc;cases hc
 ·rcases DJ.1 hb with q|q
  ·exact(hk b q).elim (fun r=>.inl (DJ.2 (.inl r))) .inr
  ·exact .inl (DJ.2 (.inr q))
theorem RD.rf {cs cs2:List Ak}{ts:List Th}{tr z:List Tr}{ra:Option Addr}{nn N:Nat}{w:World}{ks:List Nat}(h:RD cs ts tr z ra nn N w ks)(qS:An cs2 w ks)(hc:An cs w ks)(hle:nn≤cs.length)(heq:∀k,k<nn→(cs2.getD k Ak.z).l=(cs.getD k Ak.z).l):NN cs2 ts nn ra (fun k=>(z.getD k Tr.z).L.b) (fun k=>(z.getD k Tr.z).L.pre.length) (fun k=>(cs.getD k Ak.z).ao) (fun k=>(cs.getD k Ak.z).cp) (fun k=>PH (tr.getD k Tr.z).pb (tr.getD k Tr.z).ps.length) w ks:=
 ⟨At.ok _ _ _ _ h.row (DO.refl _ _) (fun b hb=>.inl (DJ.2 (.inl hb))),JT.look2 (z:=z) h.jt qS hc h.ln hle heq h.hl⟩
section
variable {n:Nat}{ks:List Nat}{G0:Gr}{w0:World}{T:List (Nat×SV)}{H:Hp}{G:Gr}{a:Act}{w:World}
theorem TG (A:Sy n T H ks G0 w0 G a w)(p:Nat){L:Loc}{cs:List SV}{vs:List Value}{H':Hp}(hp:p<H.length)(hG:G[p]?=some (some L))(hc:Al [] cs=some vs)(hb:EV w L.b (L.pre++vs++L.post).toArray L.t)(Dk:Kr H G [L.b])(ho:ks.contains L.b=true∨w0.heap.size≤L.b)(hH:Cd H p (some (.blk cs))=H'):Sy n T H' ks G0 w0 G a w:=by
 subst hH
 have hold:∀(j:Nat) (e:Bo),(Cd H p (some (.blk cs)))[j]?=some (some e)→(j=p∧e=.blk cs)∨(j≠p∧H[j]?=some (some e)):=by
  intro j e h
  rw [BJ]at h
  by_cases hj:j=p
  ·subst hj
   rw [γ7 hp]at h
   cases h
   exact .inl ⟨rfl,rfl⟩
  ·rw [γ0 (ζ1 hj)]at h;exact .inr ⟨hj,h⟩
 have Ch:∀(j:Nat) (e:Bo) (M:Loc),H[j]?=some (some e)→G[j]?=some (some M)→¬e.empty→M.b≠L.b:=fun j e M g1 g2 g3 h=>by
  have:=Dk j e M g1 g2 g3
  rw [h]at this;simp at this
 refine⟨A.size,A.defers,A.get,⟨by rw [BJ];simpa using A.mem.len,fun j e he=>?_,fun j k e f L' M HY g1 g2 g3 g4 g5 g6=>?_⟩,A.pre,fun j e L' g1 g2 g3=>?_,A.mix⟩
 ·rcases hold j e he with⟨rfl,rfl⟩|⟨_,h⟩
  ·rw [hG]
   exact⟨L,vs,rfl,by simpa using BT G cs hc,hb⟩
  ·exact A.mem.ent j e h
 ·rcases hold j e g1 with⟨rfl,rfl⟩|⟨hj,h1⟩
  ·rw [hG]at g4;cases g4
   rcases hold k f g2 with⟨rfl,_⟩|⟨_,h2⟩
   ·exact absurd rfl HY
   ·exact fun h=>Ch k f M h2 g5 g6 h.symm
  ·rcases hold k f g2 with⟨rfl,rfl⟩|⟨_,h2⟩
   ·rw [hG]at g5;cases g5
    exact Ch j e L' h1 g4 (Bf g3)
   ·exact A.mem.sep j k e f L' M HY h1 h2 g3 g4 g5 g6
 ·rcases hold j e g1 with⟨rfl,rfl⟩|⟨_,h1⟩
  ·rw [hG]at g3;cases g3;exact ho
  ·exact A.own j e L' h1 g2 g3
end
theorem fL (tv:Nat→Value)(m:Rg)(nn:Nat)(ra:Option Addr)(rc:Nat):Al [] (dS tv m nn ra rc)=some (dV tv m nn ra rc):=rfl
section
variable {n:Nat}{ks:List Nat}{G0:Gr}{w0:World}{T:List (Nat×SV)}{H:Hp}{G:Gr}{a:Act}{w:World}{ops:Array Oper}{o:Oper}{rest:List Oper}{Q:Exit→Act→World→Prop}{K:List Fr}{cs:List Ak}{ts:List Th}{tr z:List Tr}{ra:Option Addr}{rc nn:Nat}{tv:Nat→Value}{m:Rg}
theorem DOX (p t:Nat) {H1 H2:Hp} (A:Sy n T H ks G0 w0 G a w) (rd:RD cs ts tr z ra nn w0.heap.size w (keys H G)) (hC:An cs w0 ks) (hm:Rk H1 G w0.heap.size) (hp:lg H p=some (some (.blk (dS tv m nn ra rc)))) (ht:look T t=some (.ptr p 0)) (PF:ts.length=nn) (hle:nn≤cs.length) (EP:nn≤3) (th at_:Int) (Eb:0≤th∧th<((nn:Nat):Int)) (Hn:Fs (cs.getD th.toNat Ak.z).l) (Et:(ts.getD th.toNat Th.z).at_<(cs.getD th.toNat Ak.z).l.length) (kE:∀k,k<3→inr (m k))
  (h1:∀L:Loc,B6 n ops ((t,GP L.b L.pre.length)::T) o=some (16,[GP L.b L.pre.length,.agg [.int .i64 2,.int .i64 th,.int .i64 at_,.z9]])) (xS:Cd H p none=H1) (p8:Cd H1 p (some (.blk (dS tv (EU m (ts.getD th.toNat Th.z).r ((cs.getD th.toNat Ak.z).l.getD ((((ts.getD th.toNat Th.z).at_:Nat):Int)).toNat In.z)) nn ra rc)))=H2)
  (k:∀tr' {a' w' x} (L:Loc),RD cs (CR cs ts th (Iz m (ts.getD th.toNat Th.z).r ((cs.getD th.toNat Ak.z).l.getD ((((ts.getD th.toNat Th.z).at_:Nat):Int)).toNat In.z))) tr' z ra nn w0.heap.size w' (keys H2 G)→Sy n (Bh ((t,GP L.b L.pre.length)::T) o.dst x) H2 ks G0 w0 G a' w'→Goal Tryz.prog Q K (.ops ops rest) a' w'):Goal Tryz.prog Q K (.ops ops (o::rest)) a w:=by
 have QW:=hp
 rw [BI]at QW
 have KN:p<H.length:=(α0.1 QW).1
 refine Z3 (P:=Tryz.prog) p t A hp (fL tv m nn ra rc) ht xS fun L A1 Jy sR Dk EA hG=>?_
 have xT:(keys H G).contains L.b=true:=mem_keys.2 ⟨p,_,L,QW,rfl,hG,rfl⟩
 have PM:∀b,(keys H1 G).contains b=true→(keys H G).contains b=true:=fun b hb=>by
  obtain⟨i,e,M,g1,g2,g3,g4⟩:=mem_keys.1 hb
  subst xS
  rw [BJ]at g1
  by_cases hi:i=p
  ·subst hi;rw [γ7 KN]at g1;cases g1
  ·rw [γ0 (ζ1 hi)]at g1;exact mem_keys.2 ⟨i,e,M,g1,g2,g3,g4⟩
 have JW:∀b,(keys H2 G).contains b=true→b=L.b∨(keys H1 G).contains b=true:=fun b hb=>by
  obtain⟨i,e,M,g1,g2,g3,g4⟩:=mem_keys.1 hb
  subst p8
  rw [BJ]at g1
  by_cases hi:i=p
  ·subst hi;rw [hG]at g3;cases g3;exact .inl g4.symm
  ·rw [γ0 (ζ1 hi)]at g1;exact .inr (mem_keys.2 ⟨i,e,M,g1,g2,g3,g4⟩)
 have FL:w0.heap.size≤w.heap.size:=A.mix.size
 have bC:∀b,(L.b::En tr).contains b=true→ks.contains b=true∨w0.heap.size≤b:=fun b hb=>by
  rw [ζ3,β9]at hb
  rcases hb with hb|hb
  ·have:b=L.b:=by simpa using hb
   rw [this];exact EA
  ·obtain⟨j,hj,h2⟩:=Di.1 hb
   exact .inr (rd.jt.lo j hj b h2).1
 have KO:yO tv m cs ts nn ra rc tr L w:=by
  refine⟨Jy,?_,?_,An.ok _ _ _ _ hC A.mix bC⟩
  ·have Df:At ra 1 nn (Rl z) w (L.b::En tr):=At.ok _ _ _ _ rd.row (DO.refl _ _) fun b hb=>.inl (by
    rw [ζ3,β9]at hb
    rcases hb with hb|hb
    ·have:b=L.b:=by simpa using hb
     rw [this];exact DJ.2 (.inl xT)
    ·exact DJ.2 (.inr hb))
   refine⟨fun j=>⟨_,rfl⟩,?_⟩
   rcases Df.2 with q|⟨b,oo,e1,e2,e3,e4⟩
   ·exact .inl q
   ·refine .inr ⟨b,oo,e1,e2,e3,fun j hj=>?_⟩
    have:=e4 j hj
    unfold Rl at this⊢
    rw [rd.hl j hj];exact this
  ·exact JT.ok _ _ _ _ ⟨rd.jt.out,rd.jt.len,fun j hj b hb=>⟨β8 _,(rd.jt.lo j hj b hb).2⟩,rd.jt.ap⟩ (DO.refl _ _) fun b hb=>.inl (by
    have:b=L.b:=by simpa using hb
    rw [this];exact xT)
 have rA:Kr H1 G (L.b::En tr):=fun i e M q1 q2 q3=>by
  cases hc:(L.b::En tr).contains M.b with
  |false=>rfl
  | true=>
   rw [ζ3,β9]at hc
   rcases hc with hc|hc
   ·have:=Dk i e M q1 q2 q3
    simp at this hc
    exact absurd hc this
   ·obtain⟨j,hj,h2⟩:=Di.1 hc
    have h3:=rd.jt.lo j hj _ h2
    cases QY:e.mut with
    |true=>rw [PM _ (mem_keys.2 ⟨i,e,M,q1,QY,q2,rfl⟩)]at h3;cases h3.2
    |false=>have:=hm i e M q1 QY q2 q3;omega
 refine L7 [] (u9 tv m cs ts nn ra rc tr L th at_ rd.ln PF hle EP Eb Hn Et kE) A1 KO rA bC (h1 L) rfl rfl rfl rfl fun{x a' w'} T5 hJ A'=>?_
 obtain⟨tr',j1,j2,j3,j4,j5⟩:=hJ
 have A2:=TG A' p (by subst xS;rw [BJ,θ7];exact KN) hG (fL _ _ _ _ _) j1 Dk EA p8
 have Bn:∀b,(keys H1 G).contains b=true→b<w.heap.size:=fun b hb=>Ih A1.mem hb
 have Dl:∀j,j<tr'.length→∀b,(tr'.getD j Tr.z).bl.contains b=true→(w0.heap.size≤b∧(keys H1 G).contains b=false):=fun j hj b hb=>by
  rcases j5 b (Di.2 ⟨j,hj,hb⟩)with q|q
  ·rw [ζ3,β9]at q
   rcases q with q|q
   ·have e:b=L.b:=by simpa using q
    have:=(j2.lo j hj b hb).2
    rw [e]at this;simp at this
   ·obtain⟨j',pU,h2⟩:=Di.1 q
    have h3:=rd.jt.lo j' pU b h2
    refine⟨h3.1,?_⟩
    cases hz:(keys H1 G).contains b with
    |false=>rfl
    |true=>rw [PM b hz]at h3;cases h3.2
  ·refine⟨by omega,?_⟩
   cases hz:(keys H1 G).contains b with
   |false=>rfl
   |true=>have:=Bn b hz;omega
 refine k tr' L ⟨⟨j2.out,j2.len,fun j hj b hb=>⟨(Dl j hj b hb).1,?_⟩,j2.ap⟩,?_,j3,fun j hj=>(j4 j hj).trans (rd.hl j hj)⟩ A2
 ·cases hz:(keys H2 G).contains b with
  |false=>rfl
  | true=>
   rcases JW b hz with e|e
   ·have:=(j2.lo j hj b hb).2
    rw [e]at this;simp at this
   ·rw [(Dl j hj b hb).2]at e;cases e
 ·have kC:At ra 1 nn (Rl z) w' (L.b::En tr):=At.ok _ _ _ _ (At.ok _ _ _ _ rd.row (DO.refl _ _) fun b hb=>.inl (by
    rw [ζ3,β9]at hb
    rcases hb with hb|hb
    ·have:b=L.b:=by simpa using hb
     rw [this];exact DJ.2 (.inl xT)
    ·exact DJ.2 (.inr hb))) T5 fun b hb=>.inl hb
  refine Vy kC fun q hn hq=>?_
  obtain⟨g1,_⟩:=NV kC hn hq
  obtain⟨g3,g4⟩:=NV rd.row hn hq
  cases hz:(keys H2 G++En tr').contains q.block with
  |false=>rfl
  | true=>
   rcases DJ.1 hz with e|e
   ·rcases JW _ e with e|e
    ·rw [e]at g1;simp at g1
    ·rw [DJ.2 (.inl (PM _ e))]at g3;cases g3
   ·rcases j5 _ e with e|e
    ·rw [e]at g1;cases g1
    ·omega
end
section
variable {P:Program}{n:Nat}{ks:List Nat}{G0:Gr}{w0:World}{T:List (Nat×SV)}{H:Hp}{G:Gr}{a:Act}{w:World}{ops:Array Oper}{o:Oper}{Q:Exit→Act→World→Prop}{pre:World→Prop}{i fuel:Nat}{listed:Array Bool}
theorem V0 {f:Nat} {args az:List SV} {t:Nat} {cs:List Ak} {kd:List Cn} {ar qu:Int} {nm:List UInt8} {mi r:Nat→Int} {H' l:Hp} (m:List Nat) (ho:ops[i]?=some o) (hf:PG P f args H' [] pre (sB cs kd ar nm mi r qu)) (A:Sy n T H ks G0 w0 G a w) (hp:pre w) (h1:B6 n ops T o=some (f,az)) (h2:EB m args=some az) (h3:DE m H'=some l) (h4:DA H m=some l) (h5:Jt m=true) (hd:o.dst=some t)
  (k:∀(ao1 ao2:Option Addr) (cp1 cp2:Nat) (cs':List Ak) {a' w'},cs'.length=cs.length→(∀k,k<cs.length→(cs'.getD k Ak.z).l=(cs.getD k Ak.z).l)→(At ao1 1 cs'.length (fun zz=>JL (cs'.getD zz Ak.z)) w' (keys H G)∧An cs' w' (keys H G))→Sy n ((t,.agg (FS ar nm mi r (.sla ao1 cs'.length cp1) qu (.sla ao2 kd.length cp2)))::T) H ks G0 w0 G a' w'→wpAny P .any ops Q fuel (listed.setIfInBounds i true) a' w'):wpOp P ops Q i (wpAny P .any ops Q fuel (listed.setIfInBounds i true)) a w:=by
 refine HN m ho hf A hp Kr.nil (fun b h=>by cases h) h1 h2 h3 h4 h5 fun{x a' w'} hm hJ A'=>?_
 obtain⟨ao1,ao2,cp1,cp2,cs',hx,hl,he,hK⟩:=hJ
 have h0:=hK (keys H G) (fun b h=>Ih A.mem h)
 rw [←hl]at hx h0
 subst hx
 rw [hd]at A'
 exact k ao1 ao2 cp1 cp2 cs' hl he h0 A'
theorem V1 {f:Nat} {args az:List SV} {cs:List Ak} {rg:Nat→Rg} {m:Nat→Int} {t:Nat} {H':List Ak→Hp} (ho:ops[i]?=some o) (hf:PG P f args [] [] pre (Ol cs rg m)) (A:Sy n T H ks G0 w0 G a w) (hp:pre w) (h1:B6 n ops T o=some (f,az)) (h2:EB [] args=some az) (hd:o.dst=some t)
  (hH:∀cs':List Ak,H++[some (Ay cs' (BU cs rg) cs.length)]++[some (.blk [.sl H.length cs.length 0])]++[some (.blk (jW (H.length+1) m))]=H' cs')
  (k:∀cs' {G a w'},BR cs' (BU cs rg) cs.length→(∀k,k<cs.length→(cs'.getD k Ak.z).l=(cs.getD k Ak.z).l)→Ok cs' w0.heap.size w' (keys (H' cs') G)→Sy n ((t,.ptr (H.length+2) 0)::T) (H' cs') ks G0 w0 G a w'→wpAny P .any ops Q fuel (listed.setIfInBounds i true) a w'):wpOp P ops Q i (wpAny P .any ops Q fuel (listed.setIfInBounds i true)) a w:=by
 refine HN [] ho hf A hp Kr.nil (fun b h=>by cases h) h1 h2 rfl rfl rfl fun{x a' w'} hm hJ A'=>?_
 obtain⟨M,L,bt,cp,cs',rfl,jH,qU,xN,XI,qT,AW,heq,EO⟩:=hJ
 rw [hd]at A'
 have hlen:=A.mem.len
 have hold:∀(i:Nat) (e:Bo) (M:Loc),H[i]?=some (some e)→G[i]?=some (some M)→¬e.empty→M.b<w.heap.size:=fun i e M q1 q2 q3=>by
  have:=A.mem.ent i e q1
  rw [q2]at this
  exact BK.lt this q3
 obtain⟨R,hR,A2⟩:=A'.takeCoreG qT A.mix.size hold
 have qV:(G++[some R]++[some L])[H.length+1]?=some (some L):=by
  rw [α2 (by simp;omega)];simp [hlen]
 have FM:Al (G++[some R]++[some L]) (jW (H.length+1) m)=some (nJ L m):=
  Bb (by unfold den;rw [qV];rfl) (by simpa using BT (G:=[]) (G++[some R]++[some L]) [.int .i64 (m 0),.int .i64 (m 1),.int .i64 (m 2)] rfl)
 have PE:∀(i:Nat) (e:Bo) (Z:Loc),(H++[some (Ay cs' (BU cs rg) cs.length)]++[some (.blk [.sl H.length cs.length 0])])[i]?=some (some e)→(G++[some R]++[some L])[i]?=some (some Z)→¬e.empty→Z.b<w.heap.size∨Z.b=L.b∨Z.b=bt:=fun i e Z q1 q2 q3=>by
  by_cases hi:i<H.length
  ·rw [γ2,α1 hi]at q1
   rw [γ2,α1 (by omega)]at q2
   exact .inl (hold i e Z q1 q2 q3)
  ·by_cases Qf:i=H.length
   ·subst Qf
    rw [γ2,α2 (by omega)]at q2
    simp [hlen]at q2
    subst q2;exact .inr (.inr hR)
   ·have ZK:i=H.length+1:=by
     have:=(α0.1 q1).1
     simp at this;omega
    subst ZK
    rw [qV]at q2;cases q2
    exact .inr (.inl rfl)
 have A3:=A2.takeEnt (L:=M) (en:=.blk (jW (H.length+1) m)) ⟨M,_,rfl,FM,XI⟩ rfl (fun i e Z q1 q2 q3=>by
  rcases PE i e Z q1 q2 q3 with q|q|q
  ·omega
  ·rw [q];exact fun h=>qU h.symm
  ·rw [q];exact fun h=>xN h.symm) (β4 A.mix.size jH)
 rw [hH cs']at A3
 have J1:∀b,(keys (H' cs') (G++[some R]++[some L]++[some M])).contains b=true→b<w.heap.size∨b=L.b∨b=bt∨b=M.b:=fun b hb=>by
  rw [←hH cs']at hb
  obtain⟨i,en,Z,g1,g2,g3,g4⟩:=mem_keys.1 hb
  by_cases hi:i<H.length+2
  ·rw [α1 (by simp;omega)]at g1
   rw [α1 (by simp;omega)]at g3
   rw [←g4]
   rcases PE i en Z g1 g3 (Bf g2)with q|q|q
   ·exact .inl q
   ·exact .inr (.inl q)
   ·exact .inr (.inr (.inl q))
  ·have ZK:i=H.length+2:=by
    have:=(α0.1 g1).1
    simp at this;omega
   subst ZK
   rw [α2 (by simp;omega)]at g3
   simp [hlen]at g3
   subst g3
   exact .inr (.inr (.inr g4.symm))
 refine k cs' (G:=G++[some R]++[some L]++[some M]) AW heq (fun ks' EC=>EO ks' fun b hb=>?_) ?_
 ·rcases EC b hb with q|q
  ·exact .inl (ζ2 q A.mix.size)
  ·exact J1 b q
 have A4:=A3.slotEq t (x:=GP M.b M.pre.length) (y:=.ptr (H.length+2) 0) (by simp [Bh,look,η7]) (by
  unfold den
  rw [α2 (by simp;omega)]
  simp [hlen])
 refine⟨A4.size,A4.defers,fun q x hx=>A4.get q x ?_,A4.mem,A4.pre,A4.own,A4.mix⟩
 unfold look at hx⊢
 cases hb:Nat.beq t q with
 |true=>rw [hb]at hx;exact hx
 |false=>
  rw [hb]at hx
  show look (Bh T (some t) _) q=some x
  simp only [Bh]
  unfold look
  rw [hb]
  exact hx
theorem V2 {f:Nat} {args az:List SV} {t:Nat} {cs:List Ak} {rg:Nat→Rg} {mi:Rg} {H' l:Hp} (m:List Nat) (ho:ops[i]?=some o) (hf:PG P f args H' [] pre (sC cs rg mi)) (A:Sy n T H ks G0 w0 G a w) (hp:pre w) (h1:B6 n ops T o=some (f,az)) (h2:EB m args=some az) (h3:DE m H'=some l) (h4:DA H m=some l) (h5:Jt m=true) (hd:o.dst=some t)
  (k:∀(tv:Nat→Value) (ra:Option Addr) (rc:Nat) (z:List Tr) {G a' w'},RD cs (BU cs rg) z z ra cs.length w0.heap.size w' (keys (H++[some (.blk (dS tv mi cs.length ra rc))]) G)→Sy n ((t,.ptr H.length 0)::T) (H++[some (.blk (dS tv mi cs.length ra rc))]) ks G0 w0 G a' w'→wpAny P .any ops Q fuel (listed.setIfInBounds i true) a' w'):wpOp P ops Q i (wpAny P .any ops Q fuel (listed.setIfInBounds i true)) a w:=by
 refine HN m ho hf A hp Kr.nil (fun b h=>by cases h) h1 h2 h3 h4 h5 fun{x a' w'} hm hJ A'=>?_
 obtain⟨tv,ra,rc,tr,DL,rfl,Dl,Jy,rB,jI,Df⟩:=hJ
 rw [hd]at A'
 have hlen:=A.mem.len
 have hold:∀(i:Nat) (e:Bo) (M:Loc),H[i]?=some (some e)→G[i]?=some (some M)→¬e.empty→M.b<w.heap.size:=fun i e M q1 q2 q3=>by
  have:=A.mem.ent i e q1
  rw [q2]at this
  exact BK.lt this q3
 have A2:=A'.takeEnt (L:=DL) (en:=.blk (dS tv mi cs.length ra rc)) ⟨DL,_,rfl,by simpa using BT G _ (fL tv mi cs.length ra rc),Jy⟩ rfl (fun i e M q1 q2 q3=>by have:=hold i e M q1 q2 q3;omega) (β4 A.mix.size Dl)
 have A3:=A2.slotEq t (x:=GP DL.b DL.pre.length) (y:=.ptr H.length 0) (by simp [Bh,look,η7]) (by
  unfold den
  rw [α2 (by omega),hlen]
  simp)
 have J1:∀b,(keys (H++[some (.blk (dS tv mi cs.length ra rc))]) (G++[some DL])).contains b=true→b<w.heap.size∨b=DL.b:=fun b hb=>by
  obtain⟨j,en,Z,g1,g2,g3,g4⟩:=mem_keys.1 hb
  by_cases hj:j<H.length
  ·rw [α1 hj]at g1
   rw [α1 (by omega)]at g3
   rw [←g4]
   exact .inl (hold j en Z g1 g3 (Bf g2))
  ·have hj3:j=H.length:=by
    have:=(α0.1 g1).1
    simp at this;omega
   subst hj3
   rw [α2 (by omega),hlen]at g3
   simp at g3
   subst g3
   exact .inr g4.symm
 have hN:=A.mix.size
 refine k tv ra rc tr ⟨⟨rB.out,rB.len,fun j hj b hb=>⟨β4 hN (rB.lo j hj b hb).1,?_⟩,rB.ap⟩,Df _ fun b hb=>?_,jI,fun _ _=>rfl⟩ ⟨A3.size,A3.defers,fun q x hx=>A3.get q x ?_,A3.mem,A3.pre,A3.own,A3.mix⟩
 ·have h4:=rB.lo j hj b hb
  cases hz:(keys (H++[some (.blk (dS tv mi cs.length ra rc))]) (G++[some DL])).contains b with
  |false=>rfl
  | true=>
   rcases J1 b hz with q|q
   ·have:=h4.1;omega
   ·have:=h4.2
    rw [q]at this;simp at this
 ·rcases DJ.1 hb with q|q
  ·exact(J1 b q).elim .inl (fun e=>.inr (.inl e))
  ·exact .inr (.inr q)
 ·unfold look at hx⊢
  cases hb:Nat.beq t q with
  |true=>rw [hb]at hx;exact hx
  |false=>
   rw [hb]at hx
   show look (Bh T (some t) _) q=some x
   simp only [Bh]
   unfold look
   rw [hb]
   exact hx
end
end Go.Proofs.YtbbdanhpphlbpaaGreatDoor.Mc
namespace Go.Proofs.YtbbdanhpphlbpaaGreatDoor.Mc
open Go.RowKit
set_option simprocs false
theorem NW (l:List Mv)(hl:l.length≤1000):Fn Tryz.prog 20 [.sl 0 l.length 0,.sl 1 l.length 0] [some (.row 44 4 l.length 0 (GU l)),some (.row 44 4 l.length 0 (GU l))] (Rt (.tt) [some (.row 44 4 l.length 0 (GU l)),some (.row 44 4 l.length 0 (GU l))]):=
 Am (n:=26) (by kernel_rfl) Tryz.func20 rfl rfl rfl fun G w a h0 A=>N9 13 A rfl rfl fun A=>have A:=Ai A 10 (.ff) rfl (fun _=>congrArg (fun b=>some (Value.bool b)) (by simp));N9 12 A rfl rfl fun A=>B7 (fun(k:Nat)=>[(0,.sl 0 l.length 0),(1,.sl 1 l.length 0),(4,.ff),(5,.int .i64 (k:Int))]) (fun(k:Nat)=>[some (.row 44 4 l.length 0 (GU l)),some (.row 44 4 l.length 0 (GU l))]) (fun(k:Nat)=>k≤l.length) (fun(k:Nat)=>l.length - k) 0 (β8 _) ((A.cut [0,1,4,5] rfl).trunc 2 rfl rfl rfl (Cj h0 rfl)) fun k hK {G a w} A=>N9 9 A rfl rfl fun A=>Aq 14 A rfl
   (fun h1 A=>N9 6 A rfl rfl fun A=>JO By [.sl 0 l.length 0,.int .i64 (k:Int),.el 0 4 (k:Int) 0,.agg [.int .i64 ((l.getD (((k:Int)).toNat) (0,0,0)).1),.int .i64 ((l.getD (((k:Int)).toNat) (0,0,0)).2.1),.int .i64 ((l.getD (((k:Int)).toNat) (0,0,0)).2.2),.z9],.sl 1 l.length 0,.int .i64 (k:Int),.el 1 4 (k:Int) 0,.agg [.int .i64 ((l.getD (((k:Int)).toNat) (0,0,0)).1),.int .i64 ((l.getD (((k:Int)).toNat) (0,0,0)).2.1),.int .i64 ((l.getD (((k:Int)).toNat) (0,0,0)).2.2),.z9],.ff] [] [] 0 [([],[],[some (.row 44 4 l.length 0 (GU l)),some (.row 44 4 l.length 0 (GU l))])] [[true,true,true,true,true,true,true,true,true]] A rfl rfl rfl rfl (by kernel_rfl) rfl (by kernel_rfl) ⟨⟨Ao 0 rfl rfl,⟨Ao 0 rfl rfl,⟨Ao 0 rfl (Aj (by omega)<|Ah),⟨Ao 0 rfl (Aj (by omega)<|Ah),⟨Ao 0 rfl rfl,⟨Ao 0 rfl rfl,⟨Ao 0 rfl (Aj (by omega)<|Ah),⟨Ao 0 rfl (Aj (by omega)<|Ah),⟨CF 0 rfl (M8 (x:=.bool (!(((((l.getD (((k:Int)).toNat) (0,0,0)).1)==((l.getD (((k:Int)).toNat) (0,0,0)).1))&&((((l.getD (((k:Int)).toNat) (0,0,0)).2.1)==((l.getD (((k:Int)).toNat) (0,0,0)).2.1))&&((((l.getD (((k:Int)).toNat) (0,0,0)).2.2)==((l.getD (((k:Int)).toNat) (0,0,0)).2.2))&&(0==0))))))) (fun _=>congrArg (fun b=>some (Value.bool b)) (by simp)) (BN (X:=⟨_,true⟩) (out:=.val _ _) hX rfl rfl)),trivial⟩⟩⟩⟩⟩⟩⟩⟩⟩,trivial⟩ fun A=>N9 10 A rfl (Aj (by omega)<|Ah) fun A=>⟨k+1,_,(by omega),(by omega),((A.cut [0,1,4,5] rfl).trunc 2 rfl rfl rfl (Cj h0 rfl)).sayT (by rfl)⟩)
   (fun h1 A=>N9 9 A rfl rfl fun A=>R9 A rfl h0 rfl rfl rfl)
def oI (cs:List Ak)(ts:List Th)(nn:Nat)(ra:Option Addr)(bs bo:Nat→Nat)(da:Nat→Option Addr)(dp:Nat→Nat)(pv:Nat→Value):Ef:=fun w ks=>NN cs ts nn ra bs bo da dp pv w ks∧JP w ks
theorem oI.ok {cs:List Ak}{ts:List Th}{nn:Nat}{ra:Option Addr}{bs bo:Nat→Nat}{da:Nat→Option Addr}{dp:Nat→Nat}{pv:Nat→Value}:Ef.OK (oI cs ts nn ra bs bo da dp pv):=fun w ks w' ks' h m hk=>⟨NN.ok _ _ _ _ h.1 m hk,At.ok _ _ _ _ h.2 m hk⟩
theorem fM (tv:Nat→Value)(m:Nat→Int)(cs:List Ak)(ts:List Th)(nn:Nat)(ra:Option Addr)(rc:Nat)(bs bo:Nat→Nat)(da:Nat→Option Addr)(dp:Nat→Nat)(pv:Nat→Value)(hC:BR cs ts nn)(EP:nn≤3):CE (oI cs ts nn ra bs bo da dp pv) Tryz.prog 13 [.ptr 0 0,.ptr 3 0] [some (.blk (Bt 1 m)),some (.blk [.sl 2 nn 0]),some (Ay cs ts nn),some (.blk (dS tv m nn ra rc))] (Rt (.tt) [some (.blk (Bt 1 m)),some (.blk [.sl 2 nn 0]),some (Ay cs ts nn),some (.blk (dS tv m nn ra rc))]):=
 BB (n:=48) (by kernel_rfl) Tryz.func13 rfl rfl rfl fun G w a h0 hI A=>N9 9 A rfl rfl fun A=>I9 [0,1,2] An.ok hI.1.2.1 (XN m cs ts nn hC EP) A rfl fun A=>N9 1 A rfl rfl fun A=>I9 [3] NN.ok hI.1 (nA tv m cs ts nn ra rc bs bo da dp pv hC EP) A rfl fun A=>C9 [4,5] (NW (Ce cs ts nn) (β4 (HL cs ts nn) (by omega))) A rfl fun A=>N9 3 A rfl rfl fun A=>I9 [0,1,2] TI.ok (⟨hI.1.2.1,hI.2⟩:TI cs _ _) (VF m cs ts nn hC EP) A rfl fun A=>N9 1 A rfl rfl fun A=>I9 [3] NN.ok hI.1 (uQ tv m cs ts nn ra rc bs bo da dp pv hC EP) A rfl fun A=>N9 1 A rfl rfl fun A=>have A:=Ai A 17 (.ff) rfl (fun _=>congrArg (fun b=>some (Value.bool b)) (by simp));N9 3 A rfl rfl fun A=>C9 [0,1,2] (VC m cs ts nn EP) A rfl fun A=>N9 1 A rfl rfl fun A=>I9 [3] NN.ok hI.1 (nE tv m cs ts nn ra rc bs bo da dp pv EP) A rfl fun A=>N9 1 A rfl rfl fun A=>have A:=Ai A 24 (.ff) rfl (fun _=>congrArg (fun b=>some (Value.bool b)) (by simp));N9 13 A rfl rfl fun A=>B7 (fun(k:Nat)=>[(0,.ptr 0 0),(1,.ptr 3 0),(4,.ff),(5,.int .i64 (k:Int))]) (fun(k:Nat)=>[some (.blk (Bt 1 m)),some (.blk [.sl 2 nn 0]),some (Ay cs ts nn),some (.blk (dS tv m nn ra rc)),some (.row 44 4 ((Ce cs ts nn).length) 0 (GU (Ce cs ts nn))),some (.row 44 4 ((Ce cs ts nn).length) 0 (GU (Ce cs ts nn)))]) (fun(k:Nat)=>k≤3) (fun(k:Nat)=>3 - k) 0 (β8 _) ((A.cut [0,1,4,5] rfl).trunc 6 rfl rfl rfl (Cj h0 rfl)) fun k hK {G a w} A=>N9 7 A rfl rfl fun A=>Aq 27 A rfl
   (fun h1 A=>N9 6 A rfl rfl fun A=>JO By [.ptr 0 0,.int .i64 (k:Int),.int .i64 (m ((k:Int)).toNat),.ptr 3 0,.int .i64 (k:Int),.ptr 3 0,.ptr 3 33,.ix (.ptr 3 33) 1 3 (k:Int) 0,.int .i64 (m ((k:Int)).toNat),.ff] [2] [] 0 [([],[],[some (.blk (Bt 1 m)),some (.blk [.sl 2 nn 0]),some (Ay cs ts nn),some (.blk (dS tv m nn ra rc)),some (.row 44 4 ((Ce cs ts nn).length) 0 (GU (Ce cs ts nn))),some (.row 44 4 ((Ce cs ts nn).length) 0 (GU (Ce cs ts nn)))]),([2],[],[some (.blk (Bt 1 m)),some (.blk [.sl 2 nn 0]),some (Ay cs ts nn),some (.blk (dS tv m nn ra rc)),some (.row 44 4 ((Ce cs ts nn).length) 0 (GU (Ce cs ts nn))),some (.row 44 4 ((Ce cs ts nn).length) 0 (GU (Ce cs ts nn)))])] [[true,true,true,true,true,true,true,true,true,false],[false,false,false,true,true,true,true,true,true,true]] A rfl rfl rfl rfl (by kernel_rfl) rfl (by kernel_rfl) ⟨⟨Ao 0 rfl rfl,⟨Ao 0 rfl rfl,⟨CF 1 rfl (ED [0,1,2] (dL m cs ts nn (k:Int) (by omega)) rfl rfl rfl rfl rfl rfl rfl),⟨Ao 0 rfl rfl,⟨Ao 0 rfl rfl,⟨Ao 0 rfl rfl,⟨Ao 0 rfl rfl,⟨Ao 0 rfl (Aj (by omega)<|Ah),⟨CF 0 rfl (Kx (v:=fun k=>.int .i64 (m k)) hX rfl rfl rfl rfl rfl rfl rfl (by omega) (fun k hk=>match k,hk with|0,_=>rfl|1,_=>rfl|2,_=>rfl)),trivial⟩⟩⟩⟩⟩⟩⟩⟩⟩,⟨⟨Ao 1 rfl rfl,⟨Ao 1 rfl rfl,⟨Ao 1 rfl rfl,⟨Ao 1 rfl rfl,⟨Ao 1 rfl (Aj (by omega)<|Ah),⟨CF 1 rfl (Kx (v:=fun k=>.int .i64 (m k)) hX rfl rfl rfl rfl rfl rfl rfl (by omega) (fun k hk=>match k,hk with|0,_=>rfl|1,_=>rfl|2,_=>rfl)),⟨CF 1 rfl (M8 (x:=.bool (!((m ((k:Int)).toNat)==(m ((k:Int)).toNat)))) (fun _=>congrArg (fun b=>some (Value.bool b)) (by simp)) (BN (X:=⟨_,true⟩) (out:=.val _ _) hX rfl rfl)),trivial⟩⟩⟩⟩⟩⟩⟩,trivial⟩⟩ fun A=>N9 10 A rfl (Aj (by omega)<|Ah) fun A=>⟨k+1,_,(by omega),(by omega),((A.cut [0,1,4,5] rfl).trunc 6 rfl rfl rfl (Cj h0 rfl)).sayT (by rfl)⟩)
   (fun h1 A=>N9 6 A rfl rfl fun A=>C9 [0,1,2] (Zs m cs ts nn 3 (by omega)) A rfl fun A=>N9 1 A rfl rfl fun A=>have A:=Ai A 42 (.tt) rfl (fun _=>rfl);N9 2 A rfl rfl fun A=>C9 [0,1,2] (Zs m cs ts nn (-1) (by omega)) A rfl fun A=>N9 1 A rfl rfl fun A=>have A:=Ai A 46 (.tt) rfl (fun _=>rfl);N9 5 A rfl rfl fun A=>R9 A rfl h0 rfl rfl rfl)
end Go.Proofs.YtbbdanhpphlbpaaGreatDoor.Mc
namespace Go.Proofs.YtbbdanhpphlbpaaGreatDoor
open Go.RowKit
set_option simprocs false
def m1 (ws:List Tk)(s:Ps):Ps:=s.wa (I0 ws s.as [91])
def m2 (ws:List Tk)(s:Ps):Ps:=⟨{s.ins with loc:=ML ws s.as [[120],[121],[122]],ix:= -1},s.lab,(Du ws s.as [[120],[121],[122]]).e,(Du ws s.as [[120],[121],[122]]).a,(Du ws s.as [[120],[121],[122]]).p⟩
def aJ (ws:List Tk)(s:Ps):Bool:=PJ ws s.p [43]
def m3 (ws:List Tk)(s:Ps):Ps:=⟨s.ins,s.lab,s.e,s.a,PK ws s.p [43]⟩
def sD (ws:List Tk)(s:Ps):Bool:=(ws.getD s.p BH).kind==2
def TH (ws:List Tk)(s:Ps):Ps:=⟨{s.ins with off:=YV ws s.p},s.lab,s.e,s.a,TC ws s.p⟩
def fN (g:Lg)(ws:List Tk)(s:Ps):Ps:=⟨{s.ins with ix:=ML ws s.as [g.r0,g.r1,g.r2,g.r3,g.r4,g.r5,g.r6,g.r7]},s.lab,(Du ws s.as [g.r0,g.r1,g.r2,g.r3,g.r4,g.r5,g.r6,g.r7]).e,(Du ws s.as [g.r0,g.r1,g.r2,g.r3,g.r4,g.r5,g.r6,g.r7]).a,(Du ws s.as [g.r0,g.r1,g.r2,g.r3,g.r4,g.r5,g.r6,g.r7]).p⟩
def m5 (ws:List Tk)(s:Ps):Ps:=s.wa (I0 ws s.as [93])
def Jv (ws:List Tk)(s:Ps):Ps:=m3 ws (m2 ws (m1 ws s))
def Jw (g:Lg)(ws:List Tk)(s:Ps):Ps:=m5 ws (if aJ ws (m2 ws (m1 ws s))=true then(if sD ws (Jv ws s)=true then(if aJ ws (TH ws (Jv ws s))=true then fN g ws (m3 ws (TH ws (Jv ws s)))else m3 ws (TH ws (Jv ws s)))else fN g ws (Jv ws s))else Jv ws s)
section
variable {g:Lg}{ws:List Tk}{s:Ps}
theorem DK (h:s.p≤ws.length):(m1 ws s).p≤ws.length:=D8 (s:=s.as) h
theorem Fm (h:s.p≤ws.length):(m2 ws s).p≤ws.length:=DR (s:=s.as) h
theorem C8 (h:s.p≤ws.length):(m3 ws s).p≤ws.length:=K9 h
theorem oJ (h:s.p≤ws.length):(m5 ws s).p≤ws.length:=D8 (s:=s.as) h
theorem BM (h:s.p≤ws.length):(TH ws s).p≤ws.length:=LA h
theorem Bp (h:s.p≤ws.length):(fN g ws s).p≤ws.length:=DR (s:=s.as) h
theorem Av (h:s.p≤ws.length):(Jv ws s).p≤ws.length:=C8 (Fm (DK h))
theorem Ye (h:s.p≤ws.length):(Jw g ws s).p≤ws.length:=by
 unfold Jw
 apply oJ
 split
 ·split
  ·split
   ·exact Bp (C8 (BM (Av h)))
   ·exact C8 (BM (Av h))
  ·exact Bp (Av h)
 ·exact Av h
end
abbrev DU (ws:List Tk)(s:Ps):Ps:=(⟨(⟨s.ins.op,s.ins.dst,s.ins.ra,s.ins.rb,s.ins.imm,ML ws (I0 ws s.as [91]) [[120],[121],[122]],s.ins.off,(-1),s.ins.sz,s.ins.fn,s.ins.acq,s.ins.weak,s.ins.rel,s.ins.pred,s.ins.succ,s.ins.to_,s.ins.zero⟩:In),s.lab,(Du ws (I0 ws s.as [91]) [[120],[121],[122]]).e,(Du ws (I0 ws s.as [91]) [[120],[121],[122]]).a,PK ws ((Du ws (I0 ws s.as [91]) [[120],[121],[122]]).p) [43]⟩:Ps)
theorem dL (g:Lg)(L:List Rw)(c:Nat)(ws:List Tk)(cw:Nat)(s:Ps)(hk:s.p≤ws.length)(hn:ws.length≤1000000)(hw:Oy ws):Fn Tryz.prog 255 [.ptr 0 0] [some (.blk (Rx g L.length c s.ins s.lab 1 4)),some (.blk [.ptr 2 0,.int .i64 s.e,.int .i64 s.a]),some (.blk [.sl 3 ws.length cw,.int .i64 ((s.p:Nat):Int)]),some (Fj ws),some (FT L)] (Rt (.tup []) [some (.blk (Rx g L.length c ((Jw g ws s).ins) ((Jw g ws s).lab) 1 4)),some (.blk [.ptr 2 0,.int .i64 ((Jw g ws s).e),.int .i64 ((Jw g ws s).a)]),some (.blk [.sl 3 ws.length cw,.int .i64 (((Jw g ws s).p:Nat):Int)]),some (Fj ws),some (FT L)]):=
 Am (n:=72) (by kernel_rfl) Tryz.func255 rfl rfl rfl fun G w a h0 A=>N9 6 A rfl rfl fun A=>C9 [1,2,3] (Oz ws cw s.as [91] (by first|exact hk|exact DK hk|exact Fm (DK hk)|exact Av hk|exact BM (Av hk)|exact C8 (BM (Av hk))|exact Bp (Av hk)|exact Bp (C8 (BM (Av hk)))) hn hw) A rfl fun A=>N9 3 A rfl rfl fun A=>Ba hX By [] [(5,.sl 5 3 3,[some (.blk (Rx g L.length c s.ins s.lab 1 4)),some (.blk [.ptr 2 0,.int .i64 ((I0 ws s.as [91]).e),.int .i64 ((I0 ws s.as [91]).a)]),some (.blk [.sl 3 ws.length cw,.int .i64 (((I0 ws s.as [91]).p:Nat):Int)]),some (Fj ws),some (FT L),some (.blk [.str [120],.str [121],.str [122]])]),(6,.int .i64 (ML ws (I0 ws s.as [91]) [[120],[121],[122]]),[some (.blk (Rx g L.length c s.ins s.lab 1 4)),some (.blk [.ptr 2 0,.int .i64 ((Du ws (I0 ws s.as [91]) [[120],[121],[122]]).e),.int .i64 ((Du ws (I0 ws s.as [91]) [[120],[121],[122]]).a)]),some (.blk [.sl 3 ws.length cw,.int .i64 (((Du ws (I0 ws s.as [91]) [[120],[121],[122]]).p:Nat):Int)]),some (Fj ws),some (FT L),some (.blk [.str [120],.str [121],.str [122]])])] A rfl rfl rfl rfl (by kernel_rfl) ⟨ED [] aH rfl rfl rfl rfl rfl rfl rfl,⟨ED [1,2,3,5] (Yb ws cw (I0 ws s.as [91]) (by first|exact hk|exact DK hk|exact Fm (DK hk)|exact Av hk|exact BM (Av hk)|exact C8 (BM (Av hk))|exact Bp (Av hk)|exact Bp (C8 (BM (Av hk)))) hn hw) rfl rfl rfl rfl rfl rfl rfl,⟨trivial,trivial⟩⟩⟩ trivial fun A=>N9 20 A rfl rfl fun A=>C9 [2,3,6] (Vp ws cw ((Du ws (I0 ws s.as [91]) [[120],[121],[122]]).p) [43] (by first|exact hk|exact DK hk|exact Fm (DK hk)|exact Av hk|exact BM (Av hk)|exact C8 (BM (Av hk))|exact Bp (Av hk)|exact Bp (C8 (BM (Av hk)))) hn) A rfl fun A=>N9 8 A rfl rfl fun A=>fork 32 A rfl
  (fun h1 A=>N9 1 A rfl rfl fun A=>C9 [0,1,2,3,4] (TF g L c ws cw (DU ws s) (by first|exact hk|exact DK hk|exact Fm (DK hk)|exact Av hk|exact BM (Av hk)|exact C8 (BM (Av hk))|exact Bp (Av hk)|exact Bp (C8 (BM (Av hk)))) hn hw) A rfl fun A=>N9 3 A rfl rfl fun A=>Au 35 A rfl
   (fun h2 A=>N9 11 A rfl rfl fun A=>C9 [2,3] (Vq ws cw ((DU ws s).p) (by first|exact hk|exact DK hk|exact Fm (DK hk)|exact Av hk|exact BM (Av hk)|exact C8 (BM (Av hk))|exact Bp (Av hk)|exact Bp (C8 (BM (Av hk)))) hn) A rfl fun A=>N9 18 A rfl rfl fun A=>C9 [2,3,7] (Vp ws cw (TC ws ((DU ws s).p)) [43] (by first|exact hk|exact DK hk|exact Fm (DK hk)|exact Av hk|exact BM (Av hk)|exact C8 (BM (Av hk))|exact Bp (Av hk)|exact Bp (C8 (BM (Av hk)))) hn) A rfl fun A=>N9 9 A rfl rfl fun A=>fork 60 A rfl
    (fun h3 A=>N9 4 A rfl rfl fun A=>C9 [0,1,2,3,4] (oE g L c ws cw (⟨(⟨(DU ws s).ins.op,(DU ws s).ins.dst,(DU ws s).ins.ra,(DU ws s).ins.rb,(DU ws s).ins.imm,(DU ws s).ins.loc,YV ws ((DU ws s).p),(DU ws s).ins.ix,(DU ws s).ins.sz,(DU ws s).ins.fn,(DU ws s).ins.acq,(DU ws s).ins.weak,(DU ws s).ins.rel,(DU ws s).ins.pred,(DU ws s).ins.succ,(DU ws s).ins.to_,(DU ws s).ins.zero⟩:In),(DU ws s).lab,(DU ws s).e,(DU ws s).a,PK ws (TC ws ((DU ws s).p)) [43]⟩:Ps) (by first|exact hk|exact DK hk|exact Fm (DK hk)|exact Av hk|exact BM (Av hk)|exact C8 (BM (Av hk))|exact Bp (Av hk)|exact Bp (C8 (BM (Av hk)))) hn hw) A rfl fun A=>N9 11 A rfl rfl fun A=>C9 [1,2,3] (Oz ws cw (((⟨(⟨(DU ws s).ins.op,(DU ws s).ins.dst,(DU ws s).ins.ra,(DU ws s).ins.rb,(DU ws s).ins.imm,(DU ws s).ins.loc,YV ws ((DU ws s).p),(DU ws s).ins.ix,(DU ws s).ins.sz,(DU ws s).ins.fn,(DU ws s).ins.acq,(DU ws s).ins.weak,(DU ws s).ins.rel,(DU ws s).ins.pred,(DU ws s).ins.succ,(DU ws s).ins.to_,(DU ws s).ins.zero⟩:In),(DU ws s).lab,(DU ws s).e,(DU ws s).a,PK ws (TC ws ((DU ws s).p)) [43]⟩:Ps).wa (Du ws (⟨(⟨(DU ws s).ins.op,(DU ws s).ins.dst,(DU ws s).ins.ra,(DU ws s).ins.rb,(DU ws s).ins.imm,(DU ws s).ins.loc,YV ws ((DU ws s).p),(DU ws s).ins.ix,(DU ws s).ins.sz,(DU ws s).ins.fn,(DU ws s).ins.acq,(DU ws s).ins.weak,(DU ws s).ins.rel,(DU ws s).ins.pred,(DU ws s).ins.succ,(DU ws s).ins.to_,(DU ws s).ins.zero⟩:In),(DU ws s).lab,(DU ws s).e,(DU ws s).a,PK ws (TC ws ((DU ws s).p)) [43]⟩:Ps).as [g.r0,g.r1,g.r2,g.r3,g.r4,g.r5,g.r6,g.r7])).as) [93] (by first|exact hk|exact DK hk|exact Fm (DK hk)|exact Av hk|exact BM (Av hk)|exact C8 (BM (Av hk))|exact Bp (Av hk)|exact Bp (C8 (BM (Av hk)))) hn hw) A rfl fun A=>N9 1 A rfl rfl fun A=>Ee (R9 A rfl h0 rfl rfl (by unfold Jw;rw [if_pos (show aJ ws (m2 ws (m1 ws s))=true from h1),if_pos (show sD ws (Jv ws s)=true from(ε4.2 h2)),if_pos (show aJ ws (TH ws (Jv ws s))=true from h3)]<;>rfl)))
    (fun h3 A=>N9 8 A rfl rfl fun A=>C9 [1,2,3] (Oz ws cw (⟨PK ws (TC ws ((DU ws s).p)) [43],(DU ws s).e,(DU ws s).a⟩:As) [93] (by first|exact hk|exact DK hk|exact Fm (DK hk)|exact Av hk|exact BM (Av hk)|exact C8 (BM (Av hk))|exact Bp (Av hk)|exact Bp (C8 (BM (Av hk)))) hn hw) A rfl fun A=>N9 1 A rfl rfl fun A=>Ee (R9 A rfl h0 rfl rfl (by unfold Jw;rw [if_pos (show aJ ws (m2 ws (m1 ws s))=true from h1),if_pos (show sD ws (Jv ws s)=true from(ε4.2 h2)),if_neg (show¬aJ ws (TH ws (Jv ws s))=true from α8 h3)]<;>rfl))))
   (fun h2 A=>N9 9 A rfl rfl fun A=>fork 60 A rfl
    (fun h4 A=>N9 4 A rfl rfl fun A=>C9 [0,1,2,3,4] (oE g L c ws cw (DU ws s) (by first|exact hk|exact DK hk|exact Fm (DK hk)|exact Av hk|exact BM (Av hk)|exact C8 (BM (Av hk))|exact Bp (Av hk)|exact Bp (C8 (BM (Av hk)))) hn hw) A rfl fun A=>N9 11 A rfl rfl fun A=>C9 [1,2,3] (Oz ws cw (((DU ws s).wa (Du ws (DU ws s).as [g.r0,g.r1,g.r2,g.r3,g.r4,g.r5,g.r6,g.r7])).as) [93] (by first|exact hk|exact DK hk|exact Fm (DK hk)|exact Av hk|exact BM (Av hk)|exact C8 (BM (Av hk))|exact Bp (Av hk)|exact Bp (C8 (BM (Av hk)))) hn hw) A rfl fun A=>N9 1 A rfl rfl fun A=>Ee (R9 A rfl h0 rfl rfl (by unfold Jw;rw [if_pos (show aJ ws (m2 ws (m1 ws s))=true from h1),if_neg (show¬sD ws (Jv ws s)=true from α8 (δ1.2 h2))]<;>rfl)))
    (fun h4 A=>absurd (h1.symm.trans h4) (by decide))))
  (fun h1 A=>N9 14 A rfl rfl fun A=>fork 60 A rfl
   (fun h5 A=>absurd (h1.symm.trans h5) (by decide))
   (fun h5 A=>N9 8 A rfl rfl fun A=>C9 [1,2,3] (Oz ws cw (⟨PK ws ((Du ws (I0 ws s.as [91]) [[120],[121],[122]]).p) [43],(Du ws (I0 ws s.as [91]) [[120],[121],[122]]).e,(Du ws (I0 ws s.as [91]) [[120],[121],[122]]).a⟩:As) [93] (by first|exact hk|exact DK hk|exact Fm (DK hk)|exact Av hk|exact BM (Av hk)|exact C8 (BM (Av hk))|exact Bp (Av hk)|exact Bp (C8 (BM (Av hk)))) hn hw) A rfl fun A=>N9 1 A rfl rfl fun A=>Ee (R9 A rfl h0 rfl rfl (by unfold Jw;rw [if_neg (show¬aJ ws (m2 ws (m1 ws s))=true from α8 h1)]<;>rfl))))
def vF (g:Lg)(t:Tk):Bool:=if g.im=[]then((t.kind==2)||((t.kind==3)&&(t.text==[45])))else((t.kind==3)&&(t.text==g.im))
def vG (g:Lg)(r:Rw)(p:Int)(t:Tk):Bool:=if p=5 then vF g t else if p=6 then((t.kind==3)&&(t.text==[91]))else if p=10 then((t.kind==1)&&(t.text==r.wd))else(t.kind==1)
def vH (g:Lg)(ws:List Tk)(p:Int)(s:Ps):Ps:=
 if p=1 then⟨{s.ins with dst:=ML ws s.as [g.r0,g.r1,g.r2,g.r3,g.r4,g.r5,g.r6,g.r7]},s.lab,(Du ws s.as [g.r0,g.r1,g.r2,g.r3,g.r4,g.r5,g.r6,g.r7]).e,(Du ws s.as [g.r0,g.r1,g.r2,g.r3,g.r4,g.r5,g.r6,g.r7]).a,(Du ws s.as [g.r0,g.r1,g.r2,g.r3,g.r4,g.r5,g.r6,g.r7]).p⟩else
 if p=4 then⟨{s.ins with dst:=ML ws s.as [g.r0,g.r1,g.r2,g.r3,g.r4,g.r5,g.r6,g.r7]},s.lab,(Du ws s.as [g.r0,g.r1,g.r2,g.r3,g.r4,g.r5,g.r6,g.r7]).e,(Du ws s.as [g.r0,g.r1,g.r2,g.r3,g.r4,g.r5,g.r6,g.r7]).a,(Du ws s.as [g.r0,g.r1,g.r2,g.r3,g.r4,g.r5,g.r6,g.r7]).p⟩else
 if p=2 then⟨{s.ins with ra:=ML ws s.as [g.r0,g.r1,g.r2,g.r3,g.r4,g.r5,g.r6,g.r7]},s.lab,(Du ws s.as [g.r0,g.r1,g.r2,g.r3,g.r4,g.r5,g.r6,g.r7]).e,(Du ws s.as [g.r0,g.r1,g.r2,g.r3,g.r4,g.r5,g.r6,g.r7]).a,(Du ws s.as [g.r0,g.r1,g.r2,g.r3,g.r4,g.r5,g.r6,g.r7]).p⟩else
 if p=3 then⟨{s.ins with rb:=ML ws s.as [g.r0,g.r1,g.r2,g.r3,g.r4,g.r5,g.r6,g.r7]},s.lab,(Du ws s.as [g.r0,g.r1,g.r2,g.r3,g.r4,g.r5,g.r6,g.r7]).e,(Du ws s.as [g.r0,g.r1,g.r2,g.r3,g.r4,g.r5,g.r6,g.r7]).a,(Du ws s.as [g.r0,g.r1,g.r2,g.r3,g.r4,g.r5,g.r6,g.r7]).p⟩else
 if p=5 then⟨{s.ins with imm:=vD g ws s.as},s.lab,(Vx g ws s.as).e,(Vx g ws s.as).a,(Vx g ws s.as).p⟩else
 if p=6 then Jw g ws s else
 if p=7 then⟨s.ins,nmT ws s.p,s.e,s.a,vC ws s.p⟩else
 if p=8 then⟨{s.ins with pred:=ML ws s.as [g.f0,g.f1,g.f2]+1},s.lab,(Du ws s.as [g.f0,g.f1,g.f2]).e,(Du ws s.as [g.f0,g.f1,g.f2]).a,(Du ws s.as [g.f0,g.f1,g.f2]).p⟩else
 if p=9 then⟨{s.ins with succ:=ML ws s.as [g.f0,g.f1,g.f2]+1},s.lab,(Du ws s.as [g.f0,g.f1,g.f2]).e,(Du ws s.as [g.f0,g.f1,g.f2]).a,(Du ws s.as [g.f0,g.f1,g.f2]).p⟩else
 if p=10 then⟨s.ins,s.lab,s.e,s.a,YU ws s.p⟩else
 s
theorem fO {g:Lg}{ws:List Tk}{p:Int}{s:Ps}(h:s.p≤ws.length):(vH g ws p s).p≤ws.length:=by
 unfold vH
 split
 ·exact DR (s:=s.as) h
 split
 ·exact DR (s:=s.as) h
 split
 ·exact DR (s:=s.as) h
 split
 ·exact DR (s:=s.as) h
 split
 ·exact Yc (s:=s.as) h
 split
 ·exact Ye h
 split
 ·exact fB h
 split
 ·exact DR (s:=s.as) h
 split
 ·exact DR (s:=s.as) h
 split
 ·exact K8 h
 ·exact h
end Go.Proofs.YtbbdanhpphlbpaaGreatDoor
namespace Go.Proofs.YtbbdanhpphlbpaaGreatDoor
open Go.Shelf Go.RowKit
end Go.Proofs.YtbbdanhpphlbpaaGreatDoor
namespace Go.Proofs.YtbbdanhpphlbpaaGreatDoor
open Go.RowKit
set_option simprocs false
def yP (g:Lg)(nm:List UInt8):List (List UInt8):=[(Lib.cut nm [42]).1++g.l0++(Lib.cut nm [42]).2.1,(Lib.cut nm [42]).1++g.l1++(Lib.cut nm [42]).2.1,(Lib.cut nm [42]).1++g.l2++(Lib.cut nm [42]).2.1,(Lib.cut nm [42]).1++g.l3++(Lib.cut nm [42]).2.1]
def yQ (g:Lg)(nm q:List UInt8):Int×Bool:=if(Lib.cut nm [42]).2.2=true then(if GI (yP g nm) q<0 then(0,false)else(IntKind.wrap .i64 (1*2^min (GI (yP g nm) q).toNat (IntKind.bits .i64)),true))else(0,q==nm)
def fP (g:Lg)(q:List UInt8)(z:Int×List Rw)(r:Rw):Int×List Rw:=if(yQ g r.nm q).2=true then((yQ g r.nm q).1,z.2++[r])else z
def zK (g:Lg)(q:List UInt8)(L:List Rw)(z:Int)(k:Nat):Int×List Rw:=(L.take k).foldl (fP g q) (z,[])
section
variable {g:Lg}{q:List UInt8}{L:List Rw}{z:Int}{k:Nat}
theorem yR:∀(l:List Rw) (z:Int×List Rw),(l.foldl (fP g q) z).2.length≤z.2.length+l.length
 | [],z=>by simp
 |r::l,z=>by
  rw [μ5]
  have:=yR l (fP g q z r)
  have h2:(fP g q z r).2.length≤z.2.length+1:=by unfold fP;split<;>simp
  rw [α5];omega
theorem fQ:(zK g q L z k).2.length≤k:=by
 have:=yR (g:=g) (q:=q) (L.take k) (z,[])
 unfold zK
 have h2:(L.take k).length≤k:=by rw [δ8];omega
 simp at this⊢;omega
theorem aK:∀(l:List Rw) (z:Int×List Rw) (r:Rw),r∈(l.foldl (fP g q) z).2→r∈z.2∨r∈l
 | [],z,r,h=>.inl h
 | x::l,z,r,h=>by
  rw [μ5]at h
  rcases aK l _ r h with h1|h1
  ·unfold fP at h1
   split at h1
   ·rcases ζ6.1 h1 with h2|h2
    ·exact .inl h2
    ·rw [η5]at h2;subst h2;exact .inr ε2
   ·exact .inl h1
  ·exact .inr (ζ7 _ h1)
end
def j0 (g:Lg)(ws:List Tk)(L:List Rw)(s:Ps):Int×List Rw:=zK g (ws.getD s.p BH).text L s.ins.sz L.length
def aL (g:Lg)(ws:List Tk)(L:List Rw)(s:Ps):List Rw:=if(ws.getD s.p BH).kind=1 then(j0 g ws L s).2 else []
def sE (g:Lg)(ws:List Tk)(L:List Rw)(s:Ps):Ps:=if(ws.getD s.p BH).kind=1 then
  (if(j0 g ws L s).2.length=0 then⟨{s.ins with sz:=(j0 g ws L s).1},s.lab,(GW ws s.as 21).e,(GW ws s.as 21).a,YU ws (GW ws s.as 21).p⟩else⟨{s.ins with sz:=(j0 g ws L s).1},s.lab,s.e,s.a,YU ws s.p⟩)
 else s.wa (GW ws s.as 22)
theorem fR {g:Lg}{ws:List Tk}{L:List Rw}{s:Ps}(h:s.p≤ws.length):(sE g ws L s).p≤ws.length:=by
 unfold sE
 split
 ·split
  ·exact K8 (k:=(GW ws s.as 21).p) (by rw [H6];exact h)
  ·exact K8 h
 ·show(GW ws s.as 22).p≤_
  rw [H6];exact h
def stk (g:Lg)(k:Nat)(t:Tk)(r:Rw):Bool:= !(vG g r (r.ps.getD k 0) t)
def oK (k:Nat)(r:Rw):Bool:=r.ps.getD k 0==10
def V3 (f:Rw→Bool)(R:List Rw):Int:=match(List.range R.length).find? (fun j=>f (R.getD j Rw.z))with|some j=>(j:Int)|none=> -1
structure Yf (f:Rw→Bool)(R:List Rw)(k:Nat):Prop where
 le:k≤R.length
 no:∀j,j<k→f (R.getD j Rw.z)=false
section
variable {f:Rw→Bool}{R cur:List Rw}{k i j:Nat}
theorem Yf.i0:Yf f R 0:=⟨β8 _,fun j h=>by omega⟩
theorem Yf.nx (hI:Yf f R k)(hk:(k:Int)<((R.length:Nat):Int))(h:f (R.getD ((k:Int)).toNat Rw.z)=false):Yf f R (k+1):=⟨by omega,fun j hj=>by
 by_cases e:j=k
 ·subst e;rwa [β5]at h
 ·exact hI.no j (by omega)⟩
theorem Yf.hit (hI:Yf f R k)(hk:(k:Int)<((R.length:Nat):Int))(h:f (R.getD ((k:Int)).toNat Rw.z)=true):V3 f R=(k:Int):=by
 rw [β5]at h
 unfold V3
 have:(List.range R.length).find? (fun j=>f (R.getD j Rw.z))=some k:=by
  rw [κ7]
  exact⟨h,by rw [ε8];omega,fun j hj=>by have:=hI.no j hj;rw [this];rfl⟩
 rw [this]
theorem Yf.fi (hI:Yf f R k)(hk:¬(k:Int)<((R.length:Nat):Int)):V3 f R= -1:=by
 unfold V3
 have:(List.range R.length).find? (fun j=>f (R.getD j Rw.z))=none:=by
  rw [ι8]
  intro j hj
  have:=hI.no j (by have:=ε8.1 hj;omega)
  rw [this];decide
 rw [this]
structure yS (f:Rw→Bool)(R cur:List Rw)(i j:Nat):Prop where
 len:cur.length=R.length
 ij:i<j
 jl:j≤R.length
 pre:cur.take i=(R.take j).filter (fun r=> !f r)
 post:∀m,j≤m→cur[m]?=R[m]?
theorem oL {l:List Rw}(h:j<l.length):l.take (j+1)=l.take j++[l.getD j Rw.z]:=by
 rw [ξ9,α6,β0 h];rfl
theorem yS.i0 {k:Nat}(h1:k<R.length)(h2:f (R.getD k Rw.z)=true)(h3:∀j,j<k→f (R.getD j Rw.z)=false):yS f R R k (k+1):=by
 refine⟨rfl,by omega,h1,?_,fun m _=>rfl⟩
 rw [oL h1,List.filter_append]
 have e1:(R.take k).filter (fun r=> !f r)=R.take k:=by
  rw [List.filter_eq_self]
  intro r hr
  obtain⟨j,hj,hg⟩:=ξ1 hr
  rw [δ8]at hj
  have:=h3 j (by omega)
  rw [α6,β0 (by omega)]at this
  rw [List.getElem_take]at hg
  simp only [γ8,hg]at this
  rw [this];rfl
 rw [e1,List.filter_cons,h2];simp
end
def mfV (kk:Nat)(t:Tk)(R:List Rw):Int:=if((decide (V3 (oK kk) R≥0))&&(t.kind==1))=true then 21 else 22
def yT (g:Lg)(kk:Nat)(t:Tk)(R:List Rw):List Rw:=R.filter (fun r=> !stk g kk t r)
def sF (g:Lg)(ws:List Tk)(kk:Nat)(R:List Rw)(s:Ps):Ps:=if(yT g kk (ws.getD s.p BH) R).length=0 then s.wa (GW ws s.as (mfV kk (ws.getD s.p BH) R))else s
theorem V4 {g:Lg}{ws:List Tk}{kk:Nat}{R:List Rw}{s:Ps}(h:s.p≤ws.length):(sF g ws kk R s).p≤ws.length:=by
 unfold sF;split
 ·show(GW ws s.as _).p≤_
  rw [H6];exact h
 ·exact h
section
variable {f:Rw→Bool}{R cur:List Rw}{i j kk:Nat}{w:World}{ks:List Nat}{x:Rw}
end
end Go.Proofs.YtbbdanhpphlbpaaGreatDoor
namespace Go.Proofs.YtbbdanhpphlbpaaGreatDoor
open Go.Shelf Go.RowKit
def oM (l:List UInt8):List Value:=[.string (S l)]
def Iq:Go.Shelf.Ren:=⟨fun|156=>192|165=>229|166=>230|169=>231|240=>262|241=>263|276=>285|277=>286|n=>n,fun|0=>0|3=>3|4=>4|9=>9|20=>20|31=>207|37=>152|70=>242|72=>244|75=>215|76=>245|127=>277|164=>293|5=>5|80=>50|n=>n,fun|n=>n⟩
theorem V5:Go.Proofs.Lays.n156 Tryz.prog Iq:={
 mixed:=by kernel_rfl
 f156:=Tryz.func192.trans (congrArg some (by kernel_rfl))
 f165:=Tryz.func229.trans (congrArg some (by kernel_rfl))
 f166:=Tryz.func230.trans (congrArg some (by kernel_rfl))
 f169:=Tryz.func231.trans (congrArg some (by kernel_rfl))
 f240:=Tryz.func262.trans (congrArg some (by kernel_rfl))
 f241:=Tryz.func263.trans (congrArg some (by kernel_rfl))
 f276:=Tryz.func285.trans (congrArg some (by kernel_rfl))
 f277:=Tryz.func286.trans (congrArg some (by kernel_rfl))
 t0:=Tryz.underlying0
 a0:=Tryz.isAgg0
 z0:=Tryz.sizeOf0
 v0:=Tryz.zeroValue0
 t3:=Tryz.underlying3
 a3:=Tryz.isAgg3
 z3:=Tryz.sizeOf3
 v3:=Tryz.zeroValue3
 t4:=Tryz.underlying4
 a4:=Tryz.isAgg4
 z4:=Tryz.sizeOf4
 v4:=Tryz.zeroValue4
 t9:=Tryz.underlying9
 a9:=Tryz.isAgg9
 z9:=Tryz.sizeOf9
 v9:=Tryz.zeroValue9
 t20:=Tryz.underlying20
 a20:=Tryz.isAgg20
 z20:=Tryz.sizeOf20
 v20:=Tryz.zeroValue20
 t31:=Tryz.underlying207
 a31:=Tryz.isAgg207
 z31:=Tryz.sizeOf207
 v31:=Tryz.zeroValue207
 t37:=Tryz.underlying152
 a37:=Tryz.isAgg152
 z37:=Tryz.sizeOf152
 v37:=Tryz.zeroValue152
 t70:=Tryz.underlying242
 a70:=Tryz.isAgg242
 z70:=Tryz.sizeOf242
 v70:=Tryz.zeroValue242
 t72:=Tryz.underlying244
 a72:=Tryz.isAgg244
 z72:=Tryz.sizeOf244
 v72:=Tryz.zeroValue244
 t75:=Tryz.underlying215
 a75:=Tryz.isAgg215
 z75:=Tryz.sizeOf215
 v75:=Tryz.zeroValue215
 t76:=Tryz.underlying245
 a76:=Tryz.isAgg245
 z76:=Tryz.sizeOf245
 v76:=Tryz.zeroValue245
 t127:=Tryz.underlying277
 a127:=Tryz.isAgg277
 z127:=Tryz.sizeOf277
 v127:=Tryz.zeroValue277
 t164:=Tryz.underlying293
 a164:=Tryz.isAgg293
 z164:=Tryz.sizeOf293
 v164:=Tryz.zeroValue293}
theorem TJ:Go.Proofs.Builder.Extra Tryz.prog Iq where
 sizeBuilder:=by kernel_rfl
 liesBuilder:=by kernel_rfl
 t5:=Tryz.underlying5
 a5:=Tryz.isAgg5
 z5:=Tryz.sizeOf5
 v5:=Tryz.zeroValue5
 infoByte:=by kernel_rfl
 cellsByte:=by kernel_rfl
 sizeByte:=by kernel_rfl
 neB5:=by decide
theorem V6 (mv:Value)(ls:List (List UInt8))(q:List UInt8)(w:World)(hM:Sl oM 1 w.heap.size w mv ls)(h0:ls≠[])(hn:ls.length≤1000)(hl:(Lib.join ls q).length≤1000000):Calls Tryz.prog 192 #[mv,.string (S q)] w fun e w'=>e=.returned (.string (S (Lib.join ls q)))∧CI w w':=by
 obtain⟨ao,cap,rfl,QV,QZ⟩:=hM
 obtain⟨x,r,rfl⟩:∃x r,ls=x::r:=by cases ls with
  |nil=>exact absurd rfl h0
  |cons x r=>exact⟨x,r,rfl⟩
 obtain⟨b,o,rfl,hb,_⟩:=QZ 0 x rfl
 have rC:((x::r).map S).map (fun s=>s.data.toList)=x::r:=by
  rw [υ3]
  conv=>rhs;rw [←List.map_id (x::r)]
  exact ρ9 fun y _=>FN y
 have hlen:((x::r).map S).length=(x::r).length:=δ2 _
 have hc:=Any.strings_Join V5 TJ b o cap ((x::r).map S) (S q) w (fun j y hy=>by
   rw [μ6]at hy
   cases hz:(x::r)[j]? with
   |none=>rw [hz]at hy;cases hy
   |some z=>
    rw [hz]at hy
    simp only [δ4,β2]at hy
    subst hy
    obtain⟨b',o',h1,_,h3⟩:=QZ j z hz
    simp only [β2,κ9]at h1
    obtain⟨rfl,rfl,_⟩:=h1
    have:=h3 0 (.string (S z)) rfl
    rw [Nat.mul_one,θ8]at this
    exact this) hb (by rw [hlen];omega) (by rw [hlen];exact QV) (by rw [rC,FN];omega)
 rw [hlen,rC,FN]at hc
 exact hc.mono fun e w' h=>⟨h.1,h.2⟩
end Go.Proofs.YtbbdanhpphlbpaaGreatDoor
namespace Go.Proofs.YtbbdanhpphlbpaaGreatDoor
open Go.RowKit
theorem V7 {H:Hp}{G:Gr}{w:World}(hl:H.length=G.length)(h:∀(i:Nat) (e:Bo),H[i]?=some (some e)→e.mut=false∧BK G w ((G[i]?).getD none) e):Mem H G w:=
 ⟨hl,fun i e he=>(h i e he).2,fun i j e f L M _ he _ hm=>by rw [(h i e he).1]at hm;cases hm⟩
theorem P9 {α:Type} {enc:α→List Value} {f:Nat→List SV} {s B n cap:Nat} {w:World} {l:List α} {bo:Option (Nat×Nat)} (h:Sl enc s B w (.slice (bo.map fun x=>⟨x.1,x.2,none⟩) n cap) l) (hB:B≤w.heap.size)
  (hf:∀k x,l[k]?=some x→Al [] (f k)=some (enc x)) (CD:∀k,∃vs,Al [] (f k)=some vs):
  n=l.length∧∀(G F:Gr),den (G++(bo.map fun x=>(⟨x.1,List.replicate x.2 undef,[],0⟩:Loc))::F) (.sl G.length l.length cap)=some (.slice (bo.map fun x=>⟨x.1,x.2,none⟩) n cap)∧BK (G++(bo.map fun x=>(⟨x.1,List.replicate x.2 undef,[],0⟩:Loc))::F) w (bo.map fun x=>(⟨x.1,List.replicate x.2 undef,[],0⟩:Loc)) (.lst s l.length f):=by
 obtain⟨ao,cap',hv,QV,he⟩:=h
 simp only [ι2]at hv
 obtain⟨rfl,rfl,rfl⟩:=hv
 refine⟨rfl,fun G F=>⟨?_,CD,?_⟩⟩
 ·unfold den
  rw [α2 (β7 _)]
  cases bo<;>simp [rm]
 ·cases bo with
  |none=>
   left
   cases l with
   |nil=>rfl
   |cons x l=>obtain⟨b,o,h1,_⟩:=he 0 x rfl;cases h1
  | some x=>
   obtain⟨b,o⟩:=x
   cases hl:l with
   |nil=>left;rfl
   | cons y l'=>
    right
    have hb:b<B:=by
     obtain⟨b',o',h1,h2,_⟩:=he 0 y (by rw [hl];rfl)
     cases h1;exact h2
    refine⟨_,rfl,(by show b<_;omega),fun k hk=>?_⟩
    have EC:k<l.length:=by rw [hl];exact hk
    obtain⟨b',o',h1,h2,h3⟩:=he k l[k] (by simp [EC])
    cases h1
    exact⟨_,hf k l[k] (by simp [EC]),by simpa using h3⟩
theorem Yg {x:SV}{H H2:Hp}{G:Gr}{w w':World}{e:Ending}(h:Mr (Rt x H2) H G w e w')(SG:∀(i:Nat) (e:Bo),H[i]?=some (some e)→e.mut=false):∃v F,den (G++F) x=some v∧e=.returned v∧Mem H2 (G++F) w'∧CI w w':=by
 obtain⟨y,H',F,v,⟨rfl,rfl⟩,h1,h2,h3,DN,_⟩:=h
 have hk:∀k,(keys H G).contains k=false:=fun k=>by
  cases hc:(keys H G).contains k with
  |false=>rfl
  |true=>
   obtain⟨i,e',L,q1,q2,_⟩:=mem_keys.1 hc
   rw [SG i e' q1]at q2;cases q2
 exact⟨v,F,h1,h2,h3,⟨DN.os,DN.tape,DN.output,DN.size,fun k EC=>DN.block k EC (hk k)⟩⟩
abbrev V8 (ls:List (List UInt8)):Bo:=.lst 1 ls.length fun k=>[.str (ls.getD k [])]
theorem oN (ls:List (List UInt8))(q:List UInt8)(h0:ls≠[])(hn:ls.length≤1000)(hl:(Lib.join ls q).length≤1000000):Fn Tryz.prog 192 [.sl 0 ls.length ls.length,.str q] [some (V8 ls)] (Rt (.str (Lib.join ls q)) [some (V8 ls)]):=by
 refine⟨by kernel_rfl,fun G w vs hM hv=>?_⟩
 obtain⟨p,rfl⟩:∃p,G=[p]:=List.length_eq_one_iff.1 hM.len.symm
 have he:=hM.ent 0 _ rfl
 obtain⟨hd,h|⟨L,hp,hb,hr⟩⟩:=he
 ·exact absurd (δ3 h) h0
 have hp':p=some L:=hp
 subst hp'
 have Qb:some [Value.slice (some ⟨L.b,L.pre.length,none⟩) ls.length (ls.length+rm (some L)),.string (S q)]=some vs:=hv
 cases Qb
 have hS:Sl oM 1 w.heap.size w (.slice (some ⟨L.b,L.pre.length,none⟩) ls.length (ls.length+rm (some L))) ls:=⟨_,_,rfl,υ0 _ _,fun j x hx=>by
  obtain⟨hj,rfl⟩:=α0.1 hx
  obtain⟨us,q1,q2⟩:=hr j hj
  have e:ls.getD j []=ls[j]:=by simp [List.getD,hj]
  have q3:some [Value.string (S (ls.getD j []))]=some us:=q1
  cases q3
  rw [e]at q2
  exact⟨_,_,rfl,hb,q2⟩⟩
 refine(V6 _ ls q w hS h0 hn hl).mono ?_
 rintro e w' ⟨rfl,hg⟩
 have hk:∀k,(keys [some (V8 ls)] [some L]).contains k=false:=fun k=>by
  cases hc:(keys [some (V8 ls)] [some L]).contains k with
  |false=>rfl
  |true=>
   obtain⟨i,e',M,q1,q2,_⟩:=mem_keys.1 hc
   cases i with
   |zero=>cases q1;cases q2
   |succ i=>cases q1
 refine⟨.str (Lib.join ls q),[some (V8 ls)],[],_,⟨rfl,rfl⟩,rfl,rfl,?_,(DO.refl _ w).grow hg,β7 _,fun i e he _=>he,fun i e he hm=>?_⟩
 ·refine V7 rfl fun i e he=>?_
  cases i with
  | zero=>
   cases he
   refine⟨rfl,hd,.inr ⟨L,rfl,ζ2 hb hg.size,fun k hk=>?_⟩⟩
   obtain⟨us,q1,q2⟩:=hr k hk
   exact⟨us,q1,fun j x hx=>by
    have:=q2 j x hx
    unfold World.cell? at this⊢
    rw [hg.block _ hb];exact this⟩
  |succ i=>cases he
 ·cases i with
  |zero=>cases he;cases hm
  |succ i=>cases he
end Go.Proofs.YtbbdanhpphlbpaaGreatDoor
namespace Go.Proofs.YtbbdanhpphlbpaaGreatDoor
open Go.RowKit
set_option simprocs false
theorem MM:∀(f:Nat) (l:List UInt8) (a:Nat) (ws:List Tk),l.length<f+a→a≤l.length→(∃vs,E5 f l a ws=(vs,0,0))∨∃e k,e≠0∧E5 f l a ws=([],e,k)
 |0,l,a,ws,h,h2=>by omega
 | f +1,l,a,ws,h,h2=>by
  cases hs:(BP (l.drop a)).2 with
  |true=>exact .inr ⟨24,_,by decide,Vl hs⟩
  | false=>
   by_cases h1:a+(BP (l.drop a)).1=l.length
   ·exact .inl ⟨ws,Vm hs h1⟩
   ·by_cases h3:(BC (l.drop (a+(BP (l.drop a)).1))).2=0
    ·rw [Z8 hs h1 h3]
     have hk:=Rr (l.drop a);rw [γ5]at hk
     have hn:=MI h3
     rw [γ5]at hn
     exact MM f l _ _ (by omega) (by omega)
    ·exact .inr ⟨_,_,h3,Vn hs h1 h3⟩
theorem oO {l:List UInt8}{R:Prop}(h1:∀ws,B9 l=(ws,0,0)→R)(h2:∀e k,e≠0→B9 l=([],e,k)→R):R:=by
 by_cases h:l.length>8192
 ·exact h2 2 0 (by decide) (Jj h)
 ·rcases MM (l.length+1) l 0 [] (by omega) (by omega)with⟨vs,h3⟩|⟨e,k,h3,h4⟩
  ·exact h1 vs (by rw [GG (by omega),h3])
  ·exact h2 e k h3 (by rw [GG (by omega),h4])
theorem fS (ws:List Tk)(l:List UInt8):(((((ws.length:Nat):Int)==1)&&((ws.getD (0:Int).toNat BH).kind==1))&&((ws.getD (0:Int).toNat BH).text==l))=(((0:Int)==0)&&(ws.length==1&&((ws.getD 0 BH).kind==1&&(ws.getD 0 BH).text==l))):=by
 have h:(((ws.length:Nat):Int)==1)=(ws.length==1):=by rw [ν3,ε4,ε4];omega
 rw [h,Bool.and_assoc];rfl
def Dx (l:List UInt8):Bool:=(B9 l).2.1==0&&((B9 l).1.length==1&&(((B9 l).1.getD 0 BH).kind==1&&((B9 l).1.getD 0 BH).text==l))
theorem KH (l:List UInt8)(os:List (Nat×Obj))(hM:LR os)(hE:MF os):CE (Gl os) Tryz.prog 47 [.str l] [] (Rt (.bool (Dx l)) []):=
 BB (n:=34) (by kernel_rfl) Tryz.func47 rfl rfl rfl fun G w a h0 hI A=>N9 8 A rfl rfl fun A=>oO (l:=l)
  (fun ws ht=>I9 [] Gl.ok hI (S9 l ws os hM hE ht) A rfl fun A=>N9 13 A rfl rfl fun A=>have A:=Ai A 13 (.tt) rfl (fun _=>congrArg (fun b=>some (Value.bool b)) (show(0==0)=true by decide));N9 24 A rfl (Bw<|Hu (fun hg=>(by have h:=hg;simp at h;omega))<|Bw<|Hu (fun hg=>(by have h:=hg;simp at h;omega))<|Bw<|Hu (fun hg=>(by have h:=hg;simp at h;omega))<|Bw<|Bw<|Bw<|Hu (fun hg=>(by have h:=hg;simp at h;omega))<|Bw<|Hu (fun hg=>(by have h:=hg;simp at h;omega))<|Bw<|Hu (fun hg=>(by have h:=hg;simp at h;omega))<|Bw<|Bw<|Bw<|Ah) fun A=>R9 A rfl h0 rfl (by unfold Dx;rw [ht];exact congrArg SV.bool (fS ws l)) rfl)
  (fun e k he ht=>I9 [] Gl.ok hI (TA l e k os hM hE ht he) A rfl fun A=>N9 13 A rfl rfl fun A=>have A:=Ai A 13 (.ff) rfl (fun _=>congrArg (fun b=>some (Value.bool b)) (show(e==0)=false by simpa using he));N9 24 A rfl rfl fun A=>R9 A rfl h0 rfl (by unfold Dx;rw [ht];simp [he,BA,nb]) rfl)
abbrev Ej (i:In):Bool:=(F7 i.op i.dst i.ra i.rb i.imm i.loc i.off i.ix i.sz i.fn i.acq i.weak i.rel i.pred i.succ i.to_ i.zero 0 0)==34
def Li (g:Lg)(r:Rw)(i:In)(lb:List UInt8)(k j:Nat):List UInt8:=if j<k∧j<r.ps.length then JR g r (r.ps.getD j 0) i lb else []
def JS (g:Lg)(r:Rw)(i:In)(lb:List UInt8):List (List UInt8):=r.ps.map fun p=>JR g r p i lb
def Dg (g:Lg)(L:List Rw)(i:In)(lb:List UInt8):List UInt8×Int:=
 if Ej i=true then([],34)else
 if Fl L i=false then([],36)else
 if i.op=9∧Dx lb=false then([],37)else
 if(BD L i).ps.length=0 then(GO g (BD L i).nm i.sz,0)else
 ((GO g (BD L i).nm i.sz++[32])++Lib.join (JS g (BD L i) i lb) [44],0)
structure Lj (g:Lg)(L:List Rw)(i:In)(lb:List UInt8):Prop where
 lg:YZ g
 lt:∀k,([g.l0,g.l1,g.l2,g.l3].getD k []).length≤1000
 ps:∀k,(L.getD k Rw.z).ps.length≤1000
 n:L.length≤1000000
 im: -9223372036854775808≤i.imm∧i.imm≤9223372036854775807
 nm:(BD L i).nm.length≤1000∧Lib.countB (S (BD L i).nm) (S [42])≤1000
 p:Ej i=false→Fl L i=true→∀k,k<(BD L i).ps.length→((BD L i).ps.getD k 0=6→fH i)∧((BD L i).ps.getD k 0=8→1≤i.pred∧i.pred≤3)∧((BD L i).ps.getD k 0=9→1≤i.succ∧i.succ≤3)
 nl:(GO g (BD L i).nm i.sz).length≤1000000
 jl:(Lib.join (JS g (BD L i) i lb) [44]).length≤1000000
theorem KJ {L:List Rw}{i:In}(h:Fl L i=true):BD L i∈L:=by
 unfold Fl at h;unfold BD
 cases hf:L.find? (Fk i)with
 |none=>rw [hf]at h;cases h
 |some r=>exact List.mem_of_find?_eq_some hf
theorem Lj.len {g:Lg}{L:List Rw}{i:In}{lb:List UInt8}(h:Lj g L i lb)(hq:Fl L i=true):(BD L i).ps.length≤1000:=by
 obtain⟨k,hk,e⟩:=ξ1 (KJ hq)
 have:=h.ps k
 rw [α6,β0 hk]at this
 rw [←e];exact this
def FU (os:List (Nat×Obj))(L:List Rw):Ef:=fun w ks=>Vs L w ks∧Gl os w ks
theorem FU.ok {os:List (Nat×Obj)}{L:List Rw}:Ef.OK (FU os L):=fun w ks w' ks' h m hk=>⟨Vs.ok _ _ _ _ h.1 m hk,Gl.ok _ _ _ _ h.2 m hk⟩
theorem V9 (ls:List (List UInt8))(n:Nat)(f:Nat→List SV)(hn':n=ls.length)(hf:∀j,f j=[.str (ls.getD j [])])(q:List UInt8)(h0:n≠0)(hn:n≤1000)(hl:(Lib.join ls q).length≤1000000):Fn Tryz.prog 192 [.sl 0 n n,.str q] [some (.lst 1 n f)] (Rt (.str (Lib.join ls q)) [some (.lst 1 n f)]):=by
 have:f=fun j=>[.str (ls.getD j [])]:=funext hf
 subst this;subst hn'
 exact oN ls q (fun e=>h0 (by rw [e];rfl)) hn hl
theorem Rz (g:Lg)(r:Rw)(i:In)(lb:List UInt8)(k j:Nat)(h:r.ps.length≤k):Li g r i lb k j=(JS g r i lb).getD j []:=by
 unfold Li JS
 by_cases hj:j<r.ps.length
 ·rw [if_pos ⟨by omega,hj⟩];simp [List.getD,hj]
 ·rw [if_neg (by omega)];simp [List.getD,τ4 hj]
theorem R0:∃ti,Tryz.prog.info? 9=some ti∧ti.zero=some (.string (S []))∧ti.size=1∧ti.bytes≤1000:=by
 have h:(Tryz.prog.info? 9).map (fun ti=>(ti.zero,ti.size,ti.bytes))=some (some (.string (S [])),1,16):=by kernel_rfl
 cases e:Tryz.prog.info? 9 with
 |none=>rw [e]at h;cases h
 |some ti=>
  rw [e]at h
  simp only [δ4,β2,κ0]at h
  exact⟨ti,rfl,h.1,h.2.1,by omega⟩
theorem EM {b:Bool}(h:(!b)=false):b=true:=by cases b<;>first|rfl|cases h
theorem oP {b:Bool}(h:(!b)=true):b=false:=by cases b<;>first|rfl|cases h
theorem WA {g:Lg}{r:Rw}{i:In}{lb:List UInt8}{k j:Nat}(h:j≠k):Li g r i lb (k+1) j=Li g r i lb k j:=by
 unfold Li
 by_cases hj:j<k∧j<r.ps.length
 ·rw [if_pos hj,if_pos ⟨by omega,hj.2⟩]
 ·rw [if_neg hj,if_neg (by omega)]
theorem WB {g:Lg}{r:Rw}{i:In}{lb:List UInt8}{k:Nat}(h:k<r.ps.length):Li g r i lb (k+1) k=JR g r (r.ps.getD k 0) i lb:=by
 unfold Li;rw [if_pos ⟨by omega,h⟩]
theorem NX (g:Lg) (L:List Rw) (c:Nat) (i:In) (lb:List UInt8) (os:List (Nat×Obj)) (hM:LR os) (hT:NU os) (hE:MF os) (h:Lj g L i lb):CE (FU os L) Tryz.prog 143 [.agg [.str g.r0,.str g.r1,.str g.r2,.str g.r3,.str g.r4,.str g.r5,.str g.r6,.str g.r7,.str g.l0,.str g.l1,.str g.l2,.str g.l3,.str g.im,.str g.f0,.str g.f1,.str g.f2,.sl 0 L.length c],.agg (A5 i),.str lb] [some (FT L)] (Rt (.tup [.str ((Dg g L i lb).1),.int .i64 ((Dg g L i lb).2)]) [some (FT L)]):=
 BB (n:=69) (by kernel_rfl) Tryz.func143 rfl rfl rfl fun G w a h0 hI A=>N9 12 A rfl rfl fun A=>C9 [] (Uj i.op i.dst i.ra i.rb i.imm i.loc i.off i.ix i.sz i.fn i.acq i.weak i.rel i.pred i.succ i.to_ i.zero) A rfl fun A=>N9 2 A rfl rfl fun A=>fork 15 A rfl
  (fun h1 A=>N9 8 A rfl rfl fun A=>R9 A rfl h0 rfl (by unfold Dg;rw [if_pos h1];rfl) rfl)
  (fun h1 A=>N9 7 A rfl rfl fun A=>I9 [0] Vs.ok hI.1 (fD g L c i (fun k=>β4 (h.ps k) (by decide)) h.n) A rfl fun A=>N9 15 A rfl rfl fun A=>fork 23 A rfl
   (fun h2 A=>N9 8 A rfl rfl fun A=>R9 A rfl h0 rfl (by unfold Dg;rw [if_neg (show¬Ej i=true from fun z=>Bool.noConfusion (h1.symm.trans z)),if_pos (oP h2)];rfl) rfl)
   (fun h2 A=>N9 10 A rfl rfl fun A=>Au 27 A rfl
    (fun h3 A=>N9 1 A rfl rfl fun A=>I9 [] Gl.ok hI.2 (KH lb os hM hE) A rfl fun A=>N9 4 A rfl rfl fun A=>fork 31 A rfl
     (fun h4 A=>N9 8 A rfl rfl fun A=>R9 A rfl h0 rfl (by unfold Dg;rw [if_neg (show¬Ej i=true from fun z=>Bool.noConfusion (h1.symm.trans z)),if_neg (show¬Fl L i=false by rw [EM h2];decide),if_pos ⟨h3,oP h4⟩];rfl) rfl)
     (fun h4 A=>N9 9 A rfl rfl fun A=>I9 [0] Gl.ok hI.2 (Rv g L c (BD L i) i.sz os hM hT h.nm h.lt) A rfl fun A=>N9 12 A rfl rfl fun A=>Au 40 A rfl
      (fun h5 A=>N9 9 A rfl rfl fun A=>R9 A rfl h0 rfl (by unfold Dg;rw [if_neg (show¬Ej i=true from fun z=>Bool.noConfusion (h1.symm.trans z)),if_neg (show¬Fl L i=false by rw [EM h2];decide),if_neg (show¬(i.op=9∧Dx lb=false)from fun z=>by rw [EM h4]at z;cases z.2),if_pos (show(BD L i).ps.length=0 by omega)];rfl) rfl)
      (fun h5 A=>N9 8 A rfl rfl fun A=>A9 A rfl (lO (m:=(BD L i).ps.length) (fun j=>[.str (Li g (BD L i) i lb 0 j)]) (fun j=>by show [SV.str (Li g (BD L i) i lb 0 j)]=_;unfold Li;rw [if_neg (by omega)]) rfl rfl rfl rfl (by kernel_rfl) R0 (by have:=h.len (EM h2);omega) rfl) fun A=>N9 8 A rfl rfl fun A=>ZZ (y:=.sl 5 ((BD L i).ps.length) ((BD L i).cp)) (H':=[some (FT L),some (.blk [.str g.r0,.str g.r1,.str g.r2,.str g.r3,.str g.r4,.str g.r5,.str g.r6,.str g.r7,.str g.l0,.str g.l1,.str g.l2,.str g.l3,.str g.im,.str g.f0,.str g.f1,.str g.f2,.sl 0 L.length c]),some (.blk (A5 i)),some (.blk (Io (BD L i))),some (.row 9 1 ((BD L i).ps.length) ((BD L i).ps.length) (fun j=>[.str (Li g (BD L i) i lb 0 j)])),some (.lst 1 (((BD L i).ps).length) (fun j=>[.int .i64 (((BD L i).ps).getD j 0)]))]) 47 (hI.1 _ (KJ (EM h2))) A rfl rfl rfl rfl fun A=>N9 5 A rfl rfl fun A=>B7 (fun(k:Nat)=>[(2,.str lb),(3,.ptr 1 0),(4,.ptr 2 0),(6,.str []),(7,.int .i64 0),(8,.ptr 3 0),(10,.str (GO g (BD L i).nm i.sz)),(11,.sl 4 ((BD L i).ps.length) ((BD L i).ps.length)),(47,.sl 5 ((BD L i).ps.length) ((BD L i).cp)),(48,.int .i64 (((BD L i).ps.length:Nat):Int)),(49,.int .i64 (k:Int))]) (fun(k:Nat)=>[some (FT L),some (.blk [.str g.r0,.str g.r1,.str g.r2,.str g.r3,.str g.r4,.str g.r5,.str g.r6,.str g.r7,.str g.l0,.str g.l1,.str g.l2,.str g.l3,.str g.im,.str g.f0,.str g.f1,.str g.f2,.sl 0 L.length c]),some (.blk (A5 i)),some (.blk (Io (BD L i))),some (.row 9 1 ((BD L i).ps.length) ((BD L i).ps.length) (fun j=>[.str (Li g (BD L i) i lb k j)])),some (.lst 1 (((BD L i).ps).length) (fun j=>[.int .i64 (((BD L i).ps).getD j 0)]))]) (fun(k:Nat)=>k≤(BD L i).ps.length) (fun(k:Nat)=>(BD L i).ps.length - k) 0 (β8 _) ((A.cut [2,3,4,6,7,8,10,11,47,48,49] rfl).trunc 6 rfl rfl rfl (Cj h0 rfl)) fun k CT {G a w} A=>N9 6 A rfl rfl fun A=>Aq 50 A rfl
        (fun h6 A=>N9 14 A rfl (Aj (by have q1:=h.len (EM h2);omega)<|Aj (by have q1:=h.len (EM h2);omega)<|Ah) fun A=>N9 8 A rfl rfl fun A=>I9 [0] Gl.ok hI.2 (oB g L c (BD L i) (((BD L i).ps).getD (((k:Int)).toNat) 0) i lb os hM hT h.lg h.im (h.p h1 (EM h2) ((k:Int)).toNat (by have:=h6;omega)).1 (h.p h1 (EM h2) ((k:Int)).toNat (by have:=h6;omega)).2.1 (h.p h1 (EM h2) ((k:Int)).toNat (by have:=h6;omega)).2.2) A rfl fun A=>N9 1 A rfl (Aj (by have q1:=h.len (EM h2);omega)<|Ah) fun A=>yH (i:=4) (e:=9) (s:=1) (m:=(BD L i).ps.length) (c:=(BD L i).ps.length) hX k (fun j=>[.str (Li g (BD L i) i lb (k+1) j)]) A rfl rfl (β5 k) (by omega) (fun z hz=>by show [SV.str _]=[SV.str _];rw [WA hz]) (by show _=some [SV.str _];rw [WB (by omega)];rfl) fun A=>N9 7 A rfl (Aj (by have q1:=h.len (EM h2);omega)<|Ah) fun A=>⟨k+1,_,(by omega),(by show k+1≤_;omega),((A.cut [2,3,4,6,7,8,10,11,47,48,49] rfl).trunc 6 rfl rfl rfl (Cj h0 rfl))⟩)
        (fun h6 A=>N9 8 A rfl (Aj (by have q1:=h.nl;have q2:=h.jl;(try simp only [α4,α5,α7]);omega)<|Ah) fun A=>have A:=A.freeze 4 rfl;C9 [4] (V9 (JS g (BD L i) i lb) ((BD L i).ps.length) (fun j=>[.str (Li g (BD L i) i lb k j)]) (by unfold JS;rw [δ2]) (fun j=>by show [SV.str _]=[SV.str _];rw [Rz _ _ _ _ _ _ (by have:=CT;omega)]) [44] (by omega) (h.len (EM h2)) h.jl) A rfl fun A=>N9 6 A rfl (Aj (by have q1:=h.nl;have q2:=h.jl;(try simp only [α4,α5,α7]);omega)<|Ah) fun A=>R9 A rfl h0 rfl (by unfold Dg;rw [if_neg (show¬Ej i=true from fun z=>Bool.noConfusion (h1.symm.trans z)),if_neg (show¬Fl L i=false by rw [EM h2];decide),if_neg (show¬(i.op=9∧Dx lb=false)from fun z=>by rw [EM h4]at z;cases z.2),if_neg (show¬(BD L i).ps.length=0 by omega)];rfl) rfl))))
    (fun h3 A=>N9 15 A rfl rfl fun A=>I9 [0] Gl.ok hI.2 (Rv g L c (BD L i) i.sz os hM hT h.nm h.lt) A rfl fun A=>N9 12 A rfl rfl fun A=>Au 40 A rfl
     (fun h7 A=>N9 9 A rfl rfl fun A=>R9 A rfl h0 rfl (by unfold Dg;rw [if_neg (show¬Ej i=true from fun z=>Bool.noConfusion (h1.symm.trans z)),if_neg (show¬Fl L i=false by rw [EM h2];decide),if_neg (show¬(i.op=9∧Dx lb=false)from fun z=>h3 z.1),if_pos (show(BD L i).ps.length=0 by omega)];rfl) rfl)
     (fun h7 A=>N9 8 A rfl rfl fun A=>A9 A rfl (lO (m:=(BD L i).ps.length) (fun j=>[.str (Li g (BD L i) i lb 0 j)]) (fun j=>by show [SV.str (Li g (BD L i) i lb 0 j)]=_;unfold Li;rw [if_neg (by omega)]) rfl rfl rfl rfl (by kernel_rfl) R0 (by have:=h.len (EM h2);omega) rfl) fun A=>N9 8 A rfl rfl fun A=>ZZ (y:=.sl 5 ((BD L i).ps.length) ((BD L i).cp)) (H':=[some (FT L),some (.blk [.str g.r0,.str g.r1,.str g.r2,.str g.r3,.str g.r4,.str g.r5,.str g.r6,.str g.r7,.str g.l0,.str g.l1,.str g.l2,.str g.l3,.str g.im,.str g.f0,.str g.f1,.str g.f2,.sl 0 L.length c]),some (.blk (A5 i)),some (.blk (Io (BD L i))),some (.row 9 1 ((BD L i).ps.length) ((BD L i).ps.length) (fun j=>[.str (Li g (BD L i) i lb 0 j)])),some (.lst 1 (((BD L i).ps).length) (fun j=>[.int .i64 (((BD L i).ps).getD j 0)]))]) 47 (hI.1 _ (KJ (EM h2))) A rfl rfl rfl rfl fun A=>N9 5 A rfl rfl fun A=>B7 (fun(k:Nat)=>[(2,.str lb),(3,.ptr 1 0),(4,.ptr 2 0),(6,.str []),(7,.int .i64 0),(8,.ptr 3 0),(10,.str (GO g (BD L i).nm i.sz)),(11,.sl 4 ((BD L i).ps.length) ((BD L i).ps.length)),(47,.sl 5 ((BD L i).ps.length) ((BD L i).cp)),(48,.int .i64 (((BD L i).ps.length:Nat):Int)),(49,.int .i64 (k:Int))]) (fun(k:Nat)=>[some (FT L),some (.blk [.str g.r0,.str g.r1,.str g.r2,.str g.r3,.str g.r4,.str g.r5,.str g.r6,.str g.r7,.str g.l0,.str g.l1,.str g.l2,.str g.l3,.str g.im,.str g.f0,.str g.f1,.str g.f2,.sl 0 L.length c]),some (.blk (A5 i)),some (.blk (Io (BD L i))),some (.row 9 1 ((BD L i).ps.length) ((BD L i).ps.length) (fun j=>[.str (Li g (BD L i) i lb k j)])),some (.lst 1 (((BD L i).ps).length) (fun j=>[.int .i64 (((BD L i).ps).getD j 0)]))]) (fun(k:Nat)=>k≤(BD L i).ps.length) (fun(k:Nat)=>(BD L i).ps.length - k) 0 (β8 _) ((A.cut [2,3,4,6,7,8,10,11,47,48,49] rfl).trunc 6 rfl rfl rfl (Cj h0 rfl)) fun k CT {G a w} A=>N9 6 A rfl rfl fun A=>Aq 50 A rfl
       (fun h8 A=>N9 14 A rfl (Aj (by have q1:=h.len (EM h2);omega)<|Aj (by have q1:=h.len (EM h2);omega)<|Ah) fun A=>N9 8 A rfl rfl fun A=>I9 [0] Gl.ok hI.2 (oB g L c (BD L i) (((BD L i).ps).getD (((k:Int)).toNat) 0) i lb os hM hT h.lg h.im (h.p h1 (EM h2) ((k:Int)).toNat (by have:=h8;omega)).1 (h.p h1 (EM h2) ((k:Int)).toNat (by have:=h8;omega)).2.1 (h.p h1 (EM h2) ((k:Int)).toNat (by have:=h8;omega)).2.2) A rfl fun A=>N9 1 A rfl (Aj (by have q1:=h.len (EM h2);omega)<|Ah) fun A=>yH (i:=4) (e:=9) (s:=1) (m:=(BD L i).ps.length) (c:=(BD L i).ps.length) hX k (fun j=>[.str (Li g (BD L i) i lb (k+1) j)]) A rfl rfl (β5 k) (by omega) (fun z hz=>by show [SV.str _]=[SV.str _];rw [WA hz]) (by show _=some [SV.str _];rw [WB (by omega)];rfl) fun A=>N9 7 A rfl (Aj (by have q1:=h.len (EM h2);omega)<|Ah) fun A=>⟨k+1,_,(by omega),(by show k+1≤_;omega),((A.cut [2,3,4,6,7,8,10,11,47,48,49] rfl).trunc 6 rfl rfl rfl (Cj h0 rfl))⟩)
       (fun h8 A=>N9 8 A rfl (Aj (by have q1:=h.nl;have q2:=h.jl;(try simp only [α4,α5,α7]);omega)<|Ah) fun A=>have A:=A.freeze 4 rfl;C9 [4] (V9 (JS g (BD L i) i lb) ((BD L i).ps.length) (fun j=>[.str (Li g (BD L i) i lb k j)]) (by unfold JS;rw [δ2]) (fun j=>by show [SV.str _]=[SV.str _];rw [Rz _ _ _ _ _ _ (by have:=CT;omega)]) [44] (by omega) (h.len (EM h2)) h.jl) A rfl fun A=>N9 6 A rfl (Aj (by have q1:=h.nl;have q2:=h.jl;(try simp only [α4,α5,α7]);omega)<|Ah) fun A=>R9 A rfl h0 rfl (by unfold Dg;rw [if_neg (show¬Ej i=true from fun z=>Bool.noConfusion (h1.symm.trans z)),if_neg (show¬Fl L i=false by rw [EM h2];decide),if_neg (show¬(i.op=9∧Dx lb=false)from fun z=>h3 z.1),if_neg (show¬(BD L i).ps.length=0 by omega)];rfl) rfl)))))
def n1 (ws:List Tk)(k:Nat)(z:Ps):Ps:=if(k:Int)>0 then z.wa (I0 ws z.as [44])else z
def oQ (g:Lg)(ws:List Tk)(k:Nat)(R:List Rw)(z:Ps):List Rw:=yT g k (ws.getD (n1 ws k z).p BH) R
def sG (g:Lg)(ws:List Tk)(k:Nat)(R:List Rw)(z:Ps):Ps:=if(((oQ g ws k R z).length:Nat):Int)>0 then vH g ws (((oQ g ws k R z).getD (0:Int).toNat Rw.z).ps.getD k 0) (sF g ws k R (n1 ws k z))else sF g ws k R (n1 ws k z)
def j6 (R:List Rw)(k:Nat):Bool:=(decide (((R.length:Nat):Int)>0))&&(decide ((k:Int)<(((R.getD (0:Int).toNat Rw.z).ps.length:Nat):Int)))
def inst (g:Lg)(ws:List Tk):Nat→Nat→List Rw→Ps→Ps×List Rw
 |0,k,R,z=>(z,R)
 |f+1,k,R,z=>if j6 R k=true then inst g ws f (k+1) (oQ g ws k R z) (sG g ws k R z)else(z,R)
def yU (g:Lg)(ws:List Tk)(L:List Rw)(s:Ps):Nat:=((aL g ws L s).getD 0 Rw.z).ps.length
def inF (g:Lg)(ws:List Tk)(L:List Rw)(s:Ps):Ps×List Rw:=inst g ws (yU g ws L s+1) 0 (aL g ws L s) (sE g ws L s)
structure Yh (g:Lg)(ws:List Tk)(L:List Rw)(N0:Nat)(res:Ps×List Rw)(k:Nat)(z:Ps)(R:List Rw):Prop where
 le:z.p≤ws.length
 sub:∀r∈R,r∈L
 n:∀r∈R,r.ps.length=N0
 ln:R.length≤100000
 rn:∃f,inst g ws f k R z=res∧N0<f+k
section
variable {g:Lg}{ws:List Tk}{L R:List Rw}{N0 k:Nat}{res:Ps×List Rw}{z:Ps}{w:World}{ks:List Nat}
theorem aM (h:z.p≤ws.length):(n1 ws k z).p≤ws.length:=by
 unfold n1;split
 ·exact D8 (s:=z.as) h
 ·exact h
theorem oR (h:z.p≤ws.length):(sG g ws k R z).p≤ws.length:=by
 unfold sG;split
 ·exact fO (V4 (aM h))
 ·exact V4 (aM h)
theorem Yi (h:j6 R k=true):0<R.length∧k<(R.getD 0 Rw.z).ps.length:=by
 unfold j6 at h;rw [α3,δ5,δ5]at h
 have e:(0:Int).toNat=0:=rfl
 rw [e]at h;omega
theorem WC (h:0<R.length):R.getD 0 Rw.z∈R:=by rw [α6,β0 h];exact η9 h
theorem WD {r:Rw}(h:r∈oQ g ws k R z):r∈R:=(ι7.1 h).1
theorem Yh.lt (hN:Yh g ws L N0 res k z R)(h:j6 R k=true):k<N0:=by
 have h2:=Yi h
 rw [hN.n _ (WC h2.1)]at h2;exact h2.2
theorem Yh.nx (hN:Yh g ws L N0 res k z R)(h:j6 R k=true):Yh g ws L N0 res (k+1) (sG g ws k R z) (oQ g ws k R z):=by
 obtain⟨f,h1,h2⟩:=hN.rn
 refine⟨oR hN.le,fun r hr=>hN.sub r (WD hr),fun r hr=>hN.n r (WD hr),β4 (κ3 _ _) hN.ln,?_⟩
 cases f with
 |zero=>have:=hN.lt h;omega
 |succ f=>unfold inst at h1;rw [if_pos h]at h1;exact⟨f,h1,by omega⟩
theorem Yh.fi (hN:Yh g ws L N0 res k z R)(h:j6 R k=false):res=(z,R):=by
 obtain⟨f,h1,h2⟩:=hN.rn
 cases f with
 |zero=>exact h1.symm
 |succ f=>unfold inst at h1;rw [h]at h1;exact h1.symm
theorem Yh.i0 {s:Ps}(hk:s.p≤ws.length)(hs:∀r∈aL g ws L s,∀q∈aL g ws L s,r.ps.length=q.ps.length)(hL:L.length≤100000):Yh g ws L (yU g ws L s) (inF g ws L s) 0 (sE g ws L s) (aL g ws L s):=by
 have JY:∀r∈aL g ws L s,r∈L:=fun r hr=>by
  unfold aL at hr
  split at hr
  ·unfold j0 zK at hr
   rcases aK _ _ _ hr with h|h
   ·cases h
   ·exact ρ3 h
  ·cases hr
 refine⟨fR hk,JY,fun r hr=>hs r hr _ (WC (List.length_pos_of_mem hr)),?_,_,rfl,by omega⟩
 unfold aL
 split
 ·have:=fQ (g:=g) (q:=(ws.getD s.p BH).text) (L:=L) (z:=s.ins.sz) (k:=L.length)
  unfold j0;omega
 ·exact β8 _
theorem Vs.sub (h:Vs L w ks)(hs:∀r∈R,r∈L):Vs R w ks:=fun r hr=>h r (hs r hr)
end
theorem Pt (ws:List Tk)(c:Nat)(hn:ws.length≤1000000):Fn Tryz.prog 244 [.sl 0 ws.length c] [some (Fj ws)] (Rt (.sl 1 ws.length 0) [some (Fj ws),some (.row 134 4 ws.length 0 (fun zz=>Ov (ws.getD zz BH)))]):=
 Am (n:=8) (by kernel_rfl) Tryz.func244 rfl rfl rfl fun G w a h0 A=>N9 9 A rfl rfl fun A=>tM hX A rfl rfl (fun h1 {G a w} A=>N9 9 A rfl rfl fun A=>have A:=A.nilRow 2 134 4 (fun zz=>Ov (ws.getD zz BH)) rfl (fun z=>⟨_,rfl,rfl⟩);have A:=A.rowAs 1 ws.length (fun zz=>Ov (ws.getD zz BH)) rfl h1 (fun _ _=>rfl) (fun z=>⟨_,rfl,rfl⟩);have A:=A.say 2 (.sl 1 ws.length 0) rfl (by rw [h1]<;>rfl);Ns hX [1] A ⟨rfl,rfl⟩ rfl rfl rfl rfl rfl rfl rfl rfl h0) (fun{G a w} A=>N9 9 A rfl rfl fun A=>Xz hX ws.length (fun zz=>Ov (ws.getD zz BH)) A rfl rfl rfl rfl (β7 _) (by omega) hn (by omega) (fun k hk=>by omega) (fun k hk=>by show Ov _=Ov _;rw [ε0]) (fun z=>⟨_,rfl,rfl⟩) (fun k hk=>⟨_,rfl,Ah⟩) fun A=>N9 4 A rfl rfl fun A=>Ns hX [2] A ⟨rfl,rfl⟩ rfl rfl rfl rfl rfl rfl rfl rfl h0)
abbrev Dj (b1 b2 b3 b4 b5 b6 b7 b8 b9 b10:Nat):List (Nat×List SV):=[(b10,[.str [77,79,86],.str [],.int .i64 1,.z9,.z9,.z9,.z9,.z9,.z9,.z9,.z9,.z9,.ff,.ff,.ff,.z9,.z9,.z9,.ff,.sla (some ⟨b1,0,none⟩) 2 2,.str [77,79,86],.str [],.int .i64 2,.z9,.z9,.z9,.z9,.z9,.z9,.z9,.z9,.z9,.ff,.ff,.ff,.z9,.z9,.z9,.ff,.sla (some ⟨b2,0,none⟩) 2 2,.str [77,79,86,42],.str [],.int .i64 4,.z9,.z9,.z9,.z9,.z9,.z9,.z9,.z9,.z9,.ff,.ff,.ff,.z9,.z9,.z9,.ff,.sla (some ⟨b3,0,none⟩) 2 2,.str [77,79,86,42],.str [],.int .i64 5,.z9,.z9,.z9,.z9,.z9,.z9,.z9,.z9,.z9,.ff,.ff,.ff,.z9,.z9,.z9,.ff,.sla (some ⟨b4,0,none⟩) 2 2,.str [77,79,86,42],.str [],.int .i64 5,.z9,.z9,.z9,.z9,.z9,.z9,.z9,.z9,.z9,.ff,.ff,.ff,.z9,.z9,.z9,.ff,.sla (some ⟨b5,0,none⟩) 2 2,.str [88,67,72,71,42],.str [],.int .i64 6,.z9,.z9,.z9,.z9,.z9,.z9,.z9,.z9,.int .i64 6,.tt,.ff,.tt,.z9,.z9,.z9,.ff,.sla (some ⟨b6,0,none⟩) 2 2,.str [88,65,68,68,42],.str [],.int .i64 6,.z9,.z9,.z9,.z9,.z9,.z9,.z9,.z9,.int .i64 1,.tt,.ff,.tt,.z9,.z9,.z9,.ff,.sla (some ⟨b7,0,none⟩) 2 2,.str [77,70,69,78,67,69],.str [],.int .i64 7,.z9,.z9,.z9,.z9,.z9,.z9,.z9,.z9,.z9,.ff,.ff,.ff,.int .i64 3,.int .i64 3,.z9,.ff,.sla none 0 0,.str [74,90],.str [],.int .i64 9,.z9,.z9,.z9,.z9,.z9,.z9,.z9,.z9,.z9,.ff,.ff,.ff,.z9,.z9,.z9,.tt,.sla (some ⟨b8,0,none⟩) 2 2,.str [74,78,90],.str [],.int .i64 9,.z9,.z9,.z9,.z9,.z9,.z9,.z9,.z9,.z9,.ff,.ff,.ff,.z9,.z9,.z9,.ff,.sla (some ⟨b9,0,none⟩) 2 2]),(b9,[.int .i64 2,.int .i64 7]),(b8,[.int .i64 2,.int .i64 7]),(b7,[.int .i64 6,.int .i64 4]),(b6,[.int .i64 4,.int .i64 6]),(b5,[.int .i64 6,.int .i64 5]),(b4,[.int .i64 6,.int .i64 2]),(b3,[.int .i64 1,.int .i64 6]),(b2,[.int .i64 1,.int .i64 2]),(b1,[.int .i64 1,.int .i64 5])]
theorem oS:Ly Tryz.prog 182 [] [] (fun x w w'=>∃b1 b2 b3 b4 b5 b6 b7 b8 b9 b10:Nat,x=.sla (some ⟨b10,0,none⟩) 10 10∧Acc w.heap.size (Dj b1 b2 b3 b4 b5 b6 b7 b8 b9 b10) w' []):=
 EI (n:=37) (by kernel_rfl) Tryz.func182 rfl rfl rfl fun G w a h0 A=>have B:=A;have hA:Acc w.heap.size [] w _:=Acc.nil;N9 29 A rfl rfl fun A=>Dw [.int .i64 1,.int .i64 5] (X:=⟨_,true⟩) hX B hA A rfl rfl rfl rfl fun b1 B hA A=>
 N9 2 A rfl rfl fun A=>Dw [.int .i64 1,.int .i64 2] (X:=⟨_,true⟩) hX B hA A rfl rfl rfl rfl fun b2 B hA A=>
 N9 2 A rfl rfl fun A=>Dw [.int .i64 1,.int .i64 6] (X:=⟨_,true⟩) hX B hA A rfl rfl rfl rfl fun b3 B hA A=>
 N9 2 A rfl rfl fun A=>Dw [.int .i64 6,.int .i64 2] (X:=⟨_,true⟩) hX B hA A rfl rfl rfl rfl fun b4 B hA A=>
 N9 2 A rfl rfl fun A=>Dw [.int .i64 6,.int .i64 5] (X:=⟨_,true⟩) hX B hA A rfl rfl rfl rfl fun b5 B hA A=>
 N9 2 A rfl rfl fun A=>Dw [.int .i64 4,.int .i64 6] (X:=⟨_,true⟩) hX B hA A rfl rfl rfl rfl fun b6 B hA A=>
 N9 2 A rfl rfl fun A=>Dw [.int .i64 6,.int .i64 4] (X:=⟨_,true⟩) hX B hA A rfl rfl rfl rfl fun b7 B hA A=>
 N9 4 A rfl rfl fun A=>Dw [.int .i64 2,.int .i64 7] (X:=⟨_,true⟩) hX B hA A rfl rfl rfl rfl fun b8 B hA A=>
 N9 2 A rfl rfl fun A=>Dw [.int .i64 2,.int .i64 7] (X:=⟨_,true⟩) hX B hA A rfl rfl rfl rfl fun b9 B hA A=>
 N9 1 A rfl rfl fun A=>Dw [.str [77,79,86],.str [],.int .i64 1,.z9,.z9,.z9,.z9,.z9,.z9,.z9,.z9,.z9,.ff,.ff,.ff,.z9,.z9,.z9,.ff,.sla (some ⟨b1,0,none⟩) 2 2,.str [77,79,86],.str [],.int .i64 2,.z9,.z9,.z9,.z9,.z9,.z9,.z9,.z9,.z9,.ff,.ff,.ff,.z9,.z9,.z9,.ff,.sla (some ⟨b2,0,none⟩) 2 2,.str [77,79,86,42],.str [],.int .i64 4,.z9,.z9,.z9,.z9,.z9,.z9,.z9,.z9,.z9,.ff,.ff,.ff,.z9,.z9,.z9,.ff,.sla (some ⟨b3,0,none⟩) 2 2,.str [77,79,86,42],.str [],.int .i64 5,.z9,.z9,.z9,.z9,.z9,.z9,.z9,.z9,.z9,.ff,.ff,.ff,.z9,.z9,.z9,.ff,.sla (some ⟨b4,0,none⟩) 2 2,.str [77,79,86,42],.str [],.int .i64 5,.z9,.z9,.z9,.z9,.z9,.z9,.z9,.z9,.z9,.ff,.ff,.ff,.z9,.z9,.z9,.ff,.sla (some ⟨b5,0,none⟩) 2 2,.str [88,67,72,71,42],.str [],.int .i64 6,.z9,.z9,.z9,.z9,.z9,.z9,.z9,.z9,.int .i64 6,.tt,.ff,.tt,.z9,.z9,.z9,.ff,.sla (some ⟨b6,0,none⟩) 2 2,.str [88,65,68,68,42],.str [],.int .i64 6,.z9,.z9,.z9,.z9,.z9,.z9,.z9,.z9,.int .i64 1,.tt,.ff,.tt,.z9,.z9,.z9,.ff,.sla (some ⟨b7,0,none⟩) 2 2,.str [77,70,69,78,67,69],.str [],.int .i64 7,.z9,.z9,.z9,.z9,.z9,.z9,.z9,.z9,.z9,.ff,.ff,.ff,.int .i64 3,.int .i64 3,.z9,.ff,.sla none 0 0,.str [74,90],.str [],.int .i64 9,.z9,.z9,.z9,.z9,.z9,.z9,.z9,.z9,.z9,.ff,.ff,.ff,.z9,.z9,.z9,.tt,.sla (some ⟨b8,0,none⟩) 2 2,.str [74,78,90],.str [],.int .i64 9,.z9,.z9,.z9,.z9,.z9,.z9,.z9,.z9,.z9,.ff,.ff,.ff,.z9,.z9,.z9,.ff,.sla (some ⟨b9,0,none⟩) 2 2] (X:=⟨_,true⟩) hX B hA A rfl rfl rfl rfl fun b10 B hA A=>
 N9 4 A rfl rfl fun A=>JH (J:=fun x w w'=>∃b1 b2 b3 b4 b5 b6 b7 b8 b9 b10:Nat,x=.sla (some ⟨b10,0,none⟩) 10 10∧Acc w.heap.size (Dj b1 b2 b3 b4 b5 b6 b7 b8 b9 b10) w' []) hX (B.trans A) (fun i e he=>CW he) rfl rfl rfl rfl ⟨b1,b2,b3,b4,b5,b6,b7,b8,b9,b10,rfl,(hA.now A).bare⟩
abbrev nz:List UInt8×Int:=([],0)
def JU (x:List UInt8×Int):List SV:=[.str x.1,.int .i64 x.2]
def x5:List (List UInt8×Int):=[([65,68,68],1),([83,85,66],2),([88,79,82],3),([65,78,68],4),([79,82],5)]
theorem O3:(∀x,(JU x).length=2)∧(∀x,Hf 0 (JU x)=true)∧(∀x,∃vs,Al [] (JU x)=some vs):=⟨fun _=>rfl,fun _=>rfl,fun _=>⟨_,rfl⟩⟩
theorem ID:(∀x,(BG x).length=20)∧(∀x,Hf 0 (BG x)=true)∧(∀x,∃vs,Al [] (BG x)=some vs):=⟨fun _=>rfl,fun _=>rfl,fun _=>⟨_,rfl⟩⟩
def tm (r:Rw):List UInt8×List UInt8×In×List Int:=(r.nm,r.wd,r.ins,r.ps)
def RowsIn (lo:Nat)(L:List Rw):Ef:=fun w ks=>∀r∈L,DQ r.pa r.ps w ks∧∀q,r.pa=some q→lo≤q.block
theorem RowsIn.ok {lo:Nat}{L:List Rw}:Ef.OK (RowsIn lo L):=fun w ks w' ks' h m hk r hr=>⟨(h r hr).1.go m hk,(h r hr).2⟩
def Jx (op fn:Int):In:=⟨op,0,0,0,0,0,0,0,0,fn,false,false,false,0,0,0,false⟩
abbrev TK (x:List UInt8×Int)(b1:Nat):Rw:=⟨x.1,[],Jx 3 x.2,some ⟨b1,0,none⟩,[4,3],2⟩
abbrev TL (x:List UInt8×Int)(b2:Nat):Rw:=⟨x.1,[],Jx 3 x.2,some ⟨b2,0,none⟩,[4,5],2⟩
def MN:List (List UInt8×List UInt8×In×List Int):=x5.flatMap fun x=>[(x.1,[],Jx 3 x.2,[4,3]),(x.1,[],Jx 3 x.2,[4,5])]
structure XC (lo:Nat)(z:List Rw×Nat)(w:World)(ks:List Nat):Prop where
 le:z.2≤5
 tm:z.1.map tm=MN.take (2*z.2)
 rw:RowsIn lo z.1 w ks
theorem XC.len {lo:Nat}{z:List Rw×Nat}{w:World}{ks:List Nat}(h:XC lo z w ks):z.1.length=2*z.2:=by
 have h1:=congrArg List.length h.tm
 rw [δ2,δ8]at h1
 have h2:MN.length=10:=by decide
 have:=h.le
 omega
theorem BY {lo b:Nat}{cs:List SV}{l:List (Nat×List SV)}{w:World}{ks:List Nat}(ps:List Int)(h:Acc lo l w ks)(hm:(b,ps.map (SV.int .i64 ·))∈l):DQ (some ⟨b,0,none⟩) ps w ks∧∀q,(some (⟨b,0,none⟩:Addr))=some q→lo≤q.block:=by
 obtain⟨h1,vs,h2,h3,h4,h5⟩:=h _ hm
 have:∀ps:List Int,Al [] (ps.map (SV.int .i64 ·))=some (ps.map (Value.int .i64)):=by
  intro ps
  induction ps with
  |nil=>rfl
  |cons p ps ih=>rw [ζ4];unfold Al;rw [ih];rfl
 rw [this]at h2
 cases h2
 exact⟨.inr ⟨b,rfl,h3,h4,h5⟩,fun q hq=>by cases hq;exact h1⟩
theorem XC.nx {lo b1 b2:Nat}{z:List Rw×Nat}{w w1:World}{ks ks1:List Nat}{l:List (Nat×List SV)}(h:XC lo z w ks)(hk:(z.2:Int)<5)(hr:RowsIn lo z.1 w1 ks1)(hA:Acc lo [(b2,[.int .i64 4,.int .i64 5]),(b1,[.int .i64 4,.int .i64 3])] w1 ks1):XC lo (z.1++[TK (x5.getD ((z.2:Int)).toNat nz) b1,TL (x5.getD ((z.2:Int)).toNat nz) b2],z.2+1) w1 ks1:=by
 refine⟨by have:=h.le;show z.2+1≤5;omega,?_,fun r Nm=>?_⟩
 ·show List.map _ (z.1++_)=_
  rw [ζ5,h.tm,β5]
  have:z.2=0∨z.2=1∨z.2=2∨z.2=3∨z.2=4:=by omega
  rcases this with e|e|e|e|e<;>rw [e]<;>rfl
 ·rcases ζ6.1 Nm with h1|h1
  ·exact hr r h1
  ·simp only [ζ9,ι1,μ9]at h1
   rcases h1 with rfl|rfl
   ·exact BY (cs:=[]) [4,3] hA (ζ7 _ (ε2))
   ·exact BY (cs:=[]) [4,5] hA (ε2)
theorem fT:Ly Tryz.prog 181 [] [] (fun x w w'=>∃(L:List Rw) (b cp:Nat),x=.sla (some ⟨b,0,none⟩) 10 cp∧(L.map tm=MN∧RowsIn w.heap.size L w' [b])∧w.heap.size≤b∧Cb 203 20 10 (fun zz=>BG (L.getD zz Rw.z)) b cp w'):=
 EI (n:=36) (by kernel_rfl) Tryz.func181 rfl rfl rfl fun G w a h0 A=>N9 13 A rfl rfl fun A=>have A:=A.asT nz JU 2 O3.1 O3.2.1 O3.2.2 x5 0 rfl;N9 17 A rfl rfl fun A=>have A:=A.nilRow 2 203 20 (fun zz=>BG (([]:List Rw).getD zz Rw.z)) rfl (fun z=>⟨_,rfl,rfl⟩);Gm (fun(z:List Rw×Nat)=>[(0,.sla none 0 0),(2,.sl 1 z.1.length 0),(12,.sl 0 5 5),(13,.int .i64 ((5:Nat):Int)),(14,.int .i64 (z.2:Int))]) (fun(z:List Rw×Nat)=>[some (.lst 2 5 (fun zz=>JU (x5.getD zz nz))),some (.row 203 20 z.1.length 0 (fun zz=>BG (z.1.getD zz Rw.z)))]) (fun z w1 ks1=>XC w.heap.size z w1 ks1) (fun z=>5 - z.2) ([],0) (A.cut [0,2,12,13,14] rfl) ⟨by decide,rfl,fun r hr=>by cases hr⟩ fun z G1 a1 w1 hJ hg A B=>have hA:Acc w.heap.size [] w1 _:=Acc.nil;have hR:=hJ.rw;
 N9 6 A rfl rfl fun A=>Aq 15 A rfl
   (fun h1 A=>N9 14 A rfl (Aj (by omega)<|Aj (by omega)<|Ah) fun A=>N9 4 A rfl rfl fun A=>have A:=Ai A 20 (.agg [.int .i64 3,.z9,.z9,.z9,.z9,.z9,.z9,.z9,.z9,.int .i64 ((x5.getD (((z.2:Int)).toNat) nz).2),.bool false,.bool false,.bool false,.z9,.z9,.z9,.bool false]) rfl (fun _=>rfl);N9 9 A rfl rfl fun A=>Lc [.int .i64 4,.int .i64 3] (X:=⟨_,true⟩) hX RowsIn.ok B hA hR A rfl rfl rfl rfl fun b1 B hA hR A=>
 N9 4 A rfl rfl fun A=>Lc [.int .i64 4,.int .i64 5] (X:=⟨_,true⟩) hX RowsIn.ok B hA hR A rfl rfl rfl rfl fun b2 B hA hR A=>
 N9 2 A rfl rfl fun A=>have A:=A.asT Rw.z BG 20 ID.1 ID.2.1 ID.2.2 [TK (x5.getD (((z.2:Int)).toNat) nz) b1,TL (x5.getD (((z.2:Int)).toNat) nz) b2] 4 rfl;A9 A rfl (HT hX ((z.1++[TK (x5.getD (((z.2:Int)).toNat) nz) b1,TL (x5.getD (((z.2:Int)).toNat) nz) b2]).length) (fun zz=>BG ((z.1++[TK (x5.getD (((z.2:Int)).toNat) nz) b1,TL (x5.getD (((z.2:Int)).toNat) nz) b2]).getD zz Rw.z)) rfl rfl rfl rfl (β7 _) (by have:=hJ.len;have:=hJ.le;omega) (by decide) α4 (fun k hk=>by show BG _=BG _;rw [BX hk]) (fun k hk=>by show BG _=BG _;rw [CV]) (fun z=>⟨_,rfl,rfl⟩) (fun k hk=>⟨_,rfl,Ah⟩)) fun A=>
 N9 8 A rfl (Aj (by omega)<|Ah) fun A=>⟨(z.1++[TK (x5.getD (((z.2:Int)).toNat) nz) b1,TL (x5.getD (((z.2:Int)).toNat) nz) b2],z.2+1),_,(by have:=h1;show _ - _<_ - _;omega),(hJ.nx (l:=[]) h1 (RowsIn.ok _ _ _ _ hR A.mix fun b hb=>A.keys_own b ((CB (H:=[some (.lst 2 5 (fun zz=>JU (x5.getD zz nz))),none,some (.blk [.str ((x5.getD (((z.2:Int)).toNat) nz).1),.int .i64 ((x5.getD (((z.2:Int)).toNat) nz).2)]),some (.blk [.int .i64 3,.z9,.z9,.z9,.z9,.z9,.z9,.z9,.z9,.int .i64 ((x5.getD (((z.2:Int)).toNat) nz).2),.bool false,.bool false,.bool false,.z9,.z9,.z9,.bool false]),some (.lst 20 ([TK (x5.getD (((z.2:Int)).toNat) nz) b1,TL (x5.getD (((z.2:Int)).toNat) nz) b2].length) (fun zz=>BG ([TK (x5.getD (((z.2:Int)).toNat) nz) b1,TL (x5.getD (((z.2:Int)).toNat) nz) b2].getD zz Rw.z))),some (.row 203 20 ((z.1++[TK (x5.getD (((z.2:Int)).toNat) nz) b1,TL (x5.getD (((z.2:Int)).toNat) nz) b2]).length) 0 (fun zz=>BG ((z.1++[TK (x5.getD (((z.2:Int)).toNat) nz) b1,TL (x5.getD (((z.2:Int)).toNat) nz) b2]).getD zz Rw.z)))]) (m:=[0,5]) A.mem.len rfl rfl) b hb)) (hA.go A.mix fun b hb=>A.keys_own b ((CB (H:=[some (.lst 2 5 (fun zz=>JU (x5.getD zz nz))),none,some (.blk [.str ((x5.getD (((z.2:Int)).toNat) nz).1),.int .i64 ((x5.getD (((z.2:Int)).toNat) nz).2)]),some (.blk [.int .i64 3,.z9,.z9,.z9,.z9,.z9,.z9,.z9,.z9,.int .i64 ((x5.getD (((z.2:Int)).toNat) nz).2),.bool false,.bool false,.bool false,.z9,.z9,.z9,.bool false]),some (.lst 20 ([TK (x5.getD (((z.2:Int)).toNat) nz) b1,TL (x5.getD (((z.2:Int)).toNat) nz) b2].length) (fun zz=>BG ([TK (x5.getD (((z.2:Int)).toNat) nz) b1,TL (x5.getD (((z.2:Int)).toNat) nz) b2].getD zz Rw.z))),some (.row 203 20 ((z.1++[TK (x5.getD (((z.2:Int)).toNat) nz) b1,TL (x5.getD (((z.2:Int)).toNat) nz) b2]).length) 0 (fun zz=>BG ((z.1++[TK (x5.getD (((z.2:Int)).toNat) nz) b1,TL (x5.getD (((z.2:Int)).toNat) nz) b2]).getD zz Rw.z)))]) (m:=[0,5]) A.mem.len rfl rfl) b hb))),((B.trans A).cut [0,2,12,13,14] rfl).mv 0 [0,5] rfl rfl rfl rfl (by simp only [α7]at h0;omega)⟩)
   (fun h1 A=>N9 10 A rfl rfl fun A=>(have e5:z.2=5:=(by have:=hJ.le;omega);have e:z.1.length=10:=(by have:=hJ.len;omega);match A.giveRow 1 0 (by omega) rfl rfl rfl with|⟨b,cp,A2,hG,ho,hk⟩=>JH (J:=fun x w w'=>∃(L:List Rw) (b cp:Nat),x=.sla (some ⟨b,0,none⟩) 10 cp∧(L.map tm=MN∧RowsIn w.heap.size L w' [b])∧w.heap.size≤b∧Cb 203 20 10 (fun zz=>BG (L.getD zz Rw.z)) b cp w') hX (B.trans A2) (fun i e he=>CW he) rfl rfl rfl rfl ⟨z.1,b,cp,(by show SV.sla _ z.1.length cp=_;rw [e]),⟨(by have h2:=hJ.tm;rw [e5]at h2;exact h2),(RowsIn.ok _ _ _ _ hJ.rw A.mix fun b2 hb=>by have:b2=b:=(by simpa using hb);rw [this];exact ho)⟩,IS B (fun i e he=>CW he) ho,(by rw [←e];exact hG)⟩))
def Jl (b1 b2 b3 b4 b5 b6 b7 b8 b9:Nat):List Rw:=[⟨[77,79,86],[],⟨1,0,0,0,0,0,0,0,0,0,false,false,false,0,0,0,false⟩,some ⟨b1,0,none⟩,[1,5],2⟩,⟨[77,79,86],[],⟨2,0,0,0,0,0,0,0,0,0,false,false,false,0,0,0,false⟩,some ⟨b2,0,none⟩,[1,2],2⟩,⟨[77,79,86,42],[],⟨4,0,0,0,0,0,0,0,0,0,false,false,false,0,0,0,false⟩,some ⟨b3,0,none⟩,[1,6],2⟩,⟨[77,79,86,42],[],⟨5,0,0,0,0,0,0,0,0,0,false,false,false,0,0,0,false⟩,some ⟨b4,0,none⟩,[6,2],2⟩,⟨[77,79,86,42],[],⟨5,0,0,0,0,0,0,0,0,0,false,false,false,0,0,0,false⟩,some ⟨b5,0,none⟩,[6,5],2⟩,⟨[88,67,72,71,42],[],⟨6,0,0,0,0,0,0,0,0,6,true,false,true,0,0,0,false⟩,some ⟨b6,0,none⟩,[4,6],2⟩,⟨[88,65,68,68,42],[],⟨6,0,0,0,0,0,0,0,0,1,true,false,true,0,0,0,false⟩,some ⟨b7,0,none⟩,[6,4],2⟩,⟨[77,70,69,78,67,69],[],⟨7,0,0,0,0,0,0,0,0,0,false,false,false,3,3,0,false⟩,none,[],0⟩,⟨[74,90],[],⟨9,0,0,0,0,0,0,0,0,0,false,false,false,0,0,0,true⟩,some ⟨b8,0,none⟩,[2,7],2⟩,⟨[74,78,90],[],⟨9,0,0,0,0,0,0,0,0,0,false,false,false,0,0,0,false⟩,some ⟨b9,0,none⟩,[2,7],2⟩]
def oT:List (List UInt8×List UInt8×In×List Int):=[([77,79,86],[],⟨1,0,0,0,0,0,0,0,0,0,false,false,false,0,0,0,false⟩,[1,5]),([77,79,86],[],⟨2,0,0,0,0,0,0,0,0,0,false,false,false,0,0,0,false⟩,[1,2]),([77,79,86,42],[],⟨4,0,0,0,0,0,0,0,0,0,false,false,false,0,0,0,false⟩,[1,6]),([77,79,86,42],[],⟨5,0,0,0,0,0,0,0,0,0,false,false,false,0,0,0,false⟩,[6,2]),([77,79,86,42],[],⟨5,0,0,0,0,0,0,0,0,0,false,false,false,0,0,0,false⟩,[6,5]),([88,67,72,71,42],[],⟨6,0,0,0,0,0,0,0,0,6,true,false,true,0,0,0,false⟩,[4,6]),([88,65,68,68,42],[],⟨6,0,0,0,0,0,0,0,0,1,true,false,true,0,0,0,false⟩,[6,4]),([77,70,69,78,67,69],[],⟨7,0,0,0,0,0,0,0,0,0,false,false,false,3,3,0,false⟩,[]),([74,90],[],⟨9,0,0,0,0,0,0,0,0,0,false,false,false,0,0,0,true⟩,[2,7]),([74,78,90],[],⟨9,0,0,0,0,0,0,0,0,0,false,false,false,0,0,0,false⟩,[2,7])]
def Ir:List (List UInt8×List UInt8×In×List Int):=MN++oT
theorem TM {b1 b2 b3 b4 b5 b6 b7 b8 b9 b10 lo lo2:Nat}{w:World}{ks:List Nat}(h:Acc lo (Dj b1 b2 b3 b4 b5 b6 b7 b8 b9 b10) w ks)(Dl:lo2≤lo):RowsIn lo2 (Jl b1 b2 b3 b4 b5 b6 b7 b8 b9) w ks:=by
 intro r hr
 unfold Jl at hr
 simp only [ζ9,ι1,μ9]at hr
 rcases hr with rfl|rfl|rfl|rfl|rfl|rfl|rfl|rfl|rfl|rfl
 ·have q:=BY (b:=b1) (cs:=[]) [1,5] h (by show _∈Dj b1 b2 b3 b4 b5 b6 b7 b8 b9 b10;unfold Dj;simp);exact⟨q.1,fun z hz=>β4 Dl (q.2 z hz)⟩
 ·have q:=BY (b:=b2) (cs:=[]) [1,2] h (by show _∈Dj b1 b2 b3 b4 b5 b6 b7 b8 b9 b10;unfold Dj;simp);exact⟨q.1,fun z hz=>β4 Dl (q.2 z hz)⟩
 ·have q:=BY (b:=b3) (cs:=[]) [1,6] h (by show _∈Dj b1 b2 b3 b4 b5 b6 b7 b8 b9 b10;unfold Dj;simp);exact⟨q.1,fun z hz=>β4 Dl (q.2 z hz)⟩
 ·have q:=BY (b:=b4) (cs:=[]) [6,2] h (by show _∈Dj b1 b2 b3 b4 b5 b6 b7 b8 b9 b10;unfold Dj;simp);exact⟨q.1,fun z hz=>β4 Dl (q.2 z hz)⟩
 ·have q:=BY (b:=b5) (cs:=[]) [6,5] h (by show _∈Dj b1 b2 b3 b4 b5 b6 b7 b8 b9 b10;unfold Dj;simp);exact⟨q.1,fun z hz=>β4 Dl (q.2 z hz)⟩
 ·have q:=BY (b:=b6) (cs:=[]) [4,6] h (by show _∈Dj b1 b2 b3 b4 b5 b6 b7 b8 b9 b10;unfold Dj;simp);exact⟨q.1,fun z hz=>β4 Dl (q.2 z hz)⟩
 ·have q:=BY (b:=b7) (cs:=[]) [6,4] h (by show _∈Dj b1 b2 b3 b4 b5 b6 b7 b8 b9 b10;unfold Dj;simp);exact⟨q.1,fun z hz=>β4 Dl (q.2 z hz)⟩
 ·exact⟨.inl ⟨rfl,rfl⟩,fun q hq=>by cases hq⟩
 ·have q:=BY (b:=b8) (cs:=[]) [2,7] h (by show _∈Dj b1 b2 b3 b4 b5 b6 b7 b8 b9 b10;unfold Dj;simp);exact⟨q.1,fun z hz=>β4 Dl (q.2 z hz)⟩
 ·have q:=BY (b:=b9) (cs:=[]) [2,7] h (by show _∈Dj b1 b2 b3 b4 b5 b6 b7 b8 b9 b10;unfold Dj;simp);exact⟨q.1,fun z hz=>β4 Dl (q.2 z hz)⟩
theorem Bi {lo b1:Nat}{L:List Rw}{w:World}{ks:List Nat}(h:RowsIn lo L w [b1])(hk:∀b,ks.contains b=true→b<lo∨b=b1):RowsIn lo L w ks:=fun r hr=>by
 obtain⟨h1,h2⟩:=h r hr
 refine⟨?_,h2⟩
 rcases h1 with h1|⟨b,e,q1,q2,q3⟩
 ·exact .inl h1
 ·refine .inr ⟨b,e,q1,?_,q3⟩
  cases hc:ks.contains b with
  |false=>rfl
  |true=>
   have h3:=h2 _ e
   simp only at h3
   rcases hk b hc with h4|h4
   ·omega
   ·rw [h4]at q2;simp at q2
theorem Is {lo:Nat}{l:List (Nat×List SV)}{w:World}{ks:List Nat}(h:Acc lo l w [])(hk:∀b,ks.contains b=true→b<lo):Acc lo l w ks:=fun p hp=>by
 obtain⟨h1,vs,h2,h3,h4,h5⟩:=h p hp
 refine⟨h1,vs,h2,h3,?_,h5⟩
 cases hc:ks.contains p.1 with
 |false=>rfl
 |true=>have:=hk _ hc;omega
theorem WE (b1 b2 b3 b4 b5 b6 b7 b8 b9 b10:Nat):Al [] ((Jl b1 b2 b3 b4 b5 b6 b7 b8 b9).flatMap BG)=Al [] [.str [77,79,86],.str [],.int .i64 1,.z9,.z9,.z9,.z9,.z9,.z9,.z9,.z9,.z9,.ff,.ff,.ff,.z9,.z9,.z9,.ff,.sla (some ⟨b1,0,none⟩) 2 2,.str [77,79,86],.str [],.int .i64 2,.z9,.z9,.z9,.z9,.z9,.z9,.z9,.z9,.z9,.ff,.ff,.ff,.z9,.z9,.z9,.ff,.sla (some ⟨b2,0,none⟩) 2 2,.str [77,79,86,42],.str [],.int .i64 4,.z9,.z9,.z9,.z9,.z9,.z9,.z9,.z9,.z9,.ff,.ff,.ff,.z9,.z9,.z9,.ff,.sla (some ⟨b3,0,none⟩) 2 2,.str [77,79,86,42],.str [],.int .i64 5,.z9,.z9,.z9,.z9,.z9,.z9,.z9,.z9,.z9,.ff,.ff,.ff,.z9,.z9,.z9,.ff,.sla (some ⟨b4,0,none⟩) 2 2,.str [77,79,86,42],.str [],.int .i64 5,.z9,.z9,.z9,.z9,.z9,.z9,.z9,.z9,.z9,.ff,.ff,.ff,.z9,.z9,.z9,.ff,.sla (some ⟨b5,0,none⟩) 2 2,.str [88,67,72,71,42],.str [],.int .i64 6,.z9,.z9,.z9,.z9,.z9,.z9,.z9,.z9,.int .i64 6,.tt,.ff,.tt,.z9,.z9,.z9,.ff,.sla (some ⟨b6,0,none⟩) 2 2,.str [88,65,68,68,42],.str [],.int .i64 6,.z9,.z9,.z9,.z9,.z9,.z9,.z9,.z9,.int .i64 1,.tt,.ff,.tt,.z9,.z9,.z9,.ff,.sla (some ⟨b7,0,none⟩) 2 2,.str [77,70,69,78,67,69],.str [],.int .i64 7,.z9,.z9,.z9,.z9,.z9,.z9,.z9,.z9,.z9,.ff,.ff,.ff,.int .i64 3,.int .i64 3,.z9,.ff,.sla none 0 0,.str [74,90],.str [],.int .i64 9,.z9,.z9,.z9,.z9,.z9,.z9,.z9,.z9,.z9,.ff,.ff,.ff,.z9,.z9,.z9,.tt,.sla (some ⟨b8,0,none⟩) 2 2,.str [74,78,90],.str [],.int .i64 9,.z9,.z9,.z9,.z9,.z9,.z9,.z9,.z9,.z9,.ff,.ff,.ff,.z9,.z9,.z9,.ff,.sla (some ⟨b9,0,none⟩) 2 2]:=by rfl
theorem RowsIn.mono {lo lo2:Nat}{L:List Rw}{w:World}{ks:List Nat}(h:RowsIn lo L w ks)(hl:lo2≤lo):RowsIn lo2 L w ks:=fun r hr=>⟨(h r hr).1,fun q hq=>β4 hl ((h r hr).2 q hq)⟩
theorem RowsIn.app {lo:Nat}{L R:List Rw}{w:World}{ks:List Nat}(h:RowsIn lo L w ks)(h2:RowsIn lo R w ks):RowsIn lo (L++R) w ks:=fun r hr=>by
 rcases ζ6.1 hr with h3|h3
 ·exact h r h3
 ·exact h2 r h3
theorem RowsIn.one {lo b:Nat}{L:List Rw}{w w':World}{ks:List Nat}(h:RowsIn lo L w ks)(h2:RowsIn lo L w [b])(m:DO ks w w'):RowsIn lo L w' [b]:=fun r hr=>by
 refine⟨?_,(h r hr).2⟩
 rcases(h r hr).1.go m (ks':=[]) (fun b hb=>by cases hb)with h1|⟨q,e,q1,_,q3⟩
 ·exact .inl h1
 ·rcases(h2 r hr).1 with h3|⟨q',e',_,q2',_⟩
  ·rw [h3.1]at e;cases e
  ·rw [e]at e';cases e';exact .inr ⟨q,e,q1,q2',q3⟩
theorem Cb.mix {e s m b cp:Nat}{f:Nat→List SV}{w w':World}{ks:List Nat}(h:Cb e s m f b cp w)(mx:DO ks w w')(hk:ks.contains b=false):Cb e s m f b cp w':=by
 obtain⟨h1,xs,h2,h3⟩:=h
 exact⟨h1,xs,h2,Mj h3 mx (fun k JW=>by cases JW;exact hk)⟩
section
variable {n:Nat}{ks:List Nat}{G0:Gr}{w0:World}{T:List (Nat×SV)}{H:Hp}{G:Gr}{a:Act}{w:World}{Q:Exit→Act→World→Prop}{K:List Fr}{ops:Array Oper}{o:Oper}{rest:List Oper}
theorem Yj (A:Sy n T H ks G0 w0 G a w) (h1:B6 n ops T o=some (182,[]))
  (k:∀b1 b2 b3 b4 b5 b6 b7 b8 b9 b10 vs a' w',Al [] ((Jl b1 b2 b3 b4 b5 b6 b7 b8 b9).flatMap BG)=some vs→Kk b10 0 vs w' (keys H G)→RowsIn w.heap.size (Jl b1 b2 b3 b4 b5 b6 b7 b8 b9) w' (keys H G)→Sy n (Bh T o.dst (.sla (some ⟨b10,0,none⟩) 10 10)) H ks G0 w0 G a' w'→Goal Tryz.prog Q K (.ops ops rest) a' w'):Goal Tryz.prog Q K (.ops ops (o::rest)) a w:=by
 refine OR [] oS A h1 rfl rfl rfl rfl fun x a' w' hJ hk A'=>?_
 obtain⟨b1,b2,b3,b4,b5,b6,b7,b8,b9,b10,rfl,hA⟩:=hJ
 have hA:=Is hA hk
 obtain⟨_,vs,q1,q2⟩:=hA _ ε2
 exact k b1 b2 b3 b4 b5 b6 b7 b8 b9 b10 vs a' w' ((WE b1 b2 b3 b4 b5 b6 b7 b8 b9 b10).trans q1) q2 (TM hA (β7 _)) A'
end
theorem fU:Fn Tryz.prog 144 [] [] (Rt (.agg [.str [82,65,88],.str [82,66,88],.str [82,67,88],.str [82,68,88],.str [82,83,73],.str [82,68,73],.str [82,56],.str [82,57]]) []):=
 Am (n:=2) (by kernel_rfl) Tryz.func144 rfl rfl rfl fun G w a h0 A=>N9 12 A rfl rfl fun A=>R9 A rfl h0 rfl rfl rfl
theorem LC:Ly Tryz.prog 141 [] [] (fun x w w'=>∃(L:List Rw) (b cp:Nat),x=.agg [.str [82,65,88],.str [82,66,88],.str [82,67,88],.str [82,68,88],.str [82,83,73],.str [82,68,73],.str [82,56],.str [82,57],.str [66],.str [87],.str [76],.str [81],.str [36],.str [],.str [],.str [],.sla (some ⟨b,0,none⟩) 20 cp]∧(L.map tm=Ir∧RowsIn w.heap.size L w' [b])∧w.heap.size≤b∧Cb 203 20 20 (fun zz=>BG (L.getD zz Rw.z)) b cp w'):=
 EI (n:=7) (by kernel_rfl) Tryz.func141 rfl rfl rfl fun G w a h0 A=>N9 7 A rfl rfl fun A=>C9 [] (fU) A rfl fun A=>N9 1 A rfl rfl fun A=>have hz:=A.mix.size;HH (t:=3) (F:=fun(L:List Rw) zz=>BG (L.getD zz Rw.z)) (R:=fun L b w w'=>L.map tm=MN∧RowsIn w.heap.size L w' [b]) fT A rfl rfl fun L b1 cp1 a1 w1 G1 hR Dl hk A=>have hl:L.length=10:=(by have q:=congrArg List.length hR.1;rw [δ2]at q;exact q);have hI:=(Bi hR.2 hk).mono hz;have B:=A;have A:=B.base;
 Yj A rfl fun c1 c2 c3 c4 c5 c6 c7 c8 c9 c10 vs a2 w2 hv hL hO A=>have hI:=RowsIn.ok _ _ _ _ hI A.mix A.keys_own;have hO:=hO.mono B.mix.size;have B:=B.trans A;have A:=A.base;have A:=A.adoptL Rw.z BG 20 ID.1 ID.2.1 ID.2.2 (Jl c1 c2 c3 c4 c5 c6 c7 c8 c9) hL hv 4 rfl;
 A9 A rfl (HT hX 20 (fun zz=>BG ((L++(Jl c1 c2 c3 c4 c5 c6 c7 c8 c9)).getD zz Rw.z)) rfl rfl rfl rfl (β7 _) (by decide) (show 10≤1000000 by decide) rfl (fun k hk=>by show BG _=BG _;rw [BX (by omega)]) (fun k hk=>by show BG ((L++_).getD (10+k) Rw.z)=BG _;rw [show 10+k=L.length+k by omega,CV]) (fun z=>⟨_,rfl,rfl⟩) (fun k hk=>⟨_,rfl,Ah⟩)) fun A=>match A.giveRow 3 5 (by decide) rfl rfl rfl with|⟨b,cp,A2,hG,ho,rD⟩=>(have hW:=hI.app hO;have h1:=RowsIn.ok _ _ _ _ hW A2.mix A2.keys_own;have h2:=RowsIn.ok _ _ _ [b] hW A2.mix (fun b2 hb=>by have:b2=b:=(by simpa using hb);rw [this];exact ho);have ZN:=IS B (fun i e he=>CW he) ho;have B:=B.trans A2;have A:=A2.base;
 N9 5 A rfl rfl fun A=>JH (J:=fun x w w'=>∃(L:List Rw) (b cp:Nat),x=.agg [.str [82,65,88],.str [82,66,88],.str [82,67,88],.str [82,68,88],.str [82,83,73],.str [82,68,73],.str [82,56],.str [82,57],.str [66],.str [87],.str [76],.str [81],.str [36],.str [],.str [],.str [],.sla (some ⟨b,0,none⟩) 20 cp]∧(L.map tm=Ir∧RowsIn w.heap.size L w' [b])∧w.heap.size≤b∧Cb 203 20 20 (fun zz=>BG (L.getD zz Rw.z)) b cp w') hX (B.trans A) (fun i e he=>CW he) rfl rfl rfl rfl ⟨L++(Jl c1 c2 c3 c4 c5 c6 c7 c8 c9),b,cp,rfl,⟨by rw [ζ5,hR.1];rfl,h1.one h2 A.mix⟩,ZN,hG.mix A.mix rD⟩)
end Go.Proofs.YtbbdanhpphlbpaaGreatDoor
namespace Go.Proofs.YtbbdanhpphlbpaaGreatDoor
open Go.RowKit
def Ep:Lg:=⟨[82,65,88],[82,66,88],[82,67,88],[82,68,88],[82,83,73],[82,68,73],[82,56],[82,57],[66],[87],[76],[81],[36],[],[],[]⟩
section
variable {g:Lg}{q:List UInt8}{L:List Rw}{ws:List Tk}{s:Ps}
theorem fV {r:Rw}{T:List (List UInt8×List UInt8×In×List Int)}(h:L.map tm=T)(hr:r∈L):tm r∈T:=by rw [←h];exact List.mem_map_of_mem hr
end
def Yk (g:Lg)(T:List (List UInt8×List UInt8×In×List Int)):Bool:=T.all fun x=>decide (x.1.length≤1000)&&decide ((Lib.cut x.1 [42]).1.length≤1000)&&decide ((Lib.cut x.1 [42]).2.1.length≤1000)&&decide (x.2.2.2.length≤1000)
end Go.Proofs.YtbbdanhpphlbpaaGreatDoor
namespace Go.Proofs.YtbbdanhpphlbpaaGreatDoor
open Go.RowKit
def cn (r:Rw):Rw:=⟨r.nm,r.wd,r.ins,none,r.ps,0⟩
def Yl (x:List UInt8×List UInt8×In×List Int):Rw:=⟨x.1,x.2.1,x.2.2.1,none,x.2.2.2,0⟩
theorem WG {L:List Rw}{T:List (List UInt8×List UInt8×In×List Int)}(h:L.map tm=T):L.map cn=T.map Yl:=by rw [←h,υ3];rfl
section
variable {g:Lg}{q:List UInt8}{L R:List Rw}{ws:List Tk}{s z:Ps}{k:Nat}{t:Tk}{x:Int}
end
def QA:List Rw:=Ir.map Yl
end Go.Proofs.YtbbdanhpphlbpaaGreatDoor
namespace Go.Proofs.YtbbdanhpphlbpaaGreatDoor
open Go.RowKit
set_option simprocs false
section
variable {g:Lg}{L:List Rw}{i:In}{lb:List UInt8}
theorem NY:∀(L:List Rw),(L.map cn).find? (Fk i)=(L.find? (Fk i)).map cn
 | []=>rfl
 |r::L=>by
  rw [ζ4,υ5,υ5]
  have e:Fk i (cn r)=Fk i r:=rfl
  rw [e]
  split
  ·rfl
  ·exact NY L
theorem Ym:BD (L.map cn) i=cn (BD L i):=by
 unfold BD;rw [NY];cases L.find? (Fk i)<;>rfl
theorem Yn:Fl (L.map cn) i=Fl L i:=by
 unfold Fl;rw [NY];cases L.find? (Fk i)<;>rfl
theorem QB:Dg g (L.map cn) i lb=Dg g L i lb:=by
 unfold Dg;rw [Ym,Yn];rfl
theorem WH (h:L.map tm=Ir):Dg Ep L i lb=Dg Ep QA i lb:=by
 have:=QB (g:=Ep) (L:=L) (i:=i) (lb:=lb)
 rw [WG h]at this
 exact this.symm
end
theorem Yo (i:In)(lb:List UInt8)(os:List (Nat×Obj))(hM:LR os)(hT:NU os)(hE:MF os)(hp:∀L:List Rw,L.map tm=Ir→Lj Ep L i lb):CE (Gl os) Tryz.prog 110 [.agg (A5 i),.str lb] [] (Rt (.tup [.str ((Dg Ep QA i lb).1),.int .i64 ((Dg Ep QA i lb).2)]) []):=
 BB (n:=12) (by kernel_rfl) Tryz.func110 rfl rfl rfl fun G w a h0 hI A=>N9 8 A rfl rfl fun A=>NC 8 By rfl A fun{w2} A=>KE (fun(tail:∀(L:List Rw) {G1:Gr} {a1:Act} {w1:World},L.map tm=Ir→L.length=20→FU os L w1 (keys [some (.blk (A5 i)),some (FT L)] G1)→Sy 12 [(6,.agg [.str [82,65,88],.str [82,66,88],.str [82,67,88],.str [82,68,88],.str [82,83,73],.str [82,68,73],.str [82,56],.str [82,57],.str [66],.str [87],.str [76],.str [81],.str [36],.str [],.str [],.str [],.sl 1 L.length 0]),(7,.agg (A5 i)),(8,.str lb)] [some (.blk (A5 i)),some (FT L)] (keys [] G) G w G1 a1 w1→wpAny Tryz.prog .any _ _ _ _ a1 w1)=>Aw (rs:=[0,1,2]) (by kernel_rfl) (by decide) (Cc ⟨DC (t:=6) (l:=[.str [82,65,88],.str [82,66,88],.str [82,67,88],.str [82,68,88],.str [82,83,73],.str [82,68,73],.str [82,56],.str [82,57],.str [66],.str [87],.str [76],.str [81],.str [36],.str [],.str [],.str []]) (F:=fun(L:List Rw) zz=>BG (L.getD zz Rw.z)) (R:=fun L b w w'=>L.map tm=Ir∧RowsIn w.heap.size L w' [b]) rfl LC A rfl rfl fun L b cp a1 w1 G1 hR Dl Iw A=>have Br:L.length=20:=(by have q:=congrArg List.length hR.1;rw [δ2]at q;exact q.trans (by decide+kernel));have Ix:=Bi hR.2 Iw;have B0:=A;have A:=A.base;have A:=A.rowAs 1 L.length (fun zz=>BG (L.getD zz Rw.z)) rfl Br (fun _ _=>rfl) (fun z=>⟨_,rfl,rfl⟩);have A:=A.say 6 (.agg [.str [82,65,88],.str [82,66,88],.str [82,67,88],.str [82,68,88],.str [82,83,73],.str [82,68,73],.str [82,56],.str [82,57],.str [66],.str [87],.str [76],.str [81],.str [36],.str [],.str [],.str [],.sl 1 L.length 0]) rfl (by rw [Br]<;>rfl);have A:=A.freeze 1 rfl;have Iy:=RowsIn.ok.now A Ix;have B:=B0.trans A;have A:=A.base;have CT:FU os L _ _:=⟨fun r hr=>(Iy r hr).1,Gl.ok.now B hI⟩;Aw (rs:=[1,2]) (by kernel_rfl) (by decide) (Cc ⟨Da (.agg (A5 i)) rfl A rfl rfl fun A=>Aw (rs:=[2]) (by kernel_rfl) (by decide) (Cc ⟨Da (.str lb) rfl A rfl rfl fun A=>tail L hR.1 Br (FU.ok.now A CT) ((B.trans A).cut [6,7,8] rfl),
    (DF)⟩),
   (Cc ⟨Da (.str lb) rfl A rfl rfl fun A=>Aw (rs:=[1]) (by kernel_rfl) (by decide) (Cc ⟨Da (.agg (A5 i)) rfl A rfl rfl fun A=>tail L hR.1 Br (FU.ok.now A CT) ((B.trans A).cut [6,7,8] rfl),
    (DF)⟩),
   (DF)⟩)⟩),
  (Cc ⟨Da (.agg (A5 i)) rfl A rfl rfl fun A=>Aw (rs:=[0,2]) (by kernel_rfl) (by decide) (Cc ⟨DC (t:=6) (l:=[.str [82,65,88],.str [82,66,88],.str [82,67,88],.str [82,68,88],.str [82,83,73],.str [82,68,73],.str [82,56],.str [82,57],.str [66],.str [87],.str [76],.str [81],.str [36],.str [],.str [],.str []]) (F:=fun(L:List Rw) zz=>BG (L.getD zz Rw.z)) (R:=fun L b w w'=>L.map tm=Ir∧RowsIn w.heap.size L w' [b]) rfl LC A rfl rfl fun L b cp a1 w1 G1 hR Dl Iw A=>have Br:L.length=20:=(by have q:=congrArg List.length hR.1;rw [δ2]at q;exact q.trans (by decide+kernel));have Ix:=Bi hR.2 Iw;have B0:=A;have A:=A.base;have A:=A.rowAs 1 L.length (fun zz=>BG (L.getD zz Rw.z)) rfl Br (fun _ _=>rfl) (fun z=>⟨_,rfl,rfl⟩);have A:=A.say 6 (.agg [.str [82,65,88],.str [82,66,88],.str [82,67,88],.str [82,68,88],.str [82,83,73],.str [82,68,73],.str [82,56],.str [82,57],.str [66],.str [87],.str [76],.str [81],.str [36],.str [],.str [],.str [],.sl 1 L.length 0]) rfl (by rw [Br]<;>rfl);have A:=A.freeze 1 rfl;have Iy:=RowsIn.ok.now A Ix;have B:=B0.trans A;have A:=A.base;have CT:FU os L _ _:=⟨fun r hr=>(Iy r hr).1,Gl.ok.now B hI⟩;Aw (rs:=[2]) (by kernel_rfl) (by decide) (Cc ⟨Da (.str lb) rfl A rfl rfl fun A=>tail L hR.1 Br (FU.ok.now A CT) ((B.trans A).cut [6,7,8] rfl),
    (DF)⟩),
   (Cc ⟨Da (.str lb) rfl A rfl rfl fun A=>Aw (rs:=[0]) (by kernel_rfl) (by decide) (Cc ⟨DC (t:=6) (l:=[.str [82,65,88],.str [82,66,88],.str [82,67,88],.str [82,68,88],.str [82,83,73],.str [82,68,73],.str [82,56],.str [82,57],.str [66],.str [87],.str [76],.str [81],.str [36],.str [],.str [],.str []]) (F:=fun(L:List Rw) zz=>BG (L.getD zz Rw.z)) (R:=fun L b w w'=>L.map tm=Ir∧RowsIn w.heap.size L w' [b]) rfl LC A rfl rfl fun L b cp a1 w1 G1 hR Dl Iw A=>have Br:L.length=20:=(by have q:=congrArg List.length hR.1;rw [δ2]at q;exact q.trans (by decide+kernel));have Ix:=Bi hR.2 Iw;have B0:=A;have A:=A.base;have A:=A.rowAs 1 L.length (fun zz=>BG (L.getD zz Rw.z)) rfl Br (fun _ _=>rfl) (fun z=>⟨_,rfl,rfl⟩);have A:=A.say 6 (.agg [.str [82,65,88],.str [82,66,88],.str [82,67,88],.str [82,68,88],.str [82,83,73],.str [82,68,73],.str [82,56],.str [82,57],.str [66],.str [87],.str [76],.str [81],.str [36],.str [],.str [],.str [],.sl 1 L.length 0]) rfl (by rw [Br]<;>rfl);have A:=A.freeze 1 rfl;have Iy:=RowsIn.ok.now A Ix;have B:=B0.trans A;have A:=A.base;have CT:FU os L _ _:=⟨fun r hr=>(Iy r hr).1,Gl.ok.now B hI⟩;tail L hR.1 Br (FU.ok.now A CT) ((B.trans A).cut [6,7,8] rfl),
    (DF)⟩),
   (DF)⟩)⟩),
  (Cc ⟨Da (.str lb) rfl A rfl rfl fun A=>Aw (rs:=[0,1]) (by kernel_rfl) (by decide) (Cc ⟨DC (t:=6) (l:=[.str [82,65,88],.str [82,66,88],.str [82,67,88],.str [82,68,88],.str [82,83,73],.str [82,68,73],.str [82,56],.str [82,57],.str [66],.str [87],.str [76],.str [81],.str [36],.str [],.str [],.str []]) (F:=fun(L:List Rw) zz=>BG (L.getD zz Rw.z)) (R:=fun L b w w'=>L.map tm=Ir∧RowsIn w.heap.size L w' [b]) rfl LC A rfl rfl fun L b cp a1 w1 G1 hR Dl Iw A=>have Br:L.length=20:=(by have q:=congrArg List.length hR.1;rw [δ2]at q;exact q.trans (by decide+kernel));have Ix:=Bi hR.2 Iw;have B0:=A;have A:=A.base;have A:=A.rowAs 1 L.length (fun zz=>BG (L.getD zz Rw.z)) rfl Br (fun _ _=>rfl) (fun z=>⟨_,rfl,rfl⟩);have A:=A.say 6 (.agg [.str [82,65,88],.str [82,66,88],.str [82,67,88],.str [82,68,88],.str [82,83,73],.str [82,68,73],.str [82,56],.str [82,57],.str [66],.str [87],.str [76],.str [81],.str [36],.str [],.str [],.str [],.sl 1 L.length 0]) rfl (by rw [Br]<;>rfl);have A:=A.freeze 1 rfl;have Iy:=RowsIn.ok.now A Ix;have B:=B0.trans A;have A:=A.base;have CT:FU os L _ _:=⟨fun r hr=>(Iy r hr).1,Gl.ok.now B hI⟩;Aw (rs:=[1]) (by kernel_rfl) (by decide) (Cc ⟨Da (.agg (A5 i)) rfl A rfl rfl fun A=>tail L hR.1 Br (FU.ok.now A CT) ((B.trans A).cut [6,7,8] rfl),
    (DF)⟩),
   (Cc ⟨Da (.agg (A5 i)) rfl A rfl rfl fun A=>Aw (rs:=[0]) (by kernel_rfl) (by decide) (Cc ⟨DC (t:=6) (l:=[.str [82,65,88],.str [82,66,88],.str [82,67,88],.str [82,68,88],.str [82,83,73],.str [82,68,73],.str [82,56],.str [82,57],.str [66],.str [87],.str [76],.str [81],.str [36],.str [],.str [],.str []]) (F:=fun(L:List Rw) zz=>BG (L.getD zz Rw.z)) (R:=fun L b w w'=>L.map tm=Ir∧RowsIn w.heap.size L w' [b]) rfl LC A rfl rfl fun L b cp a1 w1 G1 hR Dl Iw A=>have Br:L.length=20:=(by have q:=congrArg List.length hR.1;rw [δ2]at q;exact q.trans (by decide+kernel));have Ix:=Bi hR.2 Iw;have B0:=A;have A:=A.base;have A:=A.rowAs 1 L.length (fun zz=>BG (L.getD zz Rw.z)) rfl Br (fun _ _=>rfl) (fun z=>⟨_,rfl,rfl⟩);have A:=A.say 6 (.agg [.str [82,65,88],.str [82,66,88],.str [82,67,88],.str [82,68,88],.str [82,83,73],.str [82,68,73],.str [82,56],.str [82,57],.str [66],.str [87],.str [76],.str [81],.str [36],.str [],.str [],.str [],.sl 1 L.length 0]) rfl (by rw [Br]<;>rfl);have A:=A.freeze 1 rfl;have Iy:=RowsIn.ok.now A Ix;have B:=B0.trans A;have A:=A.base;have CT:FU os L _ _:=⟨fun r hr=>(Iy r hr).1,Gl.ok.now B hI⟩;tail L hR.1 Br (FU.ok.now A CT) ((B.trans A).cut [6,7,8] rfl),
    (DF)⟩),
   (DF)⟩)⟩),
  (DF)⟩)⟩)⟩)) (fun L {G1 a1 w1} rE Br CT A=>have hR:L.map tm=Ir∧True:=⟨rE,trivial⟩;have B:=A;have A:=B.base;Aw (rs:=[3]) (by kernel_rfl) (by decide) (Cc ⟨Em (x:=.tup [.str ((Dg Ep L i lb).1),.int .i64 ((Dg Ep L i lb).2)]) (H':=[some (.blk (A5 i)),some (FT L)]) rfl A rfl (De [1] FU.ok CT (NX Ep L 0 i lb os hM hT hE (hp L hR.1)) rfl rfl rfl rfl rfl rfl rfl) fun A=>Aw (rs:=[4,5]) (by kernel_rfl) (by decide) (Cc ⟨Da (.str ((Dg Ep L i lb).1)) rfl A rfl rfl fun A=>Aw (rs:=[5]) (by kernel_rfl) (by decide) (Cc ⟨Da (.int .i64 ((Dg Ep L i lb).2)) rfl A rfl rfl fun A=>Aw (rs:=[6]) (by kernel_rfl) (by decide) (Cc ⟨Da (.str ((Dg Ep L i lb).1)) rfl A rfl rfl fun A=>Aw (rs:=[7]) (by kernel_rfl) (by decide) (Cc ⟨Da (.int .i64 ((Dg Ep L i lb).2)) rfl A rfl rfl fun A=>El (by kernel_rfl) (N9 2 A rfl rfl fun A=>R9 (B.trans A) rfl h0 rfl (by rw [←WH hR.1]<;>rfl) rfl),
      (DF)⟩),
     (DF)⟩),
    (DF)⟩),
   (Cc ⟨Da (.int .i64 ((Dg Ep L i lb).2)) rfl A rfl rfl fun A=>Aw (rs:=[4]) (by kernel_rfl) (by decide) (Cc ⟨Da (.str ((Dg Ep L i lb).1)) rfl A rfl rfl fun A=>Aw (rs:=[6]) (by kernel_rfl) (by decide) (Cc ⟨Da (.str ((Dg Ep L i lb).1)) rfl A rfl rfl fun A=>Aw (rs:=[7]) (by kernel_rfl) (by decide) (Cc ⟨Da (.int .i64 ((Dg Ep L i lb).2)) rfl A rfl rfl fun A=>El (by kernel_rfl) (N9 2 A rfl rfl fun A=>R9 (B.trans A) rfl h0 rfl (by rw [←WH hR.1]<;>rfl) rfl),
      (DF)⟩),
     (DF)⟩),
    (DF)⟩),
   (DF)⟩)⟩),
  (DF)⟩))
end Go.Proofs.YtbbdanhpphlbpaaGreatDoor
namespace Go.Proofs.YtbbdanhpphlbpaaGreatDoor
end Go.Proofs.YtbbdanhpphlbpaaGreatDoor
namespace Go.Proofs.YtbbdanhpphlbpaaGreatDoor
open Go.Shelf Go.RowKit
def NZ:Go.Shelf.Ren:=⟨fun|4=>232|n=>n,fun|22=>173|25=>203|n=>n,fun|n=>n⟩
theorem WJ:Go.Proofs.Lays8.n4 Tryz.prog NZ:={
 mixed:=by kernel_rfl
 f4:=⟨"slices.Grow[[]belated/lang.Row,belated/lang.Row]",by decide,Tryz.func232.trans (congrArg some (by kernel_rfl))⟩
 t0:=Tryz.underlying0
 a0:=Tryz.isAgg0
 z0:=Tryz.sizeOf0
 v0:=Tryz.zeroValue0
 t3:=Tryz.underlying3
 a3:=Tryz.isAgg3
 z3:=Tryz.sizeOf3
 v3:=Tryz.zeroValue3
 t4:=Tryz.underlying4
 a4:=Tryz.isAgg4
 z4:=Tryz.sizeOf4
 v4:=Tryz.zeroValue4
 t9:=Tryz.underlying9
 a9:=Tryz.isAgg9
 z9:=Tryz.sizeOf9
 v9:=Tryz.zeroValue9
 t20:=Tryz.underlying20
 a20:=Tryz.isAgg20
 z20:=Tryz.sizeOf20
 v20:=Tryz.zeroValue20
 t22:=Tryz.underlying173
 a22:=Tryz.isAgg173
 z22:=Tryz.sizeOf173
 v22:=Tryz.zeroValue173}
theorem Yp:∃ti z,Tryz.prog.info? 203=some ti∧ti.zero=some z∧z.cells.size=20∧ti.size=20∧ti.bytes≤100000:=by
 have h:(Tryz.prog.info? 203).map (fun ti=>(ti.zero.map (fun z=>z.cells.size),ti.size,Nat.ble ti.bytes 100000))=some (some 20,20,true):=by kernel_rfl
 cases e:Tryz.prog.info? 203 with
 |none=>rw [e]at h;cases h
 | some ti=>
  rw [e]at h
  simp only [δ4,β2,κ0]at h
  obtain⟨h1,h2,h3⟩:=h
  cases ez:ti.zero with
  |none=>rw [ez]at h1;cases h1
  |some z=>
   rw [ez]at h1
   simp only [δ4,β2]at h1
   exact⟨ti,z,rfl,ez,h1,h2,ε1 h3⟩
theorem aN (k:Nat)(h0:0<k)(hk:k≤1000000):Ly Tryz.prog 232 [.sla none 0 0,.int .i64 k] [] (fun x w w'=>∃(L:List Rw) (b cp:Nat),x=.sla (some ⟨b,0,none⟩) 0 cp∧L=[]∧w.heap.size≤b∧Cb 203 20 0 (fun zz=>BG (L.getD zz Rw.z)) b cp w'):=by
 refine⟨by kernel_rfl,fun G w vs hM hv=>?_⟩
 have Qb:some [Value.slice none 0 0,.int .i64 k]=some vs:=hv
 cases Qb
 obtain⟨ti,z,e1,e2,e3,e4,e5⟩:=Yp
 have hc:=Any8.slices_Grow_grow WJ ti z e1 e2 (by omega) none 0 0 k [] w (β7 _) (by omega) (by
  have:(0+k)*ti.bytes≤1000000*100000:=ν7 (by omega) e5
  omega) (by omega) (by simp) (fun _=>rfl) (fun a ha=>by cases ha)
 refine hc.mono ?_
 rintro e w' ⟨rfl,rfl⟩
 have hge:=grownCap_ge w (0+k) 0 203
 refine⟨.sla (some ⟨w.heap.size,0,none⟩) 0 (grownCap w (0+k) 0 203),_,rfl,rfl,((CI.refl w).drew).alloc _,[],w.heap.size,_,rfl,rfl,β7 _,fun k=>⟨_,rfl,rfl⟩,[],rfl,?_⟩
 refine World.ownsRow_made w.drew _ _ (β8 _) (grownCap_le_maxLen w (0+k) 0 203 (by unfold maxLen;omega)) ?_
 show(([]:List Value).toArray++Builtin.zeroCells z.cells (0+k - 0)++Builtin.zeroCells z.cells (grownCap w (0+k) 0 203 - (0+k))).size=_
 simp only [Array.size_append,σ8,α7,size_zeroCells,e3]
 omega
end Go.Proofs.YtbbdanhpphlbpaaGreatDoor
