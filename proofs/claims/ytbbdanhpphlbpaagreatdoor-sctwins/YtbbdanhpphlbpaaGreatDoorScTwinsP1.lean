/- ScTwins, part 1: the engine, contracts, theory. -/
import Derived.WalkKit
import Derived.Deep.WholeRow
import Derived.Deep.MidRow
import Derived.Great.BuildSlice
import Derived.ChangeKeysEq
import Derived.Deep.Draws
import Derived.Laws.StructEq
import Derived.Maps.AppendAt
import Derived.Deep.Upon
set_option linter.unusedVariables false
set_option linter.unusedSimpArgs false
set_option linter.unusedSectionVars false
namespace Go.Proofs.YtbbdanhpphlbpaaGreatDoor
open Go.RowKit
abbrev α0:=@List.getElem?_eq_some_iff
abbrev α1:=@List.getElem?_append_left
abbrev α2:=@List.getElem?_append_right
abbrev α3:=@Bool.and_eq_true
abbrev α4:=@List.length_append
abbrev α5:=@List.length_cons
abbrev α6:=@List.getD_eq_getElem?_getD
abbrev α7:=@List.length_nil
abbrev α8:=@ne_true_of_eq_false
abbrev α9:=@Nat.eq_of_beq_eq_true
abbrev β0:=@List.getElem?_eq_getElem
abbrev β1:=@Result.andThen_ok
abbrev β2:=@Option.some.injEq
abbrev β3:=@Array.getD_eq_getD_getElem?
abbrev β4:=@Nat.le_trans
abbrev β5:=@Int.toNat_natCast
abbrev β6:=@Option.some.inj
abbrev β7:=@Nat.le_refl
abbrev β8:=@Nat.zero_le
abbrev β9:=@Bool.or_eq_true
abbrev γ0:=@List.getElem?_set_ne
abbrev γ1:=@List.getElem?_take_of_lt
abbrev γ2:=@List.append_assoc
abbrev γ3:=@Sem.run_bind
abbrev γ4:=@List.getElem?_eq_none
abbrev γ5:=@List.length_drop
abbrev γ6:=@Sem.run_pure
abbrev γ7:=@List.getElem?_set_self
abbrev γ8:=@Option.getD_some
abbrev γ9:=@Option.map_eq_some_iff
abbrev δ0:=@of_decide_eq_true
abbrev δ1:=@beq_eq_false_iff_ne
abbrev δ2:=@List.length_map
abbrev δ3:=@List.eq_nil_of_length_eq_zero
abbrev δ4:=@Option.map_some
abbrev δ5:=@decide_eq_true_eq
abbrev δ6:=@Bool.or_eq_false_iff
abbrev δ7:=@List.all_eq_true
abbrev δ8:=@List.length_take
abbrev δ9:=@decide_eq_false_iff_not
abbrev ε0:=@Nat.zero_add
abbrev ε1:=@Nat.le_of_ble_eq_true
abbrev ε2:=@List.mem_cons_self
abbrev ε3:=@Array.getElem?_eq_some_iff
abbrev ε4:=@beq_iff_eq
abbrev ε5:=@List.contains_iff_mem
abbrev ε6:=@run_underlying
abbrev ε7:=@List.take_of_length_le
abbrev ε8:=@List.mem_range
abbrev ε9:=@List.append_nil
abbrev ζ0:=@Array.getElem?_replicate
abbrev ζ1:=@Ne.symm
abbrev ζ2:=@Nat.lt_of_lt_of_le
abbrev ζ3:=@List.contains_cons
abbrev ζ4:=@List.map_cons
abbrev ζ5:=@List.map_append
abbrev ζ6:=@List.mem_append
abbrev ζ7:=@List.mem_cons_of_mem
abbrev ζ8:=@List.drop_zero
abbrev ζ9:=@List.mem_cons
abbrev η0:=@Array.getElem?_setIfInBounds_ne
abbrev η1:=@List.getElem?_drop
abbrev η2:=@List.drop_eq_getElem_cons
abbrev η3:=@Addr.add_mid
abbrev η4:=@decide_eq_true
abbrev η5:=@List.mem_singleton
abbrev η6:=@not_not_intro
abbrev η7:=@Nat.beq_refl
abbrev η8:=@decide_eq_false
abbrev η9:=@List.getElem_mem
abbrev θ0:=@List.mem_of_getElem?
abbrev θ1:=@Bool.false_eq_true
abbrev θ2:=@List.cons.injEq
abbrev θ3:=@cond_true
abbrev θ4:=@Nat.add_assoc
abbrev θ5:=@List.ext_getElem?
abbrev θ6:=@Nat.mul_le_mul_right
abbrev θ7:=@List.length_set
abbrev θ8:=@Nat.add_zero
abbrev θ9:=@List.map_toArray
abbrev ι0:=@List.drop_eq_nil_of_le
abbrev ι1:=@List.mem_nil_iff
abbrev ι2:=@Value.slice.injEq
abbrev ι3:=@List.take_append_of_le_length
abbrev ι4:=@Array.getElem?_append
abbrev ι5:=@List.take_append_drop
abbrev ι6:=@List.take_zero
abbrev ι7:=@List.mem_filter
abbrev ι8:=@List.find?_eq_none
abbrev ι9:=@Nat.add_mul
abbrev κ0:=@Prod.mk.injEq
abbrev κ1:=@List.getElem?_nil
abbrev κ2:=@List.mem_iff_getElem?
abbrev κ3:=@List.length_filter_le
abbrev κ4:=@Bool.and_eq_false_iff
abbrev κ5:=@List.map_nil
abbrev κ6:=@Oper.wp_mono
abbrev κ7:=@List.find?_range_eq_some
abbrev κ8:=@Bool.not_eq_true'
abbrev κ9:=@Addr.mk.injEq
abbrev μ0:=@List.any_eq_true
abbrev μ1:=@Array.ext'
abbrev μ2:=@List.drop_drop
abbrev μ3:=@Int.natCast_nonneg
abbrev μ4:=@Option.map_none
abbrev μ5:=@List.foldl_cons
abbrev μ6:=@List.getElem?_map
abbrev μ7:=@Nat.blt_eq
abbrev μ8:=@Bool.eq_false_or_eq_true
abbrev μ9:=@or_false
abbrev ν0:=@run_sliceBound
abbrev ν1:=@List.getElem?_cons_zero
abbrev ν2:=@List.filter_eq_nil_iff
abbrev ν3:=@Bool.eq_iff_iff
abbrev ν4:=@eq_of_beq
abbrev ν5:=@List.length_filter_lt_length_iff_exists
abbrev ν6:=@Calls.mono
abbrev ν7:=@Nat.mul_le_mul
abbrev ν8:=@Int.fdiv_eq_ediv_of_nonneg
abbrev ν9:=@Nat.sub_zero
abbrev ξ0:=@List.extract_eq_take_drop
abbrev ξ1:=@List.getElem_of_mem
abbrev ξ2:=@List.append_inj
abbrev ξ3:=@Nat.not_lt_zero
abbrev ξ4:=@List.all_append
abbrev ξ5:=@UInt8.toNat_ofNat'
abbrev ξ6:=@calls_of_wp
abbrev ξ7:=@if_false
abbrev ξ8:=@Code.wp_mono
abbrev ξ9:=@List.take_add_one
abbrev π0:=@Nat.succ_le_of_lt
abbrev π1:=@Bool.eq_false_iff
abbrev π2:=@List.getElem?_toArray
abbrev π3:=@List.mem_append_right
abbrev π4:=@BitVec.eq_of_toNat_eq
abbrev π5:=@Option.bind_some
abbrev π6:=@List.take_length
abbrev π7:=@BitVec.toNat_and
abbrev π8:=@Nat.and_two_pow_sub_one_eq_mod
abbrev π9:=@Iff.rfl
abbrev ρ0:=@wp_region_any
abbrev ρ1:=@Array.toArray_toList
abbrev ρ2:=@List.mem_append_left
abbrev ρ3:=@List.mem_of_mem_take
abbrev ρ4:=@List.mem_iff_getElem
abbrev ρ5:=@Exists.elim
abbrev ρ6:=@Nat.pow_le_pow_right
abbrev ρ7:=@heap_alloc_last
abbrev ρ8:=@Array.toList_zipIdx
abbrev ρ9:=@List.map_congr_left
abbrev σ0:=@Bool.or_true
abbrev σ1:=@List.mapM_cons
abbrev σ2:=@Option.isSome_none
abbrev σ3:=@Array.foldl_toList
abbrev σ4:=@Bool.not_eq_false'
abbrev σ5:=@List.getElem?_take
abbrev σ6:=@run_append_nothing
abbrev σ7:=@BitVec.getLsbD_and
abbrev σ8:=@List.size_toArray
abbrev σ9:=@List.filter_congr
abbrev τ0:=@run_append_own_at
abbrev τ1:=@DataW.trod_struct
abbrev τ2:=@Bool.true_and
abbrev τ3:=@List.lookup_cons
abbrev τ4:=@Nat.le_of_not_lt
abbrev τ5:=@List.cons_append
abbrev τ6:=@Bool.not_eq_true
abbrev τ7:=@List.ext_getElem
abbrev τ8:=@IntKind.wrap_i64
abbrev τ9:=@decide_eq_decide
abbrev υ0:=@Nat.le_add_right
abbrev υ1:=@List.not_mem_nil
abbrev υ2:=@Nat.le_of_eq
abbrev υ3:=@List.map_map
abbrev υ4:=@List.find?_some
abbrev υ5:=@List.find?_cons
abbrev υ6:=@List.take_take
abbrev υ7:=@DataW.trod_int
abbrev υ8:=@Nat.mod_lt
abbrev υ9:=@if_true
abbrev CI (w w':World):Prop:=Below w.heap.size w w'
theorem CI.refl (w:World):CI w w:=Below.refl _ _
theorem CI.trans {a b c:World}(h:CI a b)(k:CI b c):CI a c:=Below.trans h (Below.mono k h.size)
theorem CI.alloc {a b:World}(h:CI a b)(o:Obj):CI a (b.alloc o):=Below.alloc h h.size o
theorem CI.drew {a b:World}(h:CI a b):CI a b.drew:=Below.drew h
structure St (n:Nat)(T:List (Nat×Value))(a:Act):Prop where
 size:a.tmps.size=n
 defers:a.defers=[]
 get:∀t v,T.lookup t=some v→a.tmps.getD t undef=v
def ev (T:List (Nat×Value)):Operand→Option Value
 | .tmp t=>T.lookup t
 | .const v=>some v
 | .global g=>some (.pointer (some ⟨g,0,none⟩))
 | .func f=>some (.func (.func f) #[] #[])
theorem St.put {n:Nat}{T:List (Nat×Value)}{a:Act}(h:St n T a){d:Nat}(hd:d<n)(v:Value):St n ((d,v)::T) (a.put (some d) v):=by
 refine⟨by simp [Act.put,h.size],by simp [Act.put,h.defers],fun t u hu=>?_⟩
 rw [τ3]at hu
 have hs:d<a.tmps.size:=by rw [h.size];exact hd
 by_cases ht:t=d
 ·subst ht
  simp at hu
  simp [Act.put,hs,hu]
 ·have:(t==d)=false:=by simpa using ht
  simp only [this]at hu
  have hg:=h.get t u hu
  simp only [Act.put,β3]
  rw [η0 (ζ1 ht),←β3]
  exact hg
theorem St.cut {n:Nat}{T:List (Nat×Value)}{a:Act}(h:St n T a)(T':List (Nat×Value))(hT:∀x∈T',a.tmps.getD x.1 undef=x.2):St n T' a:=
 ⟨h.size,h.defers,fun t v hv=>by
  have:(t,v)∈T':=by
   clear hT
   induction T' with
   |nil=>simp at hv
   | cons x l ih=>
    rw [τ3]at hv
    by_cases hx:t=x.1
    ·subst hx;simp at hv;subst hv;simp
    ·have:(t==x.1)=false:=by simpa using hx
     simp only [this]at hv
     exact ζ7 _ (ih hv)
  exact hT (t,v) this⟩
theorem St.sub {n:Nat}{T T':List (Nat×Value)}{a:Act}(h:St n T a)(hT:(T'.map fun x=>T.lookup x.1)=T'.map fun x=>some x.2):St n T' a:=
 h.cut T' fun x hx=>h.get _ _ (List.map_inj_left.1 hT x hx)
def DD (n:Nat):Option Nat→Bool
 |some d=>decide (d<n)
 |none=>true
def KP (ops:Array Oper)(j:Nat):Option Tmp:=(ops[j]?).bind (·.dst)
def Bq (P:Program)(ops:Array Oper)(o:Oper)(a:Act)(w:World)(K:Value→World→Prop):Prop:=
 (Region.wanted o (yielded ops a.tmps)=true∧∀Q,o.wp P a w (fun a' w'=>∃v,a'=a.put o.dst v∧K v w') Q)∨(Region.wanted o (yielded ops a.tmps)=false∧K undef w)
section
variable {P:Program}{ops:Array Oper}{o:Oper}{a:Act}{w w':World}{K:Value→World→Prop}{Q:Exit→Act→World→Prop}{rest:List Oper}{n:Nat}{T:List (Nat×Value)}
theorem wn {f:Nat→Option Bool}(h:o.guard=none):Region.wanted o f=true:=by unfold Region.wanted;rw [h]
theorem wy {j t:Nat}{b:Bool}(h:o.guard=some (j,b))(hj:KP ops j=some t)(hv:a.tmps.getD t undef=.bool b):Region.wanted o (yielded ops a.tmps)=true:=by
 unfold Region.wanted yielded
 rw [h]
 have pU:(ops[j]?).bind (·.dst)=some t:=hj
 simp only [pU,π5]
 cases hq:a.tmps[t]? with
 |none=>simp [β3,hq,undef]at hv
 |some v=>simp [β3,hq]at hv;subst hv;simp
theorem Tu {j t:Nat}{b:Bool}(h:o.guard=some (j,b))(hj:KP ops j=some t)(hv:a.tmps.getD t undef=.bool !b∨a.tmps.getD t undef=undef):Region.wanted o (yielded ops a.tmps)=false:=by
 unfold Region.wanted yielded
 rw [h]
 have pU:(ops[j]?).bind (·.dst)=some t:=hj
 simp only [pU,π5]
 cases hq:a.tmps[t]? with
 |none=>simp
 |some v=>
  simp [β3,hq]at hv
  rcases hv with hv|hv
  ·subst hv;cases b<;>simp
  ·subst hv;simp [undef]
theorem A6 {v:Value}(hw:Region.wanted o (yielded ops a.tmps)=true)(hr:(execOp a.eval o).run P w=.ok (.value v) w')(h:K v w'):Bq P ops o a w K:=
 .inl ⟨hw,fun Q=>by unfold Oper.wp;rw [hr,Oper.upon_value];exact⟨v,rfl,h⟩⟩
theorem Lo (hw:Region.wanted o (yielded ops a.tmps)=true)(hr:(execOp a.eval o).run P w=.ok .skip w')(h:K undef w'):Bq P ops o a w K:=
 .inl ⟨hw,fun Q=>by unfold Oper.wp;rw [hr,Oper.upon_skip];exact⟨undef,rfl,h⟩⟩
theorem FV (hw:Region.wanted o (yielded ops a.tmps)=false)(h:K undef w):Bq P ops o a w K:=.inr ⟨hw,h⟩
theorem KQ {f:FuncId} {args:Array Value} {R:Ending→World→Prop} (hw:Region.wanted o (yielded ops a.tmps)=true) (hr:(execOp a.eval o).run P w=.ok (.enter f args) w) (hc:Calls P f args w R)
  (h:∀e w',R e w'→∃v,e=.returned v∧K v w'):Bq P ops o a w K:=
 .inl ⟨hw,fun Q=>by
  unfold Oper.wp;rw [hr,Oper.upon_enter]
  refine ν6 hc fun e w' he=>?_
  obtain⟨v,rfl,hk⟩:=h e w' he
  exact⟨v,rfl,hk⟩⟩
theorem kG (h:Q .normal a w):wpList P ops Q [] a w:=h
end
def EV (w:World)(g:Nat)(cs:Array Value)(t:TypeId):Prop:=w.heap[g]?=some (.cells cs t (0,0))
theorem EV.lt {w:World}{g:Nat}{cs:Array Value}{t:TypeId}(h:EV w g cs t):g<w.heap.size:=(ε3.1 h).1
theorem EV.cell {w:World}{g k:Nat}{cs:Array Value}{t:TypeId}{v:Value}(h:EV w g cs t)(hv:cs[k]?=some v):w.cell? ⟨g,k,none⟩=some v:=by
 rw [cell_of_row w g k cs t _ h];exact hv
theorem EV.frozen {w:World}{g:Nat}{cs:Array Value}{t:TypeId}(h:EV w g cs t)(k:Nat):w.frozen? ⟨g,k,none⟩=false:=by
 unfold EV at h;simp [World.frozen?,h]
structure XU (g:Nat)(w w':World):Prop where
 os:w'.os=w.os
 tape:w'.tape=w.tape
 output:w'.output=w.output
 size:w'.heap.size=w.heap.size
 block:∀k,k≠g→w'.heap[k]?=w.heap[k]?
theorem Nw (w:World)(g k:Nat)(v:Value):XU g w (w.setCell ⟨g,k,none⟩ v):=
 ⟨rfl,rfl,rfl,by simp [World.setCell],fun j hj=>Below.heap_setCell _ _ _ _ hj⟩
theorem EV.set {w:World}{g k:Nat}{cs:Array Value}{t:TypeId}(h:EV w g cs t)(v:Value):EV (w.setCell ⟨g,k,none⟩ v) g (cs.setIfInBounds k v) t:=by
 rw [setCell_eq_setRow w g k _ _ _ _ h]
 exact setRow_heap w g _ _ _ _ h
section
variable {P:Program}{ops:Array Oper}{a:Act}{w w':World}{K:Value→World→Prop}{d:Option Tmp}{ty:TypeId}{pos:String}{af:Array Edge}{gd:Option (Nat×Bool)}{v u:Value}
theorem bF {x:Operand}(hw:Region.wanted {dst:=d,op:=.move x,type:=ty,pos:=pos,after:=af,guard:=gd} (yielded ops a.tmps)=true)(hx:a.eval x=v)(h:K v w):
  Bq P ops {dst:=d,op:=.move x,type:=ty,pos:=pos,after:=af,guard:=gd} a w K:=A6 hw (by subst hx;rfl) h
theorem UB {x:Operand}(hw:Region.wanted {dst:=d,op:=.assign x,type:=ty,pos:=pos,after:=af,guard:=gd} (yielded ops a.tmps)=true)(hx:a.eval x=v)(h:K v w):
  Bq P ops {dst:=d,op:=.assign x,type:=ty,pos:=pos,after:=af,guard:=gd} a w K:=A6 hw (by subst hx;rfl) h
theorem PN {c x y:Operand}{b:Bool}(hw:Region.wanted {dst:=d,op:=.pick c x y,type:=ty,pos:=pos,after:=af,guard:=gd} (yielded ops a.tmps)=true)(hc:a.eval c=.bool b)(hx:(if b then a.eval x else a.eval y)=v)(h:K v w):
  Bq P ops {dst:=d,op:=.pick c x y,type:=ty,pos:=pos,after:=af,guard:=gd} a w K:=
 A6 hw (by subst hx;unfold execOp;simp [hc,asBool]) h
theorem kH {t:TypeId} {x:Operand} (hw:Region.wanted {dst:=d,op:=.box t x,type:=ty,pos:=pos,after:=af,guard:=gd} (yielded ops a.tmps)=true) (hx:a.eval x=v)
  (h:∀g w',g=w.heap.size→CI w w'→EV w' g v.cells t→K (.pointer (some ⟨g,0,none⟩)) w'):
  Bq P ops {dst:=d,op:=.box t x,type:=ty,pos:=pos,after:=af,guard:=gd} a w K:=
 A6 (w':=w.alloc (.cells v.cells t)) hw (by subst hx;rfl) (h _ _ rfl ((CI.refl _).alloc _) (ρ7 w _))
theorem XV {t:TypeId} {z:Value} {m:Nat} (hw:Region.wanted {dst:=d,op:=.alloc t,type:=ty,pos:=pos,after:=af,guard:=gd} (yielded ops a.tmps)=true)
  (hi:(P.info? t).map (fun i=>(i.zero,i.size))=some (some z,m)) (h:∀g w',g=w.heap.size→CI w w'→EV w' g z.cells t→K (.pointer (some ⟨g,0,none⟩)) w'):
  Bq P ops {dst:=d,op:=.alloc t,type:=ty,pos:=pos,after:=af,guard:=gd} a w K:=
 A6 (w':=w.alloc (.cells z.cells t)) hw (by
  have hz:=(zero_of_info hi).1 w
  unfold execOp
  simp only [Instr.alloc,newVar,newRow,γ3,hz,β1]
  rfl) (h _ _ rfl ((CI.refl _).alloc _) (ρ7 w _))
theorem Nx {s:TypeId}{fs:Array Field}{f:Nat}{fd:Field}(w:World)(g k off:Nat)(hu:P.underlying s=some (.struct fs))(hf:fs[f]?=some fd)(hs:(P.info? fd.type).map (·.size !=0)=some true)(ho:fd.offset=off):
  (Instr.fieldAt s (.pointer (some ⟨g,k,none⟩)) f).run P w=.ok (.pointer (some ⟨g,k+off,none⟩)) w:=by
 cases hq:P.info? fd.type with
 |none=>simp [hq]at hs
 |some i=>
  have hz:i.size≠0:=by simpa [hq]using hs
  simp [Instr.fieldAt,ε6 hu,hf,Instr.sureAddr,fieldPlace,sizeOf,typeInfo,hq,hz,η3,ho]
def Dy (P:Program)(s f:Nat):Option Nat:=
 match P.underlying s with
 |some (.struct fs)=>match fs[f]? with
  |some fd=>if(P.info? fd.type).map (·.size !=0)=some true then some fd.offset else none
  |none=>none
 |_=>none
theorem Me {s f off:Nat}(w:World)(g k:Nat)(h:Dy P s f=some off):(Instr.fieldAt s (.pointer (some ⟨g,k,none⟩)) f).run P w=.ok (.pointer (some ⟨g,k+off,none⟩)) w:=by
 unfold Dy at h
 split at h
 ·rename_i fs hu
  split at h
  ·rename_i fd hf
   split at h
   ·rename_i hs
    exact Nx w g k off hu hf hs (by simpa using h)
   ·cases h
  ·cases h
 ·cases h
theorem EW {s:TypeId} {x:Operand} {f g k off:Nat} (hw:Region.wanted {dst:=d,op:=.fieldAddr s x f,type:=ty,pos:=pos,after:=af,guard:=gd} (yielded ops a.tmps)=true) (hx:a.eval x=.pointer (some ⟨g,k,none⟩))
  (hf:Dy P s f=some off) (h:K (.pointer (some ⟨g,k+off,none⟩)) w):
  Bq P ops {dst:=d,op:=.fieldAddr s x f,type:=ty,pos:=pos,after:=af,guard:=gd} a w K:=
 A6 hw (by unfold execOp;simp only [hx,γ3,Me w g k hf,β1,γ6]) h
def oneB (P:Program)(t:TypeId):Bool:=
 (match P.underlying t with|some (.struct _)=>false|some (.array _ _)=>false|some _=>true|none=>false)&&((P.info? t).map (·.size)==some 1)
theorem I3 {t:TypeId}(h:oneB P t=true)(w:World):(isAgg t).run P w=.ok false w:=by
 unfold oneB at h
 rw [α3]at h
 cases hq:P.underlying t with
 |none=>simp [hq]at h
 |some d=>
  unfold isAgg
  rw [γ3,ε6 hq w]
  cases d<;>simp_all
theorem SO {t:TypeId}{g k:Nat}(h1:oneB P t=true)(hc:w.cell? ⟨g,k,none⟩=some v):(Instr.loadAt t (.pointer (some ⟨g,k,none⟩))).run P w=.ok v w:=by
 simp [Instr.loadAt,Instr.sureAddr,loadVar,I3 h1,hc,go_sem]
theorem bG {t:TypeId} {x:Operand} {g k:Nat} (hw:Region.wanted {dst:=d,op:=.load t x,type:=ty,pos:=pos,after:=af,guard:=gd} (yielded ops a.tmps)=true) (hx:a.eval x=.pointer (some ⟨g,k,none⟩)) (h1:oneB P t=true)
  (hc:w.cell? ⟨g,k,none⟩=some v) (h:K v w):Bq P ops {dst:=d,op:=.load t x,type:=ty,pos:=pos,after:=af,guard:=gd} a w K:=
 A6 hw (by unfold execOp;simp only [hx,γ3,SO h1 hc,β1,γ6]) h
def Jr (P:Program)(t:TypeId)(m:Nat):Bool:=
 (match P.underlying t with|some (.struct _)=>true|some (.array _ _)=>true|_=>false)&&((P.info? t).map (·.size)==some m)
theorem Er {t:TypeId}{m:Nat}(h:Jr P t m=true):(∃dd:TypeDesc,P.underlying t=some dd∧dd.isRow=true∧(match dd with| .struct _| .array _ _=>true|_=>false)=true)∧(P.info? t).map (·.size)=some m:=by
 unfold Jr at h
 rw [α3]at h
 refine⟨?_,by simpa using h.2⟩
 cases hq:P.underlying t with
 |none=>simp [hq]at h
 |some dd=>refine⟨dd,rfl,?_,?_⟩<;>(cases dd<;>simp_all [TypeDesc.isRow])
theorem PO {t t':TypeId}{g k:Nat}{cs:Array Value}(h1:oneB P t=true)(Y8:v.oneCell'=true)(hb:EV w g cs t')(hk:k<cs.size):(Instr.storeAt t (.pointer (some ⟨g,k,none⟩)) v).run P w=.ok () (w.setCell ⟨g,k,none⟩ v):=by
 have hc:w.cell? ⟨g,k,none⟩=some cs[k]:=hb.cell (by simp [hk])
 have hf:=hb.frozen k
 unfold oneB at h1
 rw [α3]at h1
 have hs:(P.info? t).map (·.size)=some 1:=by simpa using h1.2
 cases hq:P.info? t with
 |none=>simp [hq]at hs
 | some i=>
  have hi:i.size=1:=by simpa [hq]using hs
  have hz:(sizeOf t).run P w=.ok 1 w:=by simp [sizeOf,typeInfo,hq,hi]
  have Ab:v.cells= #[v]:=by cases v<;>simp_all [Value.oneCell',Value.cells]
  have LS:(store ((⟨g,k,none⟩:Addr).add 0) v).run P w=.ok () (w.setCell ⟨g,k,none⟩ v):=by
   rw [η3,θ8,run_store P w _ v _ Y8,hc]
   simp [hf]
  simp only [Instr.storeAt,Instr.sureAddr,storeVar,γ3,γ6,β1,hz,Ab,σ8,α5,α7,ε0,ne_eq,not_true_eq_false,ξ7,storeCells,LS]
theorem UC {t:TypeId}{x:Operand}{b:Bool}(hw:Region.wanted {dst:=d,op:=.unOp .not t x,type:=ty,pos:=pos,after:=af,guard:=gd} (yielded ops a.tmps)=true)(hx:a.eval x=.bool b)(h:K (.bool !b) w):
  Bq P ops {dst:=d,op:=.unOp .not t x,type:=ty,pos:=pos,after:=af,guard:=gd} a w K:=
 A6 hw (by unfold execOp;simp only [hx,Op.unary,γ3,γ6,β1]) h
theorem Lp {op:BinOp} {t t2:TypeId} {x y:Operand} {r:Value} (hw:Region.wanted {dst:=d,op:=.binOp op t x y t2,type:=ty,pos:=pos,after:=af,guard:=gd} (yielded ops a.tmps)=true) (hx:a.eval x=u) (hy:a.eval y=v)
  (hr:(eqGuard op t x y u v).run P w=.ok () w∧(binOp op t u v).run P w=.ok r w) (h:K r w):Bq P ops {dst:=d,op:=.binOp op t x y t2,type:=ty,pos:=pos,after:=af,guard:=gd} a w K:=
 A6 hw (by unfold execOp;simp only [hx,hy,γ3,hr.1,hr.2,γ6,β1]) h
theorem enters {f:FuncId}(h:((P.funcs[f]?).map fun fn=>(fn.name== "runtime.NumGoroutine",fn.body.isNone))=some (false,false))(args:Array Value)(w:World):(callFunc f args).run P w=.ok (.enter f args) w:=by
 cases hf:P.funcs[f]? with
 |none=>simp [hf]at h
 |some fn=>
  rw [hf]at h
  simp only [δ4,β2,κ0]at h
  unfold callFunc
  simp only [γ3,run_program,β1,hf,h.1,h.2,θ1,ξ7,γ6]
theorem SP {x:Operand}{k:Nat}{vs:Array Value}(hw:Region.wanted {dst:=d,op:=.extract x k,type:=ty,pos:=pos,after:=af,guard:=gd} (yielded ops a.tmps)=true)(hx:a.eval x=.tuple vs)(hk:vs[k]?=some v)(h:K v w):
  Bq P ops {dst:=d,op:=.extract x k,type:=ty,pos:=pos,after:=af,guard:=gd} a w K:=
 A6 hw (by unfold execOp;simp only [hx,Instr.extract,hk,γ3,γ6,β1]) h
end
section
variable {P:Program}{t:TypeId}{k:IntKind}(x y:Operand)(a b:Int)(r:Bool)(w:World)
theorem sY (h:(a==b)=r):(eqGuard .eql t x y (.int k a) (.int k b)).run P w=.ok () w∧(binOp .eql t (.int k a) (.int k b)).run P w=.ok (.bool r) w:=by
 subst h;exact⟨by simp [eqGuard],by simp [binOp,Op.intCmp]⟩
theorem sZ (h:(!(a==b))=r):(eqGuard .neq t x y (.int k a) (.int k b)).run P w=.ok () w∧(binOp .neq t (.int k a) (.int k b)).run P w=.ok (.bool r) w:=by
 subst h;exact⟨by simp [eqGuard],by simp [binOp,Op.intCmp,bne]⟩
theorem s8 (h:decide (a<b)=r):(eqGuard .lss t x y (.int k a) (.int k b)).run P w=.ok () w∧(binOp .lss t (.int k a) (.int k b)).run P w=.ok (.bool r) w:=by
 subst h;exact⟨by simp [eqGuard],by simp [binOp,Op.intCmp]⟩
theorem s9 (h:decide (a≤b)=r):(eqGuard .leq t x y (.int k a) (.int k b)).run P w=.ok () w∧(binOp .leq t (.int k a) (.int k b)).run P w=.ok (.bool r) w:=by
 subst h;exact⟨by simp [eqGuard],by simp [binOp,Op.intCmp]⟩
theorem tA (h:decide (a>b)=r):(eqGuard .gtr t x y (.int k a) (.int k b)).run P w=.ok () w∧(binOp .gtr t (.int k a) (.int k b)).run P w=.ok (.bool r) w:=by
 subst h;exact⟨by simp [eqGuard],by simp [binOp,Op.intCmp]⟩
theorem tB (h:decide (a≥b)=r):(eqGuard .geq t x y (.int k a) (.int k b)).run P w=.ok () w∧(binOp .geq t (.int k a) (.int k b)).run P w=.ok (.bool r) w:=by
 subst h;exact⟨by simp [eqGuard],by simp [binOp,Op.intCmp]⟩
end
section
variable {P:Program}{K:Act→World→Prop}{Q:Exit→Act→World→Prop}{a:Act}{w:World}{id j n:Nat}{T:List (Nat×Value)}
theorem bH (h:K a w):Exit.then K Q .normal a w:=h
theorem UD (h:Q (.exit j) a w):Exit.then K Q (.exit j) a w:=h
theorem ZP (h:Q .ret a w):Exit.then K Q .ret a w:=h
theorem bI (h:Q .normal a w):Exit.inBlock id Q .normal a w:=h
theorem kI (h:Q .ret a w):Exit.inBlock id Q .ret a w:=h
theorem bJ (h:Q .normal a w):Exit.inBlock id Q (.exit id) a w:=by simp only [Exit.inBlock,υ9];exact h
theorem bK (Ch:j≠id)(h:Q (.exit j) a w):Exit.inBlock id Q (.exit j) a w:=by simp only [Exit.inBlock,if_neg Ch];exact h
def UE:List Value→Nat→List (Nat×Value)
 | [],_=>[]
 |v::vs,k=>(k,v)::UE vs (k+1)
theorem Lq (t:Nat)(v:Value):∀(vs:List Value) (k:Nat),(UE vs k).lookup t=some v→k≤t∧vs[t - k]?=some v
 | [],_,h=>by simp [UE]at h
 | u::vs,k,h=>by
  unfold UE at h
  rw [τ3]at h
  by_cases ht:t=k
  ·subst ht;simp at h;subst h;simp
  ·have:(t==k)=false:=by simpa using ht
   simp only [this]at h
   obtain⟨h1,h2⟩:=Lq t v vs (k+1) h
   refine⟨by omega,?_⟩
   rw [show t - k=(t - (k+1))+1 by omega];simpa using h2
theorem enter {f:FuncId} {fn:Func} {c:Code} {args:List Value} {R:Ending→World→Prop} (hf:P.funcs[f]?=some fn) (hb:fn.body=some c) (hn:fn.ntmps=n) (hl:args.length≤n)
  (h:∀a,St n (UE args 0) a→c.wp P (bodyPost P fn R) a w):Calls P f args.toArray w R:=by
 refine ξ6 hf hb (h _ ⟨by simp [hn];omega,rfl,fun t v hv=>?_⟩)
 obtain⟨_,h2⟩:=Lq t v args 0 hv
 have Bn:t<args.length:=(α0.1 h2).1
 simp only [ν9]at h2
 simp [β3,ι4,Bn]at h2⊢
 exact h2
end
structure Cl (S:World→World→Prop) where
 P:Value→World→Prop
 st:∀v w w',S w w'→P v w→P v w'
def waits (o:Oper)(j:Nat):Bool:=o.after.toList.any fun e=>Region.binds .any e&&e.on==j
def KR (ops:Array Oper)(n:Nat)(T:List (Nat×Value)):Bool:=
 ((List.range ops.size).all fun i=>match ops[i]? with
  |some o=>(match o.dst with
   |some d=>decide (d<n)&&((List.range ops.size).all fun j=>i==j||KP ops j !=some d)&&T.all fun x=>x.1 !=d
   |none=>true)&&o.after.all fun e=> !Region.binds .any e||decide (e.on<i)
  |none=>false)
theorem IE {ops:Array Oper}{n i:Nat}{T:List (Nat×Value)}{o:Oper}(h:KR ops n T=true)(hi:ops[i]?=some o):
  (∀d,o.dst=some d→d<n∧(∀j,j<ops.size→KP ops j=some d→j=i)∧∀x∈T,x.1≠d)∧∀e∈o.after,Region.binds .any e=true→e.on<i:=by
 have Bn:i<ops.size:=(ε3.1 hi).1
 unfold KR at h
 rw [δ7]at h
 have h1:=h i (by simpa using Bn)
 simp only [hi]at h1
 rw [α3]at h1
 obtain⟨h2,h3⟩:=h1
 refine⟨fun d hd=>?_,fun e he hb=>?_⟩
 ·simp only [hd,α3,δ5,δ7]at h2
  refine⟨h2.1.1,fun j hj hjd=>?_,fun x hx=>by simpa using h2.2 x hx⟩
  have:=h2.1.2 j (by simpa using hj)
  simp only [hjd,β9,ε4,bne_self_eq_false,θ1,μ9]at this
  exact this.symm
 ·have:=(Array.all_eq_true_iff_forall_mem.1 h3) e he
  simpa [hb]using this
theorem KS {l:Array Bool}{i k:Nat}(b:Bool)(h:i≠k):(l.setIfInBounds i true).getD k b=l.getD k b:=by
 simp [β3,η0 h]
section
variable {P:Program}{l:List Oper}{Q:Exit→Act→World→Prop}{S:World→World→Prop}{n:Nat}{T:List (Nat×Value)}{w:World}
end
structure SM (M:Nat→Option (Array Value))(w w':World):Prop where
 os:w'.os=w.os
 tape:w'.tape=w.tape
 output:w'.output=w.output
 size:w.heap.size≤w'.heap.size
 block:∀k,k<w.heap.size→M k=none→w'.heap[k]?=w.heap[k]?
 turns:∀k fin cs t,M k=some fin→EV w k cs t→∃cs',EV w' k cs' t∧cs'.size=cs.size∧∀j:Nat,cs'[j]?=cs[j]?∨cs'[j]?=fin[j]?
theorem SM.trans {M:Nat→Option (Array Value)}(a b c:World)(h:SM M a b)(k:SM M b c):SM M a c:=
 ⟨k.os.trans h.os,k.tape.trans h.tape,k.output.trans h.output,β4 h.size k.size,fun i hi hm=>(k.block i (ζ2 hi h.size) hm).trans (h.block i hi hm),fun i fin cs t hm hb=>by
  obtain⟨Qi,h1,h2,h3⟩:=h.turns i fin cs t hm hb
  obtain⟨cs2,k1,k2,k3⟩:=k.turns i fin Qi t hm h1
  refine⟨cs2,k1,k2.trans h2,fun j=>?_⟩
  rcases k3 j with e|e
  ·rcases h3 j with e'|e'
   ·exact .inl (e.trans e')
   ·exact .inr (e.trans e')
  ·exact .inr e⟩
theorem EV.sm {M:Nat→Option (Array Value)}{w w':World}{g:Nat}{cs:Array Value}{t:TypeId}(hb:EV w g cs t)(h:SM M w w')(hM:M g=none):EV w' g cs t:=by
 unfold EV;rw [h.block g hb.lt hM];exact hb
section
variable {P:Program}{ops:Array Oper}{a:Act}{w w0:World}{K:Value→World→Prop}{d:Option Tmp}{ty:TypeId}{pos:String}{af:Array Edge}{gd:Option (Nat×Bool)}{v:Value}{M:Nat→Option (Array Value)}
def placesOf (P:Program)(t:TypeId):Option (List (Nat×Nat)):=
 match P.underlying t with
 |some (.struct fs)=>fs.toList.mapM fun f=>(P.info? f.type).map fun i=>(f.offset,i.size)
 |_=>none
theorem run_places {P:Program}(w:World):∀(fs:List Field) (ps:List (Nat×Nat)),fs.mapM (fun f=>(P.info? f.type).map fun i=>(f.offset,i.size))=some ps→(fs.mapM (fun f=>do pure (f.offset,←sizeOf f.type):Field→Sem (Nat×Nat))).run P w=.ok ps w
 | [],ps,h=>by simp at h;subst h;simp
 | f::fs,ps,h=>by
  rw [σ1]at h
  cases hi:P.info? f.type with
  |none=>simp [hi]at h
  | some i=>
   cases hr:fs.mapM (fun f=>(P.info? f.type).map fun i=>(f.offset,i.size))with
   |none=>simp [hi,hr]at h
   |some qs=>
    simp [hi,hr]at h
    subst h
    have ih:=run_places w fs qs hr
    have hz:(sizeOf f.type).run P w=.ok i.size w:=by simp [sizeOf,typeInfo,hi]
    rw [σ1]
    simp only [γ3,hz,β1,γ6,ih]
theorem XW {t:TypeId} {parts:Array (Nat×Operand)} {vs:List (Nat×Value)} {z:Value} {m:Nat} {ps:List (Nat×Nat)} {cs:Array Value} (hw:Region.wanted {dst:=d,op:=.build t parts,type:=ty,pos:=pos,after:=af,guard:=gd} (yielded ops a.tmps)=true)
  (hx:(parts.map fun x=>(x.1,a.eval x.2)).toList=vs) (hi:(P.info? t).map (fun i=>(i.zero,i.size))=some (some z,m)) (hp:placesOf P t=some ps) (hf:Instr.fill (fun i=>ps[i]?) z.cells vs=some cs) (h:K (.agg cs) w):
  Bq P ops {dst:=d,op:=.build t parts,type:=ty,pos:=pos,after:=af,guard:=gd} a w K:=
 A6 hw (by
  have hz:=(zero_of_info hi).1 w
  unfold placesOf at hp
  split at hp
  ·rename_i fs hu
   have KN:=run_places (P:=P) w fs.toList ps hp
   have vX:(fs.mapM (fun f=>do pure (f.offset,←sizeOf f.type):Field→Sem (Nat×Nat))).run P w=.ok ps.toArray w:=by
    rw [←ρ1 (xs:=fs),List.mapM_toArray]
    simp only [Sem.run_map,KN,β1]
   have sI:Instr.fill (fun i=>ps.toArray[i]?) z.cells (parts.map fun x=>(x.1,a.eval x.2)).toList=some cs:=by rw [hx];simpa using hf
   unfold execOp
   simp only [γ3,Instr.build,hz,β1,ε6 hu,vX,sI,γ6]
  ·cases hp) h
end
section
variable {P:Program}
theorem IF {t:TypeId}{cs:Array Value}{o:Nat}{v:Value}(w:World)(h:(isAgg t).run P w=.ok false w)(hv:cs[o]?=some v):(part t cs o).run P w=.ok v w:=by
 simp [part,h,hv]
def fieldInfo (P:Program)(s f:Nat):Option (TypeId×Nat):=
 match P.underlying s with
 |some (.struct fs)=>(fs[f]?).map fun fd=>(fd.type,fd.offset)
 |_=>none
variable {ops:Array Oper}{a:Act}{w:World}{K:Value→World→Prop}{d:Option Tmp}{ty:TypeId}{pos:String}{af:Array Edge}{gd:Option (Nat×Bool)}{v:Value}
variable {n:Nat}{T:List (Nat×Value)}
end
section
variable {P:Program}{ops:Array Oper}{a:Act}{w:World}{K:Value→World→Prop}{d:Option Tmp}{ty:TypeId}{pos:String}{af:Array Edge}{gd:Option (Nat×Bool)}{v:Value}
theorem XX {c x y:Operand}(hw:Region.wanted {dst:=d,op:=.pick c x y,type:=ty,pos:=pos,after:=af,guard:=gd} (yielded ops a.tmps)=true)(hc:a.eval c=.bool true)(hx:a.eval x=v)(h:K v w):
  Bq P ops {dst:=d,op:=.pick c x y,type:=ty,pos:=pos,after:=af,guard:=gd} a w K:=PN hw hc (by simpa using hx) h
theorem XY {c x y:Operand}(hw:Region.wanted {dst:=d,op:=.pick c x y,type:=ty,pos:=pos,after:=af,guard:=gd} (yielded ops a.tmps)=true)(hc:a.eval c=.bool false)(hx:a.eval y=v)(h:K v w):
  Bq P ops {dst:=d,op:=.pick c x y,type:=ty,pos:=pos,after:=af,guard:=gd} a w K:=PN hw hc (by simpa using hx) h
end
theorem least {p:Nat→Prop}(h:∃m,p m):∃m,p m∧∀k,k<m→¬p k:=by
 obtain⟨m,hm⟩:=h
 induction m using Nat.strongRecOn with
 |_ m ih=>
  by_cases hk:∃k,k<m∧p k
  ·obtain⟨k,vY,iN⟩:=hk;exact ih k vY iN
  ·exact⟨m,hm,fun k vY iN=>hk ⟨k,vY,iN⟩⟩
theorem Mf {P:Program} {c:Code} {Q:Exit→Act→World→Prop} {a:Act} {w:World} (I:Nat→Act→World→Prop) (m:Nat) (h0:I m a w)
  (round:∀m a w,I m a w→c.wp P (Exit.then (fun a' w'=>∃m',m'<m∧I m' a' w') Q) a w):(Code.loop c).wp P Q a w:=by
 refine wp_loop (fun a w=>∃m,I m a w) (fun a w=> @dite Nat (∃m,I m a w) (Classical.propDecidable _) (fun h=>Classical.choose (least h)) fun _=>0) ⟨m,h0⟩ fun a w hI=>?_
 have hc:=Classical.choose_spec (least hI)
 have hr:=round _ a w hc.1
 refine ξ8 (fun e a' w' hq=>?_) hr
 cases e with
 |normal=>
  obtain⟨m',Bn,vZ⟩:=hq
  refine⟨⟨m',vZ⟩,?_⟩
  have h':∃m,I m a' w':=⟨m',vZ⟩
  simp only [dif_pos hI,dif_pos h']
  have h2:=(Classical.choose_spec (least h')).2
  refine Nat.lt_of_le_of_lt ?_ Bn
  exact τ4 fun hgt=>h2 m' hgt vZ
 |_=>exact hq
def Sl {α:Type}(enc:α→List Value)(s B:Nat)(w:World)(v:Value)(l:List α):Prop:=
 ∃ao cap,v=.slice ao l.length cap∧l.length≤cap∧∀j x,l[j]?=some x→∃b o,ao=some ⟨b,o,none⟩∧b<B∧w.rangeAt b (o+j*s) (enc x)
section
variable {α:Type}{enc:α→List Value}{s B:Nat}{w w':World}{v:Value}{l:List α}
theorem Sl.mono {B':Nat}(h:Sl enc s B w v l)(hB:B≤B'):Sl enc s B' w v l:=by
 obtain⟨ao,cap,hv,QV,he⟩:=h
 refine⟨ao,cap,hv,QV,fun j x hx=>?_⟩
 obtain⟨b,o,h1,h2,h3⟩:=he j x hx
 exact⟨b,o,h1,ζ2 h2 hB,h3⟩
theorem Sl.nil:Sl enc s B w (.slice none 0 0) ([]:List α):=⟨none,0,rfl,β7 _,fun j x h=>by simp at h⟩
end
section
variable {P:Program}{ops:Array Oper}{a:Act}{w:World}{K:Value→World→Prop}{d:Option Tmp}{ty:TypeId}{pos:String}{af:Array Edge}{gd:Option (Nat×Bool)}{v:Value}
def sliceB (P:Program)(t e s:Nat):Bool:=(match P.underlying t with|some (.slice e')=>e'==e|_=>false)&&((P.info? e).map (·.size)==some s)
theorem EX {t e s:Nat}(h:sliceB P t e s=true):P.underlying t=some (.slice e)∧(P.info? e).map (·.size)=some s:=by
 unfold sliceB at h
 rw [α3]at h
 refine⟨?_,by simpa using h.2⟩
 cases hq:P.underlying t with
 |none=>simp [hq]at h
 |some dd=>cases dd<;>simp_all
theorem Dz {e s:Nat}(h:(P.info? e).map (·.size)=some s)(w:World):(sizeOf e).run P w=.ok s w:=by
 cases hq:P.info? e with
 |none=>simp [hq]at h
 |some i=>simp [hq]at h;simp [sizeOf,typeInfo,hq,h]
theorem Qh {x:Operand} {t e s n:Nat} (hw:Region.wanted {dst:=d,op:=.call {callee:=.builtin .len,args:= #[x],argTypes:= #[t]},type:=ty,pos:=pos,after:=af,guard:=gd} (yielded ops a.tmps)=true) (hx:a.eval x=v) (ht:sliceB P t e s=true)
  (hv:∃ao cap,v=.slice ao n cap) (h:K (.int .i64 (n:Int)) w):Bq P ops {dst:=d,op:=.call {callee:=.builtin .len,args:= #[x],argTypes:= #[t]},type:=ty,pos:=pos,after:=af,guard:=gd} a w K:=
 A6 hw (by
  obtain⟨ao,cap,hv⟩:=hv
  have hm:(#[x]:Array Operand).map a.eval= #[.slice ao n cap]:=by simp only [θ9,ζ4,κ5];rw [hx,hv]
  unfold execOp
  simp only [resolve,γ3,γ6,β1,invoke,builtin,hm]
  simp [Builtin.len_,ε6 (EX ht).1,goInt]) h
def tC (v:Value)(n j s b o:Nat):Prop:=∃o0 cap,v=.slice (some ⟨b,o0,none⟩) n cap∧o=o0+j*s
theorem FW {t e s n j b o:Nat} {x ix:Operand} (hw:Region.wanted {dst:=d,op:=.indexAddr t x ix,type:=ty,pos:=pos,after:=af,guard:=gd} (yielded ops a.tmps)=true) (hx:a.eval x=v) (hi:a.eval ix=.int .i64 (j:Int))
  (ht:sliceB P t e s=true) (hix:tC v n j s b o) (hj:j<n) (h:K (.pointer (some ⟨b,o,none⟩)) w):
  Bq P ops {dst:=d,op:=.indexAddr t x ix,type:=ty,pos:=pos,after:=af,guard:=gd} a w K:=by
 obtain⟨o0,cap,hv,ho⟩:=hix
 refine A6 (v:=.pointer (some ⟨b,o,none⟩)) hw ?_ h
 subst hv;subst ho
 have hc:(0:Int)≤(j:Int)∧(j:Int)<((n:Nat):Int):=⟨by omega,by omega⟩
 have hq:(Instr.indexAt t (.slice (some ⟨b,o0,none⟩) n cap) (.int .i64 (j:Int))).run P w=.ok (.pointer (some ⟨b,o0+j*s,none⟩)) w:=by
  unfold Instr.indexAt
  simp only [asIntOf,γ3,γ6,β1,ε6 (EX ht).1,if_pos hc,Dz (EX ht).2,β5,η3]
 unfold execOp
 simp only [hx,hi,γ3,hq,γ6,β1]
def Ny (P:Program)(t n e s:Nat):Bool:=(match P.underlying t with|some (.array n' e')=>n'==n&&e'==e|_=>false)&&((P.info? e).map (·.size)==some s)
theorem Dq {t n e s:Nat}(h:Ny P t n e s=true):P.underlying t=some (.array n e)∧(P.info? e).map (·.size)=some s:=by
 unfold Ny at h
 rw [α3]at h
 refine⟨?_,by simpa using h.2⟩
 cases hq:P.underlying t with
 |none=>simp [hq]at h
 |some dd=>cases dd<;>simp_all
theorem PP {t n e s g o j:Nat} {x ix:Operand} (hw:Region.wanted {dst:=d,op:=.indexAddr t x ix,type:=ty,pos:=pos,after:=af,guard:=gd} (yielded ops a.tmps)=true) (hx:a.eval x=.pointer (some ⟨g,o,none⟩)) (hi:a.eval ix=.int .i64 (j:Int))
  (ht:Ny P t n e s=true) (hj:j<n) (h:K (.pointer (some ⟨g,o+j*s,none⟩)) w):Bq P ops {dst:=d,op:=.indexAddr t x ix,type:=ty,pos:=pos,after:=af,guard:=gd} a w K:=
 A6 hw (by
  have hc:(0:Int)≤(j:Int)∧(j:Int)<((n:Nat):Int):=⟨by omega,by omega⟩
  have hq:(Instr.indexAt t (.pointer (some ⟨g,o,none⟩)) (.int .i64 (j:Int))).run P w=.ok (.pointer (some ⟨g,o+j*s,none⟩)) w:=by
   unfold Instr.indexAt
   simp only [asIntOf,γ3,γ6,β1,ε6 (Dq ht).1,if_pos hc,Dz (Dq ht).2,β5,η3,Instr.sureAddr]
  unfold execOp
  simp only [hx,hi,γ3,hq,γ6,β1]) h
theorem Fw {x:Operand}{g o:Nat}(hw:Region.wanted {dst:=d,op:=.nilCheck x,type:=ty,pos:=pos,after:=af,guard:=gd} (yielded ops a.tmps)=true)(hx:a.eval x=.pointer (some ⟨g,o,none⟩))(h:K (.pointer (some ⟨g,o,none⟩)) w):
  Bq P ops {dst:=d,op:=.nilCheck x,type:=ty,pos:=pos,after:=af,guard:=gd} a w K:=
 A6 hw (by unfold execOp;simp only [hx,γ6]) h
theorem SQ {t b o:Nat} {x:Operand} {cs:Array Value} (hw:Region.wanted {dst:=d,op:=.load t x,type:=ty,pos:=pos,after:=af,guard:=gd} (yielded ops a.tmps)=true) (hx:a.eval x=.pointer (some ⟨b,o,none⟩)) (h1:Jr P t cs.size=true)
  (hr:w.rangeAt b o cs.toList) (h:K (.agg cs) w):Bq P ops {dst:=d,op:=.load t x,type:=ty,pos:=pos,after:=af,guard:=gd} a w K:=
 A6 hw (by
  obtain⟨⟨dd,h2,h3,_⟩,h4⟩:=Er h1
  have:=run_loadAt_mid (P:=P) w b o t cs.toList dd hr h2 h3 (by simpa using h4)
  unfold execOp
  simp only [hx,γ3,this,β1,γ6,ρ1]) h
theorem EV.range {g o n:Nat}{cs:Array Value}{t:TypeId}(hb:EV w g cs t):w.rangeAt g o (cs.extract o (o+n)).toList:=World.rangeAt_of_block hb o n
end
section
variable {P:Program}{t:TypeId}(x y:Operand)(a b:Int)(w:World)
end
section
variable {P:Program}{l:List Oper}{y:Oper}{Q:Exit→Act→World→Prop}{S:World→World→Prop}{n:Nat}{T:List (Nat×Value)}{w:World}
end
section
variable {P:Program}{ops:Array Oper}{a:Act}{w:World}{K:Value→World→Prop}{d:Option Tmp}{ty:TypeId}{pos:String}{af:Array Edge}{gd:Option (Nat×Bool)}{v:Value}
def FA (P:Program)(t e s by_:Nat):Bool:=sliceB P t e s&&(match P.info? e with|some i=>(match i.zero with|some z=>z.cells.size==s|none=>false)&&i.bytes==by_|none=>false)&&decide (0<s)
theorem Dn {t e s by_:Nat}(h:FA P t e s by_=true):∃i z,P.underlying t=some (.slice e)∧P.info? e=some i∧i.zero=some z∧i.size=s∧i.bytes=by_∧z.cells.size=s∧0<s:=by
 unfold FA at h
 rw [α3,α3,δ5]at h
 obtain⟨⟨h1,h2⟩,h3⟩:=h
 obtain⟨h4,h5⟩:=EX h1
 cases hq:P.info? e with
 |none=>simp [hq]at h2
 |some i=>
  cases hz:i.zero with
  |none=>simp [hq,hz]at h2
  |some z=>simp [hq,hz]at h2 h5;exact⟨i,z,h4,rfl,hz,h5,h2.2,h2.1,h3⟩
end
theorem Mg {w:World}{b:Nat}{e:TypeId}{s n:Nat}{v:Value}{xs:List Value}(h:w.ownsRow b e s v n xs):∀k,v.ownBlock=some k→b≤k∧k<w.heap.size:=by
 intro k hk
 rcases h.2 with⟨rfl,_⟩|⟨g,cap,cur,rfl,hb,hg,_⟩
 ·simp [Value.ownBlock]at hk
 ·simp [Value.ownBlock]at hk;subst hk;exact⟨hb,(ε3.1 hg).1⟩
def Qi (M:Nat→Option (Array Value))(hM:∀k,M k=none)(cs:Array Value)(e:TypeId):Cl (SM M):=
 ⟨fun v w=>∃g,v=.slice (some ⟨g,0,none⟩) 1 1∧EV w g cs e,fun _ _ _ hS ⟨g,h1,h2⟩=>⟨g,h1,h2.sm hS (hM g)⟩⟩
theorem UF {w w':World}{b:Nat}{e:TypeId}{s n:Nat}{v:Value}{xs:List Value}(h:w.ownsRow b e s v n xs)(hk:∀k,v.ownBlock=some k→w'.heap[k]?=w.heap[k]?):w'.ownsRow b e s v n xs:=by
 obtain⟨h1,h2⟩:=h
 refine⟨h1,?_⟩
 rcases h2 with h2|⟨g,cap,cur,hv,hb,hgg,h3⟩
 ·exact .inl h2
 ·exact .inr ⟨g,cap,cur,hv,hb,by rw [hk g (by rw [hv];rfl)];exact hgg,h3⟩
theorem FX {P:Program}{ops:Array Oper}{o:Oper}{a:Act}{w:World}{K K':Value→World→Prop}(h:Bq P ops o a w K)(hK:∀v w,K v w→K' v w):Bq P ops o a w K':=by
 rcases h with⟨h1,h2⟩|⟨h1,h2⟩
 ·refine .inl ⟨h1,fun Q=>κ6 (fun a' w' hh=>?_) (h2 Q)⟩
  obtain⟨v,e,k⟩:=hh
  exact⟨v,e,hK v w' k⟩
 ·exact .inr ⟨h1,hK _ _ h2⟩
section
variable {P:Program}{l:List Oper}{Q:Exit→Act→World→Prop}{S:World→World→Prop}{n:Nat}{T:List (Nat×Value)}{w:World}
end
structure SZ (B0:Nat)(Z R:Array Value)(t:TypeId)(w w':World):Prop where
 os:w'.os=w.os
 tape:w'.tape=w.tape
 output:w'.output=w.output
 size:w.heap.size≤w'.heap.size
 block:∀k,k<w.heap.size→w'.heap[k]?=w.heap[k]?∨(B0≤k∧EV w k Z t∧EV w' k R t)
section
variable {B0:Nat}{Z R:Array Value}{t:TypeId}{w w':World}
theorem SZ.trans (a b c:World)(h:SZ B0 Z R t a b)(k:SZ B0 Z R t b c):SZ B0 Z R t a c:=
 ⟨k.os.trans h.os,k.tape.trans h.tape,k.output.trans h.output,β4 h.size k.size,fun i hi=>by
  rcases h.block i hi with h1|⟨h1,h2,h3⟩<;>rcases k.block i (ζ2 hi h.size)with k1|⟨k1,k2,k3⟩
  ·exact .inl (k1.trans h1)
  ·refine .inr ⟨k1,?_,k3⟩;unfold EV at k2⊢;rw [←h1];exact k2
  ·refine .inr ⟨h1,h2,?_⟩;unfold EV at h3⊢;rw [k1];exact h3
  ·exact .inr ⟨h1,h2,k3⟩⟩
end
section
variable {P:Program}{ops:Array Oper}{a:Act}{w:World}{K:Value→World→Prop}{d:Option Tmp}{ty:TypeId}{pos:String}{af:Array Edge}{gd:Option (Nat×Bool)}{v:Value}
theorem bL {t e s by_:Nat} (hw:Region.wanted {dst:=d,op:=.buildSlice t 0 #[],type:=ty,pos:=pos,after:=af,guard:=gd} (yielded ops a.tmps)=true) (ht:FA P t e s by_=true)
  (h:∀g w',g=w.heap.size→CI w w'→EV w' g #[] e→K (.slice (some ⟨g,0,none⟩) 0 0) w'):Bq P ops {dst:=d,op:=.buildSlice t 0 #[],type:=ty,pos:=pos,after:=af,guard:=gd} a w K:=by
 obtain⟨i,z,hu,hi,hz,FL,_,hzs,h0⟩:=Dn ht
 refine A6 (w':=w.alloc (.cells #[] e)) hw ?_ (h _ _ rfl ((CI.refl _).alloc _) (ρ7 w _))
 have:(Instr.buildSlice t 0 #[]).run P w=.ok (.slice (some ⟨w.heap.size,0,none⟩) 0 0) (w.alloc (.cells #[] e)):=by
  simp [Instr.buildSlice,ε6 hu,sizeOf,typeInfo,hi,Instr.fill,newRow]
  congr 1
  congr 1
  apply μ1
  simp
 unfold execOp
 simp only [γ3,θ9,κ5,this,β1,γ6]
end
section
variable {P:Program}{l ys:List Oper}{Q:Exit→Act→World→Prop}{S:World→World→Prop}{n fu:Nat}{T:List (Nat×Value)}{w:World}
end
end Go.Proofs.YtbbdanhpphlbpaaGreatDoor
namespace Go.Proofs.YtbbdanhpphlbpaaGreatDoor
open Go.RowKit
def S (l:List UInt8):ByteArray:=⟨l.toArray⟩
theorem DV (l:List UInt8):(S l).size=l.length:=by unfold S;rfl
theorem tD (l:List UInt8)(i:Nat):(S l)[i]?=l[i]?:=by
 by_cases h:i<l.length
 ·rw [β0 h,getElem?_pos (S l) i (by rw [DV];exact h)];rfl
 ·rw [γ4 (by omega),getElem?_neg (S l) i (by rw [DV];exact h)]
theorem kJ (s:ByteArray):S s.data.toList=s:=by unfold S;cases s;simp
theorem FN (l:List UInt8):(S l).data.toList=l:=by unfold S;simp
theorem PQ (l:List UInt8):(S l).toList=l:=Go.ByteArray.toList_mk l
theorem PR (l:List UInt8)(i j:Nat):(S l).extract i j=S ((l.take j).drop i):=by
 have:((S l).extract i j).data=(S ((l.take j).drop i)).data:=by rw [ByteArray.data_extract];unfold S;simp [List.drop_take]
 cases h:(S l).extract i j;cases h2:S ((l.take j).drop i);rw [h,h2]at this;simp at this;rw [this]
theorem bM (l:List UInt8)(i:Nat):(S l).extract i l.length=S (l.drop i):=by rw [PR,π6]
theorem bN (l m:List UInt8):S l++S m=S (l++m):=Go.ByteArray.mk_append_mk l m
def LU (P:Program)(t:TypeId):Bool:=match P.underlying t with|some .string=>true|_=>false
theorem Ga {P:Program}{t:TypeId}(h:LU P t=true):P.underlying t=some .string:=by
 unfold LU at h;split at h
 ·assumption
 ·cases h
section
variable {P:Program}{ops:Array Oper}{a:Act}{w:World}{K:Value→World→Prop}{d:Option Tmp}{ty:TypeId}{pos:String}{af:Array Edge}{gd:Option (Nat×Bool)}{v:Value}
theorem bO {x:Operand} {t:Nat} {l:List UInt8} (hw:Region.wanted {dst:=d,op:=.call {callee:=.builtin .len,args:= #[x],argTypes:= #[t]},type:=ty,pos:=pos,after:=af,guard:=gd} (yielded ops a.tmps)=true) (hx:a.eval x=.string (S l)) (ht:LU P t=true)
  (h:K (.int .i64 (l.length:Int)) w):Bq P ops {dst:=d,op:=.call {callee:=.builtin .len,args:= #[x],argTypes:= #[t]},type:=ty,pos:=pos,after:=af,guard:=gd} a w K:=
 A6 hw (by
  have hm:(#[x]:Array Operand).map a.eval= #[.string (S l)]:=by simp only [θ9,ζ4,κ5];rw [hx]
  unfold execOp
  simp only [resolve,γ3,γ6,β1,invoke,builtin,hm]
  simp [Builtin.len_,ε6 (Ga ht),goInt,DV]) h
theorem kK {x ix:Operand} {ik:IntKind} {t j:Nat} {l:List UInt8} {b:UInt8} (hw:Region.wanted {dst:=d,op:=.index t x ix,type:=ty,pos:=pos,after:=af,guard:=gd} (yielded ops a.tmps)=true) (hx:a.eval x=.string (S l)) (hi:a.eval ix=.int ik (j:Int)) (ht:LU P t=true) (hb:l[j]?=some b)
  (h:K (.int .u8 (b.toNat:Int)) w):Bq P ops {dst:=d,op:=.index t x ix,type:=ty,pos:=pos,after:=af,guard:=gd} a w K:=
 A6 hw (by
  have h3:(Instr.index t (.string (S l)) (.int ik (j:Int))).run P w=.ok (.int .u8 (b.toNat:Int)) w:=by
   unfold Instr.index
   have h0:(0:Int)≤(j:Int):=by omega
   simp only [asIntOf,γ3,γ6,β1,ε6 (Ga ht),if_pos h0,β5,tD,hb]
  unfold execOp
  simp only [hx,hi,γ3,h3,γ6,β1]) h
theorem XZ {x y:Operand} {t n:Nat} {l:List UInt8} (hw:Region.wanted {dst:=d,op:=.slice t x (some y) none none,type:=ty,pos:=pos,after:=af,guard:=gd} (yielded ops a.tmps)=true) (hx:a.eval x=.string (S l)) (hy:a.eval y=.int .i64 (n:Int)) (ht:LU P t=true) (hn:n≤l.length)
  (h:K (.string (S (l.drop n))) w):Bq P ops {dst:=d,op:=.slice t x (some y) none none,type:=ty,pos:=pos,after:=af,guard:=gd} a w K:=by
 refine A6 hw ?_ h
 have Tm:(Instr.sliceBounds false l.length l.length (some (.int .i64 (n:Int))) none none).run P w=.ok (n,l.length,l.length) w:=by
  simp [Instr.sliceBounds,ν0 (P:=P) w .i64 n l.length .sliceB (by omega) (by omega)]
 unfold execOp
 simp only [δ4,μ4,hx,hy,Instr.sliceAt,Instr.slice,ε6 (Ga ht),γ3,γ6,β1,DV,Tm,bM,σ2,θ1,ξ7]
theorem Xa {x y:Operand} {t n:Nat} {l:List UInt8} (hw:Region.wanted {dst:=d,op:=.slice t x none (some y) none,type:=ty,pos:=pos,after:=af,guard:=gd} (yielded ops a.tmps)=true) (hx:a.eval x=.string (S l)) (hy:a.eval y=.int .i64 (n:Int)) (ht:LU P t=true) (hn:n≤l.length)
  (h:K (.string (S (l.take n))) w):Bq P ops {dst:=d,op:=.slice t x none (some y) none,type:=ty,pos:=pos,after:=af,guard:=gd} a w K:=by
 refine A6 hw ?_ h
 have Tm:(Instr.sliceBounds false l.length l.length none (some (.int .i64 (n:Int))) none).run P w=.ok (0,n,l.length) w:=by
  simp [Instr.sliceBounds,ν0 (P:=P) w .i64 n l.length .sliceAlen (by omega) (by omega)]
 unfold execOp
 simp only [δ4,μ4,hx,hy,Instr.sliceAt,Instr.slice,ε6 (Ga ht),γ3,γ6,β1,DV,Tm,PR,ζ8,σ2,θ1,ξ7]
theorem Xb {x y z:Operand} {t m n:Nat} {l:List UInt8} (hw:Region.wanted {dst:=d,op:=.slice t x (some y) (some z) none,type:=ty,pos:=pos,after:=af,guard:=gd} (yielded ops a.tmps)=true) (hx:a.eval x=.string (S l)) (hy:a.eval y=.int .i64 (m:Int)) (hz:a.eval z=.int .i64 (n:Int)) (ht:LU P t=true) (hm:m≤n) (hn:n≤l.length)
  (h:K (.string (S ((l.take n).drop m))) w):Bq P ops {dst:=d,op:=.slice t x (some y) (some z) none,type:=ty,pos:=pos,after:=af,guard:=gd} a w K:=by
 refine A6 hw ?_ h
 have Tm:(Instr.sliceBounds false l.length l.length (some (.int .i64 (m:Int))) (some (.int .i64 (n:Int))) none).run P w=.ok (m,n,l.length) w:=by
  simp [Instr.sliceBounds,ν0 (P:=P) w .i64 n l.length .sliceAlen (by omega) (by omega),ν0 (P:=P) w .i64 m n .sliceB (by omega) (by omega)]
 unfold execOp
 simp only [δ4,μ4,hx,hy,hz,Instr.sliceAt,Instr.slice,ε6 (Ga ht),γ3,γ6,β1,DV,Tm,PR,σ2,θ1,ξ7]
theorem kL {l m:List UInt8}{t:TypeId}{x y:Operand}{r:Bool}(h:(l==m)=r):(eqGuard .eql t x y (.string (S l)) (.string (S m))).run P w=.ok () w∧(binOp .eql t (.string (S l)) (.string (S m))).run P w=.ok (.bool r) w:=by
 subst h;exact⟨by simp [eqGuard],by simp [binOp,Op.stringOp,PQ]⟩
theorem kM {l m:List UInt8}{t:TypeId}{x y:Operand}{r:Bool}(h:(!(l==m))=r):(eqGuard .neq t x y (.string (S l)) (.string (S m))).run P w=.ok () w∧(binOp .neq t (.string (S l)) (.string (S m))).run P w=.ok (.bool r) w:=by
 subst h;exact⟨by simp [eqGuard],by simp [binOp,Op.stringOp,PQ]⟩
theorem bP {l m:List UInt8}{t:TypeId}{x y:Operand}(h:l.length+m.length≤9223372036854775807):(eqGuard .add t x y (.string (S l)) (.string (S m))).run P w=.ok () w∧(binOp .add t (.string (S l)) (.string (S m))).run P w=.ok (.string (S (l++m))) w:=by
 refine⟨by simp [eqGuard],?_⟩
 have:¬(((S l).size+(S m).size:Nat):Int)>IntKind.i64.max:=by rw [DV,DV];show¬_>(9223372036854775807:Int);omega
 simp only [binOp,Op.stringOp,if_neg this,bN,γ6]
end
section
variable {P:Program}{a:Act}{w:World}{n:Nat}{T:List (Nat×Value)}
end
end Go.Proofs.YtbbdanhpphlbpaaGreatDoor
namespace Go.Proofs.YtbbdanhpphlbpaaGreatDoor
open Go.RowKit
def cellEq:Nat→Value→Value→Option Bool
 |0,.int k a,.int k' b=>if k=k' then some (a==b)else none
 |1,.bool a,.bool b=>some (a==b)
 |2,.string a,.string b=>some (ByteArray.toList a==ByteArray.toList b)
 |_,_,_=>none
def Cz:List Nat→List Value→List Value→Option Bool
 | [],[],[]=>some true
 |q::qs,x::xs,y::ys=>match cellEq q x y,Cz qs xs ys with
  |some a,some b=>some (a&&b)
  |_,_=>none
 |_,_,_=>none
theorem Gb:∀{qs qs':List Nat} {xs xs' ys ys':List Value} {r:Bool},xs.length=qs.length→ys.length=qs.length→Cz (qs++qs') (xs++xs') (ys++ys')=some r→∃a b,Cz qs xs ys=some a∧Cz qs' xs' ys'=some b∧r=(a&&b)
 | [],qs',[],xs',[],ys',r,_,_,h=>⟨true,r,rfl,h,by simp⟩
 | q::qs,qs',x::xs,xs',y::ys,ys',r,hl,hm,h=>by
  simp only [τ5,Cz]at h
  split at h
  ·next a b ha hb=>
   cases h
   obtain⟨c,d,h1,h2,h3⟩:=Gb (by simpa using hl) (by simpa using hm) hb
   exact⟨a&&c,d,by simp [Cz,ha,h1],h2,by rw [h3,Bool.and_assoc]⟩
  ·cases h
 | [],_,_::_,_,_,_,_,h,_,_=>by cases h
 | [],_,_,_,_::_,_,_,_,h,_=>by cases h
 |_::_,_,[],_,_,_,_,h,_,_=>by cases h
 |_::_,_,_,_,[],_,_,_,h,_=>by cases h
def Mh (pt:TypeId→Option (List Nat)):List Field→Nat→Option (List Nat)
 | [],_=>some []
 | f::fs,o=>if f.name= "_" ∨f.offset≠o then none else match pt f.type with
  |some qs=>match Mh pt fs (o+qs.length)with
   |some rs=>some (qs++rs)
   |none=>none
  |none=>none
def Mi:Nat→List Nat→List Nat
 |0,_=>[]
 |n+1,l=>l++Mi n l
def Ge (P:Program):Nat→TypeId→Option (List Nat)
 |0,_=>none
 | d+1,t=>match P.underlying t with
  |some (.int _)=>if oneB P t then some [0]else none
  |some .bool=>if oneB P t then some [1]else none
  |some .string=>if oneB P t then some [2]else none
  |some (.struct fs)=>if P.stoodInHeld t then none else match Mh (Ge P d) fs.toList 0 with
   |some qs=>if Jr P t qs.length then some qs else none
   |none=>none
  |some (.array n e)=>match Ge P d e with
   |some qs=>if Jr P t (Mi n qs).length&&((P.info? e).map (·.size)==some qs.length)then some (Mi n qs)else none
   |none=>none
  |_=>none
theorem Nz:∀(n:Nat) (l:List Nat),(Mi n l).length=n*l.length
 |0,l=>by simp [Mi]
 |n+1,l=>by simp [Mi,Nz n l,ι9];omega
section
variable {P:Program}{w:World}
theorem Xc {t:TypeId}{m o:Nat}{cs:Array Value}(h:Jr P t m=true)(ho:o+m≤cs.size):(part t cs o).run P w=.ok (.agg (cs.extract o (o+m))) w:=by
 obtain⟨⟨dd,h2,h3,h3'⟩,h4⟩:=Er h
 have ha:(isAgg t).run P w=.ok true w:=by
  unfold isAgg
  rw [γ3,ε6 h2]
  cases dd<;>simp_all
 cases hq:P.info? t with
 |none=>simp [hq]at h4
 |some i=>
  have hi:i.size=m:=by simpa [hq]using h4
  simp [part,ha,sizeOf,typeInfo,hq,hi,ho]
def tE (P:Program)(w:World)(d:Nat)(t:TypeId)(qs:List Nat):Prop:=∀(D:Nat) (xs ys:Array Value) (off:Nat) (r:Bool),off+qs.length≤xs.size→off+qs.length≤ys.size→Cz qs ((xs.toList.drop off).take qs.length) ((ys.toList.drop off).take qs.length)=some r→
 ∃a b,(part t xs off).run P w=.ok a w∧(part t ys off).run P w=.ok b w∧(Op.equalIn (D+d) t a b).run P w=.ok r w
theorem take_split (zs:List Value)(o m n:Nat):(zs.drop o).take (m+n)=(zs.drop o).take m++(zs.drop (o+m)).take n:=by rw [List.take_add,μ2]
theorem Gf {d:Nat}(ih:∀t qs,Ge P d t=some qs→tE P w d t qs)(D:Nat)(xs ys:Array Value):∀(fs:List Field) (o:Nat) (qs:List Nat) (r:Bool),Mh (Ge P d) fs o=some qs→o+qs.length≤xs.size→o+qs.length≤ys.size→Cz qs ((xs.toList.drop o).take qs.length) ((ys.toList.drop o).take qs.length)=some r→(Op.eqFields (D+d) xs ys fs).run P w=.ok r w
 | [],o,qs,r,h,_,_,hc=>by cases h;simp [Cz]at hc;subst hc;simp [Op.eqFields]
 | f ::fs,o,qs,r,h,hx,hy,hc=>by
  unfold Mh at h
  split at h
  ·cases h
  ·next hn=>
   simp only [not_or,Classical.not_not]at hn
   split at h
   ·next q1 hm=>
    split at h
    ·next q2 hr=>
     cases h
     simp only [α4]at hx hy hc
     rw [take_split,take_split]at hc
     obtain⟨a1,b1,c1,c2,c3⟩:=Gb (by simp;omega) (by simp;omega) hc
     obtain⟨a,b,e1,e2,e3⟩:=ih _ _ hm D xs ys o a1 (by omega) (by omega) c1
     rw [←hn.2]at e1 e2
     have ih2:=Gf ih D xs ys fs (o+q1.length) q2 b1 hr (by omega) (by omega) c2
     unfold Op.eqFields
     simp only [ne_eq,hn.1,not_false_eq_true,υ9,γ3,e1,e2,e3,β1]
     rw [c3]
     cases a1
     ·simp
     ·simp [ih2]
    ·cases h
   ·cases h
theorem Hc {d e:Nat}{qs:List Nat}(ih:tE P w d e qs)(D:Nat)(xs ys:Array Value)(hs:P.cellsOf e=qs.length):∀(c k:Nat) (r:Bool),k*qs.length+c*qs.length≤xs.size→k*qs.length+c*qs.length≤ys.size→Cz (Mi c qs) ((xs.toList.drop (k*qs.length)).take (c*qs.length)) ((ys.toList.drop (k*qs.length)).take (c*qs.length))=some r→(Op.eqItems (D+d) e (P.cellsOf e) xs ys (List.range' k c)).run P w=.ok r w
 |0,k,r,_,_,hc=>by simp [Cz,Mi]at hc;subst hc;simp [Op.eqItems]
 |c+1,k,r,hx,hy,hc=>by
  have hm3:(c+1)*qs.length=qs.length+c*qs.length:=by simp [ι9];omega
  have hm4:(k+1)*qs.length=k*qs.length+qs.length:=by simp [ι9]
  rw [hm3,take_split,take_split,Mi]at hc
  obtain⟨a1,b1,c1,c2,c3⟩:=Gb (by simp;omega) (by simp;omega) hc
  obtain⟨a,b,e1,e2,e3⟩:=ih D xs ys (k*qs.length) a1 (by omega) (by omega) c1
  rw [←hm4]at c2
  have ih2:=Hc ih D xs ys hs c (k+1) b1 (by omega) (by omega) c2
  rw [List.range'_succ]
  unfold Op.eqItems
  rw [hs]
  rw [hs]at ih2
  simp only [γ3,e1,e2,e3,β1]
  rw [c3]
  cases a1
  ·simp
  ·simp [ih2]
theorem KT:∀(d:Nat) (t:TypeId) (qs:List Nat),Ge P d t=some qs→tE P w d t qs
 |0,t,s,h=>by cases h
 | d + 1,t,qs,h=>by
  intro D xs ys off r hx hy hc
  have one:∀q,oneB P t=true→qs=[q]→(∀a b,cellEq q a b=some r→(Op.equalIn (D+(d+1)) t a b).run P w=.ok r w)→∃a b,(part t xs off).run P w=.ok a w∧(part t ys off).run P w=.ok b w∧(Op.equalIn (D+(d+1)) t a b).run P w=.ok r w:=by
   intro q h1 h2 h3
   subst h2
   simp only [α5,α7,ε0]at hx hy hc
   have iO:off<xs.size:=by omega
   have iP:off<ys.size:=by omega
   have ex:(xs.toList.drop off).take 1=[xs[off]]:=by rw [η2 (by simpa using iO)];simp
   have ey:(ys.toList.drop off).take 1=[ys[off]]:=by rw [η2 (by simpa using iP)];simp
   rw [ex,ey]at hc
   simp only [Cz]at hc
   split at hc
   ·next a b ha hb=>
    cases hb
    simp only [Bool.and_true,β2]at hc
    subst hc
    exact⟨xs[off],ys[off],IF w (I3 h1 w) (by simp [iO]),IF w (I3 h1 w) (by simp [iP]),h3 _ _ ha⟩
   ·cases hc
  have row:Jr P t qs.length=true→(∀(us vs:Array Value),us.size=qs.length→vs.size=qs.length→Cz qs us.toList vs.toList=some r→(Op.equalIn (D+(d+1)) t (.agg us) (.agg vs)).run P w=.ok r w)→∃a b,(part t xs off).run P w=.ok a w∧(part t ys off).run P w=.ok b w∧(Op.equalIn (D+(d+1)) t a b).run P w=.ok r w:=by
   intro h1 h3
   refine⟨_,_,Xc h1 hx,Xc h1 hy,h3 _ _ (by simp;omega) (by simp;omega) ?_⟩
   simpa [ξ0]using hc
  unfold Ge at h
  split at h
  ·next k hu=>
   split at h
   ·next h1=>
    cases h
    refine one 0 h1 rfl fun a b PL=>?_
    unfold cellEq at PL
    split at PL
    ·split at PL
     ·next hk=>subst hk;cases PL;exact run_equalIn_int w _ t _ _ _ _ hu
     ·cases PL
    ·next h=>cases h
    ·next h=>cases h
    ·cases PL
   ·cases h
  ·next hu=>
   split at h
   ·next h1=>
    cases h
    refine one 1 h1 rfl fun a b PL=>?_
    unfold cellEq at PL
    split at PL
    ·next h=>cases h
    ·cases PL;exact run_equalIn_bool w _ t _ _ hu
    ·next h=>cases h
    ·cases PL
   ·cases h
  ·next hu=>
   split at h
   ·next h1=>
    cases h
    refine one 2 h1 rfl fun a b PL=>?_
    unfold cellEq at PL
    split at PL
    ·next h=>cases h
    ·next h=>cases h
    ·cases PL;exact run_equalIn_string w _ t _ _ hu
    ·cases PL
   ·cases h
  ·next fs hu=>
   split at h
   ·cases h
   ·next LS=>
    split at h
    ·next q2 hf=>
     split at h
     ·next Df=>
      cases h
      refine row Df fun us vs Y9 XP j9=>?_
      have iQ:P.fieldsOf t=fs:=by unfold Program.fieldsOf;rw [hu]
      rw [show D+(d+1)=(D+d)+1 by omega,run_equalIn_struct w (D+d) t us vs (by rw [iQ];exact hu) (by simpa using LS),iQ]
      refine Gf (KT d) D us vs fs.toList 0 qs r hf (by omega) (by omega) ?_
      rw [ζ8,ζ8,ε7 (by simp;omega),ε7 (by simp;omega)]
      exact j9
     ·cases h
    ·cases h
  ·next m e hu=>
   split at h
   ·next q2 pV=>
    split at h
    ·next GX=>
     cases h
     rw [α3]at GX
     refine row GX.1 fun us vs Y9 XP j9=>?_
     have FL:(P.info? e).map (·.size)=some q2.length:=by simpa using GX.2
     have hco:P.cellsOf e=q2.length:=by unfold Program.cellsOf;rw [FL];rfl
     cases hqi:P.info? e with
     |none=>rw [hqi]at FL;cases FL
     | some ie=>
      rw [show D+(d+1)=(D+d)+1 by omega,run_equalIn_array w (D+d) us vs hu hqi]
      rw [Nz]at Y9 XP
      have:=Hc (KT d e q2 pV) D us vs hco m 0 r (by omega) (by omega) (by
       rw [Nat.zero_mul,ζ8,ζ8,ε7 (by simp;omega),ε7 (by simp;omega)]
       exact j9)
      rwa [List.range_eq_range']
    ·cases h
   ·cases h
  ·cases h
def UG (P:Program)(t:TypeId)(qs:List Nat):Bool:=(Ge P 6 t==some qs)&&Jr P t qs.length&& !P.eqGuardType P.depth t
theorem bQ {t:TypeId}{qs:List Nat}{xs ys:Array Value}{r:Bool}(h:UG P t qs=true)(hx:xs.size=qs.length)(hy:ys.size=qs.length)(hc:Cz qs xs.toList ys.toList=some r)(x y:Operand):
  ((eqGuard .eql t x y (.agg xs) (.agg ys)).run P w=.ok () w∧(binOp .eql t (.agg xs) (.agg ys)).run P w=.ok (.bool r) w)∧
  ((eqGuard .neq t x y (.agg xs) (.agg ys)).run P w=.ok () w∧(binOp .neq t (.agg xs) (.agg ys)).run P w=.ok (.bool (!r)) w):=by
 unfold UG at h
 rw [α3,α3]at h
 obtain⟨⟨h1,h2⟩,h3⟩:=h
 have h1:Ge P 6 t=some qs:=by simpa using h1
 have h3:P.eqGuardType P.depth t=false:=by simpa using h3
 obtain⟨a,b,e1,e2,e3⟩:=KT (P:=P) (w:=w) 6 t qs h1 9994 xs ys 0 r (by omega) (by omega) (by
  rw [ζ8,ζ8,ε7 (by simp;omega),ε7 (by simp;omega)]
  exact hc)
 have ex:(part t xs 0).run P w=.ok (.agg xs) w:=by rw [Xc h2 (by omega)];simp [←hx]
 have ey:(part t ys 0).run P w=.ok (.agg ys) w:=by rw [Xc h2 (by omega)];simp [←hy]
 rw [ex]at e1
 rw [ey]at e2
 cases e1;cases e2
 refine⟨⟨run_eqGuard_agg w _ t x y xs ys h3,?_⟩,run_eqGuard_agg w _ t x y xs ys h3,?_⟩
 ·rw [run_eql_struct,e3];rfl
 ·rw [run_neq_struct,e3];rfl
end
end Go.Proofs.YtbbdanhpphlbpaaGreatDoor
namespace Go.Proofs.YtbbdanhpphlbpaaGreatDoor
open Go.RowKit
inductive SV where
 |int (k:IntKind) (n:Int)
 |bool (b:Bool)
 |tt
 |ff
 |str (l:List UInt8)
 |ptr (i o:Nat)
 |el (i s:Nat) (j:Int) (o:Nat)
 |ix (p:SV) (s n:Nat) (j:Int) (k:Nat)
 |sl (i n c:Nat)
 |sla (ao:Option Addr) (n c:Nat)
 |sp (p:SV) (n c:Nat)
 |st (i s j n c:Nat)
 |agg (l:List SV)
 |tup (l:List SV)
 |fn (f:Nat) (l:List SV)
 |opt (b:Bool) (x:SV)
 |v (x:Value)
structure Loc where
 b:Nat
 pre:List Value
 post:List Value
 t:TypeId
abbrev Gr:=List (Option Loc)
def rm:Option Loc→Nat
 |some L=>L.post.length
 |none=>0
def kN:Value→Option Addr
 | .pointer ao=>ao
 |_=>none
mutual
def den (G:Gr):SV→Option Value
 | .int k n=>some (.int k n)
 | .bool b=>some (.bool b)
 | .tt=>some (.bool true)
 | .ff=>some (.bool false)
 | .str l=>some (.string (S l))
 | .ptr i o=>match G[i]? with
  |some (some L)=>some (.pointer (some ⟨L.b,L.pre.length+o,none⟩))
  |_=>none
 | .el i s j o=>match G[i]? with
  |some p=>some (.pointer (p.map fun L=>⟨L.b,L.pre.length+j.toNat*s+o,none⟩))
  |none=>none
 | .ix p s _ j k=>match den G p with
  |some (.pointer (some ⟨b,o,none⟩))=>some (.pointer (some ⟨b,o+j.toNat*s+k,none⟩))
  |some _=>some (.pointer none)
  |none=>none
 | .sl i n c=>match G[i]? with
  |some p=>some (.slice (p.map fun L=>⟨L.b,L.pre.length,none⟩) n (c+rm p))
  |none=>none
 | .sla ao n c=>some (.slice ao n c)
 | .sp p n c=>match den G p with
  |some v=>some (.slice (kN v) n c)
  |none=>none
 | .st i s j n c=>match G[i]? with
  |some p=>some (.slice (p.map fun L=>⟨L.b,L.pre.length+(if c+rm p=j then 0 else j*s),none⟩) n (c+rm p - j))
  |none=>none
 | .agg l=>(Al G l).map fun vs=>.agg vs.toArray
 | .tup l=>(Al G l).map fun vs=>.tuple vs.toArray
 | .fn f l=>(Al G l).map fun vs=>.func (.func f) #[] vs.toArray
 | .opt b x=>(den G x).map fun v=>bif b then v else undef
 | .v x=>some x
def Al (G:Gr):List SV→Option (List Value)
 | []=>some []
 | x::l=>match den G x with
  |some v=>match Al G l with
   |some vs=>some (v::vs)
   |none=>none
  |none=>none
end
theorem Bg {G:Gr}{x:SV}{l:List SV}{vs:List Value}(h:Al G (x::l)=some vs):∃v ws,den G x=some v∧Al G l=some ws∧vs=v::ws:=by
 unfold Al at h
 split at h
 ·next v hv=>
  split at h
  ·next ws hw=>cases h;exact⟨v,ws,hv,hw,rfl⟩
  ·cases h
 ·cases h
theorem Bb {G:Gr}{x:SV}{l:List SV}{v:Value}{vs:List Value}(h:den G x=some v)(k:Al G l=some vs):Al G (x::l)=some (v::vs):=by
 unfold Al;rw [h,k]
theorem Be {G:Gr}:∀{l:List SV} {vs:List Value},Al G l=some vs→vs.length=l.length
 | [],vs,h=>by cases h;rfl
 |x::l,vs,h=>by
  obtain⟨v,ws,_,h2,rfl⟩:=Bg h
  simp [Be h2]
theorem C5 {G:Gr}:∀{l:List SV} {vs:List Value} {k:Nat} {x:SV},Al G l=some vs→l[k]?=some x→∃v,vs[k]?=some v∧den G x=some v
 | [],_,_,_,_,h=>by cases h
 |y::l,vs,0,x,h,hx=>by
  obtain⟨v,ws,h1,_,rfl⟩:=Bg h
  cases hx;exact⟨v,rfl,h1⟩
 |y::l,vs,k+1,x,h,hx=>by
  obtain⟨v,ws,_,h2,rfl⟩:=Bg h
  obtain⟨u,h3,h4⟩:=C5 h2 hx
  exact⟨u,h3,h4⟩
theorem C0 {G:Gr}:∀{l m:List SV} {vs ws:List Value},Al G l=some vs→Al G m=some ws→Al G (l++m)=some (vs++ws)
 | [],m,vs,ws,h,k=>by cases h;exact k
 |x::l,m,vs,ws,h,k=>by
  obtain⟨v,us,h1,h2,rfl⟩:=Bg h
  exact Bb h1 (C0 h2 k)
theorem Cf {G:Gr}:∀{l:List SV} {vs:List Value} (k:Nat),Al G l=some vs→Al G (l.take k)=some (vs.take k)
 | [],vs,k,h=>by cases h;simp [Al]
 |x::l,vs,0,h=>by simp [Al]
 |x::l,vs,k+1,h=>by
  obtain⟨v,ws,h1,h2,rfl⟩:=Bg h
  exact Bb h1 (Cf k h2)
theorem Cg {G:Gr}:∀{l:List SV} {vs:List Value} (k:Nat),Al G l=some vs→Al G (l.drop k)=some (vs.drop k)
 | [],vs,k,h=>by cases h;simp [Al]
 |x::l,vs,0,h=>by simpa using h
 |x::l,vs,k+1,h=>by
  obtain⟨v,ws,h1,h2,rfl⟩:=Bg h
  exact Cg k h2
mutual
theorem BF {G:Gr}(F:Gr):∀(x:SV) {v:Value},den G x=some v→den (G++F) x=some v
 | .int _ _,_,h=>h
 | .bool _,_,h=>h
 | .tt,_,h=>h
 | .ff,_,h=>h
 | .str _,_,h=>h
 | .ptr i o,v,h=>by
  unfold den at h⊢
  split at h
  ·next L hL=>rw [α1 (α0.1 hL).1,hL];exact h
  ·cases h
 | .el i s j o,v,h=>by
  unfold den at h⊢
  split at h
  ·next L hL=>rw [α1 (α0.1 hL).1,hL];exact h
  ·cases h
 | .ix p s m j k,v,h=>by
  unfold den at h⊢
  cases hq:den G p with
  |none=>rw [hq]at h;cases h
  |some u=>rw [BF F p hq];rw [hq]at h;exact h
 | .sl i n c,v,h=>by
  unfold den at h⊢
  split at h
  ·next L hL=>rw [α1 (α0.1 hL).1,hL];exact h
  ·cases h
 | .sla _ _ _,_,h=>h
 | .sp p m k,v,h=>by
  unfold den at h⊢
  cases hq:den G p with
  |none=>rw [hq]at h;cases h
  |some u=>rw [BF F p hq];rw [hq]at h;exact h
 | .st i s j n c,v,h=>by
  unfold den at h⊢
  split at h
  ·next L hL=>rw [α1 (α0.1 hL).1,hL];exact h
  ·cases h
 | .agg l,v,h=>by
  unfold den at h⊢
  obtain⟨vs,h1,h2⟩:=γ9.1 h
  rw [BT F l h1];exact congrArg some h2
 | .tup l,v,h=>by
  unfold den at h⊢
  obtain⟨vs,h1,h2⟩:=γ9.1 h
  rw [BT F l h1];exact congrArg some h2
 | .fn f l,v,h=>by
  unfold den at h⊢
  obtain⟨vs,h1,h2⟩:=γ9.1 h
  rw [BT F l h1];exact congrArg some h2
 | .opt b x,v,h=>by
  unfold den at h⊢
  obtain⟨u,h1,h2⟩:=γ9.1 h
  rw [BF F x h1];exact congrArg some h2
 | .v _,_,h=>h
theorem BT {G:Gr}(F:Gr):∀(l:List SV) {vs:List Value},Al G l=some vs→Al (G++F) l=some vs
 | [],_,h=>h
 |x::l,vs,h=>by
  obtain⟨v,ws,h1,h2,rfl⟩:=Bg h
  exact Bb (BF F x h1) (BT F l h2)
end
def SV.oneB:SV→Option Bool
 | .int _ _| .bool _| .tt| .ff| .str _| .ptr _ _| .el _ _ _ _| .ix _ _ _ _ _| .sl _ _ _| .sla _ _ _| .sp _ _ _| .st _ _ _ _ _| .fn _ _=>some true
 | .v x=>some x.oneCell'
 |_=>none
theorem SV.one_spec {G:Gr}{x:SV}{v:Value}{b:Bool}(h:x.oneB=some b)(hb:b=true)(hv:den G x=some v):v.oneCell'=true:=by
 subst hb
 cases x with
 |agg l=>simp [SV.oneB]at h
 |tup l=>simp [SV.oneB]at h
 |opt b x=>simp [SV.oneB]at h
 |v x=>simp [SV.oneB]at h;simp [den]at hv;subst hv;exact h
 |ptr i o=>unfold den at hv;split at hv<;>cases hv;rfl
 |el i s j o=>unfold den at hv;split at hv<;>cases hv;rfl
 |ix p s m j k=>unfold den at hv;split at hv<;>cases hv<;>rfl
 |sl i n c=>unfold den at hv;split at hv<;>cases hv;rfl
 |st i s j n c=>unfold den at hv;split at hv<;>cases hv;rfl
 |sp p m k=>unfold den at hv;split at hv<;>cases hv<;>rfl
 |fn f l=>unfold den at hv;obtain⟨vs,_,h2⟩:=γ9.1 hv;subst h2;rfl
 |_=>simp [den]at hv;subst hv;rfl
inductive Bo where
 |blk (cs:List SV)
 |lst (s n:Nat) (f:Nat→List SV)
 |fac (b:Nat) (o:Obj)
 |row (e s n c:Nat) (f:Nat→List SV)
def Bo.mut:Bo→Bool
 | .lst _ _ _=>false
 | .fac _ _=>false
 |_=>true
def Bo.empty:Bo→Prop
 | .lst _ n _=>n=0
 |_=>False
def CX (f:Nat→List SV):Nat→Option (List Value)
 |0=>some []
 | n+1=>match CX f n with
  |some l=>match Al [] (f n)with
   |some vs=>some (l++vs)
   |none=>none
  |none=>none
def BK (G:Gr)(w:World)(p:Option Loc):Bo→Prop
 | .blk cs=>∃L vs,p=some L∧Al G cs=some vs∧EV w L.b (L.pre++vs++L.post).toArray L.t
 | .lst s n f=>(∀k,∃vs,Al [] (f k)=some vs)∧(n=0∨∃L,p=some L∧L.b<w.heap.size∧∀k,k<n→∃vs,Al [] (f k)=some vs∧w.rangeAt L.b (L.pre.length+k*s) vs)
 | .fac b o=>∃L,p=some L∧L.b=b∧w.heap[b]?=some o
 | .row e s n c f=>(∀k,∃vs,Al [] (f k)=some vs∧vs.length=s)∧(∀L,p=some L→L.pre=[])∧∃xs,CX f n=some xs∧w.ownsRow 0 e s (.slice (p.map fun L=>⟨L.b,L.pre.length,none⟩) n (c+rm p)) n xs
abbrev Hp:=List (Option Bo)
structure Mem (H:Hp)(G:Gr)(w:World):Prop where
 len:H.length=G.length
 ent:∀(i:Nat) (e:Bo),H[i]?=some (some e)→BK G w ((G[i]?).getD none) e
 sep:∀(i j:Nat) (e f:Bo) (L M:Loc),i≠j→H[i]?=some (some e)→H[j]?=some (some f)→e.mut=true→G[i]?=some (some L)→G[j]?=some (some M)→¬f.empty→L.b≠M.b
structure DO (ks:List Nat)(w w':World):Prop where
 os:w'.os=w.os
 tape:w'.tape=w.tape
 output:w'.output=w.output
 size:w.heap.size≤w'.heap.size
 block:∀k,k<w.heap.size→ks.contains k=false→w'.heap[k]?=w.heap[k]?
section
variable {ks ks':List Nat}{a w w':World}{B g:Nat}
theorem DO.refl (ks:List Nat)(w:World):DO ks w w:=⟨rfl,rfl,rfl,β7 _,fun _ _ _=>rfl⟩
theorem DO.grow (h:DO ks a w)(hg:CI w w'):DO ks a w':=
 ⟨hg.os.trans h.os,hg.tape.trans h.tape,hg.output.trans h.output,β4 h.size hg.size,fun k hk hc=>(hg.block k (ζ2 hk h.size)).trans (h.block k hk hc)⟩
theorem DO.upd (h:DO ks a w)(hu:XU g w w')(hg:ks.contains g=true∨a.heap.size≤g):DO ks a w':=
 ⟨hu.os.trans h.os,hu.tape.trans h.tape,hu.output.trans h.output,β4 h.size (υ2 hu.size.symm),fun k hk hc=>(hu.block k (fun e=>by
  subst e
  rcases hg with hg|hg
  ·rw [hg]at hc;cases hc
  ·omega)).trans (h.block k hk hc)⟩
theorem DO.mix (h:DO ks a w)(m:DO ks' w w')(hk:∀k,k<a.heap.size→ks.contains k=false→ks'.contains k=false):DO ks a w':=
 ⟨m.os.trans h.os,m.tape.trans h.tape,m.output.trans h.output,β4 h.size m.size,fun k hl hc=>(m.block k (ζ2 hl h.size) (hk k hl hc)).trans (h.block k hl hc)⟩
theorem EV.mix {cs:Array Value}{t:TypeId}(h:EV w g cs t)(m:DO ks w w')(hk:ks.contains g=false):EV w' g cs t:=by
 unfold EV;rw [m.block g h.lt hk];exact h
theorem FY {b o:Nat}{cs:List Value}(hr:w.rangeAt b o cs)(m:DO ks w w')(hb:b<w.heap.size)(hk:ks.contains b=false):w'.rangeAt b o cs:=fun j x hx=>by
 rw [World.cell?_of_block (w:=w) (m.block b hb hk)];exact hr j x hx
theorem Mj {b e s n:Nat}{v:Value}{xs:List Value}(h:w.ownsRow b e s v n xs)(m:DO ks w w')(hk:∀k,v.ownBlock=some k→ks.contains k=false):w'.ownsRow b e s v n xs:=
 UF h fun k hv=>m.block k (Mg h k hv).2 (hk k hv)
theorem CI.mix (hg:CI w w'):DO [] w w':=(DO.refl [] w).grow hg
end
theorem BK.lt {G:Gr}{w:World}{L:Loc}{e:Bo}(h:BK G w (some L) e)(hn:¬e.empty):L.b<w.heap.size:=by
 cases e with
 |blk cs=>obtain⟨M,vs,h1,_,h3⟩:=h;cases h1;exact h3.lt
 |lst s n f=>
  rcases h.2 with h|⟨M,h1,h2,_⟩
  ·exact absurd h hn
  ·cases h1;exact h2
 |row e s n c f=>obtain⟨_,_,xs,_,h⟩:=h;exact(Mg h L.b (by simp [Value.ownBlock])).2
 |fac b o=>obtain⟨M,h1,h2,h3⟩:=h;cases h1;rw [h2];exact(ε3.1 h3).1
theorem BK.mix {G:Gr}{ks:List Nat}{w w':World}{p:Option Loc}{e:Bo}(h:BK G w p e)(m:DO ks w w')(hk:¬e.empty→∀L,p=some L→ks.contains L.b=false):BK G w' p e:=by
 cases e with
 |blk cs=>obtain⟨M,vs,h1,h2,h3⟩:=h;exact⟨M,vs,h1,h2,h3.mix m (hk (fun h=>h) M h1)⟩
 | lst s n f=>
  refine⟨h.1,?_⟩
  by_cases h0:n=0
  ·exact .inl h0
  ·rcases h.2 with h|⟨M,h1,h2,h3⟩
   ·exact .inl h
   ·exact .inr ⟨M,h1,ζ2 h2 m.size,fun k hl=>by obtain⟨vs,h4,h5⟩:=h3 k hl;exact⟨vs,h4,FY h5 m h2 (hk h0 M h1)⟩⟩
 |row e s n c f=>
  obtain⟨h1,h2,xs,h3,h4⟩:=h
  refine⟨h1,h2,xs,h3,Mj h4 m fun k hv=>?_⟩
  cases p with
  |none=>simp [Value.ownBlock]at hv
  |some L=>simp [Value.ownBlock]at hv;subst hv;exact hk (fun h=>h) L rfl
 |fac b o=>
  obtain⟨M,h1,h2,h3⟩:=h
  refine⟨M,h1,h2,?_⟩
  have EC:=hk (fun h=>h) M h1
  rw [h2]at EC
  rw [m.block b (ε3.1 h3).1 EC];exact h3
theorem BK.more {G:Gr}(F:Gr){w:World}{p:Option Loc}{e:Bo}(h:BK G w p e):BK (G++F) w p e:=by
 cases e with
 |blk cs=>obtain⟨M,vs,h1,h2,h3⟩:=h;exact⟨M,vs,h1,BT F cs h2,h3⟩
 |lst s n f=>exact h
 |row e s n c f=>exact h
 |fac b o=>exact h
theorem Bf {e:Bo}(h:e.mut=true):¬e.empty:=by cases e<;>first|(cases h;done)|exact fun h=>h
theorem XU.mix {g:Nat}{w w':World}(hu:XU g w w'):DO [g] w w':=(DO.refl [g] w).upd hu (.inl (by simp))
def look:List (Nat×SV)→Nat→Option SV
 | [],_=>none
 |(k,x)::l,t=>bif Nat.beq k t then some x else look l t
structure Sy (n:Nat)(T:List (Nat×SV))(H:Hp)(ks:List Nat)(G0:Gr)(w0:World)(G:Gr)(a:Act)(w:World):Prop where
 size:a.tmps.size=n
 defers:a.defers=[]
 get:∀t x,look T t=some x→den G x=some (a.tmps.getD t undef)
 mem:Mem H G w
 pre:∃F,G=G0++F
 own:∀(i:Nat) (e:Bo) (L:Loc),H[i]?=some (some e)→e.mut=true→G[i]?=some (some L)→ks.contains L.b=true∨w0.heap.size≤L.b
 mix:DO ks w0 w
theorem EY {f:Nat→List SV}{s:Nat}(hs:∀k,∃vs,Al [] (f k)=some vs∧vs.length=s):∀{n:Nat} {xs:List Value},CX f n=some xs→xs.length=n*s
 |0,xs,h=>by cases h;simp
 | n+1,xs,h=>by
  unfold CX at h
  obtain⟨vs,h1,h2⟩:=hs n
  split at h
  ·next l hl=>
   rw [h1]at h
   cases h
   simp [EY hs hl,h2,ι9]
  ·cases h
theorem Mk {f:Nat→List SV}{s:Nat}(hs:∀k,∃vs,Al [] (f k)=some vs∧vs.length=s):∀n:Nat,∃xs,CX f n=some xs
 |0=>⟨[],rfl⟩
 |n+1=>by
  obtain⟨l,hl⟩:=Mk hs n
  obtain⟨vs,h1,_⟩:=hs n
  exact⟨l++vs,by unfold CX;rw [hl,h1]⟩
theorem J5 {f:Nat→List SV}{s:Nat}(hs:∀k,∃vs,Al [] (f k)=some vs∧vs.length=s):∀{n:Nat} {xs:List Value},CX f n=some xs→∀k,k<n→∃vs,Al [] (f k)=some vs∧∀j v,vs[j]?=some v→xs[k*s+j]?=some v
 |0,xs,h,k,hk=>by omega
 | n+1,xs,h,k,hk=>by
  unfold CX at h
  obtain⟨vs,h1,h2⟩:=hs n
  split at h
  ·next l hl=>
   rw [h1]at h
   cases h
   have ZA:=EY hs hl
   by_cases I1:k<n
   ·obtain⟨us,h3,h4⟩:=J5 hs hl k I1
    refine⟨us,h3,fun j v hj=>?_⟩
    have:=h4 j v hj
    rw [α1 (α0.1 this).1];exact this
   ·have:k=n:=by omega
    subst this
    refine⟨vs,h1,fun j v hj=>?_⟩
    rw [α2 (by omega),show k*s+j - l.length=j by omega];exact hj
  ·cases h
theorem Eu {f g:Nat→List SV}:∀{n:Nat},(∀k,k<n→f k=g k)→CX f n=CX g n
 |0,_=>rfl
 |n+1,h=>by unfold CX;rw [Eu (fun k hk=>h k (by omega)),h n (by omega)]
theorem DP {w:World}{e s n c:Nat}{p:Option Loc}{f:Nat→List SV}{G:Gr}(h:BK G w p (.row e s n c f)){k:Nat}(hk:k<n):∃L vs,p=some L∧Al [] (f k)=some vs∧vs.length=s∧w.rangeAt L.b (L.pre.length+k*s) vs:=by
 obtain⟨h1,h2,xs,h3,h4,h5⟩:=h
 obtain⟨vs,v1,v2⟩:=h1 k
 obtain⟨us,u1,u2⟩:=J5 h1 h3 k hk
 rw [v1]at u1;cases u1
 rcases h5 with⟨_,h5⟩|⟨g,cap,cur,q1,_,q3,q4,q5,q6,q7⟩
 ·omega
 ·cases p with
  |none=>cases q1
  |some L=>
   simp only [δ4,ι2,β2,κ9]at q1
   obtain⟨⟨q8,q9,_⟩,_,_⟩:=q1
   refine⟨L,vs,rfl,v1,v2,fun j v hj=>?_⟩
   have hx:=u2 j v hj
   rw [←q7]at hx
   have Bn:=(α0.1 hx).1
   rw [γ1 (by simp at Bn;omega)]at hx
   rw [q9,ε0,q8]
   rw [cell_of_row w g (k*s+j) cur e _ q3]
   simpa using hx
end Go.Proofs.YtbbdanhpphlbpaaGreatDoor
namespace Go.Proofs.YtbbdanhpphlbpaaGreatDoor
open Go.RowKit
structure TI where
 one:Bool
 row:Option Nat
 zero:Option (List SV)
 flds:List (Nat×Nat×Nat)
 knd:Option IntKind
 isS:Bool
 isB:Bool
 elm:Option (Nat×Nat×Nat)
 eqk:Option (List Nat)
 arr:Option (Nat×Nat×Nat)
inductive Tb where
 |e
 |n (k:Nat) (i:TI) (l r:Tb)
def Tb.get:Tb→Nat→Option TI
 | .e,_=>none
 | .n k i l r,t=>bif Nat.beq t k then some i else bif Nat.ble t k then l.get t else r.get t
def zB:Value→SV→Bool
 | .int k n,.int k' n'=>k==k'&&n==n'
 | .bool b,.ff=> !b
 | .string s,.str l=>s.data.toList.isEmpty&&l.isEmpty
 | .pointer none,.v (.pointer none)=>true
 | .slice none n c,.sla none n' c'=>Nat.beq n n'&&Nat.beq c c'
 | .nilIface,.v .nilIface=>true
 | .nilFunc,.v .nilFunc=>true
 | .map none,.v (.map none)=>true
 |_,_=>false
def rQ:List Value→List SV→Bool
 | [],[]=>true
 |v::vs,x::xs=>zB v x&&rQ vs xs
 |_,_=>false
theorem bR {G:Gr}{v:Value}{x:SV}(h:zB v x=true):den G x=some v:=by
 unfold zB at h
 split at h
 ·simp only [α3,ε4]at h;obtain⟨rfl,rfl⟩:=h;rfl
 ·simp at h;subst h;rfl
 ·next s l=>
  simp only [α3,List.isEmpty_iff]at h
  obtain⟨h1,rfl⟩:=h
  have:=kJ s
  rw [h1]at this
  simp [den,this]
 ·rfl
 ·simp only [α3]at h
  have h1:=α9 h.1
  have h2:=α9 h.2
  subst h1;subst h2;rfl
 ·rfl
 ·rfl
 ·rfl
 ·cases h
theorem Qj {G:Gr}:∀{vs:List Value} {xs:List SV},rQ vs xs=true→Al G xs=some vs
 | [],[],_=>rfl
 |v::vs,x::xs,h=>by
  simp only [rQ,α3]at h
  exact Bb (bR h.1) (Qj h.2)
 | [],_::_,h=>by cases h
 |_::_,[],h=>by cases h
def UH (P:Program)(t:TypeId):Bool:=match P.underlying t with|some .bool=>true|_=>false
def rR (P:Program)(t:TypeId)(k:IntKind):Bool:=match P.underlying t with|some (.int k')=>k'==k|_=>false
theorem Xd {P:Program}{t:TypeId}{k:IntKind}(h:rR P t k=true):P.underlying t=some (.int k):=by
 unfold rR at h;split at h
 ·next k' hk=>rw [hk,ν4 h]
 ·cases h
def PS (P:Program)(t:TypeId)(zs:List SV):Bool:=match P.info? t with
 |some i=>match i.zero with
  |some z=>rQ z.cells.toList zs
  |none=>false
 |none=>false
def Lr (P:Program)(t:TypeId):Nat→List (Nat×Nat×Nat)→Bool
 |_,[]=>true
 |k,(ft,off,sz)::l=>(match fieldInfo P t k with|some (a,b)=>Nat.beq a ft&&Nat.beq b off|none=>false)&&(match Dy P t k with|some b=>Nat.beq b off|none=>sz==0)&&Lr P t (k+1) l
def tF (P:Program)(t:TypeId)(l:List (Nat×Nat×Nat)):Bool:=match placesOf P t with|some ps=>ps==l.map (·.2)|none=>false
def rS (P:Program)(t:TypeId)(i:TI):Bool:=
 (!i.one||oneB P t)&&(match i.row with|some m=>Jr P t m|none=>true)&&(match i.zero with|some zs=>PS P t zs|none=>true)&&
 (match i.flds with| []=>true|l=>Lr P t 0 l&&tF P t l)&&(match i.knd with|some k=>rR P t k|none=>true)&&(!i.isS||LU P t)&&(!i.isB||UH P t)&&
 (match i.elm with|some (e,s,b)=>FA P t e s b|none=>true)&&(match i.eqk with|some qs=>UG P t qs|none=>true)&&(match i.arr with|some (n,e,s)=>Ny P t n e s|none=>true)
def Tb.ok (P:Program):Tb→Bool
 | .e=>true
 | .n k i l r=>rS P k i&&l.ok P&&r.ok P
theorem Tb.at {P:Program}:∀{X:Tb} {t:Nat} {i:TI},X.ok P=true→X.get t=some i→rS P t i=true
 | .e,_,_,_,h=>by cases h
 | .n k j l r,t,i,hX,h=>by
  simp only [Tb.ok,α3]at hX
  unfold Tb.get at h
  cases hb:Nat.beq t k with
  |true=>rw [hb]at h;cases h;have:=α9 hb;subst this;exact hX.1.1
  |false=>
   rw [hb]at h
   cases hc:Nat.ble t k with
   |true=>rw [hc]at h;exact Tb.at hX.1.2 h
   |false=>rw [hc]at h;exact Tb.at hX.2 h
structure Tx where
 tb:Tb
 nw:Bool
abbrev Tx.get (X:Tx)(t:Nat):Option TI:=X.tb.get t
abbrev Tx.ok (P:Program)(X:Tx):Bool:=X.tb.ok P
section
variable {P:Program}{t:TypeId}{i:TI}(h:rS P t i=true)
include h
theorem DW:(!i.one||oneB P t)=true∧(match i.row with|some m=>Jr P t m|none=>true)=true∧(match i.zero with|some zs=>PS P t zs|none=>true)=true∧
 (match i.flds with| []=>true|l=>Lr P t 0 l&&tF P t l)=true∧(match i.knd with|some k=>rR P t k|none=>true)=true∧(!i.isS||LU P t)=true∧(!i.isB||UH P t)=true∧
 (match i.elm with|some (e,s,b)=>FA P t e s b|none=>true)=true∧(match i.eqk with|some qs=>UG P t qs|none=>true)=true∧(match i.arr with|some (n,e,s)=>Ny P t n e s|none=>true)=true:=by
 unfold rS at h
 simp only [α3]at h
 obtain⟨⟨⟨⟨⟨⟨⟨⟨⟨h1,h2⟩,h3⟩,h4⟩,h5⟩,h6⟩,h7⟩,h8⟩,h9⟩,GL⟩:=h
 exact⟨h1,h2,h3,h4,h5,h6,h7,h8,h9,GL⟩
theorem I4 (ho:i.one=true):oneB P t=true:=by have:=(DW h).1;rw [ho]at this;simpa using this
theorem I5 {m:Nat}(ho:i.row=some m):Jr P t m=true:=by have:=(DW h).2.1;rw [ho]at this;exact this
theorem Ml {zs:List SV}(ho:i.zero=some zs):∃z m,(P.info? t).map (fun i=>(i.zero,i.size))=some (some z,m)∧∀G,Al G zs=some z.cells.toList:=by
 have:=(DW h).2.2.1
 rw [ho]at this
 simp only [PS]at this
 split at this
 ·next f hf=>
  split at this
  ·next z hz=>exact⟨z,f.size,by rw [hf,←hz];rfl,fun G=>Qj this⟩
  ·cases this
 ·cases this
theorem Qk:∀(l:List (Nat×Nat×Nat)) (k:Nat),Lr P t k l=true→∀(f ft off sz:Nat),l[f]?=some (ft,off,sz)→fieldInfo P t (k+f)=some (ft,off)∧(sz≠0→Dy P t (k+f)=some off)
 | [],_,_,f,ft,off,sz,hf=>by cases hf
 | (a,b,c)::l,k,hb,0,ft,off,sz,hf=>by
  cases hf
  simp only [Lr,α3]at hb
  obtain⟨⟨h1,h2⟩,_⟩:=hb
  constructor
  ·split at h1
   ·next a' b' e=>simp only [α3]at h1;rw [θ8,e,α9 h1.1,α9 h1.2]
   ·cases h1
  ·intro hz
   split at h2
   ·next b' e=>rw [θ8,e,α9 h2]
   ·simp at h2;exact absurd h2 hz
 |(a,b,c)::l,k,hb,f+1,ft,off,sz,hf=>by
  simp only [Lr,α3]at hb
  have:=Qk l (k+1) hb.2 f ft off sz hf
  rw [show k+(f+1)=k+1+f by omega];exact this
theorem UI {f ft off sz:Nat}(hf:i.flds[f]?=some (ft,off,sz)):fieldInfo P t f=some (ft,off)∧(sz≠0→Dy P t f=some off):=by
 have:=(DW h).2.2.2.1
 split at this
 ·next e=>rw [e]at hf;cases hf
 ·rw [α3]at this
  have:=Qk h i.flds 0 this.1 f ft off sz hf
  rwa [ε0]at this
theorem kO (hn:i.flds≠[]):placesOf P t=some (i.flds.map (·.2)):=by
 have:=(DW h).2.2.2.1
 split at this
 ·next e=>exact absurd e hn
 ·rw [α3]at this
  have:=this.2
  unfold tF at this
  split at this
  ·next ps e=>rw [e];simpa using this
  ·cases this
theorem UJ {k:IntKind}(ho:i.knd=some k):P.underlying t=some (.int k):=by have:=(DW h).2.2.2.2.1;rw [ho]at this;exact Xd this
theorem PT (ho:i.isS=true):LU P t=true:=by have:=(DW h).2.2.2.2.2.1;rw [ho]at this;simpa using this
theorem Ql (ho:i.isB=true):P.underlying t=some .bool:=by
 have:=(DW h).2.2.2.2.2.2.1
 rw [ho]at this
 simp only [UH,Bool.not_true,Bool.false_or]at this
 split at this
 ·assumption
 ·cases this
theorem D0 {e s b:Nat}(ho:i.elm=some (e,s,b)):FA P t e s b=true:=by have:=(DW h).2.2.2.2.2.2.2.1;rw [ho]at this;exact this
theorem bS {qs:List Nat}(ho:i.eqk=some qs):UG P t qs=true:=by have:=(DW h).2.2.2.2.2.2.2.2.1;rw [ho]at this;exact this
theorem Mm {n e s:Nat}(ho:i.arr=some (n,e,s)):Ny P t n e s=true:=by have:=(DW h).2.2.2.2.2.2.2.2.2;rw [ho]at this;exact this
end
def lg {α:Type}:List α→Nat→Option α
 | [],_=>none
 |x::_,0=>some x
 |_::l,k+1=>lg l k
theorem BI {α:Type}:∀(l:List α) (k:Nat),lg l k=l[k]?
 | [],_=>rfl
 |_::_,0=>rfl
 |_::l,k+1=>by rw [lg,BI l k];rfl
def tk {α:Type}:Nat→List α→Option (List α)
 |0,_=>some []
 |_+1,[]=>none
 |m+1,x::l=>match tk m l with
  |some r=>some (x::r)
  |none=>none
theorem IG {α:Type}:∀{m:Nat} {l r:List α},tk m l=some r→r=l.take m∧m≤l.length
 |0,l,r,h=>by cases h;simp
 |m+1,[],r,h=>by cases h
 |m+1,x::l,r,h=>by
  unfold tk at h
  split at h
  ·next s hs=>cases h;obtain⟨rfl,h2⟩:=IG hs;simp;exact h2
  ·cases h
def dp {α:Type}:Nat→List α→List α
 |0,l=>l
 |_+1,[]=>[]
 |o+1,_::l=>dp o l
theorem Hd {α:Type}:∀(o:Nat) (l:List α),dp o l=l.drop o
 |0,l=>by simp [dp]
 |o+1,[]=>by simp [dp]
 |o+1,x::l=>by simp [dp,Hd o l]
def sp {α:Type}:Nat→List α→List α→Option (List α)
 |0,cs,[]=>some cs
 |0,[],_::_=>none
 |0,_::cs,x::xs=>match sp 0 cs xs with
  |some r=>some (x::r)
  |none=>none
 |_+1,[],_=>none
 |o+1,c::cs,xs=>match sp o cs xs with
  |some r=>some (c::r)
  |none=>none
theorem JZ {α:Type}:∀{o:Nat} {cs xs r:List α},sp o cs xs=some r→r=cs.take o++xs++cs.drop (o+xs.length)∧o+xs.length≤cs.length
 |0,cs,[],r,h=>by simp [sp]at h;subst h;simp
 |0,[],_::_,r,h=>by simp [sp]at h
 | 0,c::cs,x::xs,r,h=>by
  unfold sp at h
  split at h
  ·next s hs=>
   cases h
   obtain⟨h1,h2⟩:=JZ hs
   subst h1
   simp at h2⊢
   exact h2
  ·cases h
 |o+1,[],xs,r,h=>by simp [sp]at h
 | o+1,c::cs,xs,r,h=>by
  unfold sp at h
  split at h
  ·next s hs=>
   cases h
   obtain⟨h1,h2⟩:=JZ hs
   subst h1
   rw [show o+1+xs.length=o+xs.length+1 by omega]
   simp at h2⊢
   omega
  ·cases h
theorem I6 {g:Nat}{t:TypeId}:∀(new old A B:List Value) (w:World),old.length=new.length→EV w g (A++old++B).toArray t→EV (w.setCells g A.length new) g (A++new++B).toArray t∧XU g w (w.setCells g A.length new)
 | [],[],A,B,w,_,h=>⟨h,rfl,rfl,rfl,rfl,fun _ _=>rfl⟩
 | [],_::_,_,_,_,h,_=>by cases h
 |_::_,[],_,_,_,h,_=>by cases h
 | x::new,y::old,A,B,w,hl,h=>by
  have h1:EV (w.setCell ⟨g,A.length,none⟩ x) g ((A++[x])++old++B).toArray t:=by
   have:=h.set (k:=A.length) x
   simpa using this
  have hl':old.length=new.length:=by simpa using hl
  obtain⟨h2,h3⟩:=I6 new old (A++[x]) B _ hl' h1
  have e:w.setCells g A.length (x::new)=(w.setCell ⟨g,A.length,none⟩ x).setCells g (A++[x]).length new:=by
   rw [World.setCells];simp
  rw [e]
  refine⟨by simpa using h2,?_⟩
  have u:=Nw w g A.length x
  exact⟨h3.os.trans u.os,h3.tape.trans u.tape,h3.output.trans u.output,h3.size.trans u.size,fun k hk=>(h3.block k hk).trans (u.block k hk)⟩
abbrev Ob:=List (Bool×Bool)
def Dr (E:Ob):Prop:=E.map (·.1)=E.map (·.2)
theorem Ah:Dr []:=rfl
theorem Az {E F:Ob}(h:Dr (E++F)):Dr E∧Dr F:=by
 unfold Dr at*
 simp only [ζ5]at h
 exact ξ2 h (by simp)
theorem IH {x:Bool×Bool}{F:Ob}(h:Dr (x::F)):x.1=x.2∧Dr F:=by
 unfold Dr at*
 simp only [ζ4,θ2]at h
 exact h
def tG:Value→SV
 | .bool true=>.tt
 | .bool false=>.ff
 | .int k n=>.int k n
 | .string s=>.str s.data.toList
 | .slice ao n c=>.sla ao n c
 |x=>.v x
theorem Xe {G:Gr}(x:Value):den G (tG x)=some x:=by
 unfold tG
 split<;>first|rfl|simp [den,kJ]
def Db (T:List (Nat×SV)):Operand→Option SV
 | .tmp t=>look T t
 | .const v=>some (tG v)
 | .global g=>some (.v (.pointer (some ⟨g,0,none⟩)))
 | .func f=>some (.fn f [])
def G8 (gc:Option Bool)(T:List (Nat×SV))(x:Operand):Option (SV×Ob):=match Db T x with
 |some (.opt b y)=>match gc with
  |some g=>some (y,[(b,g)])
  |none=>none
 |some y=>some (y,[])
 |none=>none
def Js (gc:Option Bool):Prop:=∀g,gc=some g→g=true
section
variable {n:Nat}{T:List (Nat×SV)}{H:Hp}{ks:List Nat}{G0:Gr}{w0:World}{G:Gr}{a:Act}{w:World}
theorem Sy.ev (A:Sy n T H ks G0 w0 G a w){x:Operand}{y:SV}(h:Db T x=some y):den G y=some (a.eval x):=by
 cases x with
 |tmp t=>exact A.get t y h
 |const v=>cases h;exact Xe v
 |global g=>cases h;rfl
 |func f=>cases h;rfl
theorem Sy.evg (A:Sy n T H ks G0 w0 G a w){gc:Option Bool}(hg:Js gc){x:Operand}{y:SV}{E:Ob}(h:G8 gc T x=some (y,E))(hE:Dr E):den G y=some (a.eval x):=by
 unfold G8 at h
 split at h
 ·next b z hz=>
  split at h
  ·next g=>
   cases h
   have e:=(IH hE).1
   have hg:=hg g rfl
   simp only at e
   rw [hg]at e
   subst e
   have:=A.ev hz
   unfold den at this
   obtain⟨v,h1,h2⟩:=γ9.1 this
   rw [h1];exact congrArg some h2
  ·cases h
 ·next z _ hz=>cases h;exact A.ev hz
 ·cases h
end
inductive Out where
 |val (x:SV) (E:Ob)
 |new (t:TypeId) (e:Bo) (x:SV)
 |upd (i:Nat) (cs:List SV) (E:Ob)
def SV.toB:SV→Option Bool
 | .tt=>some true
 | .ff=>some false
 | .bool b=>some b
 |_=>none
theorem SV.toB_den {G:Gr}{x:SV}{b:Bool}(h:x.toB=some b):den G x=some (.bool b):=by
 cases x<;>simp [SV.toB]at h<;>subst h<;>rfl
def kP (op:BinOp)(a b:Int):Option Bool:=match op with
 | .eql=>some (a==b)
 | .neq=>some (!(a==b))
 | .lss=>some (decide (a<b))
 | .leq=>some (decide (a≤b))
 | .gtr=>some (decide (a>b))
 | .geq=>some (decide (a≥b))
 |_=>none
def kQ (op:BinOp)(a b:Int):Option Int:=match op with
 | .add=>some (a+b)
 | .sub=>some (a - b)
 | .mul=>some (a*b)
 |_=>none
def N1:Nat→SV→SV→Option Bool
 |0,.int k a,.int k' b=>bif k==k' then some (a==b)else none
 |1,x,y=>match x.toB,y.toB with
  |some p,some q=>some (p==q)
  |_,_=>none
 |2,.str l,.str m=>some (l==m)
 |_,_,_=>none
def Xf:List Nat→List SV→List SV→Option Bool
 | [],[],[]=>some true
 | [q],[x],[y]=>N1 q x y
 |q::qs,x::xs,y::ys=>match N1 q x y,Xf qs xs ys with
  |some a,some b=>some (a&&b)
  |_,_=>none
 |_,_,_=>none
theorem SR {G:Gr}{q:Nat}{x y:SV}{u v:Value}{r:Bool}(h:N1 q x y=some r)(hx:den G x=some u)(hy:den G y=some v):cellEq q u v=some r:=by
 unfold N1 at h
 split at h
 ·next k a k' b=>
  cases hk:k==k' with
  |false=>rw [hk]at h;cases h
  |true=>rw [hk]at h;cases h;cases hx;cases hy;have:=ν4 hk;subst this;simp [cellEq]
 ·split at h
  ·next p q hp hq=>
   cases h
   have e1:=SV.toB_den (G:=G) hp
   have e2:=SV.toB_den (G:=G) hq
   rw [hx]at e1;rw [hy]at e2
   cases e1;cases e2;rfl
  ·cases h
 ·cases h;cases hx;cases hy;simp [cellEq,PQ]
 ·cases h
theorem Xg {G:Gr}:∀{qs:List Nat} {xs ys:List SV} {us vs:List Value} {r:Bool},Xf qs xs ys=some r→Al G xs=some us→Al G ys=some vs→Cz qs us vs=some r∧us.length=qs.length∧vs.length=qs.length:=by
 intro qs
 induction qs with
 | nil=>
  intro xs ys us vs r h hx hy
  cases xs with
  |nil=>
   cases ys with
   |nil=>cases h;cases hx;cases hy;exact⟨rfl,rfl,rfl⟩
   |cons y ys=>simp [Xf]at h
  |cons x xs=>simp [Xf]at h
 | cons q qs ih=>
  intro xs ys us vs r h hx hy
  cases xs with
  |nil=>cases qs<;>simp [Xf]at h
  | cons x xs=>
   cases ys with
   |nil=>cases qs<;>cases xs<;>simp [Xf]at h
   | cons y ys=>
    obtain⟨u,us',h1,h2,rfl⟩:=Bg hx
    obtain⟨v,vs',h3,h4,rfl⟩:=Bg hy
    have key:∀a b,N1 q x y=some a→Xf qs xs ys=some b→r=(a&&b)→Cz (q::qs) (u::us') (v::vs')=some r∧(u::us').length=(q::qs).length∧(v::vs').length=(q::qs).length:=by
     intro a b ha hb hr
     obtain⟨i1,i2,i3⟩:=ih hb h2 h4
     refine⟨?_,by simp [i2],by simp [i3]⟩
     simp [Cz,SR ha h1 h3,i1,hr]
    unfold Xf at h
    split at h
    ·next e=>cases e
    ·next e1 e2 e3=>cases e1;cases e2;cases e3;exact key r true h rfl (by simp)
    ·next e1 e2 e3=>
     cases e1;cases e2;cases e3
     split at h
     ·next a b ha hb=>cases h;exact key a b ha hb rfl
     ·cases h
    ·cases h
def yC (op:BinOp)(k:IntKind)(a b:Int):Option Int:=match op with
 | .shl=>some (k.wrap (a*2^min b.toNat k.bits))
 | .shr=>some (a.fdiv (2^min b.toNat k.bits))
 |_=>none
def kR (op:BinOp)(k:IntKind)(a b:Int):Option Int:=match op with
 | .quo=>some (k.wrap (a.tdiv b))
 | .rem=>some (a.tmod b)
 |_=>none
def kS (op:BinOp)(k:IntKind)(a b:Int):Option Int:=match op with
 | .and=>some (k.wrap ((BitVec.ofInt k.bits a&&&BitVec.ofInt k.bits b).toNat))
 | .or=>some (k.wrap ((BitVec.ofInt k.bits a|||BitVec.ofInt k.bits b).toNat))
 | .xor=>some (k.wrap ((BitVec.ofInt k.bits a^^^BitVec.ofInt k.bits b).toNat))
 | .andNot=>some (k.wrap ((BitVec.ofInt k.bits a&&& ~~~ (BitVec.ofInt k.bits b)).toNat))
 |_=>none
def bT (X:Tx) (op:BinOp) (t:TypeId) (x y:SV):Option (SV×List Bool):=match x,y with
  | .int k a,.int k' b=>match yC op k a b with
   |some m=>some (.int k m,[decide (0≤b)])
   | none=>bif k==k' then(match kP op a b with
    |some r=>some (.bool r,[])
    | none=>match kR op k a b with
     |some m=>some (.int k m,[decide (b≠0)])
     |none=>match kS op k a b with
     |some m=>some (.int k m,[])
     |none=>match kQ op a b with
      | some m=>bif X.nw then(match k with
        | .i64=>some (.int .i64 m,[decide (-9223372036854775808≤m∧m≤9223372036854775807)])
        |_=>some (.int k (k.wrap m),[]))else some (.int k (k.wrap m),[])
      |none=>none)else none
  | .str l,.str m=>match op with
    | .eql=>some (.bool (l==m),[])
    | .neq=>some (.bool (!(l==m)),[])
    | .add=>some (.str (l++m),[decide (l.length+m.length≤9223372036854775807)])
    |_=>none
  | .agg xs,.agg ys=>match X.get t with
    | some i=>match i.eqk with
      | some qs=>match Xf qs xs ys with
        | some r=>match op with
          | .eql=>some (.bool r,[])
          | .neq=>some (.bool (!r),[])
          |_=>none
        |none=>none
      |none=>none
    |none=>none
  | x,y=>match x.toB,y.toB with
    | some p,some q=>match X.get t with
      | some i=>bif i.isB then(match op with
        | .eql=>some (.bool (p==q),[])
        | .neq=>some (.bool (!(p==q)),[])
        |_=>none)else none
      |none=>none
    |_,_=>none
theorem II {m:Int}(h: -9223372036854775808≤m∧m≤9223372036854775807):IntKind.wrap .i64 m=m:=by simp only [IntKind.wrap,IntKind.signed,IntKind.bits];simp;omega
theorem kT {P:Program}{t:TypeId}(x y:Operand)(a b:Bool)(w:World)(ht:P.underlying t=some .bool):(eqGuard .eql t x y (.bool a) (.bool b)).run P w=.ok () w∧(binOp .eql t (.bool a) (.bool b)).run P w=.ok (.bool (a==b)) w:=by
 exact⟨by simp [eqGuard],run_eql_bool w t a b ht⟩
theorem kU {P:Program}{t:TypeId}(x y:Operand)(a b:Bool)(w:World)(ht:P.underlying t=some .bool):(eqGuard .neq t x y (.bool a) (.bool b)).run P w=.ok () w∧(binOp .neq t (.bool a) (.bool b)).run P w=.ok (.bool (!(a==b))) w:=by
 exact⟨by simp [eqGuard],run_neq_bool w t a b ht⟩
theorem UK {P:Program} {X:Tx} (hX:X.ok P=true) {G:Gr} {op:BinOp} {t:TypeId} {x y r:SV} {q:List Bool} {u v:Value} (h:bT X op t x y=some (r,q)) (hx:den G x=some u) (hy:den G y=some v) (ox oy:Operand) (w:World):
    ∃z,den G r=some z∧((∀p∈q,p=true)→(eqGuard op t ox oy u v).run P w=.ok () w∧(binOp op t u v).run P w=.ok z w):=by
  unfold bT at h
  split at h
  · next k a k' b =>
   split at h
   · next m hm=>
     cases h;cases hx;cases hy
     refine⟨_,rfl,fun hq=>?_⟩
     have h0:0≤b:=δ0 (hq _ (by simp))
     have h1:¬b<0:=by omega
     cases op<;>simp only [yC]at hm<;>first|(cases hm;done)|skip
     all_goals cases hm
     all_goals exact⟨by simp [eqGuard],by simp [binOp,Op.shift,h1]⟩
   · cases hk : k ==k' with
    |false=>rw [hk]at h;cases h
    | true=>
      rw [hk]at h
      have:=ν4 hk
      subst this
      cases hx;cases hy
      simp only [θ3]at h
      split at h
      · next r' hr=>
        cases h
        refine⟨_,rfl,fun _=>?_⟩
        cases op<;>simp only [kP]at hr<;>first|(cases hr;done)|skip
        all_goals cases hr
        ·exact sY ox oy a b _ w rfl
        ·exact sZ ox oy a b _ w rfl
        ·exact s8 ox oy a b _ w rfl
        ·exact s9 ox oy a b _ w rfl
        ·exact tA ox oy a b _ w rfl
        ·exact tB ox oy a b _ w rfl
      · split at h
        · next m hm=>
          cases h
          refine⟨_,rfl,fun hq=>?_⟩
          have h0:b≠0:=δ0 (hq _ (by simp))
          cases op<;>simp only [kR]at hm<;>first|(cases hm;done)|skip
          all_goals cases hm
          all_goals exact⟨by simp [eqGuard],by simp [binOp,Op.intDiv,h0]⟩
        · split at h
          · next m hm=>
            cases h
            refine⟨_,rfl,fun hq=>?_⟩
            cases op<;>simp only [kS]at hm<;>first|(cases hm;done)|skip
            all_goals cases hm
            all_goals exact⟨by simp [eqGuard],by simp [binOp,Op.intBits]⟩
          · split at h
            · next m hm=>
              have key:(eqGuard op t ox oy (.int k a) (.int k b)).run P w=.ok () w∧(binOp op t (.int k a) (.int k b)).run P w=.ok (.int k (k.wrap m)) w:=by
                cases op<;>simp only [kQ]at hm<;>first|(cases hm;done)|skip
                all_goals cases hm
                all_goals exact⟨by simp [eqGuard],by simp [binOp,Op.intArith]⟩
              cases hn:X.nw with
              |false=>rw [hn]at h;cases h;exact⟨_,rfl,fun _=>key⟩
              | true=>
                rw [hn]at h
                simp only [θ3]at h
                split at h
                · cases h
                  refine⟨_,rfl,fun hq=>?_⟩
                  have:=II (m:=m) (δ0 (hq _ (by simp)))
                  rw [this]at key
                  exact key
                ·cases h;exact⟨_,rfl,fun _=>key⟩
            ·cases h
  · next l m=>
    cases hx;cases hy
    split at h
    ·cases h;exact⟨_,rfl,fun _=>kL rfl⟩
    ·cases h;exact⟨_,rfl,fun _=>kM rfl⟩
    ·cases h;exact⟨_,rfl,fun hq=>bP (δ0 (hq _ (by simp)))⟩
    ·cases h
  · next xs ys=>
    split at h
    · next i hi=>
      split at h
      · next qs hqs=>
        split at h
        · next r' hr=>
          unfold den at hx hy
          obtain⟨us,u1,u2⟩:=γ9.1 hx
          obtain⟨vs,v1,v2⟩:=γ9.1 hy
          subst u2;subst v2
          obtain⟨c1,c2,c3⟩:=Xg hr u1 v1
          have key:=bQ (P:=P) (w:=w) (bS (Tb.at hX hi) hqs) (xs:=us.toArray) (ys:=vs.toArray) (by simpa using c2) (by simpa using c3) (by simpa using c1) ox oy
          split at h
          ·cases h;exact⟨_,rfl,fun _=>key.1⟩
          ·cases h;exact⟨_,rfl,fun _=>key.2⟩
          ·cases h
        ·cases h
      ·cases h
    ·cases h
  · split at h
    · next p q hp hq=>
      split at h
      · next i hi=>
        have ht:=Tb.at hX hi
        cases hb:i.isB with
        |false=>rw [hb]at h;cases h
        | true=>
          rw [hb]at h
          simp only [θ3]at h
          have e1:=SV.toB_den (G:=G) hp
          have e2:=SV.toB_den (G:=G) hq
          rw [hx]at e1
          rw [hy]at e2
          cases e1;cases e2
          split at h
          ·cases h;exact⟨_,rfl,fun _=>kT ox oy p q w (Ql ht hb)⟩
          ·cases h;exact⟨_,rfl,fun _=>kU ox oy p q w (Ql ht hb)⟩
          ·cases h
      ·cases h
    ·cases h
section
variable {n:Nat}{T:List (Nat×SV)}{H:Hp}{ks:List Nat}{G0:Gr}{w0:World}{G:Gr}{a:Act}{w:World}
theorem Sy.evx (A:Sy n T H ks G0 w0 G a w){gc:Option Bool}{x:Operand}{y:SV}{E:Ob}(h:G8 gc T x=some (y,E)):∃v,den G y=some v∧(Dr E→Js gc→a.eval x=v):=by
 have key:∃v,den G y=some v:=by
  unfold G8 at h
  split at h
  ·next b z hz=>
   split at h
   ·cases h
    have:=A.ev hz
    unfold den at this
    obtain⟨v,h1,_⟩:=γ9.1 this
    exact⟨v,h1⟩
   ·cases h
  ·next z _ hz=>cases h;exact⟨_,A.ev hz⟩
  ·cases h
 obtain⟨v,hv⟩:=key
 exact⟨v,hv,fun hE hg=>by have:=A.evg hg h hE;rw [hv]at this;exact(β6 this).symm⟩
end
def DX (X:Tx)(t:TypeId)(cs:List SV)(o:Nat):Option SV:=match X.get t with
 | some f=>match f.row with
  |some 0=>none
  |some (m+1)=>match tk (m+1) (dp o cs)with
   |some r=>some (.agg r)
   |none=>none
  |none=>bif f.one then lg cs o else none
 |none=>none
def partsOf:Option (Option Bo)→Option (Nat×Nat×(Nat→List SV))
 |some (some (.lst s n f))=>some (s,n,f)
 |some (some (.row _ s n _ f))=>some (s,n,f)
 |_=>none
def Qm (k:IntKind):List SV→Option (List Int)
 | []=>some []
 | .int k' n::l=>match k==k',Qm k l with
  |true,some r=>some (n::r)
  |_,_=>none
 |_::_=>none
def Qn:List SV→Option (List (List UInt8))
 | []=>some []
 | .str s::l=>match Qn l with
  |some r=>some (s::r)
  |none=>none
 |_::_=>none
def Qo:List SV→Option (List Bool)
 | []=>some []
 |x::l=>match x.toB,Qo l with
  |some b,some r=>some (b::r)
  |_,_=>none
def bU (rs:List SV)(j:Int):Option SV:=match rs with
 | .int k _::_=>match Qm k rs with
  |some l=>some (.int k (l.getD j.toNat 0))
  |none=>none
 | .str _::_=>match Qn rs with
  |some l=>some (.str (l.getD j.toNat []))
  |none=>none
 |_=>match Qo rs with
  |some l=>some (.bool (l.getD j.toNat false))
  |none=>none
theorem N2 {k:IntKind}:∀{l:List SV} {r:List Int},Qm k l=some r→∀(i:Nat) (x:SV),l[i]?=some x→x=.int k (r.getD i 0)
 | [],r,h,i,x,hx=>by cases hx
 | y::l,r,h,i,x,hx=>by
  unfold Qm at h
  split at h
  ·next e=>cases e
  ·next k' n l' e=>
   cases e
   split at h
   ·next r' hk hr=>
    cases h
    cases i with
    |zero=>cases hx;have:=ν4 hk;subst this;rfl
    |succ i=>exact N2 hr i x hx
   ·cases h
  ·cases h
theorem N3:∀{l:List SV} {r:List (List UInt8)},Qn l=some r→∀(i:Nat) (x:SV),l[i]?=some x→x=.str (r.getD i [])
 | [],r,h,i,x,hx=>by cases hx
 | y::l,r,h,i,x,hx=>by
  unfold Qn at h
  split at h
  ·next e=>cases e
  ·next s l' e=>
   cases e
   split at h
   ·next r' hr=>
    cases h
    cases i with
    |zero=>cases hx;rfl
    |succ i=>exact N3 hr i x hx
   ·cases h
  ·cases h
theorem N4 {G:Gr}:∀{l:List SV} {r:List Bool},Qo l=some r→∀(i:Nat) (x:SV),l[i]?=some x→den G x=some (.bool (r.getD i false))
 | [],r,h,i,x,hx=>by cases hx
 | y::l,r,h,i,x,hx=>by
  unfold Qo at h
  split at h
  ·next b r' hb hr=>
   cases h
   cases i with
   |zero=>cases hx;exact SV.toB_den hb
   |succ i=>exact N4 hr i x hx
  ·cases h
theorem UL {G:Gr}{rs:List SV}{j:Int}{r:SV}(h:bU rs j=some r):(∃v,den G r=some v)∧∀x,rs[j.toNat]?=some x→den G r=den G x:=by
 unfold bU at h
 split at h
 ·next k n l=>
  split at h
  ·next q hq=>cases h;exact⟨⟨_,rfl⟩,fun x hx=>by rw [N2 hq _ x hx]⟩
  ·cases h
 ·next s l=>
  split at h
  ·next q hq=>cases h;exact⟨⟨_,rfl⟩,fun x hx=>by rw [N3 hq _ x hx]⟩
  ·cases h
 ·split at h
  ·next q hq=>cases h;exact⟨⟨_,rfl⟩,fun x hx=>by rw [N4 hq _ x hx];rfl⟩
  ·cases h
def Xh (g:Nat→Option SV):Nat→Nat→Option (List SV)
 |_,0=>some []
 |k,n+1=>match g k,Xh g (k+1) n with
  |some x,some r=>some (x::r)
  |_,_=>none
theorem Qp {g:Nat→Option SV}:∀{n k:Nat} {r:List SV},Xh g k n=some r→∀i,i<n→∃x,r[i]?=some x∧g (k+i)=some x
 |0,_,_,_,i,hi=>by omega
 | n+1,k,r,h,i,hi=>by
  unfold Xh at h
  split at h
  ·next x r' hx hr=>
   cases h
   cases i with
   |zero=>exact⟨x,rfl,hx⟩
   |succ i=>
    obtain⟨y,h1,h2⟩:=Qp hr i (by omega)
    exact⟨y,h1,by rw [show k+(i+1)=k+1+i by omega];exact h2⟩
  ·cases h
def LV (X:Tx)(t:TypeId)(cs:List SV):List (Nat×Nat×Int)→Nat→Option SV
 | [],off=>DX X t cs off
 |(s,n,j)::js,off=>match Xh (fun c=>LV X t cs js (off+c*s)) 0 n with
  |some rs=>bU rs j
  |none=>none
def Mn:List (Nat×Nat×Int)→Nat
 | []=>0
 |(s,_,j)::js=>j.toNat*s+Mn js
def kV:List (Nat×Nat×Int)→Prop
 | []=>True
 |(_,n,j)::js=>j.toNat<n∧kV js
def Gg (H:Hp):SV→Option (List SV×Nat×List (Nat×Nat×Int)×List Bool)
 | .ptr i o=>match lg H i with
  |some (some (.blk cs))=>some (cs,o,[],[])
  |_=>none
 | .el i s j o=>match partsOf (lg H i)with
  |some (s',n,f)=>match Nat.beq s s' with
   |true=>some (f j.toNat,o,[],[decide (j.toNat<n)])
   |false=>none
  |none=>none
 | .ix p s n j k=>match Gg H p with
  |some (cs,o,js,q)=>some (cs,o+k,js++[(s,n,j)],q++[decide (j.toNat<n)])
  |none=>none
 |_=>none
def Ev (X:Tx)(H:Hp)(t:TypeId)(x:SV):Option (SV×List Bool):=match Gg H x with
 |some (cs,o,js,q)=>match LV X t cs js o with
  |some r=>some (r,q)
  |none=>none
 |none=>none
def ZQ (H:Hp):SV→Option (List Bool)
 | .ptr _ _=>some []
 | .el i _ j _=>match partsOf (lg H i)with
  |some (_,n,_)=>some [decide (j.toNat<n)]
  |none=>none
 | .ix p _ _ _ _=>ZQ H p
 |_=>none
def ZR (gc:Option Bool)(p:Bool):Bool×Bool:=match gc with
 |none=>(p,true)
 |some b=>(!b||p,true)
theorem Dd {gc:Option Bool}(hg:Js gc){l:List Bool}(h:Dr (l.map (ZR gc))):∀p∈l,p=true:=by
 induction l with
 |nil=>intro p hp;cases hp
 | cons x l ih=>
  obtain⟨h1,h2⟩:=IH h
  intro p hp
  rcases ζ9.1 hp with rfl|hp
  ·unfold ZR at h1
   cases gc with
   |none=>exact h1
   |some b=>have:=hg b rfl;subst this;simpa using h1
  ·exact ih h2 p hp
def yD (X:Tx)(H:Hp)(t:TypeId)(x i:SV):Option (SV×List Bool):=match x,i with
 | .sl k n _,.int .i64 j=>match X.get t,partsOf (lg H k)with
  |some f,some (_,m,_)=>match f.elm with
   |some (_,s,_)=>some (.el k s j 0,[decide (0≤j∧j<(n:Int)∧j.toNat<m)])
   |none=>none
  |some f,none=>match f.elm,lg H k with
   |some (_,s,_),some (some (.blk _))=>some (.ix (.ptr k 0) s n j 0,[decide (0≤j∧j<(n:Int))])
   |_,_=>none
  |_,_=>none
 | .sp p n _,.int .i64 j=>match X.get t with
  |some f=>match f.elm,ZQ H p with
   |some (_,s,_),some q=>some (.ix p s n j 0,q++[decide (0≤j∧j<(n:Int))])
   |_,_=>none
  |none=>none
 | .st k s' b n c,.int .i64 j=>match X.get t,lg H k with
  |some f,some (some (.row _ _ m c' _))=>match f.elm with
   |some (_,s,_)=>bif Nat.beq s s'&&Nat.beq c c' then some (.el k s ((b:Int)+j) 0,[decide (0≤j∧j<(n:Int)∧((b:Int)+j).toNat<m)])else none
   |none=>none
  |_,_=>none
 | x,.int .i64 j=>match X.get t with
  |some f=>match f.arr,ZQ H x with
   |some (m,_,s),some q=>some (.ix x s m j 0,q++[decide (0≤j∧j<(m:Int))])
   |_,_=>none
  |none=>none
 |_,_=>none
def yE (X:Tx) (t:TypeId) (x i:SV):Option (SV×List Bool):=match x,i with
 | .agg l,.int .i64 j=>match X.get t with
  | some f=>match f.arr with
   |some (m,e,s)=>match LV X e l [(s,m,j)] 0 with
    |some r=>some (r,[decide (0≤j∧j<(m:Int))])
    |none=>none
   |none=>none
  |none=>none
 | .str l,.int _ j=>match X.get t with
  |some f=>bif f.isS then some (.int .u8 (((l.getD j.toNat 0).toNat:Nat):Int),[decide (0≤j∧j<(l.length:Int))])else none
  |none=>none
 |_,_=>none
def Xi:Option (Option Bo)→Nat→Nat
 |some (some (.row _ _ m _ _)),_=>m
 |_,c=>c
def yF:Option (Option Bo)→Nat→Bool
 |some (some (.row _ _ _ c' _)),c=>Nat.beq c c'
 |_,_=>true
def ZS (X:Tx) (H:Hp) (t:TypeId) (x:SV) (lo hi:Option SV):Option (SV×List Bool):=match x with
 | .sl i n c=>match X.get t with
  | some f=>match f.elm with
   |some (_,s,_)=>match lo,hi with
    |some (.int .i64 a),none=>some (.st i s a.toNat (n - a.toNat) c,[decide (0≤a∧a≤(n:Int))])
    |none,some (.int .i64 b)=>bif yF (lg H i) c then some (.sl i b.toNat c,[decide (0≤b∧b≤(Xi (lg H i) c:Int))])else none
    |_,_=>none
   |none=>none
  |none=>none
 | .str l=>match X.get t with
  |some f=>bif f.isS then(match lo,hi with
   |some (.int .i64 a),none=>some (.str (l.drop a.toNat),[decide (0≤a∧a≤(l.length:Int))])
   |none,some (.int .i64 b)=>some (.str (l.take b.toNat),[decide (0≤b∧b≤(l.length:Int))])
   |some (.int .i64 a),some (.int .i64 b)=>some (.str ((l.take b.toNat).drop a.toNat),[decide (0≤a∧a≤b∧b≤(l.length:Int))])
   |_,_=>none)else none
  |none=>none
 | x=>match X.get t,lo,hi with
  | some f,none,none=>match f.arr,ZQ H x with
   |some (m,_,_),some q=>match m with
    |0=>none
    |m+1=>some (.sp x (m+1) (m+1),q)
   |_,_=>none
  |_,_,_=>none
def PU (X:Tx)(t:TypeId)(f:Nat):SV→Option SV
 | .agg l=>match X.get t with
  |some i=>match lg i.flds f with
   |some (ft,off,_)=>DX X ft l off
   |none=>none
  |none=>none
 |_=>none
def UM (X:Tx)(t:TypeId)(f:Nat):Option Nat:=match X.get t with
 | some j=>match lg j.flds f with
  |some (_,off,sz)=>match sz with
   |0=>none
   |_+1=>some off
  |none=>none
 |none=>none
def bV (X:Tx)(H:Hp)(t:TypeId)(f:Nat):SV→Option (SV×List Bool)
 | .ptr i o=>match UM X t f with
  |some off=>some (.ptr i (o+off),[])
  |none=>none
 | .el i s j o=>match UM X t f,partsOf (lg H i)with
  |some off,some (_,n,_)=>some (.el i s j (o+off),[decide (j.toNat<n)])
  |_,_=>none
 | .ix p s n j k=>match UM X t f,ZQ H p with
  |some off,some q=>some (.ix p s n j (k+off),q)
  |_,_=>none
 |_=>none
def He:List SV→Option Ob
 | []=>some []
 |x::l=>match x.oneB,He l with
  |some true,some E=>some E
  |some b,some E=>some ((b,true)::E)
  |_,_=>none
def Do (X:Tx) (H:Hp) (t:TypeId) (x y:SV):Option (Nat×List SV×Ob):=match x with
 | .ptr i o=>match lg H i with
  | some (some (.blk cs))=>match X.get t with
   | some f=>match f.row with
    | some m=>match y with
     | .agg l=>bif Nat.beq l.length m then(match sp o cs l,He l with
      |some r,some E=>some (i,r,E)
      |_,_=>none)else none
     |_=>none
    |none=>bif f.one then(match sp o cs [y],He [y]with
     |some r,some E=>some (i,r,E)
     |_,_=>none)else none
   |none=>none
  |_=>none
 |_=>none
def I7 (b:Bool):SV→SV×Ob
 | .opt c x=>(x,[(c,b)])
 |x=>(x,[])
def Qq (b:Bool):SV→SV→Option SV
 | .bool p,.ff=>some (.bool (b&&p))
 | .tt,.bool q=>some (.bool (b||q))
 | .int k n,.int k' m=>bif k==k' then some (.int k (bif b then n else m))else none
 | .str l,.str m=>some (.str (bif b then l else m))
 |x,y=>match x.toB,y.toB with
  |some p,some q=>some (.bool (bif b then p else q))
  |_,_=>none
def Mo (gc:Option Bool)(T:List (Nat×SV)):List (Nat×Operand)→Option (List (Nat×SV)×Ob)
 | []=>some ([],[])
 |(i,x)::l=>match G8 gc T x,Mo gc T l with
  |some (y,E),some (r,F)=>some ((i,y)::r,E++F)
  |_,_=>none
def I8:SV→Option (List SV)
 | .agg l=>some l
 | .tup _=>none
 | .opt _ _=>none
 | .v _=>none
 |x=>some [x]
def Qr (pl:List (Nat×Nat×Nat)):List SV→List (Nat×SV)→Option (List SV)
 |cs,[]=>some cs
 | cs,(i,x)::r=>match lg pl i,I8 x with
  |some (_,off,sz),some l=>bif Nat.beq l.length sz then(match sp off cs l with
   |some cs'=>Qr pl cs' r
   |none=>none)else none
  |_,_=>none
def Qs (s:Nat):List SV→List (Nat×SV)→Option (List SV)
 |cs,[]=>some cs
 | cs,(i,x)::r=>match I8 x with
  |some l=>bif Nat.beq l.length s then(match sp (i*s) cs l with
   |some cs'=>Qs s cs' r
   |none=>none)else none
  |none=>none
def N5 (gc:Option Bool)(T:List (Nat×SV)):List Operand→Option (List SV×Ob)
 | []=>some ([],[])
 |x::l=>match G8 gc T x,N5 gc T l with
  |some (y,E),some (r,F)=>some (y::r,E++F)
  |_,_=>none
def kW (X:Tx)(t:TypeId):SV→Option SV
 | .str l=>match X.get t with
  |some i=>bif i.isS then some (.int .i64 (l.length:Int))else none
  |none=>none
 | .sla _ n _=>match X.get t with
  |some i=>match i.elm with
   |some _=>some (.int .i64 (n:Int))
   |none=>none
  |none=>none
 | .sl _ n _=>match X.get t with
  |some i=>match i.elm with
   |some _=>some (.int .i64 (n:Int))
   |none=>none
  |none=>none
 | .st _ _ _ n _=>match X.get t with
  |some i=>match i.elm with
   |some _=>some (.int .i64 (n:Int))
   |none=>none
  |none=>none
 | .sp _ n _=>match X.get t with
  |some i=>match i.elm with
   |some _=>some (.int .i64 (n:Int))
   |none=>none
  |none=>none
 |_=>none
def ZT (X:Tx)(s t:TypeId):SV→Option SV
 | .int k n=>match X.get s,X.get t with
  |some i,some j=>match i.knd,j.knd with
   |some k1,some k2=>bif k==k1 then some (.int k2 (k2.wrap n))else none
   |_,_=>none
  |_,_=>none
 |_=>none
def Nr (gc:Option Bool)(T:List (Nat×SV)):Option Operand→Option (Option SV×Ob)
 |none=>some (none,[])
 |some x=>match G8 gc T x with
  |some (y,E)=>some (some y,E)
  |none=>none
def gb (gc:Option Bool)(b:Bool):Bool:=match gc with
 |none=>b
 |some g=>g&&b
theorem ZU {gc:Option Bool}(h:Js gc)(b:Bool):gb gc b=b:=by
 cases gc with
 |none=>rfl
 |some g=>have:=h g rfl;subst this;rfl
def UN:List SV→Bool
 | []=>true
 | .int _ _::l=>UN l
 | .bool _::l=>UN l
 | .tt::l=>UN l
 | .ff::l=>UN l
 | .str _::l=>UN l
 | .sla _ _ _::l=>UN l
 | .v _::l=>UN l
 |_::_=>false
theorem Qt:∀{l:List SV},UN l=true→∃vs,Al [] l=some vs∧vs.length=l.length
 | [],_=>⟨[],rfl,rfl⟩
 | x::l,h=>by
  have key:∀v,den [] x=some v→UN l=true→∃vs,Al [] (x::l)=some vs∧vs.length=(x::l).length:=fun v hv hl=>by
   obtain⟨vs,h1,h2⟩:=Qt hl
   exact⟨v::vs,Bb hv h1,by simp [h2]⟩
  cases x<;>simp only [UN]at h<;>first|(cases h;done)|exact key _ rfl h
def Xj (T:List (Nat×SV))(s:Nat):List (Nat×Operand)→Nat→Option (List SV)
 | [],_=>some []
 | (i,x)::l,k=>bif Nat.beq i k then(match G8 none T x,Xj T s l (k+1)with
  |some (y,[]),some r=>match I8 y with
   |some c=>bif Nat.beq c.length s then some (c++r)else none
   |none=>none
  |_,_=>none)else none
def Tv (X:Tx) (T:List (Nat×SV)) (H:Hp) (gc:Option Bool):Op→Option Out
 | .move x=>match G8 gc T x with
  |some (y,E)=>some (.val y E)
  |none=>none
 | .assign x=>match G8 gc T x with
  |some (y,E)=>some (.val y E)
  |none=>none
 | .extract x k=>match G8 gc T x with
  |some (.tup l,E)=>match lg l k with
   |some y=>some (.val y E)
   |none=>none
  |_=>none
 | .unOp .not _ x=>match G8 gc T x with
  |some (.tt,E)=>some (.val .ff E)
  |some (.ff,E)=>some (.val .tt E)
  |some (.bool b,E)=>some (.val (.bool !b) E)
  |_=>none
 | .unOp .neg _ x=>match G8 gc T x with
  |some (.int k n,E)=>some (.val (.int k (k.wrap (0 - n))) E)
  |_=>none
 | .nilCheck x=>match G8 gc T x with
  |some (.ptr i o,E)=>some (.val (.ptr i o) E)
  |_=>none
 | .fieldAddr t x f=>match G8 gc T x with
  |some (y,E)=>match bV X H t f y with
   |some (r,q)=>some (.val r (E++q.map (ZR gc)))
   |none=>none
  |none=>none
 | .field t x f=>match G8 gc T x with
  |some (y,E)=>match PU X t f y with
   |some r=>some (.val r E)
   |none=>none
  |none=>none
 | .load t x=>match G8 gc T x with
  |some (y,E)=>match Ev X H t y with
   |some (r,q)=>some (.val r (E++q.map (ZR gc)))
   |none=>none
  |none=>none
 | .indexAddr t x i=>match G8 gc T x,G8 gc T i with
  |some (y,E),some (z,F)=>match yD X H t y z with
   |some (r,q)=>some (.val r (E++(F++q.map (ZR gc))))
   |none=>none
  |_,_=>none
 | .index t x i=>match G8 gc T x,G8 gc T i with
  |some (y,E),some (z,F)=>match yE X t y z with
   |some (r,q)=>some (.val r (E++(F++q.map (ZR gc))))
   |none=>none
  |_,_=>none
 | .slice t x lo hi mx=>match mx with
  | none=>match G8 gc T x,Nr gc T lo,Nr gc T hi with
   |some (y,E),some (a,F),some (b,D)=>match ZS X H t y a b with
    |some (r,q)=>some (.val r (E++(F++(D++q.map (ZR gc)))))
    |none=>none
   |_,_,_=>none
  |some _=>none
 | .binOp op t x y _=>match G8 gc T x,G8 gc T y with
  |some (u,E),some (v,F)=>match bT X op t u v with
   |some (r,q)=>some (.val r (E++(F++q.map (ZR gc))))
   |none=>none
  |_,_=>none
 | .convert s t x=>match G8 gc T x with
  |some (y,E)=>match ZT X s t y with
   |some r=>some (.val r E)
   |none=>none
  |none=>none
 | .pick c x y=>match G8 gc T c with
  |some (.tt,E)=>match G8 gc T x with
   |some (u,F)=>some (.val u (E++F))
   |none=>none
  |some (.ff,E)=>match G8 gc T y with
   |some (u,F)=>some (.val u (E++F))
   |none=>none
  | some (.bool b,E)=>match Db T x,Db T y with
   | some p,some q=>match I7 (gb gc b) p,I7 (gb gc (!b)) q with
    |(u,F),(v,D)=>match Qq b u v with
     |some r=>some (.val r (E++(F++D)))
     |none=>none
   |_,_=>none
  |_=>none
 | .build t parts=>match X.get t,Mo gc T parts.toList with
  | some i,some (ps,E)=>match i.zero,i.flds with
   |some z,_::_=>match Qr i.flds z ps with
    |some cs=>some (.val (.agg cs) E)
    |none=>none
   | some z,[]=>match i.arr with
    |some (_,_,s)=>match Qs s z ps with
     |some cs=>some (.val (.agg cs) E)
     |none=>none
    |none=>none
   |_,_=>none
  |_,_=>none
 | .makeFunc fn first cap=>match fn,first.toList,N5 gc T cap.toList with
  | .func f,[],some (l,E)=>some (.val (.fn f l) E)
  |_,_,_=>none
 | .call c=>match c.callee,c.args.toList,c.argTypes.toList with
  | .builtin .len,[x],[t]=>match G8 gc T x with
   |some (y,E)=>match kW X t y with
    |some r=>some (.val r E)
    |none=>none
   |none=>none
  |_,_,_=>none
 | .alloc t=>match gc with
  | none=>match X.get t with
   |some i=>match i.zero with
    |some z=>some (.new t (.blk z) (.ptr H.length 0))
    |none=>none
   |none=>none
  |some _=>none
 | .box t x=>match gc with
  | none=>match G8 none T x with
   |some (y,[])=>match I8 y with
    |some l=>some (.new t (.blk l) (.ptr H.length 0))
    |none=>none
   |_=>none
  |some _=>none
 | .buildSlice t m parts=>match gc with
  | none=>match X.get t,Xj T ((X.get t).elim 0 fun i=>(i.elm.elim 0 fun e=>e.2.1)) parts.toList 0 with
   | some i,some cs=>match i.elm with
    | some (e,s,_)=>match Nat.beq parts.toList.length m&&Nat.ble (m*s) 4000 with
     | true=>match m,X.get e with
      | 0,some ie=>match ie.zero with
       |some z=>match Nat.beq z.length s&&UN z with
        |true=>some (.new e (.row e s 0 0 fun _=>z) (.sl H.length 0 0))
        |false=>none
       |none=>none
      |0,none=>none
      |m+1,_=>some (.new e (.blk cs) (.sl H.length (m+1) (m+1)))
     |false=>none
    |none=>none
   |_,_=>none
  |some _=>none
 | .store t x y=>match gc with
  | none=>match G8 none T x,G8 none T y with
   |some (u,E),some (v,F)=>match Do X H t u v with
    |some (i,cs,D)=>some (.upd i cs (E++(F++D)))
    |none=>none
   |_,_=>none
  |some _=>none
 |_=>none
theorem DY {G:Gr}:∀{l:List SV} {E:Ob} {vs:List Value},He l=some E→Dr E→Al G l=some vs→vs.all (·.oneCell')=true
 | [],E,vs,h,hE,hv=>by cases hv;rfl
 |x::l,E,vs,h,hE,hv=>by
  obtain⟨v,ws,h1,h2,rfl⟩:=Bg hv
  unfold He at h
  split at h
  ·next E' hx hl=>cases h;simp [SV.one_spec hx rfl h1,DY hl hE h2]
  ·next b E' _ hx hl=>cases h;obtain⟨e1,e2⟩:=IH hE;simp only at e1;simp [SV.one_spec hx e1 h1,DY hl e2 h2]
  ·cases h
theorem BK.range {G:Gr}{w:World}{p:Option Loc}{cs:List SV}(h:BK G w p (.blk cs)):∃L vs,p=some L∧Al G cs=some vs∧w.rangeAt L.b L.pre.length vs:=by
 obtain⟨L,vs,h1,h2,h3⟩:=h
 refine⟨L,vs,h1,h2,fun j x hx=>?_⟩
 refine h3.cell ?_
 have hj:=(α0.1 hx).1
 simp only [π2]
 rw [γ2,α2 (by omega),α1 (by omega)]
 simpa using hx
theorem LW {G:Gr}{l:List SV}{vs:List Value}(h:Al [] l=some vs):Al G l=some vs:=by
 have:=BT (G:=[]) G l h
 simpa using this
theorem DS {G:Gr}{i:Nat}{L:Loc}(h:(G[i]?).getD none=some L):G[i]?=some (some L):=by
 cases hq:G[i]? with
 |none=>rw [hq]at h;cases h
 |some p=>rw [hq]at h;simp at h;rw [h]
theorem Gh {H:Hp}{G:Gr}{w:World}(h:Mem H G w){i s n:Nat}{f:Nat→List SV}(hp:partsOf (lg H i)=some (s,n,f)):(∀k,∃vs,Al [] (f k)=some vs)∧∀k,k<n→∃L vs,(G[i]?).getD none=some L∧Al [] (f k)=some vs∧w.rangeAt L.b (L.pre.length+k*s) vs:=by
 unfold partsOf at hp
 split at hp
 ·next s' n' f' hi=>
  cases hp
  rw [BI]at hi
  have he:=h.ent i _ hi
  refine⟨he.1,fun k hk=>?_⟩
  rcases he.2 with h0|⟨L,e1,_,e3⟩
  ·omega
  ·obtain⟨vs,e4,e5⟩:=e3 k hk;exact⟨L,vs,e1,e4,e5⟩
 ·next e' s' n' c' f' hi=>
  cases hp
  rw [BI]at hi
  have he:=h.ent i _ hi
  refine⟨fun k=>by obtain⟨vs,h1,_⟩:=he.1 k;exact⟨vs,h1⟩,fun k hk=>?_⟩
  obtain⟨L,vs,e1,e2,_,e4⟩:=DP he hk
  exact⟨L,vs,e1,e2,e4⟩
 ·cases hp
section
variable {P:Program}{X:Tx}{ops:Array Oper}{n:Nat}{T:List (Nat×SV)}{H:Hp}{ks:List Nat}{G0:Gr}{w0:World}{G:Gr}{a:Act}{w:World}{K:Value→World→Prop}
variable {d:Option Tmp}{ty:TypeId}{pos:String}{af:Array Edge}{gd:Option (Nat×Bool)}
theorem Ls {t:TypeId}{cs:List SV}{vs:List Value}{o:Nat}{r:SV}(h:DX X t cs o=some r)(hv:Al G cs=some vs):∃z,den G r=some z:=by
 unfold DX at h
 split at h
 ·next f hf=>
  split at h
  ·cases h
  ·next m hm=>
   split at h
   ·next r' hr=>
    cases h
    have h2:=(IG hr).1
    subst h2
    rw [Hd]
    have:=Cf (m+1) (Cg o hv)
    refine⟨.agg ((vs.drop o).take (m+1)).toArray,?_⟩
    simp [den,this]
   ·cases h
  ·next hr=>
   cases CA:f.one with
   |false=>rw [CA]at h;cases h
   |true=>
    rw [CA]at h
    simp only [θ3,BI]at h
    obtain⟨v,_,h2⟩:=C5 hv h
    exact⟨v,h2⟩
 ·cases h
theorem Fx (hX:X.ok P=true) {t:TypeId} {cs:List SV} {vs:List Value} {o b q:Nat} {r:SV} {z:Value} {x:Operand} (h:DX X t cs o=some r) (hv:Al G cs=some vs) (hz:den G r=some z) (hr:w.rangeAt b q vs)
  (hw:Region.wanted {dst:=d,op:=.load t x,type:=ty,pos:=pos,after:=af,guard:=gd} (yielded ops a.tmps)=true) (hx:a.eval x=.pointer (some ⟨b,q+o,none⟩)) (hK:K z w):
  Bq P ops {dst:=d,op:=.load t x,type:=ty,pos:=pos,after:=af,guard:=gd} a w K:=by
 unfold DX at h
 split at h
 ·next f hf=>
  have ht:=Tb.at hX hf
  split at h
  ·cases h
  ·next m hm=>
   split at h
   ·next r' Nm=>
    cases h
    obtain⟨h2,h3⟩:=IG Nm
    subst h2
    rw [Hd]at hz h3
    have e:=Cf (m+1) (Cg o hv)
    simp only [den,e,δ4,β2]at hz
    subst hz
    have hl:=Be hv
    refine SQ hw hx ?_ ?_ hK
    ·rw [γ5]at h3
     have:((vs.drop o).take (m+1)).toArray.size=m+1:=by simp;omega
     rw [this];exact I5 ht hm
    ·intro j y hy
     have hj:=(α0.1 hy).1
     simp only [δ8,γ5]at hj
     rw [γ1 (by omega),η1]at hy
     have:=hr (o+j) y hy
     rwa [show q+(o+j)=q+o+j by omega]at this
   ·cases h
  ·next hm=>
   cases CA:f.one with
   |false=>rw [CA]at h;cases h
   |true=>
    rw [CA]at h
    simp only [θ3,BI]at h
    obtain⟨v,h1,h2⟩:=C5 hv h
    rw [hz]at h2
    cases h2
    exact bG hw hx (I4 ht CA) (hr o z h1) hK
 ·cases h
theorem KU {t:TypeId}{cs:List SV}{vs:List Value}(hv:Al G cs=some vs):∀{js:List (Nat×Nat×Int)} {off:Nat} {r:SV},LV X t cs js off=some r→∃z,den G r=some z∧(kV js→∃r',DX X t cs (off+Mn js)=some r'∧den G r'=some z)
 | [],off,r,h=>by
  obtain⟨z,hz⟩:=Ls h hv
  exact⟨z,hz,fun _=>⟨r,h,hz⟩⟩
 | (s,n,j)::js,off,r,h=>by
  unfold LV at h
  split at h
  ·next rs SC=>
   obtain⟨⟨z,hz⟩,W7⟩:=UL (G:=G) h
   refine⟨z,hz,fun⟨h1,h2⟩=>?_⟩
   obtain⟨x,a1,a2⟩:=Qp SC j.toNat h1
   rw [ε0]at a2
   obtain⟨z',b1,b2⟩:=KU hv a2
   obtain⟨r',c1,c2⟩:=b2 h2
   rw [W7 x a1,b1]at hz
   cases hz
   exact⟨r',by simp only [Mn];rw [←θ4];exact c1,c2⟩
  ·cases h
theorem N6:∀(js:List (Nat×Nat×Int)) (s n:Nat) (j:Int),Mn (js++[(s,n,j)])=Mn js+j.toNat*s
 | [],s,n,j=>by simp [Mn]
 |(a,b,c)::js,s,n,j=>by simp only [τ5,Mn,N6 js];omega
theorem Qu:∀{js:List (Nat×Nat×Int)} {s n:Nat} {j:Int},kV js→j.toNat<n→kV (js++[(s,n,j)])
 | [],_,_,_,_,h=>⟨h,trivial⟩
 |_::_,_,_,_,h1,h=>⟨h1.1,Qu h1.2 h⟩
theorem Qv (A:Sy n T H ks G0 w0 G a w):∀{x:SV} {v:Value} {cs:List SV} {o:Nat} {js:List (Nat×Nat×Int)} {q:List Bool},Gg H x=some (cs,o,js,q)→den G x=some v→∃vs,Al G cs=some vs∧((∀p∈q,p=true)→kV js∧∃b k,v=.pointer (some ⟨b,k+(o+Mn js),none⟩)∧w.rangeAt b k vs)
 | .ptr i o',v,cs,o,js,q,h,hy=>by
  simp only [Gg]at h
  split at h
  ·next cs' hi=>
   cases h
   rw [BI]at hi
   obtain⟨L,vs,h1,h2,h3⟩:=(A.mem.ent i _ hi).range
   refine⟨vs,h2,fun _=>⟨trivial,L.b,L.pre.length,?_,h3⟩⟩
   unfold den at hy
   rw [DS h1]at hy
   exact(β6 hy).symm
  ·cases h
 | .el i s j o',v,cs,o,js,q,h,hy=>by
  simp only [Gg]at h
  split at h
  ·next s' m f hi=>
   split at h
   ·next hb=>
    cases h
    have:=α9 hb
    subst this
    obtain⟨g1,g2⟩:=Gh A.mem hi
    obtain⟨vs,h1⟩:=g1 j.toNat
    refine⟨vs,LW h1,fun hq=>⟨trivial,?_⟩⟩
    have Bn:j.toNat<m:=δ0 (hq _ (by simp))
    obtain⟨L,vs',e1,e4,e5⟩:=g2 _ Bn
    rw [h1]at e4;cases e4
    refine⟨L.b,L.pre.length+j.toNat*s,?_,e5⟩
    unfold den at hy
    rw [DS e1]at hy
    exact(β6 hy).symm
   ·cases h
  ·cases h
 | .ix p s m j k,v,cs,o,js,q,h,hy=>by
  simp only [Gg]at h
  split at h
  ·next cs' o' js' q' hp=>
   cases h
   cases hu:den G p with
   |none=>unfold den at hy;rw [hu]at hy;cases hy
   |some u=>
    obtain⟨vs,h1,h2⟩:=Qv A hp hu
    refine⟨vs,h1,fun hq=>?_⟩
    obtain⟨h3,b,kk,h4,h5⟩:=h2 (fun p hp=>hq p (by simp [hp]))
    have Bn:j.toNat<m:=δ0 (hq _ (by simp))
    refine⟨Qu h3 Bn,b,kk,?_,h5⟩
    unfold den at hy
    rw [hu,h4]at hy
    rw [←β6 hy,N6]
    simp only [Value.pointer.injEq,β2,κ9,true_and,and_true]
    omega
  ·cases h
theorem N7 (A:Sy n T H ks G0 w0 G a w){t:TypeId}{y r:SV}{q:List Bool}{v:Value}(h:Ev X H t y=some (r,q))(hy:den G y=some v):∃z,den G r=some z∧((∀p∈q,p=true)→∃(cs:List SV) (o:Nat) (vs:List Value) (r':SV) (b k:Nat),DX X t cs o=some r'∧den G r'=some z∧Al G cs=some vs∧v=.pointer (some ⟨b,k+o,none⟩)∧w.rangeAt b k vs):=by
 unfold Ev at h
 split at h
 ·next cs o js q' hb=>
  split at h
  ·next r' hs=>
   cases h
   obtain⟨vs,h1,h2⟩:=Qv A hb hy
   obtain⟨z,hz,W7⟩:=KU h1 hs
   refine⟨z,hz,fun hq=>?_⟩
   obtain⟨h3,b,k,h4,h5⟩:=h2 hq
   obtain⟨r'',c1,c2⟩:=W7 h3
   exact⟨cs,_,vs,r'',b,k,c1,c2,h1,h4,h5⟩
  ·cases h
 ·cases h
theorem FZ (hX:X.ok P=true)(A:Sy n T H ks G0 w0 G a w){t:TypeId}{x:Operand}{y r:SV}{q:List Bool}{v:Value}(h:Ev X H t y=some (r,q))(hy:den G y=some v):∃z,den G r=some z∧
  ((∀p∈q,p=true)→a.eval x=v→Region.wanted {dst:=d,op:=.load t x,type:=ty,pos:=pos,after:=af,guard:=gd} (yielded ops a.tmps)=true→∀K:Value→World→Prop,K z w→Bq P ops {dst:=d,op:=.load t x,type:=ty,pos:=pos,after:=af,guard:=gd} a w K):=by
 obtain⟨z,hz,h3⟩:=N7 A h hy
 refine⟨z,hz,fun hq hx hw K hK=>?_⟩
 obtain⟨cs,o,vs,r',b,k,e1,e2,e3,e4,e5⟩:=h3 hq
 exact Fx hX e1 e3 e2 e5 hw (by rw [hx,e4]) hK
theorem KV (A:Sy n T H ks G0 w0 G a w):∀{x:SV} {v:Value} {q:List Bool},ZQ H x=some q→den G x=some v→(∀p∈q,p=true)→∃b o,v=.pointer (some ⟨b,o,none⟩)
 | .ptr i o,v,q,h,hy,_=>by
  unfold den at hy
  split at hy
  ·cases hy;exact⟨_,_,rfl⟩
  ·cases hy
 | .el i s j o,v,q,h,hy,hq=>by
  simp only [ZQ]at h
  split at h
  ·next s' m f hi=>
   cases h
   have Bn:j.toNat<m:=δ0 (hq _ (by simp))
   obtain⟨L,vs',e1,_⟩:=(Gh A.mem hi).2 _ Bn
   unfold den at hy
   rw [DS e1]at hy
   exact⟨_,_,(β6 hy).symm⟩
  ·cases h
 | .ix p s m j k,v,q,h,hy,hq=>by
  simp only [ZQ]at h
  cases hu:den G p with
  |none=>unfold den at hy;rw [hu]at hy;cases hy
  |some u=>
   obtain⟨b,o,rfl⟩:=KV A h hu hq
   unfold den at hy
   rw [hu]at hy
   exact⟨_,_,(β6 hy).symm⟩
theorem N8 {t:TypeId}{m o:Nat}{cs:Array Value}(h:Jr P t m=true)(ho:o+m≤cs.size):(part t cs o).run P w=.ok (.agg (cs.extract o (o+m))) w:=by
 obtain⟨⟨dd,h2,h3,h3'⟩,h4⟩:=Er h
 have ha:(isAgg t).run P w=.ok true w:=by
  unfold isAgg
  rw [γ3,ε6 h2]
  cases dd<;>simp_all
 cases hq:P.info? t with
 |none=>simp [hq]at h4
 |some i=>
  have hi:i.size=m:=by simpa [hq]using h4
  simp [part,ha,sizeOf,typeInfo,hq,hi,ho]
theorem SS {s f ft off:Nat}{cs:Array Value}{v:Value}(hf:fieldInfo P s f=some (ft,off))(hp:(part ft cs off).run P w=.ok v w):(Instr.field s (.agg cs) f).run P w=.ok v w:=by
 unfold fieldInfo at hf
 split at hf
 ·rename_i fs hu
  cases hq:fs[f]? with
  |none=>simp [hq]at hf
  |some fd=>
   simp [hq]at hf
   obtain⟨rfl,rfl⟩:=hf
   simp only [γ3,Instr.field,ε6 hu,β1,hq,asAgg,γ6,hp]
 ·cases hf
theorem PV (hX:X.ok P=true){t:TypeId}{cs:List SV}{vs:List Value}{o:Nat}{r:SV}{z:Value}(h:DX X t cs o=some r)(hv:Al G cs=some vs)(hz:den G r=some z):(part t vs.toArray o).run P w=.ok z w:=by
 unfold DX at h
 split at h
 ·next g hg=>
  have T2:=Tb.at hX hg
  split at h
  ·cases h
  ·next m hm=>
   split at h
   ·next r' Nm=>
    cases h
    obtain⟨e1,e2⟩:=IG Nm
    subst e1
    rw [Hd]at hz e2
    have e:=Cf (m+1) (Cg o hv)
    simp only [den,e,δ4,β2]at hz
    subst hz
    have hl:=Be hv
    rw [γ5]at e2
    rw [N8 (I5 T2 hm) (by simp;omega)]
    simp [ξ0]
   ·cases h
  ·next hm=>
   cases CA:g.one with
   |false=>rw [CA]at h;cases h
   |true=>
    rw [CA]at h
    simp only [θ3,BI]at h
    obtain⟨u,h3,h4⟩:=C5 hv h
    rw [hz]at h4
    cases h4
    exact IF w (I3 (I4 T2 CA) w) (by simpa using h3)
 ·cases h
theorem SU (hX:X.ok P=true) {t f:Nat} {x:Operand} {y r:SV} {v:Value} (h:PU X t f y=some r) (hy:den G y=some v):∃z,den G r=some z∧
  (a.eval x=v→Region.wanted {dst:=d,op:=.field t x f,type:=ty,pos:=pos,after:=af,guard:=gd} (yielded ops a.tmps)=true→∀K:Value→World→Prop,K z w→Bq P ops {dst:=d,op:=.field t x f,type:=ty,pos:=pos,after:=af,guard:=gd} a w K):=by
 unfold PU at h
 split at h
 ·next l=>
  split at h
  ·next i hi=>
   split at h
   ·next ft off sz hf=>
    have ht:=Tb.at hX hi
    rw [BI]at hf
    have pW:=(UI ht hf).1
    unfold den at hy
    obtain⟨vs,h1,h2⟩:=γ9.1 hy
    obtain⟨z,hz⟩:=Ls h h1
    refine⟨z,hz,fun hx hw K hK=>A6 hw ?_ hK⟩
    have hp:(part ft vs.toArray off).run P w=.ok z w:=by
     unfold DX at h
     split at h
     ·next g hg=>
      have T2:=Tb.at hX hg
      split at h
      ·cases h
      ·next m hm=>
       split at h
       ·next r' Nm=>
        cases h
        obtain⟨e1,e2⟩:=IG Nm
        subst e1
        rw [Hd]at hz e2
        have e:=Cf (m+1) (Cg off h1)
        simp only [den,e,δ4,β2]at hz
        subst hz
        have hl:=Be h1
        rw [γ5]at e2
        rw [N8 (I5 T2 hm) (by simp;omega)]
        simp [ξ0]
       ·cases h
      ·next hm=>
       cases CA:g.one with
       |false=>rw [CA]at h;cases h
       |true=>
        rw [CA]at h
        simp only [θ3,BI]at h
        obtain⟨u,h3,h4⟩:=C5 h1 h
        rw [hz]at h4
        cases h4
        exact IF w (I3 (I4 T2 CA) w) (by simpa using h3)
     ·cases h
    rw [←h2]at hx
    unfold execOp
    simp only [hx,γ3,SS pW hp,β1,γ6]
   ·cases h
  ·cases h
 ·cases h
end
theorem IJ (off:Nat):∀(c:List Value) (k:Nat) (Z:Array Value),off+k+c.length≤Z.size→((c.zipIdx k).foldl (fun cs (x:Value×Nat)=>cs.setIfInBounds (off+x.2) x.1) Z).toList=Z.toList.take (off+k)++c++Z.toList.drop (off+k+c.length)
 | [],k,Z,h=>by simp
 |u::c,k,Z,h=>by
  simp only [α5]at h
  rw [List.zipIdx_cons,μ5,IJ off c (k+1) _ (by simp;omega)]
  simp only [Array.toList_setIfInBounds]
  have EC:off+k<Z.toList.length:=by simp;omega
  rw [show off+(k+1)=off+k+1 by omega,ξ9,γ7 EC]
  simp only [List.take_set_of_le (β7 _),Option.toList_some,γ2,τ5,List.nil_append,α5]
  rw [List.drop_set_of_lt (by omega)]
  rw [show off+k+1+c.length=off+k+(c.length+1) by omega]
theorem Ew {G:Gr}{x:SV}{l:List SV}{v:Value}(h:I8 x=some l)(hv:den G x=some v):Al G l=some v.cells.toList:=by
 cases x with
 |agg m=>cases h;unfold den at hv;obtain⟨vs,h1,h2⟩:=γ9.1 hv;subst h2;simpa [Value.cells]using h1
 |tup m=>cases h
 |opt b y=>cases h
 |v y=>cases h
 |ptr i o=>cases h;have:=hv;unfold den at this;split at this<;>cases this;exact Bb hv rfl
 |sl i o c=>cases h;have:=hv;unfold den at this;split at this<;>cases this;exact Bb hv rfl
 |el i s j o=>cases h;have:=hv;unfold den at this;split at this<;>cases this;exact Bb hv rfl
 |st i s j n c=>cases h;have:=hv;unfold den at this;split at this<;>cases this;exact Bb hv rfl
 |sp p n c=>cases h;have:=hv;unfold den at this;split at this<;>cases this;exact Bb hv rfl
 |ix p s m j k=>cases h;have:=hv;unfold den at this;split at this<;>cases this<;>exact Bb hv rfl
 |fn f m=>cases h;have:=hv;unfold den at this;obtain⟨vs,_,h2⟩:=γ9.1 this;subst h2;exact Bb hv rfl
 |_=>cases h;have:=hv;simp only [den,β2]at this;subst this;exact Bb hv rfl
theorem KW {G:Gr}{pl:List (Nat×Nat×Nat)}:∀{ps:List (Nat×SV)} {cs r:List SV} {vs:List Value} {us:List (Nat×Value)},Qr pl cs ps=some r→Al G cs=some vs→us.map (·.1)=ps.map (·.1)→Al G (ps.map (·.2))=some (us.map (·.2))→
  ∃zs,Al G r=some zs∧Instr.fill (fun i=>(pl.map (·.2))[i]?) vs.toArray us=some zs.toArray
 | [],cs,r,vs,us,h,hv,h1,h2=>by
  cases h
  have:us=[]:=by cases us<;>simp at h1⊢
  subst this
  exact⟨vs,hv,rfl⟩
 |(i,x)::ps,cs,r,vs,[],h,hv,h1,h2=>by cases h1
 | (i,x)::ps,cs,r,vs,(j,u)::us,h,hv,h1,h2=>by
  simp only [ζ4,θ2]at h1
  obtain⟨rfl,h1⟩:=h1
  obtain⟨v,ws,h3,h4,h5⟩:=Bg h2
  simp only [ζ4,θ2]at h5
  obtain⟨rfl,rfl⟩:=h5
  unfold Qr at h
  split at h
  ·next off sz l hp hl=>
   cases hb:Nat.beq l.length sz with
   |false=>rw [hb]at h;cases h
   | true=>
    rw [hb]at h
    simp only [θ3]at h
    have FL:=α9 hb
    split at h
    ·next cs' hs=>
     obtain⟨e1,e2⟩:=JZ hs
     have hc:=Ew hl h3
     have hlen:=Be hc
     have pX:=Be hv
     have W8:Al G cs'=some (vs.take off++u.cells.toList++vs.drop (off+l.length)):=by
      rw [e1];exact C0 (C0 (Cf off hv) hc) (Cg _ hv)
     obtain⟨zs,h6,h7⟩:=KW h W8 h1 h4
     refine⟨zs,h6,?_⟩
     rw [BI]at hp
     unfold Instr.fill
     have KN:(pl.map (·.2))[j]?=some (off,sz):=by simp [hp]
     simp only [KN]
     have hu:u.cells.size=l.length:=by simpa using hlen
     rw [if_neg (by simp [hu,FL];omega)]
     rw [←h7]
     congr 1
     have f:=IJ off u.cells.toList 0 vs.toArray (by simp;omega)
     apply μ1
     rw [←σ3,ρ8]
     simpa [hu]using f
    ·cases h
  ·cases h
theorem KX {G:Gr}{s:Nat}:∀{ps:List (Nat×SV)} {cs r:List SV} {vs:List Value} {us:List (Nat×Value)},Qs s cs ps=some r→Al G cs=some vs→us.map (·.1)=ps.map (·.1)→Al G (ps.map (·.2))=some (us.map (·.2))→
  ∃zs,Al G r=some zs∧Instr.fill (fun i=>some (i*s,s)) vs.toArray us=some zs.toArray
 | [],cs,r,vs,us,h,hv,h1,h2=>by
  cases h
  have:us=[]:=by cases us<;>simp at h1⊢
  subst this
  exact⟨vs,hv,rfl⟩
 |(i,x)::ps,cs,r,vs,[],h,hv,h1,h2=>by cases h1
 | (i,x)::ps,cs,r,vs,(j,u)::us,h,hv,h1,h2=>by
  simp only [ζ4,θ2]at h1
  obtain⟨rfl,h1⟩:=h1
  obtain⟨v,ws,h3,h4,h5⟩:=Bg h2
  simp only [ζ4,θ2]at h5
  obtain⟨rfl,rfl⟩:=h5
  unfold Qs at h
  split at h
  ·next l hl=>
   cases hb:Nat.beq l.length s with
   |false=>rw [hb]at h;cases h
   | true=>
    rw [hb]at h
    simp only [θ3]at h
    have FL:=α9 hb
    split at h
    ·next cs' hs=>
     obtain⟨e1,e2⟩:=JZ hs
     have hc:=Ew hl h3
     have hlen:=Be hc
     have pX:=Be hv
     have W8:Al G cs'=some (vs.take (j*s)++u.cells.toList++vs.drop (j*s+l.length)):=by
      rw [e1];exact C0 (C0 (Cf _ hv) hc) (Cg _ hv)
     obtain⟨zs,h6,h7⟩:=KX h W8 h1 h4
     refine⟨zs,h6,?_⟩
     unfold Instr.fill
     simp only
     have hu:u.cells.size=l.length:=by simpa using hlen
     rw [if_neg (by simp [hu,FL];omega)]
     rw [←h7]
     congr 1
     have f:=IJ (j*s) u.cells.toList 0 vs.toArray (by simp;omega)
     apply μ1
     rw [←σ3,ρ8]
     simpa [hu]using f
    ·cases h
  ·cases h
theorem SW {G:Gr}{b:Bool}{x y r:SV}{u v:Value}(h:Qq b x y=some r)(hx:den G x=some u)(hy:den G y=some v):den G r=some (bif b then u else v):=by
 unfold Qq at h
 split at h
 ·cases h;simp only [den,β2]at hx hy⊢;subst hx;subst hy;cases b<;>rfl
 ·cases h;simp only [den,β2]at hx hy⊢;subst hx;subst hy;cases b<;>rfl
 ·next k n k' m=>
  cases hk:k==k' with
  |false=>rw [hk]at h;cases h
  |true=>rw [hk]at h;cases h;have:=ν4 hk;subst this;simp only [den,β2]at hx hy⊢;subst hx;subst hy;cases b<;>rfl
 ·cases h;simp only [den,β2]at hx hy⊢;subst hx;subst hy;cases b<;>rfl
 ·split at h
  ·next p q hp hq=>
   cases h
   have e1:=SV.toB_den (G:=G) hp
   have e2:=SV.toB_den (G:=G) hq
   rw [hx]at e1;rw [hy]at e2
   cases e1;cases e2
   simp only [den]
   cases b<;>rfl
  ·cases h
theorem KY {G:Gr}{b:Bool}{x u:SV}{E:Ob}{v:Value}(h:I7 b x=(u,E))(hx:den G x=some v):∃z,den G u=some z∧(Dr E→b=true→z=v):=by
 unfold I7 at h
 split at h
 ·next c y=>
  cases h
  unfold den at hx
  obtain⟨z,h1,h2⟩:=γ9.1 hx
  refine⟨z,h1,fun hE hb=>?_⟩
  have:=(IH hE).1
  simp only at this
  rw [this,hb]at h2
  exact h2
 ·cases h;exact⟨v,hx,fun _ _=>rfl⟩
section
variable {P:Program}{X:Tx}{ops:Array Oper}{n:Nat}{T:List (Nat×SV)}{H:Hp}{ks:List Nat}{G0:Gr}{w0:World}{G:Gr}{a:Act}{w:World}
theorem JA (A:Sy n T H ks G0 w0 G a w){gc:Option Bool}:∀{l:List (Nat×Operand)} {r:List (Nat×SV)} {E:Ob},Mo gc T l=some (r,E)→∃vs,r.map (·.1)=l.map (·.1)∧Al G (r.map (·.2))=some vs∧vs.length=l.length∧(Dr E→Js gc→l.map (fun x=>a.eval x.2)=vs)
 | [],r,E,h=>by cases h;exact⟨[],rfl,rfl,rfl,fun _ _=>rfl⟩
 | (i,x)::l,r,E,h=>by
  unfold Mo at h
  split at h
  ·next y E1 r1 F hy hr=>
   cases h
   obtain⟨v,h1,h2⟩:=A.evx hy
   obtain⟨vs,h3,h4,h5,h6⟩:=JA A hr
   refine⟨v::vs,by simp [h3],Bb h1 h4,by simp [h5],fun hE hg=>?_⟩
   obtain⟨e1,e2⟩:=Az hE
   simp [h2 e1 hg,h6 e2 hg]
  ·cases h
theorem IK (A:Sy n T H ks G0 w0 G a w){gc:Option Bool}:∀{l:List Operand} {r:List SV} {E:Ob},N5 gc T l=some (r,E)→∃vs,Al G r=some vs∧(Dr E→Js gc→l.map a.eval=vs)
 | [],r,E,h=>by cases h;exact⟨[],rfl,fun _ _=>rfl⟩
 | x::l,r,E,h=>by
  unfold N5 at h
  split at h
  ·next y E1 r1 F hy hr=>
   cases h
   obtain⟨v,h1,h2⟩:=A.evx hy
   obtain⟨vs,h4,h6⟩:=IK A hr
   refine⟨v::vs,Bb h1 h4,fun hE hg=>?_⟩
   obtain⟨e1,e2⟩:=Az hE
   simp [h2 e1 hg,h6 e2 hg]
  ·cases h
theorem Ja:∀(l:List (Nat×Operand)) (vs:List Value),vs.length=l.length→((l.map (·.1)).zip vs).map (·.1)=l.map (·.1)∧((l.map (·.1)).zip vs).map (·.2)=vs:=by
 intro l
 induction l with
 |nil=>intro vs h;cases vs<;>simp_all
 |cons x l ih=>intro vs h;cases vs with|nil=>simp at h|cons v vs=>simp at h⊢;exact ih vs h
theorem Fy (f:Operand→Value):∀l:List (Nat×Operand),l.map (fun x=>(x.1,f x.2))=(l.map (·.1)).zip (l.map fun x=>f x.2)
 | []=>rfl
 |x::l=>by simp [Fy f l]
def Yields (P:Program)(ops:Array Oper)(o:Oper)(a:Act)(w:World)(z:Value):Prop:=Region.wanted o (yielded ops a.tmps)=true→∀K:Value→World→Prop,K z w→Bq P ops o a w K
theorem UO (A:Sy n T H ks G0 w0 G a w) {gc:Option Bool} {c x y:Operand} {b:Bool} {p q u v r:SV} {E F D:Ob} {d:Option Tmp} {ty:TypeId} {pos:String} {af:Array Edge} {gd:Option (Nat×Bool)} (hc:G8 gc T c=some (.bool b,E)) (hp:Db T x=some p) (hq:Db T y=some q)
  (h1:I7 (gb gc b) p=(u,F)) (h2:I7 (gb gc (!b)) q=(v,D)) (h3:Qq b u v=some r):∃z,den G r=some z∧(Dr (E++(F++D))→Js gc→Yields P ops {dst:=d,op:=.pick c x y,type:=ty,pos:=pos,after:=af,guard:=gd} a w z):=by
 obtain⟨k,hk,JW⟩:=A.evx hc
 obtain⟨z1,e1,e2⟩:=KY h1 (A.ev hp)
 obtain⟨z2,e3,e4⟩:=KY h2 (A.ev hq)
 refine⟨_,SW h3 e1 e3,fun hE hg hw K hK=>?_⟩
 obtain⟨o1,o2⟩:=Az hE
 obtain⟨o3,o4⟩:=Az o2
 have hcv:=JW o1 hg
 cases hk
 refine PN hw hcv ?_ hK
 cases b with
 |true=>simpa using (e2 o3 (by rw [ZU hg])).symm
 |false=>simpa using (e4 o4 (by rw [ZU hg];rfl)).symm
theorem kX {f:FuncId} {first cap:Array Operand} {lb:List Value} {d:Option Tmp} {ty:TypeId} {pos:String} {af:Array Edge} {gd:Option (Nat×Bool)} {K:Value→World→Prop} (hw:Region.wanted {dst:=d,op:=.makeFunc (.func f) first cap,type:=ty,pos:=pos,after:=af,guard:=gd} (yielded ops a.tmps)=true)
  (h1:first.toList=[]) (hx:cap.toList.map a.eval=lb) (h:K (.func (.func f) #[] lb.toArray) w):Bq P ops {dst:=d,op:=.makeFunc (.func f) first cap,type:=ty,pos:=pos,after:=af,guard:=gd} a w K:=by
 have:first= #[]:=by have:=congrArg List.toArray h1;simpa using this
 subst this
 have hc:cap.map a.eval=lb.toArray:=by rw [←hx];apply μ1;simp
 exact A6 hw (by unfold execOp;simp only [Instr.makeFunc,γ3,γ6,β1,θ9,κ5,hc]) h
theorem Fa (A:Sy n T H ks G0 w0 G a w){gc:Option Bool}{lo:Option Operand}{k:Int}{E:Ob}(h:Nr gc T lo=some (some (.int .i64 k),E)):∃x,lo=some x∧(Dr E→Js gc→a.eval x=.int .i64 k):=by
 unfold Nr at h
 split at h
 ·cases h
 ·next x=>
  split at h
  ·next y F hy=>cases h;obtain⟨v,h1,h2⟩:=A.evx hy;cases h1;exact⟨x,rfl,h2⟩
  ·cases h
theorem Fb {gc:Option Bool}{lo:Option Operand}{E:Ob}(h:Nr gc T lo=some (none,E)):lo=none:=by
 unfold Nr at h
 split at h
 ·rfl
 ·split at h<;>cases h
theorem JB (hX:X.ok P=true){t f off:Nat}(h:UM X t f=some off):Dy P t f=some off:=by
 unfold UM at h
 split at h
 ·next j hj=>
  split at h
  ·next ft o sz hf=>
   split at h
   ·cases h
   ·next m=>cases h;rw [BI]at hf;exact(UI (Tb.at hX hj) hf).2 (by omega)
  ·cases h
 ·cases h
theorem Xk (hX:X.ok P=true)(A:Sy n T H ks G0 w0 G a w){t f:Nat}{x:Operand}{y r:SV}{q:List Bool}{v:Value}{d:Option Tmp}{ty:TypeId}{pos:String}{af:Array Edge}{gd:Option (Nat×Bool)}(h:bV X H t f y=some (r,q))(hy:den G y=some v):∃z,den G r=some z∧
  ((∀p∈q,p=true)→a.eval x=v→Region.wanted {dst:=d,op:=.fieldAddr t x f,type:=ty,pos:=pos,after:=af,guard:=gd} (yielded ops a.tmps)=true→∀K:Value→World→Prop,K z w→Bq P ops {dst:=d,op:=.fieldAddr t x f,type:=ty,pos:=pos,after:=af,guard:=gd} a w K):=by
 unfold bV at h
 split at h
 ·next i o=>
  split at h
  ·next off ho=>
   cases h
   unfold den at hy
   split at hy
   ·next L hL=>
    cases hy
    exact⟨.pointer (some ⟨L.b,L.pre.length+o+off,none⟩),by unfold den;rw [hL];simp [θ4],fun _ hx hw K hK=>EW hw hx (JB hX ho) hK⟩
   ·cases hy
  ·cases h
 ·next i s j o=>
  split at h
  ·next off s' m g ho hi=>
   cases h
   unfold den at hy
   split at hy
   ·next p hp=>
    cases hy
    refine⟨.pointer (p.map fun L=>⟨L.b,L.pre.length+j.toNat*s+(o+off),none⟩),by unfold den;rw [hp],fun hq hx hw K hK=>?_⟩
    have Bn:j.toNat<m:=δ0 (hq _ (by simp))
    obtain⟨L,_,e1,_⟩:=(Gh A.mem hi).2 _ Bn
    rw [hp]at e1
    simp only [γ8]at e1
    subst e1
    exact EW hw hx (JB hX ho) (by simpa [θ4]using hK)
   ·cases hy
  ·cases h
 ·next p s m j k=>
  split at h
  ·next off q' ho ZB=>
   cases h
   cases hu:den G p with
   |none=>unfold den at hy;rw [hu]at hy;cases hy
   | some u=>
    have hex:∃z,den G (.ix p s m j (k+off))=some z:=by
     unfold den
     rw [hu]
     split
     ·exact⟨_,rfl⟩
     ·exact⟨_,rfl⟩
     ·next h=>cases h
    obtain⟨z,hz⟩:=hex
    refine⟨z,hz,fun hq hx hw K hK=>?_⟩
    obtain⟨b,o,rfl⟩:=KV A ZB hu hq
    unfold den at hy hz
    rw [hu]at hy hz
    simp only [β2]at hy hz
    subst hy;subst hz
    exact EW hw hx (JB hX ho) (by simpa [θ4]using hK)
  ·cases h
 ·cases h
theorem J6 (hX:X.ok P=true) (A:Sy n T H ks G0 w0 G a w) {gc:Option Bool} {o:Oper} {x:SV} {E:Ob} (h:Tv X T H gc o.op=some (.val x E)):∃z,den G x=some z∧(Dr E→Js gc→Yields P ops o a w z):=by
 obtain⟨d,i,ty,pos,af,gd⟩:=o
 simp only at h
 unfold Tv at h
 split at h
 ·split at h
  ·next y F hy=>cases h;obtain⟨v,h1,h2⟩:=A.evx hy;exact⟨v,h1,fun hE hg hw K hK=>bF hw (h2 hE hg) hK⟩
  ·cases h
 ·split at h
  ·next y F hy=>cases h;obtain⟨v,h1,h2⟩:=A.evx hy;exact⟨v,h1,fun hE hg hw K hK=>UB hw (h2 hE hg) hK⟩
  ·cases h
 ·split at h
  ·next k l F hy=>
   split at h
   ·next y hl=>
    cases h
    obtain⟨v,h1,h2⟩:=A.evx hy
    unfold den at h1
    obtain⟨vs,h3,rfl⟩:=γ9.1 h1
    rw [BI]at hl
    obtain⟨u,h4,h5⟩:=C5 h3 hl
    exact⟨u,h5,fun hE hg hw K hK=>SP hw (h2 hE hg) (by simpa using h4) hK⟩
   ·cases h
  ·cases h
 ·split at h
  ·next F hy=>cases h;obtain⟨v,h1,h2⟩:=A.evx hy;cases h1;exact⟨_,rfl,fun hE hg hw K hK=>UC hw (h2 hE hg) hK⟩
  ·next F hy=>cases h;obtain⟨v,h1,h2⟩:=A.evx hy;cases h1;exact⟨_,rfl,fun hE hg hw K hK=>UC hw (h2 hE hg) hK⟩
  ·next b F hy=>cases h;obtain⟨v,h1,h2⟩:=A.evx hy;cases h1;exact⟨_,rfl,fun hE hg hw K hK=>UC hw (h2 hE hg) hK⟩
  ·cases h
 ·split at h
  ·next k m F hy=>
   cases h
   obtain⟨v,h1,h2⟩:=A.evx hy
   cases h1
   refine⟨_,rfl,fun hE hg hw K hK=>A6 hw ?_ hK⟩
   have h3:=h2 hE hg
   unfold execOp
   simp only [h3,Op.unary,Op.intArith,γ3,γ6,β1]
  ·cases h
 ·split at h
  ·next i o F hy=>
   cases h
   obtain⟨v,h1,h2⟩:=A.evx hy
   refine⟨v,h1,fun hE hg hw K hK=>?_⟩
   have h3:=h2 hE hg
   unfold den at h1
   split at h1
   ·cases h1;exact Fw hw h3 hK
   ·cases h1
  ·cases h
 ·split at h
  ·next t x f y F hy=>
   split at h
   ·next r q hr=>
    cases h
    obtain⟨v,h1,h2⟩:=A.evx hy
    obtain⟨z,hz,k⟩:=Xk (P:=P) (ops:=ops) hX A (d:=d) (ty:=ty) (pos:=pos) (af:=af) (gd:=gd) hr h1
    exact⟨z,hz,fun hE hg hw K hK=>k (Dd hg (Az hE).2) (h2 (Az hE).1 hg) hw K hK⟩
   ·cases h
  ·cases h
 ·split at h
  ·next t x f y F hy=>
   split at h
   ·next r hr=>
    cases h
    obtain⟨v,h1,h2⟩:=A.evx hy
    obtain⟨z,hz,k⟩:=SU (P:=P) (ops:=ops) (a:=a) (w:=w) hX hr h1
    exact⟨z,hz,fun hE hg hw K hK=>k (h2 hE hg) hw K hK⟩
   ·cases h
  ·cases h
 ·split at h
  ·next t x y F hy=>
   split at h
   ·next r q hr=>
    cases h
    obtain⟨v,h1,h2⟩:=A.evx hy
    obtain⟨z,hz,k⟩:=FZ (P:=P) (ops:=ops) hX A hr h1
    exact⟨z,hz,fun hE hg hw K hK=>k (Dd hg (Az hE).2) (h2 (Az hE).1 hg) hw K hK⟩
   ·cases h
  ·cases h
 ·next t x i=>
  split at h
  ·next y F z D hy hz=>
   split at h
   ·next r q hr=>
    cases h
    obtain⟨v,h1,h2⟩:=A.evx hy
    obtain⟨u,h3,h4⟩:=A.evx hz
    unfold yD at hr
    split at hr
    ·next k m c j=>
     split at hr
     ·next f s' m' g hf QW=>
      split at hr
      ·next e s bb he=>
       cases hr
       have hs:sliceB P t e s=true:=by have:=D0 (Tb.at hX hf) he;unfold FA at this;rw [α3,α3]at this;exact this.1.1
       unfold den at h1
       split at h1
       ·next p hp=>
        cases h1;cases h3
        refine⟨.pointer (p.map fun L=>⟨L.b,L.pre.length+j.toNat*s+0,none⟩),by unfold den;rw [hp],fun hE hg hw K hK=>?_⟩
        obtain⟨e1,e2⟩:=Az hE
        obtain⟨e3,e4⟩:=Az e2
        have hq:0≤j∧j<(m:Int)∧j.toNat<m':=δ0 (Dd hg e4 _ (by simp))
        have hj:j=((j.toNat:Nat):Int):=by omega
        have h5:=h2 e1 hg
        have h6:=h4 e3 hg
        rw [hj]at h6
        obtain⟨L,_,f1,_⟩:=(Gh A.mem QW).2 _ hq.2.2
        rw [hp]at f1
        simp only [γ8]at f1
        subst f1
        exact FW (n:=m) hw h5 h6 hs ⟨L.pre.length,_,rfl,rfl⟩ (by omega) (by simpa using hK)
       ·cases h1
      ·cases hr
     ·next f hf QW=>
      split at hr
      ·next e s bb cs' he Jy=>
       cases hr
       have hs:sliceB P t e s=true:=by have:=D0 (Tb.at hX hf) he;unfold FA at this;rw [α3,α3]at this;exact this.1.1
       rw [BI]at Jy
       obtain⟨L,vs,g1,_,_⟩:=A.mem.ent k _ Jy
       unfold den at h1
       rw [DS g1]at h1
       cases h1;cases h3
       refine⟨.pointer (some ⟨L.b,L.pre.length+0+j.toNat*s+0,none⟩),by unfold den;simp only [den,DS g1],fun hE hg hw K hK=>?_⟩
       obtain⟨e1,e2⟩:=Az hE
       obtain⟨e3,e4⟩:=Az e2
       have hq:0≤j∧j<(m:Int):=δ0 (Dd hg e4 _ (by simp))
       have hj:j=((j.toNat:Nat):Int):=by omega
       have h5:=h2 e1 hg
       have h6:=h4 e3 hg
       rw [hj]at h6
       exact FW (n:=m) hw h5 h6 hs ⟨L.pre.length,_,rfl,rfl⟩ (by omega) (by simpa using hK)
      ·cases hr
     ·cases hr
    ·next p m c j=>
     split at hr
     ·next f hf=>
      split at hr
      ·next e s bb q' he ZB=>
       cases hr
       have hs:sliceB P t e s=true:=by have:=D0 (Tb.at hX hf) he;unfold FA at this;rw [α3,α3]at this;exact this.1.1
       unfold den at h1
       split at h1
       ·next pv v7=>
        cases h1;cases h3
        have hex:∃z,den G (.ix p s m j 0)=some z:=by
         unfold den
         rw [v7]
         split
         ·exact⟨_,rfl⟩
         ·exact⟨_,rfl⟩
         ·next h=>cases h
        obtain⟨z,hz⟩:=hex
        refine⟨z,hz,fun hE hg hw K hK=>?_⟩
        obtain⟨e1,e2⟩:=Az hE
        obtain⟨e3,e4⟩:=Az e2
        have AS:=Dd hg e4
        have hq:0≤j∧j<(m:Int):=δ0 (AS _ (by simp))
        obtain⟨b,o,rfl⟩:=KV A ZB v7 (fun p hp=>AS p (by simp [hp]))
        have hj:j=((j.toNat:Nat):Int):=by omega
        have h5:=h2 e1 hg
        have h6:=h4 e3 hg
        rw [hj]at h6
        unfold den at hz
        rw [v7]at hz
        simp only [β2]at hz
        subst hz
        exact FW (n:=m) hw h5 h6 hs ⟨o,_,rfl,rfl⟩ (by omega) (by simpa using hK)
       ·cases h1
      ·cases hr
     ·cases hr
    ·next k s' b m c j=>
     split at hr
     ·next f er sr mr cr fr hf QW=>
      split at hr
      ·next e s bb he=>
       cases Jo:Nat.beq s s'&&Nat.beq c cr with
       |false=>rw [Jo]at hr;cases hr
       | true=>
        rw [Jo]at hr
        cases hr
        rw [α3]at Jo
        have q1:=α9 Jo.1
        have q2:=α9 Jo.2
        subst q1;subst q2
        have hs:sliceB P t e s=true:=by have:=D0 (Tb.at hX hf) he;unfold FA at this;rw [α3,α3]at this;exact this.1.1
        unfold den at h1
        split at h1
        ·next p hp=>
         cases h1;cases h3
         refine⟨.pointer (p.map fun L=>⟨L.b,L.pre.length+((b:Int)+j).toNat*s+0,none⟩),by unfold den;rw [hp],fun hE hg hw K hK=>?_⟩
         obtain⟨e1,e2⟩:=Az hE
         obtain⟨e3,e4⟩:=Az e2
         have hq:0≤j∧j<(m:Int)∧((b:Int)+j).toNat<mr:=δ0 (Dd hg e4 _ (by simp))
         have hj:j=((j.toNat:Nat):Int):=by omega
         have h5:=h2 e1 hg
         have h6:=h4 e3 hg
         rw [hj]at h6
         rw [BI]at QW
         obtain⟨_,_,xs,_,_,g5⟩:=A.mem.ent k _ QW
         rw [hp]at g5
         simp only [γ8]at g5
         rcases g5 with⟨_,g5⟩|⟨g,cap,cur,c1,_,_,c4,_⟩
         ·omega
         ·cases p with
          |none=>cases c1
          |some L=>
           simp only [δ4,ι2]at c1
           have Ch:¬(c+rm (some L)=b):=by omega
           simp only [δ4,if_neg Ch]at h5
           have hmul:((b:Int)+j).toNat*s=b*s+j.toNat*s:=by rw [show((b:Int)+j).toNat=b+j.toNat by omega,ι9]
           refine FW (n:=m) (o:=L.pre.length+b*s+j.toNat*s) hw h5 h6 hs ⟨_,_,rfl,rfl⟩ (by omega) ?_
           simpa [hmul,θ4]using hK
        ·cases h1
      ·cases hr
     ·cases hr
    ·next j _ _ _=>
     split at hr
     ·next f hf=>
      split at hr
      ·next m e s q' QX ZB=>
       cases hr
       have hex:∃z,den G (.ix y s m j 0)=some z:=by
        unfold den
        rw [h1]
        split
        ·exact⟨_,rfl⟩
        ·exact⟨_,rfl⟩
        ·next h=>cases h
       obtain⟨z,hz⟩:=hex
       cases h3
       refine⟨z,hz,fun hE hg hw K hK=>?_⟩
       obtain⟨e1,e2⟩:=Az hE
       obtain⟨e3,e4⟩:=Az e2
       have AS:=Dd hg e4
       have hq:0≤j∧j<(m:Int):=δ0 (AS _ (by simp))
       obtain⟨b,o,rfl⟩:=KV A ZB h1 (fun p hp=>AS p (by simp [hp]))
       have hj:j=((j.toNat:Nat):Int):=by omega
       have h5:=h2 e1 hg
       have h6:=h4 e3 hg
       rw [hj]at h6
       unfold den at hz
       rw [h1]at hz
       simp only [β2]at hz
       subst hz
       exact PP hw h5 h6 (Mm (Tb.at hX hf) QX) (by omega) (by simpa using hK)
      ·cases hr
     ·cases hr
    ·cases hr
   ·cases h
  ·cases h
 ·next t x i=>
  split at h
  ·next y F z D hy hz=>
   split at h
   ·next r q hr=>
    cases h
    obtain⟨v,h1,h2⟩:=A.evx hy
    obtain⟨u,h3,h4⟩:=A.evx hz
    unfold yE at hr
    split at hr
    ·next l j=>
     split at hr
     ·next f hf=>
      split at hr
      ·next m e s QX=>
       split at hr
       ·next r' W7=>
        cases hr
        unfold den at h1
        obtain⟨vs,v1,v2⟩:=γ9.1 h1
        obtain⟨zz,sJ,Nu⟩:=KU v1 W7
        cases h3
        refine⟨zz,sJ,fun hE hg hw K hK=>A6 hw ?_ hK⟩
        obtain⟨e1,e2⟩:=Az hE
        obtain⟨e3,e4⟩:=Az e2
        have hq:0≤j∧j<(m:Int):=δ0 (Dd hg e4 _ (by simp))
        obtain⟨r'',c1,c2⟩:=Nu ⟨by omega,trivial⟩
        obtain⟨hu,FL⟩:=Dq (Mm (Tb.at hX hf) QX)
        have hp:=PV (P:=P) (w:=w) hX c1 v1 c2
        simp only [Mn,θ8,ε0]at hp
        have h5:=h2 e1 hg
        have h6:=h4 e3 hg
        rw [←v2]at h5
        have PA:(Instr.index t (.agg vs.toArray) (.int .i64 j)).run P w=.ok zz w:=by
         unfold Instr.index
         simp only [asIntOf,γ3,γ6,β1,ε6 hu,if_pos hq,Dz FL,hp]
        unfold execOp
        simp only [h5,h6,γ3,PA,β1,γ6]
       ·cases hr
      ·cases hr
     ·cases hr
    ·next l ik j=>
     split at hr
     ·next f hf=>
      cases hb:f.isS with
      |false=>rw [hb]at hr;cases hr
      | true=>
       rw [hb]at hr
       cases hr
       cases h1;cases h3
       refine⟨_,rfl,fun hE hg hw K hK=>?_⟩
       obtain⟨e1,e2⟩:=Az hE
       obtain⟨e3,e4⟩:=Az e2
       have hq:0≤j∧j<(l.length:Int):=δ0 (Dd hg e4 _ (by simp))
       have hj:j=((j.toNat:Nat):Int):=by omega
       have h5:=h2 e1 hg
       have h6:=h4 e3 hg
       rw [hj]at h6
       exact kK hw h5 h6 (PT (Tb.at hX hf) hb) (b:=l.getD j.toNat 0) (by
        have Bn:j.toNat<l.length:=by omega
        simp [List.getD,Bn]) hK
     ·cases hr
    ·cases hr
   ·cases h
  ·cases h
 ·next t x lo hi mx=>
  split at h
  ·split at h
   ·next y F aa F1 bb D hy ha a6=>
    split at h
    ·next r q hr=>
     cases h
     obtain⟨v,h1,h2⟩:=A.evx hy
     unfold ZS at hr
     split at hr
     ·next i m c=>
      split at hr
      ·next f hf=>
       split at hr
       ·next e s bb he=>
        obtain⟨ie,z,f1,f2,f3,f4,f5,f6,f7⟩:=Dn (D0 (Tb.at hX hf) he)
        have FL:(P.info? e).map (·.size)=some s:=by rw [f2];simp [f4]
        unfold den at h1
        split at h1
        ·next p hp=>
         cases h1
         split at hr
         ·next k1=>
          cases hr
          obtain⟨x1,rfl,ZC⟩:=Fa A ha
          have:=Fb a6
          subst this
          refine⟨_,by unfold den;rw [hp],fun hE hg hw K hK=>A6 hw ?_ hK⟩
          obtain⟨e1,e2⟩:=Az hE
          obtain⟨e3,e4⟩:=Az e2
          obtain⟨e5,e6⟩:=Az e4
          have hq:0≤k1∧k1≤(m:Int):=δ0 (Dd hg e6 _ (by simp))
          have h5:=h2 e1 hg
          have h6:=ZC e3 hg
          have Tm:(Instr.sliceBounds true m (c+rm p) (some (.int .i64 k1)) none none).run P w=.ok (k1.toNat,m,c+rm p) w:=by
           simp [Instr.sliceBounds,ν0 (P:=P) w .i64 k1 m _ (by omega) (by omega)]
          unfold execOp
          simp only [h5,h6,δ4,μ4,Instr.sliceAt,Instr.slice,γ3,ε6 f1,Tm,β1,Dz FL,γ6]
          cases p with
          |none=>simp
          |some L=>by_cases hc:c+rm (some L)=k1.toNat<;>simp [hc,η3]
         ·next k1=>
          cases AW:yF (lg H i) c with
          |false=>rw [AW]at hr;cases hr
          |true=>
          rw [AW]at hr
          cases hr
          obtain⟨x1,rfl,ZC⟩:=Fa A a6
          have:=Fb ha
          subst this
          refine⟨_,by unfold den;rw [hp],fun hE hg hw K hK=>A6 hw ?_ hK⟩
          obtain⟨e1,e2⟩:=Az hE
          obtain⟨e3,e4⟩:=Az e2
          obtain⟨e5,e6⟩:=Az e4
          have hq:0≤k1∧k1≤(Xi (lg H i) c:Int):=δ0 (Dd hg e6 _ (by simp))
          have AaP:Xi (lg H i) c≤c+rm p:=by
           unfold Xi
           split
           ·next er sr mr cr fr QW=>
            rw [QW]at AW
            have q2:=α9 AW
            rw [BI]at QW
            obtain⟨_,_,xs,_,_,g5⟩:=A.mem.ent i _ QW
            rw [hp]at g5
            simp only [γ8]at g5
            rcases g5 with⟨_,g5⟩|⟨g,cap,cur,c1,_,_,c4,_⟩
            ·omega
            ·cases p with
             |none=>cases c1
             |some L=>simp only [δ4,ι2]at c1;omega
           ·omega
          have Tm:(Instr.sliceBounds true m (c+rm p) none (some (.int .i64 k1)) none).run P w=.ok (0,k1.toNat,c+rm p) w:=by
           simp [Instr.sliceBounds,ν0 (P:=P) w .i64 k1 (c+rm p) _ (by omega) (by omega)]
          have h5:=h2 e1 hg
          have h6:=ZC e5 hg
          unfold execOp
          simp only [h5,h6,δ4,μ4,Instr.sliceAt,Instr.slice,γ3,ε6 f1,Tm,β1,Dz FL,γ6]
          cases p with
          |none=>simp
          |some L=>simp [η3]
         ·cases hr
        ·cases h1
       ·cases hr
      ·cases hr
     ·next l=>
      split at hr
      ·next f hf=>
       cases hb:f.isS with
       |false=>rw [hb]at hr;cases hr
       | true=>
        rw [hb]at hr
        simp only [θ3]at hr
        have iR:=PT (Tb.at hX hf) hb
        cases h1
        split at hr
        ·next k1=>
         cases hr
         obtain⟨x1,rfl,ZC⟩:=Fa A ha
         have:=Fb a6
         subst this
         refine⟨_,rfl,fun hE hg hw K hK=>?_⟩
         obtain⟨e1,e2⟩:=Az hE
         obtain⟨e3,e4⟩:=Az e2
         obtain⟨e5,e6⟩:=Az e4
         have hq:0≤k1∧k1≤(l.length:Int):=δ0 (Dd hg e6 _ (by simp))
         have hj:k1=((k1.toNat:Nat):Int):=by omega
         have h6:=ZC e3 hg
         rw [hj]at h6
         exact XZ hw (h2 e1 hg) h6 iR (by omega) hK
        ·next k1=>
         cases hr
         obtain⟨x1,rfl,ZC⟩:=Fa A a6
         have:=Fb ha
         subst this
         refine⟨_,rfl,fun hE hg hw K hK=>?_⟩
         obtain⟨e1,e2⟩:=Az hE
         obtain⟨e3,e4⟩:=Az e2
         obtain⟨e5,e6⟩:=Az e4
         have hq:0≤k1∧k1≤(l.length:Int):=δ0 (Dd hg e6 _ (by simp))
         have hj:k1=((k1.toNat:Nat):Int):=by omega
         have h6:=ZC e5 hg
         rw [hj]at h6
         exact Xa hw (h2 e1 hg) h6 iR (by omega) hK
        ·next k1 k2=>
         cases hr
         obtain⟨x1,rfl,ZC⟩:=Fa A ha
         obtain⟨x2,rfl,hx2⟩:=Fa A a6
         refine⟨_,rfl,fun hE hg hw K hK=>?_⟩
         obtain⟨e1,e2⟩:=Az hE
         obtain⟨e3,e4⟩:=Az e2
         obtain⟨e5,e6⟩:=Az e4
         have hq:0≤k1∧k1≤k2∧k2≤(l.length:Int):=δ0 (Dd hg e6 _ (by simp))
         have Nn:k1=((k1.toNat:Nat):Int):=by omega
         have PB:k2=((k2.toNat:Nat):Int):=by omega
         have h6:=ZC e3 hg
         have h7:=hx2 e5 hg
         rw [Nn]at h6
         rw [PB]at h7
         exact Xb hw (h2 e1 hg) h6 h7 iR (by omega) (by omega) hK
        ·cases hr
      ·cases hr
     ·split at hr
      ·next f hf=>
       split at hr
       ·next m e s q' QX ZB=>
        split at hr
        ·cases hr
        ·next m0=>
        cases hr
        have:=Fb ha
        subst this
        have:=Fb a6
        subst this
        refine⟨_,by unfold den;rw [h1],fun hE hg hw K hK=>A6 hw ?_ hK⟩
        obtain⟨e1,e2⟩:=Az hE
        obtain⟨e3,e4⟩:=Az e2
        obtain⟨e5,e6⟩:=Az e4
        obtain⟨b,o,rfl⟩:=KV A ZB h1 (Dd hg e6)
        obtain⟨hu,FL⟩:=Dq (Mm (Tb.at hX hf) QX)
        have h5:=h2 e1 hg
        have Tm:(Instr.sliceBounds false (m0+1) (m0+1) none none none).run P w=.ok (0,m0+1,m0+1) w:=by simp [Instr.sliceBounds]
        unfold execOp
        simp only [h5,μ4,Instr.sliceAt,γ3,ε6 hu,Instr.sureAddr,γ6,Tm,β1,Dz FL]
        simp [kN,η3]
       ·cases hr
      ·cases hr
    ·cases h
   ·cases h
  ·cases h
 ·next op t x y t2=>
  split at h
  ·next u E1 v E2 hx hy=>
   split at h
   ·next r D hr=>
    cases h
    obtain⟨u',h1,h2⟩:=A.evx hx
    obtain⟨v',h3,h4⟩:=A.evx hy
    obtain⟨z,hz,k⟩:=UK hX hr h1 h3 x y w
    refine⟨z,hz,fun hE hg hw K hK=>?_⟩
    obtain⟨e1,e2⟩:=Az hE
    obtain⟨e3,e4⟩:=Az e2
    exact Lp hw (h2 e1 hg) (h4 e3 hg) (k (Dd hg e4)) hK
   ·cases h
  ·cases h
 ·split at h
  ·next s t x y F hy=>
   split at h
   ·next r hr=>
    cases h
    obtain⟨v,h1,h2⟩:=A.evx hy
    unfold ZT at hr
    split at hr
    ·next k m=>
     split at hr
     ·next i j hi hj=>
      split at hr
      ·next k1 k2 PM JW=>
       cases hb:k==k1 with
       |false=>rw [hb]at hr;cases hr
       |true=>
        rw [hb]at hr
        cases hr
        have:=ν4 hb
        subst this
        cases h1
        refine⟨_,rfl,fun hE hg hw K hK=>A6 hw ?_ hK⟩
        have h3:=h2 hE hg
        unfold execOp
        simp only [h3,γ3]
        simp [convert,ε6 (UJ (Tb.at hX hi) PM),ε6 (UJ (Tb.at hX hj) JW),Conv.intToInt]
      ·cases hr
     ·cases hr
    ·cases hr
   ·cases h
  ·cases h
 ·split at h
  ·next c x y F hc=>
   split at h
   ·next u D hx=>
    cases h
    obtain⟨k,h1,h2⟩:=A.evx hc
    obtain⟨v,h3,h4⟩:=A.evx hx
    cases h1
    exact⟨v,h3,fun hE hg hw K hK=>XX hw (h2 (Az hE).1 hg) (h4 (Az hE).2 hg) hK⟩
   ·cases h
  ·next c x y F hc=>
   split at h
   ·next u D hx=>
    cases h
    obtain⟨k,h1,h2⟩:=A.evx hc
    obtain⟨v,h3,h4⟩:=A.evx hx
    cases h1
    exact⟨v,h3,fun hE hg hw K hK=>XY hw (h2 (Az hE).1 hg) (h4 (Az hE).2 hg) hK⟩
   ·cases h
  ·next c x y b F hc=>
   split at h
   ·next p q hp hq=>
    split at h
    next u F1 v D h1 h2=>
    split at h
    ·next r hr=>cases h;exact UO A hc hp hq h1 h2 hr
    ·cases h
   ·cases h
  ·cases h
 ·next t parts=>
  split at h
  ·next i ps F hi hp=>
   split at h
   ·next z f fs hz hf=>
    split at h
    ·next cs hc=>
     cases h
     have ht:=Tb.at hX hi
     obtain⟨zv,m,h1,h2⟩:=Ml ht hz
     obtain⟨vs,h3,h4,h5,h6⟩:=JA A hp
     have v8:Al G z=some zv.cells.toList:=h2 G
     obtain⟨e1,e2⟩:=Ja parts.toList vs h5
     obtain⟨zs,h7,h8⟩:=KW (us:=(parts.toList.map (·.1)).zip vs) hc v8 (by rw [e1,h3]) (by rw [e2];exact h4)
     refine⟨.agg zs.toArray,by simp [den,h7],fun hE hg hw K hK=>?_⟩
     have h9:=h6 hE hg
     refine XW (vs:=(parts.toList.map (·.1)).zip vs) hw ?_ h1 (kO ht (by rw [hf];simp)) (by simpa using h8) hK
     rw [←h9]
     simp only [Array.toList_map]
     exact Fy a.eval parts.toList
    ·cases h
   ·next z hz hf=>
    split at h
    ·next m e s QX=>
     split at h
     ·next cs hc=>
      cases h
      have ht:=Tb.at hX hi
      obtain⟨zv,m',h1,h2⟩:=Ml ht hz
      obtain⟨vs,h3,h4,h5,h6⟩:=JA A hp
      have v8:Al G z=some zv.cells.toList:=h2 G
      obtain⟨e1,e2⟩:=Ja parts.toList vs h5
      obtain⟨zs,h7,h8⟩:=KX (us:=(parts.toList.map (·.1)).zip vs) hc v8 (by rw [e1,h3]) (by rw [e2];exact h4)
      refine⟨.agg zs.toArray,by simp [den,h7],fun hE hg hw K hK=>A6 hw ?_ hK⟩
      have h9:=h6 hE hg
      have hzv:=(zero_of_info h1).1 w
      have AV:(parts.map fun x=>(x.1,a.eval x.2)).toList=(parts.toList.map (·.1)).zip vs:=by
       rw [←h9]
       simp only [Array.toList_map]
       exact Fy a.eval parts.toList
      obtain⟨hu,FL⟩:=Dq (Mm ht QX)
      unfold execOp
      simp only [γ3,Instr.build,hzv,β1,ε6 hu,Dz FL]
      erw [AV]
      simp at h8
      simp only [h8,γ6,β1]
     ·cases h
    ·cases h
   ·cases h
  ·cases h
 ·split at h
  ·next first cap f l F hf hl=>
   cases h
   obtain⟨vs,h1,h2⟩:=IK A hl
   exact⟨.func (.func f) #[] vs.toArray,by simp [den,h1],fun hE hg hw K hK=>kX hw hf (h2 hE hg) hK⟩
  ·cases h
 ·next c=>
  obtain⟨callee,args,ats⟩:=c
  simp only at h
  split at h
  ·next x t ha ht=>
   have e1:args= #[x]:=by have:=congrArg List.toArray ha;simpa using this
   have e2:ats= #[t]:=by have:=congrArg List.toArray ht;simpa using this
   subst e1;subst e2
   split at h
   ·next y F hy=>
    split at h
    ·next r hr=>
     cases h
     obtain⟨v,h1,h2⟩:=A.evx hy
     unfold kW at hr
     split at hr
     ·split at hr
      ·next i hi=>
       cases hb:i.isS with
       |false=>rw [hb]at hr;cases hr
       |true=>rw [hb]at hr;cases hr;cases h1;exact⟨_,rfl,fun hE hg hw K hK=>bO hw (h2 hE hg) (PT (Tb.at hX hi) hb) hK⟩
      ·cases hr
     ·split at hr
      ·next i hi=>
       split at hr
       ·next q hq=>
        obtain⟨e,s,bb⟩:=q
        cases hr;cases h1
        have hs:sliceB P t e s=true:=by have:=D0 (Tb.at hX hi) hq;unfold FA at this;rw [α3,α3]at this;exact this.1.1
        exact⟨_,rfl,fun hE hg hw K hK=>Qh hw (h2 hE hg) hs ⟨_,_,rfl⟩ hK⟩
       ·cases hr
      ·cases hr
     ·split at hr
      ·next i hi=>
       split at hr
       ·next q hq=>
        obtain⟨e,s,bb⟩:=q
        cases hr
        have hs:sliceB P t e s=true:=by have:=D0 (Tb.at hX hi) hq;unfold FA at this;rw [α3,α3]at this;exact this.1.1
        unfold den at h1
        split at h1
        ·cases h1;exact⟨_,rfl,fun hE hg hw K hK=>Qh hw (h2 hE hg) hs ⟨_,_,rfl⟩ hK⟩
        ·cases h1
       ·cases hr
      ·cases hr
     ·split at hr
      ·next i hi=>
       split at hr
       ·next q hq=>
        obtain⟨e,s,bb⟩:=q
        cases hr
        have hs:sliceB P t e s=true:=by have:=D0 (Tb.at hX hi) hq;unfold FA at this;rw [α3,α3]at this;exact this.1.1
        unfold den at h1
        split at h1
        ·cases h1;exact⟨_,rfl,fun hE hg hw K hK=>Qh hw (h2 hE hg) hs ⟨_,_,rfl⟩ hK⟩
        ·cases h1
       ·cases hr
      ·cases hr
     ·split at hr
      ·next i hi=>
       split at hr
       ·next q hq=>
        obtain⟨e,s,bb⟩:=q
        cases hr
        have hs:sliceB P t e s=true:=by have:=D0 (Tb.at hX hi) hq;unfold FA at this;rw [α3,α3]at this;exact this.1.1
        unfold den at h1
        split at h1
        ·cases h1;exact⟨_,rfl,fun hE hg hw K hK=>Qh hw (h2 hE hg) hs ⟨_,_,rfl⟩ hK⟩
        ·cases h1
       ·cases hr
      ·cases hr
     ·cases hr
    ·cases h
   ·cases h
  ·cases h
 ·split at h
  ·split at h
   ·split at h<;>cases h
   ·cases h
  ·cases h
 ·split at h
  ·split at h
   ·split at h<;>cases h
   ·cases h
  ·cases h
 ·(repeat' (split at h))<;>(cases h;done)
 ·(repeat' (split at h))<;>(cases h;done)
 ·cases h
end
inductive Gd where
 |run
 |skip
 |sym (b:Bool)
def BE (ops:Array Oper) (T:List (Nat×SV)):Option (Nat×Bool)→Option Gd
 |none=>some .run
 | some (j,c)=>match KP ops j with
  | some t=>match look T t with
   |some .tt=>bif c then some .run else some .skip
   |some .ff=>bif c then some .skip else some .run
   |some (.bool b)=>some (.sym (bif c then b else !b))
   |some (.opt g x)=>match x with
    | .tt=>bif c then some (.sym g)else some .skip
    | .ff=>bif c then some .skip else some (.sym g)
    | .bool p=>some (.sym (g&&(bif c then p else !p)))
    |_=>none
   |some (.tup [])=>some .skip
   |_=>none
  |none=>none
def Dh (X:Tx)(n:Nat)(ops:Array Oper)(T:List (Nat×SV))(H:Hp)(o:Oper):Option Out:=match DD n o.dst with
 | true=>match BE ops T o.guard with
  |some .run=>Tv X T H none o.op
  |some .skip=>some (.val (.tup []) [])
  |some (.sym b)=>match Tv X T H (some b) o.op with
   |some (.val x E)=>some (.val (.opt b x) E)
   |_=>none
  |none=>none
 |false=>none
def Bh (T:List (Nat×SV)):Option Nat→SV→List (Nat×SV)
 |some d,x=>(d,x)::T
 |none,_=>T
def Cd {α:Type}:List α→Nat→α→List α
 | [],_,_=>[]
 |_::l,0,x=>x::l
 |y::l,k+1,x=>y::Cd l k x
theorem BJ {α:Type}:∀(l:List α) (k:Nat) (x:α),Cd l k x=l.set k x
 | [],_,_=>rfl
 |_::_,0,_=>rfl
 |y::l,k+1,x=>by simp [Cd,BJ l k x]
def SX (T:List (Nat×SV))(H:Hp)(d:Option Nat):Out→List (Nat×SV)
 | .val x _=>Bh T d x
 | .new _ _ x=>Bh T d x
 | .upd _ _ _=>Bh T d (.tup [])
def LX (H:Hp):Out→Hp
 | .val _ _=>H
 | .new _ e _=>H++[some e]
 | .upd i cs _=>Cd H i (some (.blk cs))
def OA:Out→Ob
 | .val _ E=>E
 | .new _ _ _=>[]
 | .upd _ _ E=>E
section
variable {P:Program}{X:Tx}{ops:Array Oper}{n:Nat}{T:List (Nat×SV)}{H:Hp}{ks:List Nat}{G0:Gr}{w0:World}{G:Gr}{a:Act}{w w':World}{Q:Exit→Act→World→Prop}{o:Oper}{rest:List Oper}
theorem Cm (h:Bq P ops o a w fun v w'=>wpList P ops Q rest (a.put o.dst v) w'):wpList P ops Q (o::rest) a w:=by
 refine wpList_step fun K hK=>?_
 rcases h with⟨hw,h⟩|⟨hw,h⟩
 ·rw [if_pos hw]
  refine κ6 (fun a' w' h=>?_) (h Q)
  obtain⟨v,rfl,hk⟩:=h
  exact hK _ _ hk
 ·rw [if_neg (by rw [hw];simp)]
  exact hK _ _ h
theorem Sy.put (A:Sy n T H ks G0 w0 G a w){d:Option Nat}(hd:DD n d=true){x:SV}{v:Value}(hx:den G x=some v):Sy n (Bh T d x) H ks G0 w0 G (a.put d v) w:=by
 cases d with
 |none=>exact A
 | some d=>
  have hd':d<n:=by simpa [DD]using hd
  refine⟨by simp [Act.put,A.size],by simp [Act.put,A.defers],fun t y hy=>?_,A.mem,A.pre,A.own,A.mix⟩
  have hs:d<a.tmps.size:=by rw [A.size];exact hd'
  simp only [Bh,look]at hy
  cases hb:Nat.beq d t with
  |true=>
   rw [hb]at hy
   cases hy
   have:=α9 hb
   subst this
   simp [Act.put,hs,hx]
  |false=>
   rw [hb]at hy
   have Ch:d≠t:=fun e=>by subst e;simp at hb
   simp only [Act.put,β3]
   rw [η0 Ch,←β3]
   exact A.get t y hy
theorem Sy.grew (A:Sy n T H ks G0 w0 G a w)(SD:CI w w'):Sy n T H ks G0 w0 G a w':=
 ⟨A.size,A.defers,A.get,⟨A.mem.len,fun i e h=>(A.mem.ent i e h).mix SD.mix (fun _ L _=>rfl),A.mem.sep⟩,A.pre,A.own,A.mix.grow SD⟩
theorem Sy.slotEq (A:Sy n T H ks G0 w0 G a w)(t:Nat){x y:SV}(hx:look T t=some x)(hd:den G y=den G x):Sy n ((t,y)::T) H ks G0 w0 G a w:=
 ⟨A.size,A.defers,fun q z hz=>by
  unfold look at hz
  cases hb:Nat.beq t q with
  |true=>rw [hb]at hz;cases hz;have:=α9 hb;subst this;rw [hd];exact A.get t x hx
  |false=>rw [hb]at hz;exact A.get q z hz,A.mem,A.pre,A.own,A.mix⟩
theorem Sy.addE (A:Sy n T H ks G0 w0 G a w) {p:Option Loc} {en:Bo} (SE:BK G w p en)
  (hs:∀(i:Nat) (e:Bo) (L M:Loc),H[i]?=some (some e)→G[i]?=some (some L)→p=some M→(¬e.empty∧en.mut=true)∨(e.mut=true∧¬en.empty)→L.b≠M.b)
  (ho:en.mut=true→∀L:Loc,p=some L→ks.contains L.b=true∨w0.heap.size≤L.b):Sy n T (H++[some en]) ks G0 w0 (G++[p]) a w:=by
 have hlen:=A.mem.len
 have hold:∀(i:Nat) (x:Bo),(H++[some en])[i]?=some (some x)→((G++[p])[i]?=G[i]?∧H[i]?=some (some x))∨(i=H.length∧(G++[p])[i]?=some p∧x=en):=by
  intro i x h
  by_cases hi:i<H.length
  ·rw [α1 hi]at h;exact .inl ⟨α1 (by omega),h⟩
  ·rw [α2 (by omega)]at h
   have hl:=(α0.1 h).1
   have e:i=H.length:=by simp at hl;omega
   subst e
   simp at h
   exact .inr ⟨rfl,by rw [α2 (by omega),hlen];simp,h.symm⟩
 refine⟨A.size,A.defers,fun q x hx=>BF _ x (A.get q x hx),⟨by simp [hlen],?_,?_⟩,?_,?_,A.mix⟩
 ·intro i x h
  rcases hold i x h with⟨h1,h2⟩|⟨rfl,h1,rfl⟩<;>rw [h1]
  ·exact(A.mem.ent i x h2).more _
  ·exact SE.more _
 ·intro i j x y M N IA h1 h2 h3 h4 h5 h6
  rcases hold i x h1 with⟨k1,k2⟩|⟨rfl,k1,rfl⟩<;>rw [k1]at h4<;>rcases hold j y h2 with⟨q1,q2⟩|⟨rfl,q1,rfl⟩<;>rw [q1]at h5
  ·exact A.mem.sep i j x y M N IA k2 q2 h3 h4 h5 h6
  ·cases h5;exact hs i x M N k2 h4 rfl (.inr ⟨h3,h6⟩)
  ·cases h4;exact fun z=>hs j y N M q2 h5 rfl (.inl ⟨h6,h3⟩) z.symm
  ·exact absurd rfl IA
 ·obtain⟨F,hF⟩:=A.pre;exact⟨F++[p],by rw [hF,γ2]⟩
 ·intro i x M h1 h2 h3
  rcases hold i x h1 with⟨k1,k2⟩|⟨rfl,k1,rfl⟩<;>rw [k1]at h3
  ·exact A.own i x M k2 h2 h3
  ·cases h3;exact ho h2 M rfl
theorem Sy.apart (A:Sy n T H ks G0 w0 G a w){b:Nat}(h1:b<w0.heap.size)(h2:ks.contains b=false){i:Nat}{e:Bo}{L:Loc}(hi:H[i]?=some (some e))(hL:G[i]?=some (some L))(hm:e.mut=true):L.b≠b:=fun h=>by
 rcases A.own i e L hi hm hL with h7|h7
 ·rw [h,h2]at h7;cases h7
 ·rw [h]at h7;omega
theorem Sy.old (A:Sy n T H ks G0 w0 G a w){i:Nat}{e:Bo}{L:Loc}(hi:H[i]?=some (some e))(hL:G[i]?=some (some L))(Ch:¬e.empty):L.b<w.heap.size:=by
 have:=A.mem.ent i e hi
 rw [hL]at this
 exact BK.lt this Ch
theorem Sy.noRow (A:Sy n T H ks G0 w0 G a w)(e s:Nat)(f:Nat→List SV)(CD:∀k,∃vs,Al [] (f k)=some vs∧vs.length=s):Sy n T (H++[some (.row e s 0 0 f)]) ks G0 w0 (G++[none]) a w:=
 A.addE ⟨CD,fun L h=>(by cases h),[],rfl,by simp,.inl ⟨rfl,rfl⟩⟩ (fun _ _ _ _ _ _ h=>by cases h) fun _ _ h=>by cases h
theorem Sy.newBlk (A:Sy n T H ks G0 w0 G a w){g:Nat}{t:TypeId}{en:Bo}(hg:g=w.heap.size)(SD:CI w w')(SE:BK G w' (some ⟨g,[],[],t⟩) en)(QY:en.mut=true):
  Sy n T (H++[some en]) ks G0 w0 (G++[some ⟨g,[],[],t⟩]) a w':=
 (A.grew SD).addE SE (fun i e L M h1 h2 h3 h=>by
  cases h3
  have:L.b<w.heap.size:=h.elim (fun q=>A.old h1 h2 q.1) fun q=>A.old h1 h2 (Bf q.1)
  simp only;omega) fun _ L h=>by cases h;right;simp only;rw [hg];exact A.mix.size
theorem Sy.turn (A:Sy n T H ks G0 w0 G a w){i:Nat}{cs cs':List SV}{L:Loc}{vs':List Value}(hi:H[i]?=some (some (.blk cs)))(hL:G[i]?=some (some L))(hu:XU L.b w w')(hv:Al G cs'=some vs')(hb:EV w' L.b (L.pre++vs'++L.post).toArray L.t):
  Sy n T (Cd H i (some (.blk cs'))) ks G0 w0 G a w':=by
 have G6:i<H.length:=(α0.1 hi).1
 have hold:∀(j:Nat) (e:Bo),(Cd H i (some (.blk cs')))[j]?=some (some e)→(j≠i∧H[j]?=some (some e))∨(j=i∧e=.blk cs'):=by
  intro j e h
  rw [BJ]at h
  by_cases hj:j=i
  ·subst hj;rw [γ7 G6]at h;cases h;exact .inr ⟨rfl,rfl⟩
  ·rw [γ0 (ζ1 hj)]at h;exact .inl ⟨hj,h⟩
 refine⟨A.size,A.defers,A.get,⟨by rw [BJ];simpa using A.mem.len,?_,?_⟩,A.pre,?_,A.mix.upd hu (A.own i _ L hi rfl hL)⟩
 ·intro j e h
  rcases hold j e h with⟨k1,k2⟩|⟨rfl,rfl⟩
  ·refine(A.mem.ent j e k2).mix hu.mix fun Ch M hM=>?_
   have wA:G[j]?=some (some M):=by
    cases hq:G[j]? with
    |none=>rw [hq]at hM;cases hM
    |some p=>rw [hq]at hM;simp at hM;rw [hM]
   have:=A.mem.sep i j _ e L M (ζ1 k1) hi k2 rfl hL wA Ch
   simp;exact fun e=>this e.symm
  ·rw [hL];exact⟨L,vs',rfl,hv,hb⟩
 ·intro j k e f M N HY h1 h2 h3 h4 h5 h6
  have a1:∃e',H[j]?=some (some e')∧e'.mut=e.mut:=by
   rcases hold j e h1 with⟨_,k2⟩|⟨rfl,rfl⟩
   ·exact⟨e,k2,rfl⟩
   ·exact⟨_,hi,rfl⟩
  have a2:∃e',H[k]?=some (some e')∧¬e'.empty:=by
   rcases hold k f h2 with⟨_,k2⟩|⟨rfl,rfl⟩
   ·exact⟨f,k2,h6⟩
   ·exact⟨_,hi,fun h=>h⟩
  obtain⟨e',b1,b2⟩:=a1
  obtain⟨f',b3,b4⟩:=a2
  exact A.mem.sep j k e' f' M N HY b1 b3 (by rw [b2];exact h3) h4 h5 b4
 ·intro j e M h1 h2 h3
  rcases hold j e h1 with⟨_,k2⟩|⟨rfl,rfl⟩
  ·exact A.own j e M k2 h2 h3
  ·exact A.own j _ M hi rfl h3
theorem BQ {gd:Option (Nat×Bool)}(A:Sy n T H ks G0 w0 G a w)(h:BE ops T o.guard=some .run):Region.wanted o (yielded ops a.tmps)=true:=by
 unfold BE at h
 split at h
 ·next hg=>exact wn hg
 ·next j c hg=>
  split at h
  ·next t ht=>
   split at h
   ·next hx=>cases c with
    |true=>have:=A.get t _ hx;simp only [den,β2]at this;exact wy hg ht this.symm
    |false=>cases h
   ·next hx=>cases c with
    |true=>cases h
    |false=>have:=A.get t _ hx;simp only [den,β2]at this;exact wy hg ht this.symm
   ·cases h
   ·split at h<;>(cases c<;>cases h)
   ·cases h
   ·cases h
  ·cases h
theorem IL (A:Sy n T H ks G0 w0 G a w){t:Nat}{g:Bool}{x:SV}{v:Value}(h:look T t=some (.opt g x))(hx:∀G,den G x=some v):a.tmps.getD t undef=bif g then v else undef:=by
 have:=A.get t _ h
 unfold den at this
 rw [hx G]at this
 exact(β6 this).symm
theorem Qw (A:Sy n T H ks G0 w0 G a w)(h:BE ops T o.guard=some .skip):Region.wanted o (yielded ops a.tmps)=false:=by
 unfold BE at h
 split at h
 ·cases h
 ·next j c hg=>
  split at h
  ·next t ht=>
   split at h
   ·next hx=>cases c with
    |true=>cases h
    |false=>have:=A.get t _ hx;simp only [den,β2]at this;exact Tu hg ht (.inl this.symm)
   ·next hx=>cases c with
    |true=>have:=A.get t _ hx;simp only [den,β2]at this;exact Tu hg ht (.inl this.symm)
    |false=>cases h
   ·cases h
   ·next g x hx=>
    split at h
    ·cases c with
     |true=>cases h
     |false=>
      have:=IL A hx (v:=.bool true) (fun _=>rfl)
      cases g with
      |true=>exact Tu hg ht (.inl this)
      |false=>exact Tu hg ht (.inr this)
    ·cases c with
     |true=>
      have:=IL A hx (v:=.bool false) (fun _=>rfl)
      cases g with
      |true=>exact Tu hg ht (.inl this)
      |false=>exact Tu hg ht (.inr this)
     |false=>cases h
    ·cases h
    ·cases h
   ·next hx=>have:=A.get t _ hx;simp [den,Al]at this;exact Tu hg ht (.inr (by rw [β3,←this];rfl))
   ·cases h
  ·cases h
theorem PW {b:Bool}(A:Sy n T H ks G0 w0 G a w)(h:BE ops T o.guard=some (.sym b)):Region.wanted o (yielded ops a.tmps)=b:=by
 unfold BE at h
 split at h
 ·cases h
 ·next j c hg=>
  split at h
  ·next t ht=>
   split at h
   ·cases c<;>cases h
   ·cases c<;>cases h
   ·next p hx=>
    cases h
    have:=A.get t _ hx
    simp only [den,β2]at this
    cases p<;>cases c<;>first|exact wy hg ht this.symm|exact Tu hg ht (.inl this.symm)
   ·next g x hx=>
    split at h
    ·cases c with
     |true=>
      cases h
      have:=IL A hx (v:=.bool true) (fun _=>rfl)
      cases b with
      |true=>exact wy hg ht this
      |false=>exact Tu hg ht (.inr this)
     |false=>cases h
    ·cases c with
     |true=>cases h
     |false=>
      cases h
      have:=IL A hx (v:=.bool false) (fun _=>rfl)
      cases b with
      |true=>exact wy hg ht this
      |false=>exact Tu hg ht (.inr this)
    ·next p=>
     cases h
     have:=IL A hx (v:=.bool p) (fun _=>rfl)
     cases g with
     |true=>cases p<;>cases c<;>first|exact wy hg ht this|exact Tu hg ht (.inl this)
     |false=>exact Tu hg ht (.inr this)
    ·cases h
   ·cases h
   ·cases h
  ·cases h
theorem OB {s:Nat}:∀(ps:List (Nat×Value)) (k:Nat) (Z:Array Value),(∀j x,ps[j]?=some x→x.1=k+j∧x.2.cells.size=s)→Z.size=(k+ps.length)*s→
  Instr.fill (fun j=>some (j*s,s)) Z ps=some (Z.toList.take (k*s)++(ps.map (·.2.cells.toList)).flatten).toArray
 | [],k,Z,_,hZ=>by
  simp only [Instr.fill,κ5,List.flatten_nil,ε9]
  congr 1
  rw [ε7 (by simp at hZ⊢;omega)]
 | (i,v)::ps,k,Z,h,hZ=>by
  obtain⟨h1,h2⟩:=h 0 (i,v) rfl
  simp only [θ8]at h1
  subst h1
  have h2:v.cells.size=s:=h2
  simp only [α5]at hZ
  have hZ':Z.size=(i+1+ps.length)*s:=by rw [hZ];congr 1;omega
  have hmul:(i+1+ps.length)*s=i*s+s+ps.length*s:=by simp [ι9]
  rw [Instr.fill]
  simp only
  have hf:=IJ (i*s) v.cells.toList 0 Z (by simp;omega)
  rw [if_neg (by simp [h2];omega)]
  have hs:(v.cells.zipIdx.foldl (fun cs (x:Value×Nat)=>cs.setIfInBounds (i*s+x.2) x.1) Z)=(Z.toList.take (i*s)++v.cells.toList++Z.toList.drop (i*s+s)).toArray:=by
   apply μ1
   rw [←σ3,ρ8]
   simpa [h2]using hf
  erw [hs]
  rw [OB ps (i+1) _ (fun j x hj=>by
   have:=h (j+1) x hj
   exact⟨by omega,this.2⟩) (by simp [h2];omega)]
  congr 2
  simp only [ζ4,List.flatten_cons,ι9,Nat.one_mul]
  have hl:(Z.toList.take (i*s)++v.cells.toList).length=i*s+s:=by simp [h2];omega
  rw [ι3 (by omega),ε7 (by omega)]
  simp
theorem OC (A:Sy n T H ks G0 w0 G a w){s:Nat}:∀{l:List (Nat×Operand)} {k:Nat} {cs:List SV},Xj T s l k=some cs→∃vs:List (Nat×Value),l.map (fun x=>(x.1,a.eval x.2))=vs∧(∀j x,vs[j]?=some x→x.1=k+j∧x.2.cells.size=s)∧Al G cs=some ((vs.map (·.2.cells.toList)).flatten)
 | [],k,cs,h=>by cases h;exact⟨[],rfl,fun j x h=>(by cases h),rfl⟩
 | (i, x)::l,k,cs,h=>by
  unfold Xj at h
  cases hb:Nat.beq i k with
  |false=>rw [hb]at h;cases h
  | true=>
   rw [hb]at h
   simp only [θ3]at h
   have:=α9 hb
   subst this
   split at h
   ·next y r hy hr=>
    split at h
    ·next c hc=>
     cases T3:Nat.beq c.length s with
     |false=>rw [T3]at h;cases h
     | true=>
      rw [T3]at h
      cases h
      obtain⟨v,h1,h2⟩:=A.evx hy
      have hv:=h2 Ah (fun g hg=>by cases hg)
      obtain⟨vs,e1,e2,e3⟩:=OC A hr
      have EO:=Ew hc h1
      have W9:=Be EO
      refine⟨(i,v)::vs,by simp [hv,e1],fun j x hj=>?_,?_⟩
      ·cases j with
       |zero=>cases hj;exact⟨by simp,by simpa [α9 T3]using W9⟩
       |succ j=>have:=e2 j x hj;exact⟨by omega,this.2⟩
      ·simpa using C0 EO e3
    ·cases h
   ·cases h
theorem IM (hX:X.ok P=true) (A:Sy n T H ks G0 w0 G a w) {gc:Option Bool} {t:TypeId} {en:Bo} {x:SV} (h:Tv X T H gc o.op=some (.new t en x)) (sK:Region.wanted o (yielded ops a.tmps)=true) {K:Value→World→Prop}
  (hK:∀g w' v,g=w.heap.size→CI w w'→BK G w' (some ⟨g,[],[],t⟩) en→en.mut=true→den (G++[some ⟨g,[],[],t⟩]) x=some v→K v w'):Bq P ops o a w K:=by
 have LN:∀g,(G++[some (⟨g,[],[],t⟩:Loc)])[H.length]?=some (some ⟨g,[],[],t⟩):=fun g=>by rw [α2 (by rw [A.mem.len];exact β7 _),A.mem.len];simp
 have pY:∀g,den (G++[some ⟨g,[],[],t⟩]) (.ptr H.length 0)=some (.pointer (some ⟨g,0,none⟩)):=fun g=>by unfold den;rw [LN g];simp [rm]
 have Jy:∀{g w' cs} {vs:List Value},Al G cs=some vs→EV w' g vs.toArray t→BK G w' (some ⟨g,[],[],t⟩) (.blk cs):=fun hv hb=>⟨_,_,rfl,hv,by simpa using hb⟩
 obtain⟨d,i,ty,pos,af,gd⟩:=o
 simp only at h
 unfold Tv at h
 split at h
 all_goals first|((repeat' (split at h))<;>(cases h;done))|skip
 ·next e=>
  split at h
  ·split at h
   ·next j hj=>
    split at h
    ·next z hz=>
     cases h
     obtain⟨zv,m,h1,h2⟩:=Ml (Tb.at hX hj) hz
     exact XV sK h1 fun g w' a1 a2 a3=>hK g w' _ a1 a2 (Jy (h2 G) (by simpa using a3)) rfl (pY g)
    ·cases h
   ·cases h
  ·cases h
 ·next e x=>
  split at h
  ·split at h
   ·next y hy=>
    split at h
    ·next l hl=>
     cases h
     obtain⟨v,h1,h2⟩:=A.evx hy
     exact kH sK (h2 Ah (fun g hg=>by cases hg)) fun g w' a1 a2 a3=>hK g w' _ a1 a2 (Jy (Ew hl h1) (by simpa using a3)) rfl (pY g)
    ·cases h
   ·cases h
  ·cases h
 ·next ts m parts=>
  split at h
  ·split at h
   ·next i cs' hi Ab=>
    split at h
    ·next e s bb he=>
     split at h
     ·next hb=>
      rw [α3]at hb
      have hm:=α9 hb.1
      have kA:=ε1 hb.2
      simp only [hi,he,Option.elim_some]at Ab
      obtain⟨vs,e1,e2,e3⟩:=OC A Ab
      have QZ:=D0 (Tb.at hX hi) he
      obtain⟨ie,z,f1,f2,f3,f4,f5,f6,f7⟩:=Dn QZ
      split at h
      ·next ie' yY=>
       split at h
       ·next zz hzz=>
        split at h
        ·next Nu=>
         cases h
         rw [α3]at Nu
         have hp:parts= #[]:=by
          have:parts.toList=[]:=δ3 hm
          have:=congrArg List.toArray this
          simpa using this
         subst hp
         obtain⟨us,u1,u2⟩:=Qt Nu.2
         have hzl:=α9 Nu.1
         refine bL sK QZ fun g w' a1 a2 a3=>hK g w' _ a1 a2 ⟨fun _=>⟨us,u1,by omega⟩,fun L hL=>(by cases hL;rfl),[],rfl,by simp,.inr ⟨g,0, #[],rfl,β8 _,a3,β7 _,by simp [maxLen],by simp,by simp⟩⟩ rfl ?_
         unfold den;rw [LN g];simp [rm]
        ·cases h
       ·cases h
      ·cases h
      ·next m'=>
       cases h
       have Qa:∀g,den (G++[some ⟨g,[],[],t⟩]) (.sl H.length (m'+1) (m'+1))=some (.slice (some ⟨g,0,none⟩) (m'+1) (m'+1)):=fun g=>by unfold den;rw [LN g];simp [rm]
       refine A6 (w':=w.alloc (.cells ((vs.map fun x:Nat×Value=>x.2.cells.toList).flatten).toArray t)) sK ?_ (hK _ _ _ rfl ((CI.refl _).alloc _) (Jy e3 (ρ7 w _)) rfl (Qa _))
       have pX:vs.length=m'+1:=by rw [←e1];simpa using hm
       have kA:(m'+1)*s≤4000:=kA
       have pZ:=OB (s:=s) vs 0 ((Array.range ((m'+1)*s)).map (z.cells[· % z.cells.size]!)) e2 (by simp [pX])
       have hr:=run_buildSlice (P:=P) w ts t (m'+1) vs.toArray ((vs.map (·.2.cells.toList)).flatten).toArray ie z f1 f2 f3 (by rw [f4];omega) (by rw [f4];simp only [Nat.mul_eq_zero];omega) (by rw [f4];simpa using pZ)
       have AV:(parts.map fun x=>(x.1,a.eval x.2))=vs.toArray:=by
        apply μ1
        simpa using e1
       unfold execOp
       simp only [γ3]
       erw [AV,hr]
       simp only [β1,γ6]
     ·cases h
    ·cases h
   ·cases h
  ·cases h
theorem EE (hX:X.ok P=true) (A:Sy n T H ks G0 w0 G a w) {t:TypeId} {x y:Operand} {u v:SV} {p q:Value} {i:Nat} {cs':List SV} {D:Ob} {d:Option Tmp} {ty:TypeId} {pos:String} {af:Array Edge} {gd:Option (Nat×Bool)}
  (h:Do X H t u v=some (i,cs',D)) (hD:Dr D) (hu:den G u=some p) (hv:den G v=some q) (hx:a.eval x=p) (hy:a.eval y=q) (hw:Region.wanted {dst:=d,op:=.store t x y,type:=ty,pos:=pos,after:=af,guard:=gd} (yielded ops a.tmps)=true) {K:Value→World→Prop}
  (hK:∀cs L vs' w',H[i]?=some (some (.blk cs))→G[i]?=some (some L)→XU L.b w w'→Al G cs'=some vs'→EV w' L.b (L.pre++vs'++L.post).toArray L.t→K undef w'):Bq P ops {dst:=d,op:=.store t x y,type:=ty,pos:=pos,after:=af,guard:=gd} a w K:=by
 unfold Do at h
 split at h
 ·next i' o=>
  split at h
  ·next cs hi=>
   rw [BI]at hi
   obtain⟨L,vs,e1,e2,e3⟩:=A.mem.ent i' _ hi
   have hG:G[i']?=some (some L):=by
    cases hq:G[i']? with
    |none=>rw [hq]at e1;cases e1
    |some r=>rw [hq]at e1;simp at e1;rw [e1]
   have hp:p=.pointer (some ⟨L.b,L.pre.length+o,none⟩):=by
    unfold den at hu;rw [hG]at hu;exact(β6 hu).symm
   have pX:=Be e2
   have key:∀(l:List SV) (us:List Value),sp o cs l=some cs'→Al G l=some us→us.all (·.oneCell')=true→i'=i→
     (∀w',(w'=w.setCells L.b (L.pre.length+o) us)→(Instr.storeAt t p q).run P w=.ok () w')→Bq P ops {dst:=d,op:=.store t x y,type:=ty,pos:=pos,after:=af,guard:=gd} a w K:=by
    intro l us hs hl CA he PA
    subst he
    obtain⟨f1,f2⟩:=JZ hs
    have ZA:=Be hl
    have W8:Al G cs'=some (vs.take o++us++vs.drop (o+l.length)):=by
     rw [f1];exact C0 (C0 (Cf o e2) hl) (Cg _ e2)
    have GM:L.pre++vs++L.post=(L.pre++vs.take o)++((vs.drop o).take l.length)++(vs.drop (o+l.length)++L.post):=by
     have:vs=vs.take o++((vs.drop o).take l.length++vs.drop (o+l.length)):=by
      rw [←μ2,ι5,ι5]
     conv=>lhs;rw [this]
     simp [γ2]
    rw [GM]at e3
    have p4:(L.pre++vs.take o).length=L.pre.length+o:=by simp;omega
    obtain⟨g1,g2⟩:=I6 us ((vs.drop o).take l.length) (L.pre++vs.take o) (vs.drop (o+l.length)++L.post) w (by simp;omega) e3
    rw [p4]at g1 g2
    refine Lo (w':=w.setCells L.b (L.pre.length+o) us) hw ?_ (hK cs L _ _ hi hG g2 W8 (by simpa [γ2]using g1))
    unfold execOp
    simp only [hx,hy,γ3,PA _ rfl,β1,γ6]
   have FM:∀j,j<vs.length→(w.cell? ⟨L.b,L.pre.length+j,none⟩).isSome=true∧w.frozen? ⟨L.b,L.pre.length+j,none⟩=false:=by
    intro j hj
    refine⟨?_,e3.frozen _⟩
    have:(L.pre++vs++L.post).toArray[L.pre.length+j]?=some vs[j]:=by
     simp only [π2]
     rw [γ2,α2 (by omega),α1 (by omega)]
     simp [hj]
    rw [e3.cell this];rfl
   split at h
   ·next f hf=>
    have ht:=Tb.at hX hf
    split at h
    ·next m hm=>
     split at h
     ·next l=>
      cases hb:Nat.beq l.length m with
      |false=>rw [hb]at h;cases h
      | true=>
       rw [hb]at h
       simp only [θ3]at h
       have yZ:=α9 hb
       split at h
       ·next r E hs ho=>
        cases h
        unfold den at hv
        obtain⟨us,k1,k2⟩:=γ9.1 hv
        have CA:=DY ho hD k1
        have y3:=Be k1
        obtain⟨f1,f2⟩:=JZ hs
        refine key l us hs k1 CA rfl fun w' AX=>?_
        rw [hp,←k2,AX]
        have:=run_storeAt_mid (P:=P) w L.b (L.pre.length+o) t us.toArray (fun j hj=>by
         have:=FM (o+j) (by simp at hj;omega)
         rwa [←θ4]at this) (by simp;rw [y3,yZ];simpa using (Er (I5 ht hm)).2) (by simpa using CA)
        simpa using this
       ·cases h
     ·cases h
    ·next hm=>
     cases CA:f.one with
     |false=>rw [CA]at h;cases h
     | true=>
      rw [CA]at h
      simp only [θ3]at h
      split at h
      ·next r E hs ho=>
       cases h
       have k1:Al G [v]=some [q]:=Bb hv rfl
       have kB:=DY ho hD k1
       obtain⟨f1,f2⟩:=JZ hs
       refine key [v] [q] hs k1 kB rfl fun w' AX=>?_
       rw [hp,AX]
       have:=PO (P:=P) (v:=q) (k:=L.pre.length+o) (I4 ht CA) (by simpa using kB) e3 (by simp at f2⊢;omega)
       simpa [World.setCells]using this
      ·cases h
   ·cases h
  ·cases h
 ·cases h
theorem Qx (hX:X.ok P=true) (A:Sy n T H ks G0 w0 G a w) {gc:Option Bool} {i:Nat} {cs':List SV} {E:Ob} (h:Tv X T H gc o.op=some (.upd i cs' E)) (hE:Dr E) (hw:Region.wanted o (yielded ops a.tmps)=true) {K:Value→World→Prop}
  (hK:∀cs L vs' w',H[i]?=some (some (.blk cs))→G[i]?=some (some L)→XU L.b w w'→Al G cs'=some vs'→EV w' L.b (L.pre++vs'++L.post).toArray L.t→K undef w'):Bq P ops o a w K:=by
 obtain⟨d,j,ty,pos,af,gd⟩:=o
 simp only at h
 unfold Tv at h
 split at h
 all_goals first|((repeat' (split at h))<;>(cases h;done))|skip
 next t x y=>
 split at h
 ·split at h
  ·next u E1 v E2 hx hy=>
   split at h
   ·next i2 cs2 D hs=>
    cases h
    obtain⟨e1,e2⟩:=Az hE
    obtain⟨e3,e4⟩:=Az e2
    have y4:Js none:=fun g hg=>by cases hg
    obtain⟨p,h1,h2⟩:=A.evx hx
    obtain⟨q,h3,h4⟩:=A.evx hy
    exact EE hX A hs e4 h1 h3 (h2 e1 y4) (h4 e3 y4) hw hK
   ·cases h
  ·cases h
 ·cases h
theorem UP (hX:X.ok P=true) (A:Sy n T H ks G0 w0 G a w) {out:Out} (h:Dh X n ops T H o=some out) (hE:Dr (OA out))
  (hk:∀G' a' w',Sy n (SX T H o.dst out) (LX H out) ks G0 w0 G' a' w'→wpList P ops Q rest a' w'):wpList P ops Q (o::rest) a w:=by
 unfold Dh at h
 have wB:Js none:=fun g hg=>by cases hg
 split at h
 ·next hd=>
  split at h
  ·next hg=>
   have hw:=BQ (gd:=none) A hg
   cases out with
   |val x E=>
    obtain⟨z,hz,k⟩:=J6 (P:=P) (ops:=ops) hX A h
    exact Cm (k hE wB hw _ (hk _ _ _ (A.put hd hz)))
   |new t en x=>
    exact Cm (IM (P:=P) (ops:=ops) hX A h hw fun g w' v a1 a2 a3 a4 a5=>hk (G++[some (⟨g,[],[],t⟩:Loc)]) _ _ (Sy.put (A.newBlk a1 a2 a3 a4) hd a5))
   |upd i cs E=>
    refine Cm (Qx hX A h hE hw fun cs0 L vs' w' a1 a2 a3 a4 a5=>hk _ _ _ (Sy.put (A.turn a1 a2 a3 a4 a5) hd rfl))
  ·next hg=>
   cases h
   exact Cm (FV (Qw A hg) (hk _ _ _ (A.put hd rfl)))
  ·next b hg=>
   split at h
   ·next x E hx=>
    cases h
    have hw:=PW A hg
    obtain⟨z,hz,k⟩:=J6 (P:=P) (ops:=ops) hX A hx
    cases b with
    |true=>exact Cm (k hE (fun g hg=>by cases hg;rfl) hw _ (hk _ _ _ (A.put hd (x:=.opt true x) (by simp [den,hz]))))
    |false=>exact Cm (FV hw (hk _ _ _ (A.put hd (x:=.opt false x) (by simp [den,hz]))))
   ·cases h
  ·cases h
 ·cases h
end
inductive Fr where
 |thn (c:Code)
 |blk (id:Nat)
 |lp (I:Act→World→Prop)
def Fz (P:Program)(Q:Exit→Act→World→Prop):List Fr→Exit→Act→World→Prop
 | []=>Q
 | .thn c::K=>Exit.then (c.wp P (Fz P Q K)) (Fz P Q K)
 | .blk id::K=>Exit.inBlock id (Fz P Q K)
 | .lp I::K=>Exit.then I (Fz P Q K)
inductive Pos where
 |ops (all:Array Oper) (l:List Oper)
 |code (c:Code)
 |norm
 |ret
def Goal (P:Program)(Q:Exit→Act→World→Prop)(K:List Fr):Pos→Act→World→Prop
 | .ops all l=>wpList P all (Fz P Q K) l
 | .code c=>c.wp P (Fz P Q K)
 | .norm=>Fz P Q K .normal
 | .ret=>Q .ret
def KZ (id:Nat):List Fr→Option (List Fr)
 | []=>none
 | .blk j::K=>bif Nat.beq id j then some K else KZ id K
 | .thn _::K=>KZ id K
 | .lp _::K=>KZ id K
theorem IN {P:Program}{Q:Exit→Act→World→Prop}{id:Nat}{a:Act}{w:World}:∀{K K':List Fr},KZ id K=some K'→Fz P Q K' .normal a w→Fz P Q K (.exit id) a w
 | [],K',h,_=>by cases h
 | .blk j::K,K',h,hk=>by
  unfold KZ at h
  cases hb:Nat.beq id j with
  |true=>
   rw [hb]at h;cases h
   have:=α9 hb
   subst this
   exact bJ hk
  |false=>
   rw [hb]at h
   exact bK (fun e=>by subst e;simp at hb) (IN h hk)
 | .thn c::K,K',h,hk=>UD (IN (K:=K) h hk)
 | .lp I::K,K',h,hk=>UD (IN (K:=K) h hk)
theorem IP {P:Program}{Q:Exit→Act→World→Prop}{a:Act}{w:World}:∀{K:List Fr},Q .ret a w→Fz P Q K .ret a w
 | [],h=>h
 | .blk j::K,h=>kI (IP (K:=K) h)
 | .thn c::K,h=>ZP (IP (K:=K) h)
 | .lp I::K,h=>ZP (IP (K:=K) h)
structure UQ where
 T:List (Nat×SV)
 H:Hp
 K:List Fr
 pos:Pos
 E:Ob
def UQ.more (E:Ob):UQ→UQ
 |⟨T,H,K,pos,F⟩=>⟨T,H,K,pos,E++F⟩
def go (X:Tx)(n:Nat):Nat→List (Nat×SV)→Hp→List Fr→Pos→UQ
 |0,T,H,K,pos=>⟨T,H,K,pos,[]⟩
 |f+1,T,H,K,.ops all []=>go X n f T H K .norm
 | f+1,T,H,K,.ops all (o::l)=>match Dh X n all T H o with
  |some out=>match OA out with
   | []=>go X n f (SX T H o.dst out) (LX H out) K (.ops all l)
   |E=>(go X n f (SX T H o.dst out) (LX H out) K (.ops all l)).more E
  |none=>⟨T,H,K,.ops all (o::l),[]⟩
 |f+1,T,H,[],.norm=>⟨T,H,[],.norm,[]⟩
 |f+1,T,H,.thn c::K,.norm=>go X n f T H K (.code c)
 |f+1,T,H,.blk _::K,.norm=>go X n f T H K .norm
 |f+1,T,H,.lp I::K,.norm=>⟨T,H,.lp I::K,.norm,[]⟩
 |f+1,T,H,K,.ret=>⟨T,H,K,.ret,[]⟩
 | f+1,T,H,K,.code c=>match c with
  | .skip=>go X n f T H K .norm
  | .label _=>go X n f T H K .norm
  | .seq a b=>go X n f T H (.thn b::K) (.code a)
  | .region _ ops false=>go X n f T H K (.ops ops ops.toList)
  | .cond x a b=>match Db T x with
   |some .tt=>go X n f T H K (.code a)
   |some .ff=>go X n f T H K (.code b)
   |_=>⟨T,H,K,.code c,[]⟩
  | .block id b=>go X n f T H (.blk id::K) (.code b)
  | .exit id=>match KZ id K with
   |some K'=>go X n f T H K' .norm
   |none=>⟨T,H,K,.code c,[]⟩
  | .ret=>⟨T,H,K,.ret,[]⟩
  |_=>⟨T,H,K,.code c,[]⟩
section
variable {P:Program}{X:Tx}{n:Nat}{ks:List Nat}{G0:Gr}{w0:World}{Q:Exit→Act→World→Prop}
def tH (P:Program)(Q:Exit→Act→World→Prop)(n:Nat)(ks:List Nat)(G0:Gr)(w0:World)(T:List (Nat×SV))(H:Hp)(K:List Fr)(pos:Pos):Prop:=∀G a w,Sy n T H ks G0 w0 G a w→Goal P Q K pos a w
def UQ.all (P:Program)(Q:Exit→Act→World→Prop)(n:Nat)(ks:List Nat)(G0:Gr)(w0:World)(r:UQ):Prop:=Dr r.E→tH P Q n ks G0 w0 r.T r.H r.K r.pos
theorem D2 (hX:X.ok P=true):∀(f:Nat) (T:List (Nat×SV)) (H:Hp) (K:List Fr) (pos:Pos),Dr (go X n f T H K pos).E→tH P Q n ks G0 w0 (go X n f T H K pos).T (go X n f T H K pos).H (go X n f T H K pos).K (go X n f T H K pos).pos→tH P Q n ks G0 w0 T H K pos
 |0,T,H,K,pos,_,h=>h
 |f+1,T,H,K,.ops all [],hE,h=>by
  unfold go at hE h
  have:=D2 hX f T H K .norm hE h
  exact fun G a w A=>kG (P:=P) (ops:=all) (this G a w A)
 | f+1,T,H,K,.ops all (o::l),hE,h=>by
  unfold go at hE h
  cases hs:Dh X n all T H o with
  |none=>rw [hs]at h;exact h
  | some out=>
   simp only [hs]at hE h
   cases ho:OA out with
   |nil=>
    simp only [ho]at hE h
    have:=D2 hX f _ _ K (.ops all l) hE h
    exact fun G a w A=>UP hX A hs (by rw [ho];rfl) fun G' a' w' A'=>this G' a' w' A'
   |cons e E=>
    simp only [ho,UQ.more]at hE h
    have y5:=Az hE
    have:=D2 hX f _ _ K (.ops all l) y5.2 h
    exact fun G a w A=>UP hX A hs (by rw [ho];exact y5.1) fun G' a' w' A'=>this G' a' w' A'
 |f+1,T,H,[],.norm,_,h=>h
 |f+1,T,H,.thn c::K,.norm,hE,h=>by
  unfold go at hE h
  exact fun G a w A=>bH (Q:=Fz P Q K) (D2 hX f T H K (.code c) hE h G a w A)
 |f+1,T,H,.blk id::K,.norm,hE,h=>by
  unfold go at hE h
  exact fun G a w A=>bI (id:=id) (Q:=Fz P Q K) (D2 hX f T H K .norm hE h G a w A)
 |f+1,T,H,.lp I::K,.norm,_,h=>h
 |f+1,T,H,K,.ret,_,h=>by cases K<;>exact h
 | f+1,T,H,K,.code c,hE,h=>by
  unfold go at hE h
  cases c with
  |skip=>exact fun G a w A=>wp_skip (D2 hX f T H K .norm hE h G a w A)
  |label l=>exact fun G a w A=>wp_label (D2 hX f T H K .norm hE h G a w A)
  |seq x y=>exact fun G a w A=>wp_seq (D2 hX f T H (.thn y::K) (.code x) hE h G a w A)
  |region id ops dr=>
   cases dr with
   |false=>exact fun G a w A=>wp_region_list (D2 hX f T H K (.ops ops ops.toList) hE h G a w A)
   |true=>exact h
  |cond x y z=>
   simp only at hE h
   split at h
   ·next hx=>rw [hx]at hE;exact fun G a w A=>wp_cond_true (by have:=A.ev hx;simp only [den,β2]at this;exact this.symm) (D2 hX f T H K (.code y) hE h G a w A)
   ·next hx=>rw [hx]at hE;exact fun G a w A=>wp_cond_false (by have:=A.ev hx;simp only [den,β2]at this;exact this.symm) (D2 hX f T H K (.code z) hE h G a w A)
   ·exact h
  |block id b=>exact fun G a w A=>wp_block (D2 hX f T H (.blk id::K) (.code b) hE h G a w A)
  |exit id=>
   simp only at hE h
   split at h
   ·next K' hK=>rw [hK]at hE;exact fun G a w A=>wp_exit (IN hK (D2 hX f T H K' .norm hE h G a w A))
   ·exact h
  |ret=>exact fun G a w A=>wp_ret (IP (h G a w A))
  |_=>exact h
end
def li {α:Type}(n i:Nat)(k:Nat→α)(e:α):α:=bif Nat.beq n i then k i else e
theorem kY {α:Type}(n i:Nat)(k:Nat→α):li n i k (k n)=k n:=by
 unfold li
 cases h:Nat.beq n i with
 |true=>rw [α9 h];rfl
 |false=>rfl
def lit {α:Type}(n:Nat)(k:Nat→α):α:=li n 0 k (li n 1 k (li n 2 k (li n 3 k (li n 4 k (li n 5 k (li n 6 k (li n 7 k (li n 8 k (li n 9 k (li n 10 k (li n 11 k (li n 12 k (li n 13 k (li n 14 k (li n 15 k (li n 16 k (li n 17 k (li n 18 k (li n 19 k (li n 20 k (li n 21 k (li n 22 k (li n 23 k (li n 24 k (li n 25 k (li n 26 k (li n 27 k (k n))))))))))))))))))))))))))))
theorem Mp {α:Type}(n:Nat)(k:Nat→α):lit n k=k n:=by simp only [lit,kY]
mutual
def OD {α:Type}:SV→(SV→α)→α
 | .agg l,k=>Xl l fun l=>k (.agg l)
 | .tup l,k=>Xl l fun l=>k (.tup l)
 | .fn f l,k=>Xl l fun l=>k (.fn f l)
 | .opt b x,k=>OD x fun x=>k (.opt b x)
 | .ptr i o,k=>lit i fun i=>k (.ptr i o)
 | .sl i n c,k=>lit i fun i=>k (.sl i n c)
 | .el i s j o,k=>lit i fun i=>k (.el i s j o)
 | .ix p s n j o,k=>OD p fun p=>k (.ix p s n j o)
 | .sla a n c,k=>k (.sla a n c)
 | .sp p n c,k=>OD p fun p=>k (.sp p n c)
 | .st i s j n c,k=>lit i fun i=>k (.st i s j n c)
 | .int i n,k=>k (.int i n)
 | .bool b,k=>k (.bool b)
 | .tt,k=>k .tt
 | .ff,k=>k .ff
 | .str l,k=>k (.str l)
 | .v x,k=>k (.v x)
def Xl {α:Type}:List SV→(List SV→α)→α
 | [],k=>k []
 |x::l,k=>OD x fun x=>Xl l fun l=>k (x::l)
end
mutual
theorem JC {α:Type}:∀(x:SV) (k:SV→α),OD x k=k x
 | .agg l,k=>by rw [OD,Ho l]
 | .tup l,k=>by rw [OD,Ho l]
 | .fn f l,k=>by rw [OD,Ho l]
 | .opt b x,k=>by rw [OD,JC x]
 | .ptr _ _,_=>by rw [OD,Mp]
 | .sl _ _ _,_=>by rw [OD,Mp]
 | .el _ _ _ _,_=>by rw [OD,Mp]
 | .ix p _ _ _ _,_=>by rw [OD,JC p]
 | .sla _ _ _,_=>rfl
 | .sp p _ _,_=>by rw [OD,JC p]
 | .st _ _ _ _ _,_=>by rw [OD,Mp]
 | .int _ _,_=>rfl
 | .bool _,_=>rfl
 | .tt,_=>rfl
 | .ff,_=>rfl
 | .str _,_=>rfl
 | .v _,_=>rfl
theorem Ho {α:Type}:∀(l:List SV) (k:List SV→α),Xl l k=k l
 | [],_=>rfl
 |x::l,k=>by rw [Xl,JC x,Ho l]
end
def SY {α:Type}:Hp→(Hp→α)→α
 | [],k=>k []
 |none::l,k=>SY l fun l=>k (none::l)
 |some (.blk cs)::l,k=>Xl cs fun cs=>SY l fun l=>k (some (.blk cs)::l)
 |some (.lst s n f)::l,k=>SY l fun l=>k (some (.lst s n f)::l)
 |some (.fac b o)::l,k=>SY l fun l=>k (some (.fac b o)::l)
 |some (.row e s n c xs)::l,k=>SY l fun l=>k (some (.row e s n c xs)::l)
theorem Hr {α:Type}:∀(l:Hp) (k:Hp→α),SY l k=k l
 | [],_=>rfl
 |none::l,k=>by rw [SY,Hr l]
 |some (.blk cs)::l,k=>by rw [SY,Ho cs,Hr l]
 |some (.lst s n f)::l,k=>by rw [SY,Hr l]
 |some (.fac b o)::l,k=>by rw [SY,Hr l]
 |some (.row e s n c xs)::l,k=>by rw [SY,Hr l]
def rT {α:Type}:Hp→Option Bo→(Hp→α)→α
 | [],e,k=>k [e]
 |x::l,e,k=>rT l e fun l=>k (x::l)
theorem UR {α:Type}(e:Option Bo):∀(l:Hp) (k:Hp→α),rT l e k=k (l++[e])
 | [],k=>rfl
 |x::l,k=>by rw [rT,UR e l];rfl
def rU {α:Type}:Hp→Nat→Option Bo→(Hp→α)→α
 | [],_,_,k=>k []
 |_::l,0,e,k=>k (e::l)
 |y::l,i+1,e,k=>rU l i e fun l=>k (y::l)
theorem US {α:Type}(e:Option Bo):∀(l:Hp) (i:Nat) (k:Hp→α),rU l i e k=k (Cd l i e)
 | [],_,k=>rfl
 |_::_,0,k=>rfl
 |y::l,i+1,k=>by rw [rU,US e l];rfl
def tI {α:Type}:Bo→(Bo→α)→α
 | .blk cs,k=>Xl cs fun cs=>k (.blk cs)
 | .lst s n f,k=>k (.lst s n f)
 | .fac b o,k=>k (.fac b o)
 | .row e s n c xs,k=>k (.row e s n c xs)
theorem bW {α:Type}:∀(e:Bo) (k:Bo→α),tI e k=k e
 | .blk cs,k=>by rw [tI,Ho]
 | .lst _ _ _,_=>rfl
 | .fac _ _,_=>rfl
 | .row _ _ _ _ _,_=>rfl
def Xm {α:Type}(T:List (Nat×SV)):Option Nat→SV→(List (Nat×SV)→α)→α
 |some d,x,k=>k ((d,x)::T)
 |none,_,k=>k T
theorem Mq {α:Type}(T:List (Nat×SV))(d:Option Nat)(x:SV)(k:List (Nat×SV)→α):Xm T d x k=k (Bh T d x):=by cases d<;>rfl
def yG (E:Ob)(r:UQ):UQ:=match E with
 | []=>r
 |E=>r.more E
def LP (X:Tx)(n:Nat):Nat→List (Nat×SV)→Hp→List Fr→Pos→UQ
 |0,T,H,K,pos=>⟨T,H,K,pos,[]⟩
 |f+1,T,H,K,.ops all []=>LP X n f T H K .norm
 |f+1,T,H,K,.ops all (o::l)=>match Dh X n all T H o with
  |some (.val x E)=>OD x fun x=>Xm T o.dst x fun T=>yG E (LP X n f T H K (.ops all l))
  |some (.new t e x)=>OD x fun x=>tI e fun e=>Xm T o.dst x fun T=>rT H (some e) fun H=>LP X n f T H K (.ops all l)
  |some (.upd i cs E)=>Xl cs fun cs=>Xm T o.dst (.tup []) fun T=>rU H i (some (.blk cs)) fun H=>yG E (LP X n f T H K (.ops all l))
  |none=>⟨T,H,K,.ops all (o::l),[]⟩
 |f+1,T,H,[],.norm=>⟨T,H,[],.norm,[]⟩
 |f+1,T,H,.thn c::K,.norm=>LP X n f T H K (.code c)
 |f+1,T,H,.blk _::K,.norm=>LP X n f T H K .norm
 |f+1,T,H,.lp I::K,.norm=>⟨T,H,.lp I::K,.norm,[]⟩
 |f+1,T,H,K,.ret=>⟨T,H,K,.ret,[]⟩
 | f+1,T,H,K,.code c=>match c with
  | .skip=>LP X n f T H K .norm
  | .label _=>LP X n f T H K .norm
  | .seq a b=>LP X n f T H (.thn b::K) (.code a)
  | .region _ ops false=>LP X n f T H K (.ops ops ops.toList)
  | .cond x a b=>match Db T x with
   |some .tt=>LP X n f T H K (.code a)
   |some .ff=>LP X n f T H K (.code b)
   |_=>⟨T,H,K,.code c,[]⟩
  | .block id b=>LP X n f T H (.blk id::K) (.code b)
  | .exit id=>match KZ id K with
   |some K'=>LP X n f T H K' .norm
   |none=>⟨T,H,K,.code c,[]⟩
  | .ret=>⟨T,H,K,.ret,[]⟩
  |_=>⟨T,H,K,.code c,[]⟩
theorem D3 (X:Tx)(n:Nat):∀(f:Nat) (T:List (Nat×SV)) (H:Hp) (K:List Fr) (pos:Pos),LP X n f T H K pos=go X n f T H K pos
 |0,T,H,K,pos=>rfl
 |f+1,T,H,K,.ops all []=>by unfold LP go;exact D3 X n f _ _ _ _
 | f+1,T,H,K,.ops all (o::l)=>by
  unfold LP go
  cases Dh X n all T H o with
  |none=>rfl
  | some out=>
   cases out with
   |val x E=>
    simp only [JC,Mq,D3 X n f,SX,LX,OA]
    cases E<;>rfl
   |new t e x=>
    simp only [JC,bW,Mq,UR,D3 X n f,SX,LX,OA]
   |upd i cs E=>
    simp only [Ho,Mq,US,D3 X n f,SX,LX,OA]
    cases E<;>rfl
 |f+1,T,H,[],.norm=>rfl
 |f+1,T,H,.thn c::K,.norm=>by unfold LP go;exact D3 X n f _ _ _ _
 |f+1,T,H,.blk _::K,.norm=>by unfold LP go;exact D3 X n f _ _ _ _
 |f+1,T,H,.lp I::K,.norm=>rfl
 |f+1,T,H,K,.ret=>by unfold LP go;rfl
 |f+1,T,H,K,.code c=>by
  unfold LP go
  cases c with
  |skip=>exact D3 X n f _ _ _ _
  |label _=>exact D3 X n f _ _ _ _
  |seq a b=>exact D3 X n f _ _ _ _
  |region id ops dr=>cases dr<;>first|rfl|exact D3 X n f _ _ _ _
  |cond x a b=>simp only [D3 X n f];try rfl
  |block id b=>exact D3 X n f _ _ _ _
  |exit id=>simp only [D3 X n f];try rfl
  |ret=>rfl
  |_=>rfl
def rV {α:Type}:List (Nat×SV)→(List (Nat×SV)→α)→α
 | [],k=>k []
 |x::l,k=>rV l fun l=>k (x::l)
theorem UT {α:Type}:∀(l:List (Nat×SV)) (k:List (Nat×SV)→α),rV l k=k l
 | [],_=>rfl
 |x::l,k=>by rw [rV,UT l]
def rW {α:Type}:Hp→(Hp→α)→α
 | [],k=>k []
 |x::l,k=>rW l fun l=>k (x::l)
theorem UU {α:Type}:∀(l:Hp) (k:Hp→α),rW l k=k l
 | [],_=>rfl
 |x::l,k=>by rw [rW,UU l]
def bX (X:Tx)(n f:Nat)(T:List (Nat×SV))(H:Hp)(K:List Fr)(pos:Pos):UQ:=rV T fun T=>rW H fun H=>LP X n f T H K pos
theorem bY (X:Tx)(n f:Nat)(T:List (Nat×SV))(H:Hp)(K:List Fr)(pos:Pos):bX X n f T H K pos=go X n f T H K pos:=by
 unfold bX
 rw [UT,UU,D3]
section
variable {P:Program}{X:Tx}{n:Nat}{ks:List Nat}{G0:Gr}{w0:World}{Q:Exit→Act→World→Prop}{T T':List (Nat×SV)}{H H':Hp}{K K':List Fr}{pos pos':Pos}{E:Ob}{G:Gr}{a:Act}{w:World}
theorem M0 (hX:X.ok P=true)(f:Nat)(A:Sy n T H ks G0 w0 G a w)(h:bX X n f T H K pos=⟨T',H',K',pos',E⟩)(hE:Dr E)(hk:∀{G a w},Sy n T' H' ks G0 w0 G a w→Goal P Q K' pos' a w):Goal P Q K pos a w:=by
 rw [bY]at h
 have:=D2 (P:=P) (Q:=Q) (n:=n) (ks:=ks) (G0:=G0) (w0:=w0) hX f T H K pos
 rw [h]at this
 exact this hE (fun G a w A=>hk A) G a w A
theorem N {Y:Tb}(hX:Y.ok P=true)(f:Nat)(A:Sy n T H ks G0 w0 G a w)(h:bX ⟨Y,true⟩ n f T H K pos=⟨T',H',K',pos',E⟩)(hE:Dr E)(hk:∀{G a w},Sy n T' H' ks G0 w0 G a w→Goal P Q K' pos' a w):Goal P Q K pos a w:=M0 (X:=⟨Y,true⟩) hX f A h hE hk
theorem M {Y:Tb}(hX:Y.ok P=true)(f:Nat)(A:Sy n T H ks G0 w0 G a w)(h:bX ⟨Y,false⟩ n f T H K pos=⟨T',H',K',pos',E⟩)(hE:Dr E)(hk:∀{G a w},Sy n T' H' ks G0 w0 G a w→Goal P Q K' pos' a w):Goal P Q K pos a w:=M0 (X:=⟨Y,false⟩) hX f A h hE hk
theorem Sy.isT (A:Sy n T H ks G0 w0 G a w)(t:Nat){b:Bool}(h:look T t=some (.bool b))(hb:b=true):Sy n ((t,.tt)::T) H ks G0 w0 G a w:=
 ⟨A.size,A.defers,fun s x hx=>by
  simp only [look]at hx
  cases hc:Nat.beq t s with
  |true=>rw [hc]at hx;cases hx;have:=α9 hc;subst this;have:=A.get t _ h;rw [hb]at this;exact this
  |false=>rw [hc]at hx;exact A.get s x hx,A.mem,A.pre,A.own,A.mix⟩
theorem Sy.isF (A:Sy n T H ks G0 w0 G a w)(t:Nat){b:Bool}(h:look T t=some (.bool b))(hb:b=false):Sy n ((t,.ff)::T) H ks G0 w0 G a w:=
 ⟨A.size,A.defers,fun s x hx=>by
  simp only [look]at hx
  cases hc:Nat.beq t s with
  |true=>rw [hc]at hx;cases hx;have:=α9 hc;subst this;have:=A.get t _ h;rw [hb]at this;exact this
  |false=>rw [hc]at hx;exact A.get s x hx,A.mem,A.pre,A.own,A.mix⟩
theorem Aq (t:Nat){p:Prop}[Decidable p]{R:Prop}(A:Sy n T H ks G0 w0 G a w)(h:look T t=some (.bool (decide p)))(h1:p→Sy n ((t,.tt)::T) H ks G0 w0 G a w→R)(h2:¬p→Sy n ((t,.ff)::T) H ks G0 w0 G a w→R):R:=by
 by_cases hp:p
 ·exact h1 hp (A.isT t h (by simp [hp]))
 ·exact h2 hp (A.isF t h (by simp [hp]))
theorem Au (t:Nat){α:Type}[BEq α][LawfulBEq α]{x y:α}{R:Prop}(A:Sy n T H ks G0 w0 G a w)(h:look T t=some (.bool (x==y)))(h1:x=y→Sy n ((t,.tt)::T) H ks G0 w0 G a w→R)(h2:x≠y→Sy n ((t,.ff)::T) H ks G0 w0 G a w→R):R:=by
 cases hb:x==y with
 |true=>exact h1 (ν4 hb) (A.isT t h hb)
 |false=>exact h2 (fun e=>by subst e;simp at hb) (A.isF t h hb)
theorem EZ (t:Nat){α:Type}[BEq α][LawfulBEq α]{x y:α}{R:Prop}(A:Sy n T H ks G0 w0 G a w)(h:look T t=some (.bool (!(x==y))))(h1:x≠y→Sy n ((t,.tt)::T) H ks G0 w0 G a w→R)(h2:x=y→Sy n ((t,.ff)::T) H ks G0 w0 G a w→R):R:=by
 cases hb:x==y with
 |true=>exact h2 (ν4 hb) (A.isF t h (by rw [hb];rfl))
 |false=>exact h1 (fun e=>by subst e;simp at hb) (A.isT t h (by rw [hb];rfl))
theorem fork (t:Nat){b:Bool}{R:Prop}(A:Sy n T H ks G0 w0 G a w)(h:look T t=some (.bool b))(h1:b=true→Sy n ((t,.tt)::T) H ks G0 w0 G a w→R)(h2:b=false→Sy n ((t,.ff)::T) H ks G0 w0 G a w→R):R:=by
 cases hb:b with
 |true=>exact h1 hb (A.isT t h hb)
 |false=>exact h2 hb (A.isF t h hb)
end
mutual
def LQ (k:Nat):SV→Bool
 | .ptr i _=>Nat.blt i k
 | .el i _ _ _=>Nat.blt i k
 | .sl i _ _=>Nat.blt i k
 | .agg l=>Hf k l
 | .tup l=>Hf k l
 | .fn _ l=>Hf k l
 | .opt _ x=>LQ k x
 | .ix p _ _ _ _=>LQ k p
 | .sp p _ _=>LQ k p
 | .st i _ _ _ _=>Nat.blt i k
 |_=>true
def Hf (k:Nat):List SV→Bool
 | []=>true
 |x::l=>LQ k x&&Hf k l
end
mutual
theorem DZ {G:Gr}{k:Nat}:∀(x:SV),LQ k x=true→den (G.take k) x=den G x
 | .ptr i _,h=>by unfold den;rw [γ1 (by simpa [LQ,μ7]using h)]
 | .el i _ _ _,h=>by unfold den;rw [γ1 (by simpa [LQ,μ7]using h)]
 | .sl i _ _,h=>by unfold den;rw [γ1 (by simpa [LQ,μ7]using h)]
 | .agg l,h=>by unfold den;rw [Bv l (by simpa [LQ]using h)]
 | .tup l,h=>by unfold den;rw [Bv l (by simpa [LQ]using h)]
 | .fn _ l,h=>by unfold den;rw [Bv l (by simpa [LQ]using h)]
 | .opt _ x,h=>by unfold den;rw [DZ x (by simpa [LQ]using h)]
 | .ix p _ _ _ _,h=>by unfold den;rw [DZ p (by simpa [LQ]using h)]
 | .sp p _ _,h=>by unfold den;rw [DZ p (by simpa [LQ]using h)]
 | .st i _ _ _ _,h=>by unfold den;rw [γ1 (by simpa [LQ,μ7]using h)]
 | .int _ _,_=>rfl
 | .bool _,_=>rfl
 | .tt,_=>rfl
 | .ff,_=>rfl
 | .str _,_=>rfl
 | .sla _ _ _,_=>rfl
 | .v _,_=>rfl
theorem Bv {G:Gr}{k:Nat}:∀(l:List SV),Hf k l=true→Al (G.take k) l=Al G l
 | [],_=>rfl
 |x::l,h=>by
  simp only [Hf,α3]at h
  unfold Al
  rw [DZ x h.1,Bv l h.2]
end
mutual
def Dv (m:List Nat):SV→Option SV
 | .ptr i o=>match lg m i with
  |some j=>some (.ptr j o)
  |none=>none
 | .el i s k o=>match lg m i with
  |some j=>some (.el j s k o)
  |none=>none
 | .sl i n c=>match lg m i with
  |some j=>some (.sl j n c)
  |none=>none
 | .agg l=>match EB m l with
  |some l=>some (.agg l)
  |none=>none
 | .tup l=>match EB m l with
  |some l=>some (.tup l)
  |none=>none
 | .fn f l=>match EB m l with
  |some l=>some (.fn f l)
  |none=>none
 | .opt b x=>none
 | .ix p s n j k=>match Dv m p with
  |some q=>some (.ix q s n j k)
  |none=>none
 | .sp p n c=>match Dv m p with
  |some q=>some (.sp q n c)
  |none=>none
 | .st i s j n c=>match lg m i with
  |some i=>some (.st i s j n c)
  |none=>none
 | .sla a n c=>some (.sla a n c)
 | .int i n=>some (.int i n)
 | .bool b=>some (.bool b)
 | .tt=>some .tt
 | .ff=>some .ff
 | .str l=>some (.str l)
 | .v x=>some (.v x)
def EB (m:List Nat):List SV→Option (List SV)
 | []=>some []
 | x::l=>match Dv m x with
  |some x=>match EB m l with
   |some l=>some (x::l)
   |none=>none
  |none=>none
end
def BW (m:List Nat)(G:Gr):Gr:=m.map fun j=>(G[j]?).getD none
theorem B5 {m:List Nat}{G:Gr}(hm:∀j∈m,j<G.length){i j:Nat}(h:m[i]?=some j):(BW m G)[i]?=G[j]?:=by
 have hj:j<G.length:=hm j (θ0 h)
 simp [BW,h,hj]
mutual
theorem FB {m:List Nat}{G:Gr}(hm:∀j∈m,j<G.length):∀(x:SV) {y:SV},Dv m x=some y→den (BW m G) x=den G y
 | .ptr i o,y,h=>by
  unfold Dv at h
  split at h
  ·next j hj=>cases h;rw [BI]at hj;unfold den;rw [B5 hm hj]
  ·cases h
 | .el i s k o,y,h=>by
  unfold Dv at h
  split at h
  ·next j hj=>cases h;rw [BI]at hj;unfold den;rw [B5 hm hj]
  ·cases h
 | .sl i n c,y,h=>by
  unfold Dv at h
  split at h
  ·next j hj=>cases h;rw [BI]at hj;unfold den;rw [B5 hm hj]
  ·cases h
 | .agg l,y,h=>by
  unfold Dv at h
  split at h
  ·next l' hl=>cases h;unfold den;rw [D4 hm l hl]
  ·cases h
 | .tup l,y,h=>by
  unfold Dv at h
  split at h
  ·next l' hl=>cases h;unfold den;rw [D4 hm l hl]
  ·cases h
 | .fn f l,y,h=>by
  unfold Dv at h
  split at h
  ·next l' hl=>cases h;unfold den;rw [D4 hm l hl]
  ·cases h
 | .opt b x,y,h=>by cases h
 | .ix p s n j k,y,h=>by
  unfold Dv at h
  split at h
  ·next q hq=>cases h;unfold den;rw [FB hm p hq]
  ·cases h
 | .sp p n c,y,h=>by
  unfold Dv at h
  split at h
  ·next q hq=>cases h;unfold den;rw [FB hm p hq]
  ·cases h
 | .st i s k n c,y,h=>by
  unfold Dv at h
  split at h
  ·next j hj=>cases h;rw [BI]at hj;unfold den;rw [B5 hm hj]
  ·cases h
 | .sla _ _ _,y,h=>by cases h;rfl
 | .int _ _,y,h=>by cases h;rfl
 | .bool _,y,h=>by cases h;rfl
 | .tt,y,h=>by cases h;rfl
 | .ff,y,h=>by cases h;rfl
 | .str _,y,h=>by cases h;rfl
 | .v _,y,h=>by cases h;rfl
theorem D4 {m:List Nat}{G:Gr}(hm:∀j∈m,j<G.length):∀(l:List SV) {r:List SV},EB m l=some r→Al (BW m G) l=Al G r
 | [],r,h=>by cases h;rfl
 | x::l,r,h=>by
  unfold EB at h
  split at h
  ·next y hy=>
   split at h
   ·next l' hl=>cases h;unfold Al;rw [FB hm x hy,D4 hm l hl]
   ·cases h
  ·cases h
end
def JD (m:List Nat):Option Bo→Option (Option Bo)
 |none=>some none
 |some (.blk cs)=>match EB m cs with
  |some l=>some (some (.blk l))
  |none=>none
 |some (.row e s n c xs)=>some (some (.row e s n c xs))
 |some (.lst s n f)=>some (some (.lst s n f))
 |some (.fac b o)=>some (some (.fac b o))
def DE (m:List Nat):Hp→Option Hp
 | []=>some []
 | e::l=>match JD m e with
  |some e=>match DE m l with
   |some l=>some (e::l)
   |none=>none
  |none=>none
def DA (H:Hp):List Nat→Option Hp
 | []=>some []
 | j::m=>match lg H j with
  |some e=>match DA H m with
   |some l=>some (e::l)
   |none=>none
  |none=>none
theorem ER {m:List Nat}:∀{H:Hp} {l:Hp},DE m H=some l→l.length=H.length∧∀(i:Nat) (e:Option Bo),H[i]?=some e→∃f,l[i]?=some f∧JD m e=some f
 | [],l,h=>by cases h;exact⟨rfl,fun i e h=>by cases h⟩
 | x::H,l,h=>by
  unfold DE at h
  split at h
  ·next y hy=>
   split at h
   ·next r hr=>
    cases h
    obtain⟨h1,h2⟩:=ER hr
    refine⟨by simp [h1],fun i e he=>?_⟩
    cases i with
    |zero=>cases he;exact⟨y,rfl,hy⟩
    |succ i=>exact h2 i e he
   ·cases h
  ·cases h
theorem D5 {H:Hp}:∀{m:List Nat} {l:Hp},DA H m=some l→l.length=m.length∧(∀j∈m,j<H.length)∧∀(i j:Nat),m[i]?=some j→l[i]?=H[j]?
 | [],l,h=>by cases h;exact⟨rfl,by simp,fun i j h=>by cases h⟩
 | k ::m,l,h=>by
  unfold DA at h
  split at h
  ·next e he=>
   rw [BI]at he
   split at h
   ·next r hr=>
    cases h
    obtain⟨h1,h2,h3⟩:=D5 hr
    refine⟨by simp [h1],fun j hj=>?_,fun i j hj=>?_⟩
    ·rcases ζ9.1 hj with rfl|hj
     ·exact(α0.1 he).1
     ·exact h2 j hj
    ·cases i with
     |zero=>cases hj;exact he.symm
     |succ i=>exact h3 i j hj
   ·cases h
  ·cases h
theorem C1 {m:List Nat}{e f:Bo}(h:JD m (some e)=some (some f)):f.mut=e.mut∧(f.empty↔e.empty):=by
 cases e with
 |blk cs=>simp only [JD]at h;split at h<;>cases h;exact⟨rfl,π9⟩
 |row=>cases h;exact⟨rfl,π9⟩
 |lst=>cases h;exact⟨rfl,π9⟩
 |fac=>cases h;exact⟨rfl,π9⟩
theorem Ds {m:List Nat}{e:Bo}{f:Option Bo}(h:JD m (some e)=some f):∃f',f=some f':=by
 cases e with
 |blk cs=>simp only [JD]at h;split at h<;>cases h;exact⟨_,rfl⟩
 |row=>cases h;exact⟨_,rfl⟩
 |lst=>cases h;exact⟨_,rfl⟩
 |fac=>cases h;exact⟨_,rfl⟩
theorem Qy {m:List Nat}{G:Gr}{w:World}(hm:∀j∈m,j<G.length){i j:Nat}(hj:m[i]?=some j){e f:Bo}(h:JD m (some e)=some (some f)):BK (BW m G) w (((BW m G)[i]?).getD none) e↔BK G w ((G[j]?).getD none) f:=by
 rw [B5 hm hj]
 cases e with
 |blk cs=>
  simp only [JD]at h
  split at h
  ·next l hl=>cases h;simp only [BK,D4 hm cs hl]
  ·cases h
 |row=>cases h;exact π9
 |lst=>cases h;exact π9
 |fac=>cases h;exact π9
def Jt:List Nat→Bool
 | []=>true
 |x::l=> !(l.elem x)&&Jt l
theorem Qz:∀{m:List Nat},Jt m=true→∀(i k j:Nat),m[i]?=some j→m[k]?=some j→i=k
 | [],_,i,k,j,h,_=>by cases h
 | x::m,hb,i,k,j,h1,h2=>by
  simp only [Jt,α3,κ8,List.elem_eq_mem,δ9]at hb
  cases i with
  |zero=>
   cases k with
   |zero=>rfl
   |succ k=>cases h1;exact absurd (θ0 (l:=m) (i:=k) h2) hb.1
  |succ i=>
   cases k with
   |zero=>cases h2;exact absurd (θ0 (l:=m) (i:=i) h1) hb.1
   |succ k=>rw [Qz hb.2 i k j h1 h2]
theorem Mem.sub {H H' l:Hp}{G:Gr}{w:World}{m:List Nat}(h:Mem H G w)(h1:DA H m=some l)(h2:DE m H'=some l)(hn:Jt m=true):Mem H' (BW m G) w:=by
 obtain⟨p1,p2,p3⟩:=D5 h1
 obtain⟨r1,r2⟩:=ER h2
 have hm:∀j∈m,j<G.length:=fun j hj=>by rw [←h.len];exact p2 j hj
 have at_:∀(i:Nat) (e:Bo),H'[i]?=some (some e)→∃j f,m[i]?=some j∧H[j]?=some (some f)∧JD m (some e)=some (some f):=by
  intro i e he
  obtain⟨f,h3,h4⟩:=r2 i _ he
  have hi:i<m.length:=by rw [←p1];exact(α0.1 h3).1
  obtain⟨f',rfl⟩:=Ds h4
  refine⟨m[i],f',by simp [hi],?_,h4⟩
  rw [←p3 i m[i] (by simp [hi])];exact h3
 refine⟨by simp [BW];omega,fun i e he=>?_,fun i k e f L M ZD he hf Jz hL hM Ch=>?_⟩
 ·obtain⟨j,f,a1,a2,a3⟩:=at_ i e he
  exact(Qy hm a1 a3).2 (h.ent j f a2)
 ·obtain⟨j,e',a1,a2,a3⟩:=at_ i e he
  obtain⟨j',f',b1,b2,b3⟩:=at_ k f hf
  rw [B5 hm a1]at hL
  rw [B5 hm b1]at hM
  refine h.sep j j' e' f' L M (fun e=>ZD ?_) a2 b2 (by rw [(C1 a3).1];exact Jz) hL hM (fun h=>Ch ((C1 b3).2.1 h))
  subst e
  exact Qz hn i k j a1 b1
def keys (H:Hp)(G:Gr):List Nat:=(H.zip G).filterMap fun x=>match x.1,x.2 with
 |some e,some L=>bif e.mut then some L.b else none
 |_,_=>none
theorem mem_keys {H:Hp}{G:Gr}{b:Nat}:(keys H G).contains b=true↔∃(i:Nat) (e:Bo) (L:Loc),H[i]?=some (some e)∧e.mut=true∧G[i]?=some (some L)∧L.b=b:=by
 simp only [ε5,keys,List.mem_filterMap]
 constructor
 ·rintro ⟨⟨e,p⟩,h1,h2⟩
  obtain⟨i,hi⟩:=κ2.1 h1
  rw [List.getElem?_zip_eq_some]at hi
  split at h2
  ·next e' L h3 h4=>
   simp only at h3 h4;subst h3;subst h4
   cases hm:e'.mut with
   |false=>rw [hm]at h2;cases h2
   |true=>rw [hm]at h2;cases h2;exact⟨i,e',L,hi.1,hm,hi.2,rfl⟩
  ·cases h2
 ·rintro ⟨i,e,L,h1,hm,h2,h3⟩
  exact⟨(some e,some L),κ2.2 ⟨i,List.getElem?_zip_eq_some.2 ⟨h1,h2⟩⟩,by simp [h3,hm]⟩
def ZV:Hp→Hp→Prop
 |H,H'=>∀(i:Nat) (e:Bo),H'[i]?=some (some e)→e.mut=false→H[i]?=some (some e)
def UV:Hp→List (Option Bo)
 | []=>[]
 |some (.lst s n f)::l=>some (.lst s n f)::UV l
 |some (.fac b o)::l=>some (.fac b o)::UV l
 |_::l=>UV l
def Q0:Hp→Hp→List (Option Bo)
 |_,[]=>[]
 | [],some (.lst s n f)::l=>none::Q0 [] l
 |x::H,some (.lst s n f)::l=>x::Q0 H l
 | [],some (.fac b o)::l=>none::Q0 [] l
 |x::H,some (.fac b o)::l=>x::Q0 H l
 | [],_::l=>Q0 [] l
 |_::H,_::l=>Q0 H l
theorem FC:∀{H' H:Hp},Q0 H H'=UV H'→ZV H H'
 | [],H,_,i,e,h,_=>by cases h
 | x ::H',H,hk,i,e,h,hm=>by
  cases x with
  | none=>
   cases i with
   |zero=>cases h
   |succ i=>
    cases H with
    |nil=>have:=FC (H':=H') (H:=[]) hk i e h hm;simp at this
    |cons y H=>exact FC (H':=H') (H:=H) hk i e h hm
  | some q=>
   cases q with
   | lst s n f=>
    cases H with
    |nil=>simp [UV,Q0]at hk
    |cons y H=>
     simp only [UV,Q0,θ2]at hk
     cases i with
     |zero=>cases h;exact congrArg some hk.1
     |succ i=>exact FC (H':=H') (H:=H) hk.2 i e h hm
   | fac b o=>
    cases H with
    |nil=>simp [UV,Q0]at hk
    |cons y H=>
     simp only [UV,Q0,θ2]at hk
     cases i with
     |zero=>cases h;exact congrArg some hk.1
     |succ i=>exact FC (H':=H') (H:=H) hk.2 i e h hm
   | _=>
    cases i with
    |zero=>cases h;cases hm
    |succ i=>
     cases H with
     |nil=>have:=FC (H':=H') (H:=[]) hk i e h hm;simp at this
     |cons y H=>exact FC (H':=H') (H:=H) hk i e h hm
def Mr (R:SV→Hp→Prop)(H:Hp)(G:Gr)(w:World)(e:Ending)(w':World):Prop:=
 ∃x H' F v,R x H'∧den (G++F) x=some v∧e=.returned v∧Mem H' (G++F) w'∧DO (keys H G) w w'∧G.length≤H'.length∧
  ZV H H'∧∀(i:Nat) (e:Bo),H'[i]?=some (some e)→e.mut=true→∀L:Loc,(G++F)[i]?=some (some L)→(keys H G).contains L.b=true∨w.heap.size≤L.b
abbrev F3 (P:Program)(f:Nat):Option (Bool×Bool):=(P.funcs[f]?).map fun fn=>(fn.name== "runtime.NumGoroutine",fn.body.isNone)
def Fn (P:Program)(f:Nat)(args:List SV)(H:Hp)(R:SV→Hp→Prop):Prop:=
 F3 P f=some (false,false)∧∀G w vs,Mem H G w→Al G args=some vs→Calls P f vs.toArray w (Mr R H G w)
def Mt:List SV→Nat→List (Nat×SV)
 | [],_=>[]
 |v::vs,k=>(k,v)::Mt vs (k+1)
theorem EF {t:Nat}{x:SV}:∀{xs:List SV} {k:Nat},look (Mt xs k) t=some x→k≤t∧xs[t - k]?=some x
 | [],_,h=>by cases h
 | u::vs,k,h=>by
  unfold Mt look at h
  cases hb:Nat.beq k t with
  |true=>rw [hb]at h;cases h;have:=α9 hb;subst this;simp
  |false=>
   rw [hb]at h
   obtain⟨h1,h2⟩:=EF h
   refine⟨by omega,?_⟩
   rw [show t - k=(t - (k+1))+1 by omega];simpa using h2
section
variable {P:Program}{X:Tx}{n f:Nat}{ks:List Nat}{G0:Gr}{w0:World}{T:List (Nat×SV)}{H:Hp}{G:Gr}{a:Act}{w:World}{K:List Fr}
theorem Am {fn:Func} {c:Code} {args:List SV} {R:SV→Hp→Prop} (Ca:F3 P f=some (false,false)) (hf:P.funcs[f]?=some fn) (hb:fn.body=some c) (hn:fn.ntmps=n) (hl:Nat.ble args.length n=true)
  (h:∀G w a,H.length=G.length→Sy n (Mt args 0) H (keys H G) G w G a w→Goal P (bodyPost P fn (Mr R H G w)) [] (.code c) a w):Fn P f args H R:=by
 refine⟨Ca,fun G w vs hM hv=>ξ6 hf hb (h G w _ hM.len ⟨?_,rfl,fun t x hx=>?_,hM,⟨[],by simp⟩,fun i e L h1 h2 h3=>.inl (mem_keys.2 ⟨i,e,L,h1,h2,h3,rfl⟩),DO.refl _ _⟩)⟩
 ·have:=Be hv
  have:=ε1 hl
  simp [hn];omega
 ·obtain⟨_,h2⟩:=EF hx
  simp only [ν9]at h2
  obtain⟨v,h3,h4⟩:=C5 hv h2
  have Bn:t<vs.length:=(α0.1 h3).1
  rw [h4]
  simp [β3,ι4,Bn]at h3⊢
  exact h3.symm
theorem Sa (hX:X.ok P=true){t:TypeId}{cs:List SV}{vs:List Value}{o b q:Nat}{r:SV}{z:Value}(h:DX X t cs o=some r)(hv:Al G cs=some vs)(hz:den G r=some z)(hr:w.rangeAt b q vs):(loadVar t ⟨b,q+o,none⟩).run P w=.ok z w:=by
 unfold DX at h
 split at h
 ·next f hf=>
  have ht:=Tb.at hX hf
  split at h
  ·cases h
  ·next m hm=>
   split at h
   ·next r' Nm=>
    cases h
    obtain⟨h2,h3⟩:=IG Nm
    subst h2
    rw [Hd]at hz h3
    have e:=Cf (m+1) (Cg o hv)
    simp only [den,e,δ4,β2]at hz
    subst hz
    have hl:=Be hv
    obtain⟨⟨dd,f2,f3,_⟩,f4⟩:=Er (I5 ht hm)
    rw [γ5]at h3
    refine run_loadVar_mid w b (q+o) t _ dd (fun j y hy=>?_) f2 f3 (by rw [f4];simp;omega)
    have hj:=(α0.1 hy).1
    simp only [δ8,γ5]at hj
    rw [γ1 (by omega),η1]at hy
    have:=hr (o+j) y hy
    rwa [show q+(o+j)=q+o+j by omega]at this
   ·cases h
  ·next hm=>
   cases CA:f.one with
   |false=>rw [CA]at h;cases h
   |true=>
    rw [CA]at h
    simp only [θ3,BI]at h
    obtain⟨v,h1,h2⟩:=C5 hv h
    rw [hz]at h2
    cases h2
    have hc:=hr o z h1
    simp [loadVar,I3 (I4 ht CA),hc,go_sem]
 ·cases h
def JE (X:Tx) (T:List (Nat×SV)) (H:Hp):List ResultVar→Option (List SV)
 | []=>some []
 | .tmp t::l=>match look T t with
  |some x=>match JE X T H l with
   |some r=>some (x::r)
   |none=>none
  |none=>none
 | .cell p t::l=>match look T p with
  | some y=>match Ev X H t y with
   |some (x,[])=>match JE X T H l with
    |some r=>some (x::r)
    |none=>none
   |_=>none
  |none=>none
def BA:List SV→SV
 | [x]=>x
 |l=>.tup l
theorem Ka (hX:X.ok P=true)(A:Sy n T H ks G0 w0 G a w):∀{l:List ResultVar} {r:List SV},JE X T H l=some r→∃vs,Al G r=some vs∧(l.mapM (m:=Sem) fun
  | .tmp t=>pure (a.tmps.getD t undef)
  | .cell p t=>do loadVar t (←asAddr (a.tmps.getD p undef))).run P w=.ok vs w
 | [],r,h=>by cases h;exact⟨[],rfl,by simp⟩
 | .tmp t::l,r,h=>by
  unfold JE at h
  split at h
  ·next x hx=>
   split at h
   ·next r' hr=>
    cases h
    obtain⟨vs,h1,h2⟩:=Ka hX A hr
    refine⟨_,Bb (A.get t x hx) h1,?_⟩
    rw [σ1]
    simp only [γ3,γ6,β1,h2]
   ·cases h
  ·cases h
 | .cell p t::l,r,h=>by
  unfold JE at h
  split at h
  ·next y hy=>
   split at h
   ·next x hx=>
    split at h
    ·next r' hr=>
     cases h
     obtain⟨vs,h1,h2⟩:=Ka hX A hr
     have hp:=A.get p y hy
     obtain⟨z,hz,k3⟩:=N7 A hx hp
     obtain⟨cs,o,us,r0,b,k,k1,k6,k2,k4,k5⟩:=k3 (fun _ h=>by cases h)
     have PA:((do loadVar t (←asAddr (a.tmps.getD p undef))):Sem Value).run P w=.ok z w:=by
      rw [k4]
      simp only [asAddr,γ3,γ6,β1]
      exact Sa hX k1 k2 k6 k5
     refine⟨_,Bb hz h1,?_⟩
     rw [σ1]
     simp only [γ3,γ6,β1,h2]at PA⊢
     rw [PA]
     simp only [β1,h2]
    ·cases h
   ·cases h
  ·cases h
def Bj:Nat→Nat→List Nat
 |_,0=>[]
 |k,c+1=>k::Bj (k+1) c
theorem ES:∀(c k i:Nat),i<c→(Bj k c)[i]?=some (k+i)
 |0,_,_,h=>by omega
 |c+1,k,0,_=>rfl
 |c+1,k,i+1,h=>by
  have:=ES c (k+1) i (by omega)
  simp only [Bj,List.getElem?_cons_succ,this]
  congr 1;omega
theorem C6:∀(c k:Nat),(Bj k c).length=c
 |0,_=>rfl
 |c+1,k=>by simp [Bj,C6 c (k+1)]
theorem OE {G0 F:Gr}:BW (Bj 0 G0.length) (G0++F)=G0:=by
 apply θ5
 intro i
 by_cases hi:i<G0.length
 ·rw [B5 (fun j hj=>by
   obtain⟨k,hk⟩:=κ2.1 hj
   have EC:k<G0.length:=by have:=(α0.1 hk).1;rwa [C6]at this
   rw [ES _ _ _ EC]at hk
   cases hk
   simp;omega) (ES _ 0 i hi)]
  rw [ε0,α1 hi]
 ·rw [γ4 (by simp [BW,C6];omega),γ4 (by omega)]
theorem G9 {fn:Func}(hX:X.ok P=true){y:SV}{r:List SV}{rv:List ResultVar}(A:Sy n T H ks G0 w0 G a w)(hr:fn.results.toList=rv)(hv:JE X T H rv=some r)(hy:BA r=y):∃v,den G y=some v∧(results fn a.tmps).run P w=.ok v w:=by
 obtain⟨vs,e1,e2⟩:=Ka hX A hv
 have PA:(fn.results.mapM (m:=Sem) fun
   | .tmp t=>pure (a.tmps.getD t undef)
   | .cell p t=>do loadVar t (←asAddr (a.tmps.getD p undef))).run P w=.ok vs.toArray w:=by
  rw [←ρ1 (xs:=fn.results),List.mapM_toArray,hr]
  simp only [Sem.run_map,e2,β1]
 have p5:(results fn a.tmps).run P w=.ok (if h:vs.toArray.size=1 then vs.toArray[0]else .tuple vs.toArray) w:=by
  unfold results
  rw [γ3]
  erw [PA]
  simp only [β1,γ6]
 rw [p5]
 have hlen:=Be e1
 cases r with
 |nil=>cases e1;subst hy;exact⟨_,rfl,rfl⟩
 | cons z r=>
  obtain⟨v,ws,k1,k2,rfl⟩:=Bg e1
  cases r with
  |nil=>cases k2;subst hy;exact⟨v,k1,rfl⟩
  |cons z2 r=>
   subst hy
   obtain⟨v2,ws2,_,_,rfl⟩:=Bg k2
   refine⟨.tuple (v::v2::ws2).toArray,by simp only [BA,den,e1,δ4],?_⟩
   simp
theorem Ns {Y:Tb} {fn:Func} {R:SV→Hp→Prop} {H0:Hp} (hX:Y.ok P=true) (m:List Nat) {x y:SV} {H' l:Hp} {r:List SV} {rv:List ResultVar} (A:Sy n T H (keys H0 G0) G0 w0 G a w) (hR:R x H') (hr:fn.results.toList=rv) (hv:JE ⟨Y,false⟩ T H rv=some r) (hy:BA r=y)
  (hx:Dv (Bj 0 H0.length++m) x=some y) (hl:DE (Bj 0 H0.length++m) H'=some l) (hp:DA H (Bj 0 H0.length++m)=some l) (hn:Jt (Bj 0 H0.length++m)=true) (ZE:Q0 H0 H'=UV H') (h0:H0.length=G0.length):bodyPost P fn (Mr R H0 G0 w0) .ret a w:=by
 obtain⟨F,hF⟩:=A.pre
 obtain⟨p1,p2,p3⟩:=D5 hp
 have hm:∀j∈Bj 0 H0.length++m,j<G.length:=fun j hj=>by rw [←A.mem.len];exact p2 j hj
 have wC:=G9 (X:=⟨Y,false⟩) (fn:=fn) hX A hr hv hy
 obtain⟨v,Y8,XQ⟩:=wC
 have GM:BW (Bj 0 H0.length++m) G=G0++BW m G:=by
  rw [show BW (Bj 0 H0.length++m) G=BW (Bj 0 H0.length) G++BW m G by simp [BW],h0,hF,OE]
 have ZF:=A.mem.sub hp hl hn
 rw [GM]at ZF
 refine⟨A.defers,v,XQ,x,H',BW m G,v,hR,?_,rfl,ZF,A.mix,?_,FC ZE,fun i e he hmt=>?_⟩
 ·rw [←GM,FB hm x hx];exact Y8
 ·have:=(ER hl).1
  rw [p1]at this
  simp [C6]at this
  omega
 ·obtain⟨f,h3,h4⟩:=(ER hl).2 i _ he
  obtain⟨f',rfl⟩:=Ds h4
  obtain⟨q1,q2⟩:=C1 h4
  intro L hL
  have hi:i<(Bj 0 H0.length++m).length:=by rw [←p1];exact(α0.1 h3).1
  have hj:(Bj 0 H0.length++m)[i]?=some (Bj 0 H0.length++m)[i]:=by simp [hi]
  rw [←GM,B5 hm hj]at hL
  rw [p3 i _ hj]at h3
  exact A.own _ f' L h3 (by rw [q1];exact hmt) hL
end
def CU:Hp→List Nat→Hp→Hp
 |H,[],l=>H++l
 |H,j::m,e::l=>CU (Cd H j e) m l
 |H,_::_,[]=>H
theorem Kb:∀{m:List Nat} {H l:Hp},m.length≤l.length→(CU H m l).length=H.length+(l.length - m.length)
 | [],H,l,_=>by simp [CU]
 |j::m,H,[],h=>by simp at h
 |j::m,H,e::l,h=>by
  simp only [α5]at h⊢
  rw [CU,Kb (by omega),BJ]
  simp
theorem Lt:∀{m:List Nat} {H l:Hp},m.length≤l.length→Jt m=true→(∀j∈m,j<H.length)→∀i:Nat,
  (∃k:Nat,m[k]?=some i∧(CU H m l)[i]?=l[k]?)∨(i∉m∧i<H.length∧(CU H m l)[i]?=H[i]?)∨(H.length≤i∧(CU H m l)[i]?=l[m.length+(i - H.length)]?)
 | [],H,l,_,_,_,i=>by
  by_cases hi:i<H.length
  ·exact .inr (.inl ⟨by simp,hi,by simp [CU,α1 hi]⟩)
  ·exact .inr (.inr ⟨by omega,by simp [CU,α2 (τ4 hi)]⟩)
 |j::m,H,[],h,_,_,i=>by simp at h
 | j::m,H,e::l,h,hn,hm,i=>by
  simp only [α5]at h
  simp only [Jt,α3,κ8,List.elem_eq_mem,δ9]at hn
  have hlen:(Cd H j e).length=H.length:=by rw [BJ];simp
  have hj:j<H.length:=hm j (by simp)
  rw [CU]
  rcases Lt (H:=Cd H j e) (l:=l) (by omega) hn.2 (fun k hk=>by rw [hlen];exact hm k (by simp [hk])) i with⟨k,h1,h2⟩|⟨h1,h2,h3⟩|⟨h1,h2⟩
  ·exact .inl ⟨k+1,by simpa using h1,by simpa using h2⟩
  ·by_cases IA:i=j
   ·subst IA
    exact .inl ⟨0,by simp,by rw [h3,BJ,γ7 hj];rfl⟩
   ·exact .inr (.inl ⟨by simp [IA,h1],by rwa [hlen]at h2,by rw [h3,BJ,γ0 (ζ1 IA)]⟩)
  ·rw [hlen]at h1 h2
   exact .inr (.inr ⟨h1,by rw [h2,show(j::m).length+(i - H.length)=(m.length+(i - H.length))+1 by simp;omega];simp⟩)
def B6 (n:Nat) (ops:Array Oper) (T:List (Nat×SV)) (o:Oper):Option (Nat×List SV):=match DD n o.dst with
 | true=>match BE ops T o.guard with
  | some .run=>match o.op with
   | .call c=>match c.callee with
    | .value x=>match Db T x with
     |some (.fn f l)=>match N5 none T c.args.toList with
      |some (az,[])=>some (f,az++l)
      |_=>none
     |_=>none
    |_=>none
   |_=>none
  |_=>none
 |false=>none
section
variable {P:Program}{X:Tx}{n:Nat}{ks:List Nat}{G0:Gr}{w0:World}{T:List (Nat×SV)}{H:Hp}{G:Gr}{a:Act}{w:World}{ops:Array Oper}{o:Oper}{rest:List Oper}{Q:Exit→Act→World→Prop}{K:List Fr}
theorem Q3 {x:Operand} {f:FuncId} {lb:Array Value} {args:Array Operand} {ats:Array TypeId} {vs us:Array Value} {R:Ending→World→Prop} {K:Value→World→Prop} {d:Option Tmp} {ty:TypeId} {pos:String} {af:Array Edge} {gd:Option (Nat×Bool)} (hw:Region.wanted {dst:=d,op:=.call {callee:=.value x,args:=args,argTypes:=ats},type:=ty,pos:=pos,after:=af,guard:=gd} (yielded ops a.tmps)=true)
  (hf:a.eval x=.func (.func f) #[] lb) (Ca:F3 P f=some (false,false)) (hx:args.map a.eval=vs) (hu:vs++lb=us) (hc:Calls P f us w R) (h:∀e w',R e w'→∃v,e=.returned v∧K v w'):
  Bq P ops {dst:=d,op:=.call {callee:=.value x,args:=args,argTypes:=ats},type:=ty,pos:=pos,after:=af,guard:=gd} a w K:=
 KQ hw (by
  subst hx;subst hu
  unfold execOp
  simp only [resolve,hf,γ3,Deferred.ofValue,γ6,β1,invoke,Array.empty_append,enters Ca]) hc h
theorem Ci (A:Sy n T H ks G0 w0 G a w){f:Nat}{az:List SV}(h:B6 n ops T o=some (f,az))(Ca:F3 P f=some (false,false)):DD n o.dst=true∧∃vs,Al G az=some vs∧∀{R:Ending→World→Prop} {K:Value→World→Prop},Calls P f vs.toArray w R→(∀e w',R e w'→∃v,e=.returned v∧K v w')→Bq P ops o a w K:=by
 obtain⟨d,i,ty,pos,af,gd⟩:=o
 unfold B6 at h
 split at h
 ·next hd=>
  refine⟨hd,?_⟩
  split at h
  ·next hg=>
   have hw:=BQ (gd:=none) A hg
   split at h
   ·next c hc=>
    simp only at hc
    subst hc
    obtain⟨callee,args,ats⟩:=c
    simp only at h
    split at h
    ·next x=>
     split at h
     ·next f' l hx=>
      split at h
      ·next az' hs=>
       cases h
       have h1:=A.ev hx
       unfold den at h1
       obtain⟨ls,h2,h3⟩:=γ9.1 h1
       obtain⟨us,h4,h5⟩:=IK A hs
       have h6:=h5 Ah (fun g hg=>by cases hg)
       refine⟨us++ls,C0 h4 h2,fun hc hk=>?_⟩
       refine Q3 (lb:=ls.toArray) (vs:=us.toArray) (us:=(us++ls).toArray) hw h3.symm Ca ?_ (by simp) hc hk
       rw [←h6];apply μ1;simp
      ·cases h
     ·cases h
    ·cases h
   ·cases h
  ·cases h
 ·cases h
def PX (P:Program)(n:Nat)(ops:Array Oper)(o:Oper)(f:Nat)(az:List SV)(G:Gr)(a:Act)(w:World):Prop:=DD n o.dst=true∧∃vs,Al G az=some vs∧∀{R:Ending→World→Prop} {K:Value→World→Prop},Calls P f vs.toArray w R→(∀e w',R e w'→∃v,e=.returned v∧K v w')→Bq P ops o a w K
def Sb (P:Program)(f:Nat)(args:List SV)(H':Hp)(R:SV→Hp→Prop)(Gp:Gr)(w:World)(ks:List Nat)(w0:World):Prop:=
 F3 P f=some (false,false)∧∀vs,Mem H' Gp w→(∀b,(keys H' Gp).contains b=true→ks.contains b=true∨w0.heap.size≤b)→Al Gp args=some vs→Calls P f vs.toArray w (Mr R H' Gp w)
theorem Kc {f:Nat} {args az:List SV} {H' l:Hp} {R R2:SV→Hp→Prop} (m:List Nat) (A:Sy n T H ks G0 w0 G a w) (hf:Sb P f args H' R (BW m G) w ks w0) (hc:PX P n ops o f az G a w) (h2:EB m args=some az) (h3:DE m H'=some l) (h4:DA H m=some l) (h5:Jt m=true)
  (hk:∀x H2,R x H2→∃y l2,Dv (m++Bj H.length (H2.length - m.length)) x=some y∧DE (m++Bj H.length (H2.length - m.length)) H2=some l2∧R2 y (CU H m l2)):Bq P ops o a w fun v w'=>∃y H3 F,R2 y H3∧den (G++F) y=some v∧Sy n T H3 ks G0 w0 (G++F) a w':=by
 obtain⟨Ca,hf⟩:=hf
 obtain⟨hd,vs,hv,I2⟩:=hc
 obtain⟨p1,p2,p3⟩:=D5 h4
 obtain⟨r1,r2⟩:=ER h3
 have hlen:=A.mem.len
 have hm:∀j∈m,j<G.length:=fun j hj=>by rw [←hlen];exact p2 j hj
 have hM:=A.mem.sub h4 h3 h5
 have Qb:Al (BW m G) args=some vs:=by rw [D4 hm args h2];exact hv
 have p6:H'.length=m.length:=by rw [←r1,p1]
 have KN:(BW m G).length=m.length:=by simp [BW]
 have J1:∀b,(keys H' (BW m G)).contains b=true→∃i e L,i∈m∧H[i]?=some (some e)∧e.mut=true∧G[i]?=some (some L)∧L.b=b:=by
  intro b hb
  obtain⟨i,e,L,k1,km,k2,k3⟩:=mem_keys.1 hb
  obtain⟨f,q1,q2⟩:=r2 i _ k1
  obtain⟨f',rfl⟩:=Ds q2
  have hi:i<m.length:=by rw [←p1];exact(α0.1 q1).1
  have hj:m[i]?=some m[i]:=by simp [hi]
  rw [B5 hm hj]at k2
  rw [p3 i _ hj]at q1
  exact⟨m[i],f',L,η9 hi,q1,by rw [(C1 q2).1];exact km,k2,k3⟩
 have EA:∀b,(keys H' (BW m G)).contains b=true→ks.contains b=true∨w0.heap.size≤b:=by
  intro b hb
  obtain⟨i,e,L,_,k1,k2,k3,k4⟩:=J1 b hb
  subst k4
  exact A.own i e L k1 k2 k3
 refine I2 (hf vs hM EA Qb) ?_
 rintro e w' ⟨x,H2,F,v,hR,hx,rfl,Qc,DN,ZA,p7,Qd⟩
 refine⟨v,rfl,?_⟩
 obtain⟨y,l2,e1,e2,e3⟩:=hk x H2 hR
 obtain⟨s1,s2⟩:=ER e2
 have p8:H2.length=m.length+F.length:=by have:=Qc.len;simp [KN]at this;exact this
 have p9:m.length≤l2.length:=by rw [s1,p8];omega
 have wD:H2.length - m.length=F.length:=by omega
 rw [wD]at e1 e2 s2
 have MY:(Bj H.length F.length).length=F.length:=C6 _ _
 have iN:BW (m++Bj H.length F.length) (G++F)=BW m G++F:=by
  have a1:BW m (G++F)=BW m G:=by
   unfold BW
   refine ρ9 fun j hj=>?_
   rw [α1 (hm j hj)]
  have a2:BW (Bj H.length F.length) (G++F)=F:=by
   apply θ5
   intro i
   by_cases hi:i<F.length
   ·unfold BW
    rw [μ6,ES _ _ _ hi]
    simp only [δ4]
    rw [α2 (by omega),show H.length+i - G.length=i by omega]
    simp [hi]
   ·rw [γ4 (by simp [BW,MY];omega),γ4 (by omega)]
  rw [show BW (m++Bj H.length F.length) (G++F)=BW m (G++F)++BW (Bj H.length F.length) (G++F) by simp [BW],a1,a2]
 have a7:∀j∈m++Bj H.length F.length,j<(G++F).length:=by
  intro j hj
  rcases ζ6.1 hj with hj|hj
  ·have:=hm j hj;simp;omega
  ·obtain⟨k,hk⟩:=κ2.1 hj
   have EC:k<F.length:=by have:=(α0.1 hk).1;rwa [MY]at this
   rw [ES _ _ _ EC]at hk
   cases hk
   simp;omega
 have cases3:∀(i:Nat) (e:Bo),(CU H m l2)[i]?=some (some e)→
   (∃(k:Nat) (e':Bo),(m++Bj H.length F.length)[k]?=some i∧H2[k]?=some (some e')∧JD (m++Bj H.length F.length) (some e')=some (some e))∨(i∉m∧H[i]?=some (some e)∧i<H.length):=by
  intro i e he
  have back:∀k:Nat,l2[k]?=some (some e)→∃e',H2[k]?=some (some e')∧JD (m++Bj H.length F.length) (some e')=some (some e):=by
   intro k hk
   have qA:k<H2.length:=by rw [←s1];exact(α0.1 hk).1
   obtain⟨f,t1,t2⟩:=s2 k H2[k] (by simp [qA])
   rw [hk]at t1
   cases t1
   cases hq:H2[k]with
   |none=>rw [hq]at t2;cases t2
   |some e'=>rw [hq]at t2;exact⟨e',by simp [qA,hq],t2⟩
  rcases Lt (H:=H) (l:=l2) p9 h5 p2 i with⟨k,q1,q2⟩|⟨q1,q2,q3⟩|⟨q1,q2⟩
  ·rw [q2]at he
   obtain⟨e',b1,b2⟩:=back k he
   exact .inl ⟨k,e',by rw [α1 (α0.1 q1).1];exact q1,b1,b2⟩
  ·rw [q3]at he;exact .inr ⟨q1,he,q2⟩
  ·rw [q2]at he
   obtain⟨e',b1,b2⟩:=back _ he
   have Bn:i - H.length<F.length:=by have:=(α0.1 b1).1;omega
   refine .inl ⟨_,e',?_,b1,b2⟩
   rw [α2 (by omega),show m.length+(i - H.length) - m.length=i - H.length by omega,ES _ _ _ Bn]
   congr 1;omega
 have Fq:∀(i k:Nat),(m++Bj H.length F.length)[k]?=some i→(BW m G++F)[k]?=(G++F)[i]?:=fun i k hk=>by rw [←iN,B5 a7 hk]
 have MZ:∀i:Nat,i<H.length→(G++F)[i]?=G[i]?:=fun i hi=>α1 (by omega)
 have Dk:∀(i:Nat) (e:Bo) (L:Loc),(i∉m∨e.mut=false)→H[i]?=some (some e)→G[i]?=some (some L)→¬e.empty→(keys H' (BW m G)).contains L.b=false:=by
  intro i e L hi he hL Ch
  cases hc:(keys H' (BW m G)).contains L.b with
  |false=>rfl
  |true=>
   obtain⟨j,e',L',k0,k1,k2,k3,k4⟩:=J1 _ hc
   refine absurd k4 (A.mem.sep j i e' e L' L (fun h=>?_) k1 he k2 k3 hL Ch)
   subst h
   rcases hi with hi|hi
   ·exact hi k0
   ·rw [k1]at he;cases he;rw [k2]at hi;cases hi
 have qB:∀(i:Nat) (e:Bo) (L:Loc),H[i]?=some (some e)→G[i]?=some (some L)→¬e.empty→L.b<w.heap.size:=by
  intro i e L he hL Ch
  have:=A.mem.ent i e he
  rw [hL]at this
  exact BK.lt this Ch
 have qC:∀(i k:Nat) (e e':Bo),(m++Bj H.length F.length)[k]?=some i→H2[k]?=some (some e')→JD (m++Bj H.length F.length) (some e')=some (some e)→e.mut=false→H[i]?=some (some e)∧i<H.length:=by
  intro i k e e' t1 t2 t3 t4
  have h6:e'.mut=false:=by rw [←(C1 t3).1];exact t4
  have h7:=p7 k e' t2 h6
  obtain⟨f,q1,q2⟩:=r2 k _ h7
  obtain⟨f',rfl⟩:=Ds q2
  have EC:k<m.length:=by rw [←p1];exact(α0.1 q1).1
  rw [α1 EC]at t1
  rw [p3 k i t1]at q1
  have:e=f':=by
   cases e' with
   |lst s n g=>cases q2;cases t3;rfl
   |fac b o=>cases q2;cases t3;rfl
   |blk=>cases h6
   |row=>cases h6
  subst this
  exact⟨q1,(α0.1 q1).1⟩
 refine⟨y,_,F,e3,?_,⟨A.size,A.defers,fun t z hz=>BF F z (A.get t z hz),⟨?_,?_,?_⟩,?_,?_,?_⟩⟩
 ·rw [←FB a7 x e1,iN];exact hx
 ·rw [Kb p9,s1,p8];simp;omega
 ·intro i e he
  rcases cases3 i e he with⟨k,e',t1,t2,t3⟩|⟨t1,t2,t3⟩
  ·have:=Qc.ent k e' t2
   rw [←iN]at this
   exact(Qy a7 t1 t3).1 this
  ·rw [MZ i t3]
   refine((A.mem.ent i e t2).mix DN fun Ch L hL=>?_).more F
   refine Dk i e L (.inl t1) t2 ?_ Ch
   cases hq:G[i]? with
   |none=>rw [hq]at hL;cases hL
   |some p=>rw [hq]at hL;simp at hL;rw [hL]
 ·intro i j e f L M IA he sI Jz hL Tn Ch
  have still:∀(i':Nat) (e':Bo),(CU H m l2)[i']?=some (some e')→(∃(k:Nat) (e'':Bo),(m++Bj H.length F.length)[k]?=some i'∧H2[k]?=some (some e'')∧JD (m++Bj H.length F.length) (some e'')=some (some e')∧e'.mut=true)∨((i'∉m∨e'.mut=false)∧H[i']?=some (some e')∧i'<H.length):=by
   intro i' e' iS
   rcases cases3 i' e' iS with⟨k,e'',t1,t2,t3⟩|⟨t1,t2,t3⟩
   ·cases To:e'.mut with
    |true=>exact .inl ⟨k,e'',t1,t2,t3,rfl⟩
    |false=>obtain⟨g1,g2⟩:=qC i' k e' e'' t1 t2 t3 To;exact .inr ⟨.inr rfl,g1,g2⟩
   ·exact .inr ⟨.inl t1,t2,t3⟩
  rcases still i e he with⟨k,e',t1,t2,t3,t4⟩|⟨t1,t2,t3⟩
  ·rcases still j f sI with⟨k',f',u1,u2,u3,u4⟩|⟨u1,u2,u3⟩
   ·rw [←Fq i k t1]at hL
    rw [←Fq j k' u1]at Tn
    refine Qc.sep k k' e' f' L M (fun h=>IA ?_) t2 u2 (by rw [←(C1 t3).1];exact t4) hL Tn (fun h=>Ch ((C1 u3).2.2 h))
    subst h
    rw [t1]at u1
    exact β6 u1
   ·rw [←Fq i k t1]at hL
    rw [MZ j u3]at Tn
    have h6:=Qd k e' t2 (by rw [←(C1 t3).1];exact t4) L hL
    intro iT
    rcases h6 with h6|h6
    ·rw [iT,Dk j f M u1 u2 Tn Ch]at h6;cases h6
    ·have:=qB j f M u2 Tn Ch;omega
  ·rcases still j f sI with⟨k',f',u1,u2,u3,u4⟩|⟨u1,u2,u3⟩
   ·rw [←Fq j k' u1]at Tn
    rw [MZ i t3]at hL
    have h6:=Qd k' f' u2 (by rw [←(C1 u3).1];exact u4) M Tn
    intro iT
    rcases h6 with h6|h6
    ·rw [←iT,Dk i e L t1 t2 hL (Bf Jz)]at h6;cases h6
    ·have:=qB i e L t2 hL (Bf Jz);omega
   ·rw [MZ i t3]at hL
    rw [MZ j u3]at Tn
    exact A.mem.sep i j e f L M IA t2 u2 Jz hL Tn Ch
 ·obtain⟨F0,wE⟩:=A.pre
  exact⟨F0++F,by rw [wE,γ2]⟩
 ·intro i e L he Jz hL
  rcases cases3 i e he with⟨k,e',t1,t2,t3⟩|⟨t1,t2,t3⟩
  ·rw [←Fq i k t1]at hL
   rcases Qd k e' t2 (by rw [←(C1 t3).1];exact Jz) L hL with h6|h6
   ·exact EA _ h6
   ·right;exact β4 A.mix.size h6
  ·rw [MZ i t3]at hL;exact A.own i e L t2 Jz hL
 ·refine A.mix.mix DN fun k sL y6=>?_
  cases hc:(keys H' (BW m G)).contains k with
  |false=>rfl
  |true=>
   rcases EA k hc with h6|h6
   ·rw [h6]at y6;cases y6
   ·omega
theorem Q4 {f:Nat} {args az:List SV} {H' l:Hp} {R R2:SV→Hp→Prop} (m:List Nat) (hf:Fn P f args H' R) (A:Sy n T H ks G0 w0 G a w) (h1:B6 n ops T o=some (f,az)) (h2:EB m args=some az) (h3:DE m H'=some l) (h4:DA H m=some l) (h5:Jt m=true)
  (hk:∀x H2,R x H2→∃y l2,Dv (m++Bj H.length (H2.length - m.length)) x=some y∧DE (m++Bj H.length (H2.length - m.length)) H2=some l2∧R2 y (CU H m l2)):Bq P ops o a w fun v w'=>∃y H3 F,R2 y H3∧den (G++F) y=some v∧Sy n T H3 ks G0 w0 (G++F) a w':=
 Kc m A ⟨hf.1,fun vs hM _ hv=>hf.2 _ w vs hM hv⟩ (Ci A h1 hf.1) h2 h3 h4 h5 hk
theorem tJ {f:Nat} {args az:List SV} {H' l:Hp} {R:SV→Hp→Prop} (m:List Nat) (hf:Fn P f args H' R) (A:Sy n T H ks G0 w0 G a w) (h1:B6 n ops T o=some (f,az)) (h2:EB m args=some az) (h3:DE m H'=some l) (h4:DA H m=some l) (h5:Jt m=true)
  (hk:∀x H2,R x H2→∃y l2,Dv (m++Bj H.length (H2.length - m.length)) x=some y∧DE (m++Bj H.length (H2.length - m.length)) H2=some l2∧∀{G a w},Sy n (Bh T o.dst y) (CU H m l2) ks G0 w0 G a w→Goal P Q K (.ops ops rest) a w):Goal P Q K (.ops ops (o::rest)) a w:=by
 have hd:=(Ci (P:=P) (ops:=ops) A h1 hf.1).1
 refine Cm (Q:=Fz P Q K) ?_
 rcases Q4 (R2:=fun y H3=>∀{G a w},Sy n (Bh T o.dst y) H3 ks G0 w0 G a w→Goal P Q K (.ops ops rest) a w) m hf A h1 h2 h3 h4 h5 hk with⟨hw,h⟩|⟨hw,y,H3,F,g1,g2,g3⟩
 ·refine .inl ⟨hw,fun Q'=>?_⟩
  refine κ6 (fun a' w' hh=>?_) (h Q')
  obtain⟨v,rfl,y,H3,F,g1,g2,g3⟩:=hh
  exact⟨v,rfl,g1 (Sy.put g3 hd g2)⟩
 ·exact .inr ⟨hw,g1 (Sy.put g3 hd g2)⟩
abbrev Rt (x:SV)(H:Hp):SV→Hp→Prop:=fun y H'=>y=x∧H'=H
theorem kZ {f:Nat} {args az:List SV} {H' H2 l l2:Hp} {x y:SV} (m:List Nat) (hf:Fn P f args H' (Rt x H2)) (A:Sy n T H ks G0 w0 G a w) (h1:B6 n ops T o=some (f,az)) (h2:EB m args=some az) (h3:DE m H'=some l) (h4:DA H m=some l) (h5:Jt m=true)
  (h6:Dv (m++Bj H.length (H2.length - m.length)) x=some y) (h7:DE (m++Bj H.length (H2.length - m.length)) H2=some l2) (hk:∀{G a w},Sy n (Bh T o.dst y) (CU H m l2) ks G0 w0 G a w→Goal P Q K (.ops ops rest) a w):Goal P Q K (.ops ops (o::rest)) a w:=
 tJ m hf A h1 h2 h3 h4 h5 fun x' H' ⟨e1,e2⟩=>by subst e1;subst e2;exact⟨y,l2,h6,h7,hk⟩
end
end Go.Proofs.YtbbdanhpphlbpaaGreatDoor
