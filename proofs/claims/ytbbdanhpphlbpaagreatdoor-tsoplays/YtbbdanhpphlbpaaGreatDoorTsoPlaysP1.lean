/- TsoPlays, part 1: the engine, contracts, theory. -/
import Derived.WalkKit
import Derived.Deep.WholeRow
import Derived.Deep.MidRow
import Derived.Great.BuildSlice
import Derived.ChangeKeysEq
import Derived.Deep.Draws
import Derived.Laws.StructEq
import Derived.Maps.AppendAt
import Derived.Deep.Upon
set_option linter.unusedVariables false
set_option linter.unusedSimpArgs false
set_option linter.unusedSectionVars false
namespace Go.Proofs.YtbbdanhpphlbpaaGreatDoor
abbrev ab:=Exit→Act→World→Prop
abbrev ae:=List Nat
abbrev ag:=List UInt8
abbrev ah:=Array Oper
abbrev ai:=List Oper
abbrev aj:=List Value
abbrev ak:=Option Addr
theorem U.{u}{α:Sort u}{a:α}:a=a:=Eq.refl a
section
open Go.RowKit
abbrev α0:=@List.getElem?_eq_some_iff
abbrev α1:=@List.getElem?_append_right
abbrev α2:=@List.getElem?_append_left
abbrev α3:=@Bool.and_eq_true
abbrev α4:=@List.length_append
abbrev α5:=@Nat.eq_of_beq_eq_true
abbrev α6:=@Int.toNat_natCast
abbrev α7:=@ne_true_of_eq_false
abbrev α8:=@List.getD_eq_getElem?_getD
abbrev α9:=@Result.andThen_ok
abbrev β0:=@List.length_cons
abbrev β1:=@Option.some.injEq
abbrev β2:=@List.length_nil
abbrev β3:=@Nat.le_trans
abbrev β4:=@List.getElem?_eq_getElem
abbrev β5:=@Array.getD_eq_getD_getElem?
abbrev β6:=@Option.some.inj
abbrev β7:=@Nat.zero_le
abbrev β8:=@Nat.le_refl
abbrev β9:=@Bool.or_eq_true
abbrev γ0:=@List.getElem?_set_ne
abbrev γ1:=@List.getElem?_take_of_lt
abbrev γ2:=@List.append_assoc
abbrev γ3:=@List.length_drop
abbrev γ4:=@Sem.run_bind
abbrev γ5:=@List.getElem?_eq_none
abbrev γ6:=@Sem.run_pure
abbrev γ7:=@List.getElem?_set_self
abbrev γ8:=@Option.map_eq_some_iff
abbrev γ9:=@List.eq_nil_of_length_eq_zero
abbrev δ0:=@Option.map_some
abbrev δ1:=@Nat.zero_add
abbrev δ2:=@Option.getD_some
abbrev δ3:=@List.all_eq_true
abbrev δ4:=@decide_eq_true_eq
abbrev δ5:=@of_decide_eq_true
abbrev δ6:=@List.length_take
abbrev δ7:=@beq_eq_false_iff_ne
abbrev δ8:=@Nat.le_of_ble_eq_true
abbrev δ9:=@List.contains_iff_mem
abbrev ε0:=@List.append_nil
abbrev ε1:=@Array.getElem?_eq_some_iff
abbrev ε2:=@run_underlying
abbrev ε3:=@Bool.or_eq_false_iff
abbrev ε4:=@List.take_of_length_le
abbrev ε5:=@beq_iff_eq
abbrev ε6:=@Array.getElem?_replicate
abbrev ε7:=@List.length_map
abbrev ε8:=@List.contains_cons
abbrev ε9:=@Ne.symm
abbrev ζ0:=@List.map_cons
abbrev ζ1:=@decide_eq_false_iff_not
abbrev ζ2:=@Exists.elim
abbrev ζ3:=@Addr.add_mid
abbrev ζ4:=@List.mem_cons_self
abbrev ζ5:=@List.map_append
abbrev ζ6:=@List.drop_zero
abbrev ζ7:=@Nat.lt_of_lt_of_le
abbrev ζ8:=@List.mem_range
abbrev ζ9:=@List.mem_append
abbrev η0:=@List.getElem?_drop
abbrev η1:=@List.drop_eq_getElem_cons
abbrev η2:=@List.length_set
abbrev η3:=@decide_eq_true
abbrev η4:=@Nat.add_assoc
abbrev η5:=@List.mem_cons
abbrev η6:=@not_not_intro
abbrev η7:=@Array.getElem?_setIfInBounds_ne
abbrev η8:=@Nat.beq_refl
abbrev η9:=@decide_eq_false
abbrev θ0:=@List.map_toArray
abbrev θ1:=@List.mem_of_getElem?
abbrev θ2:=@Nat.mul_le_mul_right
abbrev θ3:=@Bool.false_eq_true
abbrev θ4:=@List.take_zero
abbrev θ5:=@cond_true
abbrev θ6:=@Nat.add_mul
abbrev θ7:=@List.take_append_drop
abbrev θ8:=@Value.slice.injEq
abbrev θ9:=@List.ext_getElem?
abbrev ι0:=@List.getElem?_map
abbrev ι1:=@List.getElem?_nil
abbrev ι2:=@Nat.le_of_eq
abbrev ι3:=@List.getElem_mem
abbrev ι4:=@List.drop_eq_nil_of_le
abbrev ι5:=@List.mem_nil_iff
abbrev ι6:=@Nat.add_zero
abbrev ι7:=@List.map_nil
abbrev ι8:=@List.cons.injEq
abbrev ι9:=@List.mem_singleton
abbrev κ0:=@Bool.not_eq_true'
abbrev κ1:=@Array.getElem?_append
abbrev κ2:=@List.mem_iff_getElem?
abbrev κ3:=@Bool.and_eq_false_iff
abbrev κ4:=@Oper.wp_mono
abbrev κ5:=@List.take_append_of_le_length
abbrev κ6:=@List.mem_cons_of_mem
abbrev κ7:=@Option.map_none
abbrev κ8:=@Prod.mk.injEq
abbrev κ9:=@List.any_eq_true
abbrev μ0:=@run_sliceBound
abbrev μ1:=@List.drop_drop
abbrev μ2:=@Nat.mul_le_mul
abbrev μ3:=@List.find?_eq_none
abbrev μ4:=@List.length_filter_le
abbrev μ5:=@List.size_toArray
abbrev μ6:=@Addr.mk.injEq
abbrev μ7:=@Nat.blt_eq
abbrev μ8:=@Bool.eq_false_or_eq_true
abbrev μ9:=@List.filter_eq_nil_iff
abbrev ν0:=@List.mem_filter
abbrev ν1:=@Bool.eq_iff_iff
abbrev ν2:=@List.length_replicate
abbrev ν3:=@Nat.succ_le_of_lt
abbrev ν4:=@List.length_filter_lt_length_iff_exists
abbrev ν5:=@or_false
abbrev ν6:=@Array.ext'
abbrev ν7:=@Int.fdiv_eq_ediv_of_nonneg
abbrev ν8:=@Nat.le_add_right
abbrev ν9:=@Iff.rfl
abbrev ξ0:=@List.extract_eq_take_drop
abbrev ξ1:=@List.find?_range_eq_some
abbrev ξ2:=@List.nil_append
abbrev ξ3:=@List.all_append
abbrev ξ4:=@eq_of_beq
abbrev ξ5:=@List.getElem?_cons_zero
abbrev ξ6:=@if_false
abbrev ξ7:=@Nat.sub_zero
abbrev ξ8:=@Bool.eq_false_iff
abbrev ξ9:=@Array.size_append
abbrev π0:=@Nat.succ_mul
abbrev π1:=@List.mem_append_right
abbrev π2:=@BitVec.eq_of_toNat_eq
abbrev π3:=@Calls.mono
abbrev π4:=@List.cons_append
abbrev π5:=@BitVec.toNat_and
abbrev π6:=@Nat.and_two_pow_sub_one_eq_mod
abbrev π7:=@wp_region_any
abbrev π8:=@calls_of_wp
abbrev π9:=@Array.toArray_toList
abbrev ρ0:=@List.mem_append_left
abbrev ρ1:=@Src.ofSlice
abbrev ρ2:=@List.mem_iff_getElem
abbrev ρ3:=@Nat.pow_le_pow_right
abbrev ρ4:=@heap_alloc_last
abbrev ρ5:=@Array.toList_zipIdx
abbrev ρ6:=@List.map_congr_left
abbrev ρ7:=@List.getElem_of_mem
abbrev ρ8:=@Code.wp_mono
abbrev ρ9:=@Bool.or_true
abbrev σ0:=@List.mapM_cons
abbrev σ1:=@Option.isSome_none
abbrev σ2:=@Array.foldl_toList
abbrev σ3:=@Bool.not_eq_false'
abbrev σ4:=@List.getElem?_take
abbrev σ5:=@run_append_nothing
abbrev σ6:=@BitVec.getLsbD_and
abbrev σ7:=@grownCap_le_maxLen
abbrev σ8:=@List.take_left
abbrev σ9:=@List.filter_congr
abbrev τ0:=@run_append_own_at
abbrev τ1:=@DataW.trod_struct
abbrev τ2:=@Option.bind_some
abbrev τ3:=@Nat.le_of_not_lt
abbrev τ4:=@List.take_length
abbrev τ5:=@Bool.not_eq_true
abbrev τ6:=@List.ext_getElem
abbrev τ7:=@IntKind.wrap_i64
abbrev τ8:=@decide_eq_decide
abbrev τ9:=@List.map_map
abbrev υ0:=@Nat.add_comm
abbrev υ1:=@List.append_inj
abbrev υ2:=@List.foldl_cons
abbrev υ3:=@List.find?_some
abbrev υ4:=@Nat.not_lt_zero
abbrev υ5:=@List.find?_cons
abbrev υ6:=@Nat.one_mul
abbrev υ7:=@size_zeroCells
abbrev υ8:=@DataW.trod_int
abbrev υ9:=@Nat.mod_lt
abbrev By (w w':World):Prop:=Below w.heap.size w w'
theorem By.refl (w:World):By w w:=Below.refl _ _
theorem By.alloc {a b:World}(h:By a b)(o:Obj):By a (b.alloc o):=Below.alloc h h.size o
theorem By.drew {a b:World}(h:By a b):By a b.drew:=Below.drew h
structure St (n:Nat)(T:List (Nat×Value))(a:Act):Prop where
 size:a.tmps.size=n
 defers:a.defers=[]
 get:∀t v,T.lookup t=some v→a.tmps.getD t undef=v
def ev (T:List (Nat×Value)):Operand→Option Value
 | .tmp t=>T.lookup t
 | .const v=>some v
 | .global g=>some (.pointer (some ⟨g,0,none⟩))
 | .func f=>some (.func (.func f) #[] #[])
def DF (n:Nat):Option Nat→Bool
 |some d=>decide (d<n)
 |none=>true
def Ki (ops:ah)(j:Nat):Option Tmp:=(ops[j]?).bind (·.dst)
def BY (P:Program)(ops:ah)(o:Oper)(a:Act)(w:World)(K:Value→World→Prop):Prop:=
 (Region.wanted o (yielded ops a.tmps)=true∧∀Q,o.wp P a w (fun a' w'=>∃v,a'=a.put o.dst v∧K v w') Q)∨(Region.wanted o (yielded ops a.tmps)=false∧K undef w)
section
variable {P:Program}{ops:ah}{o:Oper}{a:Act}{w w':World}{K:Value→World→Prop}{Q:ab}{rest:ai}{n:Nat}{T:List (Nat×Value)}
theorem wn {f:Nat→Option Bool}(h:o.guard=none):Region.wanted o f=true:=by unfold Region.wanted;rw [h]
theorem wy {j t:Nat}{b:Bool}(h:o.guard=some (j,b))(hj:Ki ops j=some t)(hv:a.tmps.getD t undef=.bool b):Region.wanted o (yielded ops a.tmps)=true:=by
 unfold Region.wanted yielded
 rw [h]
 have uV:(ops[j]?).bind (·.dst)=some t:=hj
 simp only [uV,τ2]
 cases hq:a.tmps[t]? with
 |none=>simp [β5,hq,undef]at hv
 |some v=>simp [β5,hq]at hv;subst hv;simp
theorem T6 {j t:Nat}{b:Bool}(h:o.guard=some (j,b))(hj:Ki ops j=some t)(hv:a.tmps.getD t undef=.bool !b∨a.tmps.getD t undef=undef):Region.wanted o (yielded ops a.tmps)=false:=by
 unfold Region.wanted yielded
 rw [h]
 have uV:(ops[j]?).bind (·.dst)=some t:=hj
 simp only [uV,τ2]
 cases hq:a.tmps[t]? with
 |none=>simp
 |some v=>
  simp [β5,hq]at hv
  rcases hv with hv|hv
  ·subst hv;cases b<;>simp
  ·subst hv;simp [undef]
theorem Ad {v:Value}(hw:Region.wanted o (yielded ops a.tmps)=true)(hr:(execOp a.eval o).run P w=.ok (.value v) w')(h:K v w'):BY P ops o a w K:=
 .inl ⟨hw,fun Q=>by unfold Oper.wp;rw [hr,Oper.upon_value];exact⟨v,rfl,h⟩⟩
theorem MQ (hw:Region.wanted o (yielded ops a.tmps)=true)(hr:(execOp a.eval o).run P w=.ok .skip w')(h:K undef w'):BY P ops o a w K:=
 .inl ⟨hw,fun Q=>by unfold Oper.wp;rw [hr,Oper.upon_skip];exact⟨undef,rfl,h⟩⟩
theorem FS (hw:Region.wanted o (yielded ops a.tmps)=false)(h:K undef w):BY P ops o a w K:=.inr ⟨hw,h⟩
theorem Pg {f:FuncId} {args:Array Value} {R:Ending→World→Prop} (hw:Region.wanted o (yielded ops a.tmps)=true) (hr:(execOp a.eval o).run P w=.ok (.enter f args) w) (hc:Calls P f args w R)
  (h:∀e w',R e w'→∃v,e=.returned v∧K v w'):BY P ops o a w K:=
 .inl ⟨hw,fun Q=>by
  unfold Oper.wp;rw [hr,Oper.upon_enter]
  refine π3 hc fun e w' he=>?_
  obtain⟨v,rfl,hk⟩:=h e w' he
  exact⟨v,rfl,hk⟩⟩
theorem jL (h:Q .normal a w):wpList P ops Q [] a w:=h
end
def D3 (w:World)(g:Nat)(cs:Array Value)(t:TypeId):Prop:=w.heap[g]?=some (.cells cs t (0,0))
theorem D3.lt {w:World}{g:Nat}{cs:Array Value}{t:TypeId}(h:D3 w g cs t):g<w.heap.size:=(ε1.1 h).1
theorem D3.cell {w:World}{g k:Nat}{cs:Array Value}{t:TypeId}{v:Value}(h:D3 w g cs t)(hv:cs[k]?=some v):w.cell? ⟨g,k,none⟩=some v:=by
 rw [cell_of_row w g k cs t _ h];exact hv
theorem D3.frozen {w:World}{g:Nat}{cs:Array Value}{t:TypeId}(h:D3 w g cs t)(k:Nat):w.frozen? ⟨g,k,none⟩=false:=by
 unfold D3 at h;simp [World.frozen?,h]
structure XW (g:Nat)(w w':World):Prop where
 os:w'.os=w.os
 tape:w'.tape=w.tape
 output:w'.output=w.output
 size:w'.heap.size=w.heap.size
 block:∀k,k≠g→w'.heap[k]?=w.heap[k]?
theorem OI (w:World)(g k:Nat)(v:Value):XW g w (w.setCell ⟨g,k,none⟩ v):=
 ⟨rfl,rfl,rfl,by simp [World.setCell],fun j hj=>Below.heap_setCell _ _ _ _ hj⟩
theorem D3.set {w:World}{g k:Nat}{cs:Array Value}{t:TypeId}(h:D3 w g cs t)(v:Value):D3 (w.setCell ⟨g,k,none⟩ v) g (cs.setIfInBounds k v) t:=by
 rw [setCell_eq_setRow w g k _ _ _ _ h]
 exact setRow_heap w g _ _ _ _ h
section
variable {P:Program}{ops:ah}{a:Act}{w w':World}{K:Value→World→Prop}{d:Option Tmp}{ty:TypeId}{pos:String}{af:Array Edge}{gd:Option (Nat×Bool)}{v u:Value}
theorem aR {x:Operand}(hw:Region.wanted {dst:=d,op:=.move x,type:=ty,pos:=pos,after:=af,guard:=gd} (yielded ops a.tmps)=true)(hx:a.eval x=v)(h:K v w):
  BY P ops {dst:=d,op:=.move x,type:=ty,pos:=pos,after:=af,guard:=gd} a w K:=Ad hw (by subst hx;rfl) h
theorem UF {x:Operand}(hw:Region.wanted {dst:=d,op:=.assign x,type:=ty,pos:=pos,after:=af,guard:=gd} (yielded ops a.tmps)=true)(hx:a.eval x=v)(h:K v w):
  BY P ops {dst:=d,op:=.assign x,type:=ty,pos:=pos,after:=af,guard:=gd} a w K:=Ad hw (by subst hx;rfl) h
theorem Ph {c x y:Operand}{b:Bool}(hw:Region.wanted {dst:=d,op:=.pick c x y,type:=ty,pos:=pos,after:=af,guard:=gd} (yielded ops a.tmps)=true)(hc:a.eval c=.bool b)(hx:(if b then a.eval x else a.eval y)=v)(h:K v w):
  BY P ops {dst:=d,op:=.pick c x y,type:=ty,pos:=pos,after:=af,guard:=gd} a w K:=
 Ad hw (by subst hx;unfold execOp;simp [hc,asBool]) h
theorem jM {t:TypeId} {x:Operand} (hw:Region.wanted {dst:=d,op:=.box t x,type:=ty,pos:=pos,after:=af,guard:=gd} (yielded ops a.tmps)=true) (hx:a.eval x=v)
  (h:∀g w',g=w.heap.size→By w w'→D3 w' g v.cells t→K (.pointer (some ⟨g,0,none⟩)) w'):
  BY P ops {dst:=d,op:=.box t x,type:=ty,pos:=pos,after:=af,guard:=gd} a w K:=
 Ad (w':=w.alloc (.cells v.cells t)) hw (by subst hx;rfl) (h _ _ U ((By.refl _).alloc _) (ρ4 w _))
theorem XX {t:TypeId} {z:Value} {m:Nat} (hw:Region.wanted {dst:=d,op:=.alloc t,type:=ty,pos:=pos,after:=af,guard:=gd} (yielded ops a.tmps)=true)
  (hi:(P.info? t).map (fun i=>(i.zero,i.size))=some (some z,m)) (h:∀g w',g=w.heap.size→By w w'→D3 w' g z.cells t→K (.pointer (some ⟨g,0,none⟩)) w'):
  BY P ops {dst:=d,op:=.alloc t,type:=ty,pos:=pos,after:=af,guard:=gd} a w K:=
 Ad (w':=w.alloc (.cells z.cells t)) hw (by
  have hz:=(zero_of_info hi).1 w
  unfold execOp
  simp only [Instr.alloc,newVar,newRow,γ4,hz,α9]
  rfl) (h _ _ U ((By.refl _).alloc _) (ρ4 w _))
theorem OJ {s:TypeId}{fs:Array Field}{f:Nat}{fd:Field}(w:World)(g k off:Nat)(hu:P.underlying s=some (.struct fs))(hf:fs[f]?=some fd)(hs:(P.info? fd.type).map (·.size !=0)=some true)(ho:fd.offset=off):
  (Instr.fieldAt s (.pointer (some ⟨g,k,none⟩)) f).run P w=.ok (.pointer (some ⟨g,k+off,none⟩)) w:=by
 cases hq:P.info? fd.type with
 |none=>simp [hq]at hs
 |some i=>
  have hz:i.size≠0:=by simpa [hq]using hs
  simp [Instr.fieldAt,ε2 hu,hf,Instr.sureAddr,fieldPlace,sizeOf,typeInfo,hq,hz,ζ3,ho]
def Dp (P:Program)(s f:Nat):Option Nat:=
 match P.underlying s with
 |some (.struct fs)=>match fs[f]? with
  |some fd=>if(P.info? fd.type).map (·.size !=0)=some true then some fd.offset else none
  |none=>none
 |_=>none
theorem NB {s f off:Nat}(w:World)(g k:Nat)(h:Dp P s f=some off):(Instr.fieldAt s (.pointer (some ⟨g,k,none⟩)) f).run P w=.ok (.pointer (some ⟨g,k+off,none⟩)) w:=by
 unfold Dp at h
 split at h
 ·rename_i fs hu
  split at h
  ·rename_i fd hf
   split at h
   ·rename_i hs
    exact OJ w g k off hu hf hs (by simpa using h)
   ·cases h
  ·cases h
 ·cases h
theorem EL {s:TypeId} {x:Operand} {f g k off:Nat} (hw:Region.wanted {dst:=d,op:=.fieldAddr s x f,type:=ty,pos:=pos,after:=af,guard:=gd} (yielded ops a.tmps)=true) (hx:a.eval x=.pointer (some ⟨g,k,none⟩))
  (hf:Dp P s f=some off) (h:K (.pointer (some ⟨g,k+off,none⟩)) w):
  BY P ops {dst:=d,op:=.fieldAddr s x f,type:=ty,pos:=pos,after:=af,guard:=gd} a w K:=
 Ad hw (by unfold execOp;simp only [hx,γ4,NB w g k hf,α9,γ6]) h
def oneB (P:Program)(t:TypeId):Bool:=
 (match P.underlying t with|some (.struct _)=>false|some (.array _ _)=>false|some _=>true|none=>false)&&((P.info? t).map (·.size)==some 1)
theorem JC {t:TypeId}(h:oneB P t=true)(w:World):(isAgg t).run P w=.ok false w:=by
 unfold oneB at h
 rw [α3]at h
 cases hq:P.underlying t with
 |none=>simp [hq]at h
 |some d=>
  unfold isAgg
  rw [γ4,ε2 hq w]
  cases d<;>simp_all
theorem SX {t:TypeId}{g k:Nat}(h1:oneB P t=true)(hc:w.cell? ⟨g,k,none⟩=some v):(Instr.loadAt t (.pointer (some ⟨g,k,none⟩))).run P w=.ok v w:=by
 simp [Instr.loadAt,Instr.sureAddr,loadVar,JC h1,hc,go_sem]
theorem aS {t:TypeId} {x:Operand} {g k:Nat} (hw:Region.wanted {dst:=d,op:=.load t x,type:=ty,pos:=pos,after:=af,guard:=gd} (yielded ops a.tmps)=true) (hx:a.eval x=.pointer (some ⟨g,k,none⟩)) (h1:oneB P t=true)
  (hc:w.cell? ⟨g,k,none⟩=some v) (h:K v w):BY P ops {dst:=d,op:=.load t x,type:=ty,pos:=pos,after:=af,guard:=gd} a w K:=
 Ad hw (by unfold execOp;simp only [hx,γ4,SX h1 hc,α9,γ6]) h
def J9 (P:Program)(t:TypeId)(m:Nat):Bool:=
 (match P.underlying t with|some (.struct _)=>true|some (.array _ _)=>true|_=>false)&&((P.info? t).map (·.size)==some m)
theorem EW {t:TypeId}{m:Nat}(h:J9 P t m=true):(∃dd:TypeDesc,P.underlying t=some dd∧dd.isRow=true∧(match dd with| .struct _| .array _ _=>true|_=>false)=true)∧(P.info? t).map (·.size)=some m:=by
 unfold J9 at h
 rw [α3]at h
 refine⟨?_,by simpa using h.2⟩
 cases hq:P.underlying t with
 |none=>simp [hq]at h
 |some dd=>refine⟨dd,rfl,?_,?_⟩<;>(cases dd<;>simp_all [TypeDesc.isRow])
theorem Pi {t t':TypeId}{g k:Nat}{cs:Array Value}(h1:oneB P t=true)(uW:v.oneCell'=true)(hb:D3 w g cs t')(hk:k<cs.size):(Instr.storeAt t (.pointer (some ⟨g,k,none⟩)) v).run P w=.ok () (w.setCell ⟨g,k,none⟩ v):=by
 have hc:w.cell? ⟨g,k,none⟩=some cs[k]:=hb.cell (by simp [hk])
 have hf:=hb.frozen k
 unfold oneB at h1
 rw [α3]at h1
 have hs:(P.info? t).map (·.size)=some 1:=by simpa using h1.2
 cases hq:P.info? t with
 |none=>simp [hq]at hs
 | some i=>
  have hi:i.size=1:=by simpa [hq]using hs
  have hz:(sizeOf t).run P w=.ok 1 w:=by simp [sizeOf,typeInfo,hq,hi]
  have Ld:v.cells= #[v]:=by cases v<;>simp_all [Value.oneCell',Value.cells]
  have GX:(store ((⟨g,k,none⟩:Addr).add 0) v).run P w=.ok () (w.setCell ⟨g,k,none⟩ v):=by
   rw [ζ3,ι6,run_store P w _ v _ uW,hc]
   simp [hf]
  simp only [Instr.storeAt,Instr.sureAddr,storeVar,γ4,γ6,α9,hz,Ld,μ5,β0,β2,δ1,ne_eq,not_true_eq_false,ξ6,storeCells,GX]
theorem UG {t:TypeId}{x:Operand}{b:Bool}(hw:Region.wanted {dst:=d,op:=.unOp .not t x,type:=ty,pos:=pos,after:=af,guard:=gd} (yielded ops a.tmps)=true)(hx:a.eval x=.bool b)(h:K (.bool !b) w):
  BY P ops {dst:=d,op:=.unOp .not t x,type:=ty,pos:=pos,after:=af,guard:=gd} a w K:=
 Ad hw (by unfold execOp;simp only [hx,Op.unary,γ4,γ6,α9]) h
theorem MR {op:BinOp} {t t2:TypeId} {x y:Operand} {r:Value} (hw:Region.wanted {dst:=d,op:=.binOp op t x y t2,type:=ty,pos:=pos,after:=af,guard:=gd} (yielded ops a.tmps)=true) (hx:a.eval x=u) (hy:a.eval y=v)
  (hr:(eqGuard op t x y u v).run P w=.ok () w∧(binOp op t u v).run P w=.ok r w) (h:K r w):BY P ops {dst:=d,op:=.binOp op t x y t2,type:=ty,pos:=pos,after:=af,guard:=gd} a w K:=
 Ad hw (by unfold execOp;simp only [hx,hy,γ4,hr.1,hr.2,γ6,α9]) h
theorem enters {f:FuncId}(h:((P.funcs[f]?).map fun fn=>(fn.name== "runtime.NumGoroutine",fn.body.isNone))=some (false,false))(args:Array Value)(w:World):(callFunc f args).run P w=.ok (.enter f args) w:=by
 cases hf:P.funcs[f]? with
 |none=>simp [hf]at h
 |some fn=>
  rw [hf]at h
  simp only [δ0,β1,κ8]at h
  unfold callFunc
  simp only [γ4,run_program,α9,hf,h.1,h.2,θ3,ξ6,γ6]
theorem SY {x:Operand}{k:Nat}{vs:Array Value}(hw:Region.wanted {dst:=d,op:=.extract x k,type:=ty,pos:=pos,after:=af,guard:=gd} (yielded ops a.tmps)=true)(hx:a.eval x=.tuple vs)(hk:vs[k]?=some v)(h:K v w):
  BY P ops {dst:=d,op:=.extract x k,type:=ty,pos:=pos,after:=af,guard:=gd} a w K:=
 Ad hw (by unfold execOp;simp only [hx,Instr.extract,hk,γ4,γ6,α9]) h
end
section
variable {P:Program}{t:TypeId}{k:IntKind}(x y:Operand)(a b:Int)(r:Bool)(w:World)
theorem rR (h:(a==b)=r):(eqGuard .eql t x y (.int k a) (.int k b)).run P w=.ok () w∧(binOp .eql t (.int k a) (.int k b)).run P w=.ok (.bool r) w:=by
 subst h;exact⟨by simp [eqGuard],by simp [binOp,Op.intCmp]⟩
theorem rS (h:(!(a==b))=r):(eqGuard .neq t x y (.int k a) (.int k b)).run P w=.ok () w∧(binOp .neq t (.int k a) (.int k b)).run P w=.ok (.bool r) w:=by
 subst h;exact⟨by simp [eqGuard],by simp [binOp,Op.intCmp,bne]⟩
theorem rT (h:decide (a<b)=r):(eqGuard .lss t x y (.int k a) (.int k b)).run P w=.ok () w∧(binOp .lss t (.int k a) (.int k b)).run P w=.ok (.bool r) w:=by
 subst h;exact⟨by simp [eqGuard],by simp [binOp,Op.intCmp]⟩
theorem rU (h:decide (a≤b)=r):(eqGuard .leq t x y (.int k a) (.int k b)).run P w=.ok () w∧(binOp .leq t (.int k a) (.int k b)).run P w=.ok (.bool r) w:=by
 subst h;exact⟨by simp [eqGuard],by simp [binOp,Op.intCmp]⟩
theorem rV (h:decide (a>b)=r):(eqGuard .gtr t x y (.int k a) (.int k b)).run P w=.ok () w∧(binOp .gtr t (.int k a) (.int k b)).run P w=.ok (.bool r) w:=by
 subst h;exact⟨by simp [eqGuard],by simp [binOp,Op.intCmp]⟩
theorem rW (h:decide (a≥b)=r):(eqGuard .geq t x y (.int k a) (.int k b)).run P w=.ok () w∧(binOp .geq t (.int k a) (.int k b)).run P w=.ok (.bool r) w:=by
 subst h;exact⟨by simp [eqGuard],by simp [binOp,Op.intCmp]⟩
end
section
variable {P:Program}{K:Act→World→Prop}{Q:ab}{a:Act}{w:World}{id j n:Nat}{T:List (Nat×Value)}
theorem aT (h:K a w):Exit.then K Q .normal a w:=h
theorem UH (h:Q (.exit j) a w):Exit.then K Q (.exit j) a w:=h
theorem ZU (h:Q .ret a w):Exit.then K Q .ret a w:=h
theorem aU (h:Q .normal a w):Exit.inBlock id Q .normal a w:=h
theorem jN (h:Q .ret a w):Exit.inBlock id Q .ret a w:=h
theorem aV (h:Q .normal a w):Exit.inBlock id Q (.exit id) a w:=by simp only [Exit.inBlock,if_true];exact h
theorem aW (Bw:j≠id)(h:Q (.exit j) a w):Exit.inBlock id Q (.exit j) a w:=by simp only [Exit.inBlock,if_neg Bw];exact h
def UI:List Value→Nat→List (Nat×Value)
 | [],_=>[]
 |v::vs,k=>(k,v)::UI vs (k+1)
theorem MS (t:Nat)(v:Value):∀(vs:aj) (k:Nat),(UI vs k).lookup t=some v→k≤t∧vs[t - k]?=some v
 | [],_,h=>by simp [UI]at h
 | u::vs,k,h=>by
  unfold UI at h
  rw [List.lookup_cons]at h
  by_cases ht:t=k
  ·subst ht;simp at h;subst h;simp
  ·have:(t==k)=false:=by simpa using ht
   simp only [this]at h
   obtain⟨h1,h2⟩:=MS t v vs (k+1) h
   refine⟨by omega,?_⟩
   rw [show t - k=(t - (k+1))+1 by omega];simpa using h2
theorem enter {f:FuncId} {fn:Func} {c:Code} {args:aj} {R:Ending→World→Prop} (hf:P.funcs[f]?=some fn) (hb:fn.body=some c) (hn:fn.ntmps=n) (hl:args.length≤n)
  (h:∀a,St n (UI args 0) a→c.wp P (bodyPost P fn R) a w):Calls P f args.toArray w R:=by
 refine π8 hf hb (h _ ⟨by simp [hn];omega,rfl,fun t v hv=>?_⟩)
 obtain⟨_,h2⟩:=MS t v args 0 hv
 have BU:t<args.length:=(α0.1 h2).1
 simp only [ξ7]at h2
 simp [β5,κ1,BU]at h2⊢
 exact h2
end
structure Cl (S:World→World→Prop) where
 P:Value→World→Prop
 st:∀v w w',S w w'→P v w→P v w'
def waits (o:Oper)(j:Nat):Bool:=o.after.toList.any fun e=>Region.binds .any e&&e.on==j
def Kj (ops:ah)(n:Nat)(T:List (Nat×Value)):Bool:=
 ((List.range ops.size).all fun i=>match ops[i]? with
  |some o=>(match o.dst with
   |some d=>decide (d<n)&&((List.range ops.size).all fun j=>i==j||Ki ops j !=some d)&&T.all fun x=>x.1 !=d
   |none=>true)&&o.after.all fun e=> !Region.binds .any e||decide (e.on<i)
  |none=>false)
theorem IH {ops:ah}{n i:Nat}{T:List (Nat×Value)}{o:Oper}(h:Kj ops n T=true)(hi:ops[i]?=some o):
  (∀d,o.dst=some d→d<n∧(∀j,j<ops.size→Ki ops j=some d→j=i)∧∀x∈T,x.1≠d)∧∀e∈o.after,Region.binds .any e=true→e.on<i:=by
 have BU:i<ops.size:=(ε1.1 hi).1
 unfold Kj at h
 rw [δ3]at h
 have h1:=h i (by simpa using BU)
 simp only [hi]at h1
 rw [α3]at h1
 obtain⟨h2,h3⟩:=h1
 refine⟨fun d hd=>?_,fun e he hb=>?_⟩
 ·simp only [hd,α3,δ4,δ3]at h2
  refine⟨h2.1.1,fun j hj gR=>?_,fun x hx=>by simpa using h2.2 x hx⟩
  have:=h2.1.2 j (by simpa using hj)
  simp only [gR,β9,ε5,bne_self_eq_false,θ3,ν5]at this
  exact this.symm
 ·have:=(Array.all_eq_true_iff_forall_mem.1 h3) e he
  simpa [hb]using this
theorem Kk {l:Array Bool}{i k:Nat}(b:Bool)(h:i≠k):(l.setIfInBounds i true).getD k b=l.getD k b:=by
 simp [β5,η7 h]
section
variable {P:Program}{l:ai}{Q:ab}{S:World→World→Prop}{n:Nat}{T:List (Nat×Value)}{w:World}
end
structure SM (M:Nat→Option (Array Value))(w w':World):Prop where
 os:w'.os=w.os
 tape:w'.tape=w.tape
 output:w'.output=w.output
 size:w.heap.size≤w'.heap.size
 block:∀k,k<w.heap.size→M k=none→w'.heap[k]?=w.heap[k]?
 turns:∀k fin cs t,M k=some fin→D3 w k cs t→∃cs',D3 w' k cs' t∧cs'.size=cs.size∧∀j:Nat,cs'[j]?=cs[j]?∨cs'[j]?=fin[j]?
theorem D3.sm {M:Nat→Option (Array Value)}{w w':World}{g:Nat}{cs:Array Value}{t:TypeId}(hb:D3 w g cs t)(h:SM M w w')(hM:M g=none):D3 w' g cs t:=by
 unfold D3;rw [h.block g hb.lt hM];exact hb
section
variable {P:Program}{ops:ah}{a:Act}{w w0:World}{K:Value→World→Prop}{d:Option Tmp}{ty:TypeId}{pos:String}{af:Array Edge}{gd:Option (Nat×Bool)}{v:Value}{M:Nat→Option (Array Value)}
def placesOf (P:Program)(t:TypeId):Option (List (Nat×Nat)):=
 match P.underlying t with
 |some (.struct fs)=>fs.toList.mapM fun f=>(P.info? f.type).map fun i=>(f.offset,i.size)
 |_=>none
theorem run_places {P:Program}(w:World):∀(fs:List Field) (ps:List (Nat×Nat)),fs.mapM (fun f=>(P.info? f.type).map fun i=>(f.offset,i.size))=some ps→(fs.mapM (fun f=>do pure (f.offset,←sizeOf f.type):Field→Sem (Nat×Nat))).run P w=.ok ps w
 | [],ps,h=>by simp at h;subst h;simp
 | f::fs,ps,h=>by
  rw [σ0]at h
  cases hi:P.info? f.type with
  |none=>simp [hi]at h
  | some i=>
   cases hr:fs.mapM (fun f=>(P.info? f.type).map fun i=>(f.offset,i.size))with
   |none=>simp [hi,hr]at h
   |some qs=>
    simp [hi,hr]at h
    subst h
    have ih:=run_places w fs qs hr
    have hz:(sizeOf f.type).run P w=.ok i.size w:=by simp [sizeOf,typeInfo,hi]
    rw [σ0]
    simp only [γ4,hz,α9,γ6,ih]
theorem XY {t:TypeId} {parts:Array (Nat×Operand)} {vs:List (Nat×Value)} {z:Value} {m:Nat} {ps:List (Nat×Nat)} {cs:Array Value} (hw:Region.wanted {dst:=d,op:=.build t parts,type:=ty,pos:=pos,after:=af,guard:=gd} (yielded ops a.tmps)=true)
  (hx:(parts.map fun x=>(x.1,a.eval x.2)).toList=vs) (hi:(P.info? t).map (fun i=>(i.zero,i.size))=some (some z,m)) (hp:placesOf P t=some ps) (hf:Instr.fill (fun i=>ps[i]?) z.cells vs=some cs) (h:K (.agg cs) w):
  BY P ops {dst:=d,op:=.build t parts,type:=ty,pos:=pos,after:=af,guard:=gd} a w K:=
 Ad hw (by
  have hz:=(zero_of_info hi).1 w
  unfold placesOf at hp
  split at hp
  ·rename_i fs hu
   have I4:=run_places (P:=P) w fs.toList ps hp
   have uX:(fs.mapM (fun f=>do pure (f.offset,←sizeOf f.type):Field→Sem (Nat×Nat))).run P w=.ok ps.toArray w:=by
    rw [←π9 (xs:=fs),List.mapM_toArray]
    simp only [Sem.run_map,I4,α9]
   have rE:Instr.fill (fun i=>ps.toArray[i]?) z.cells (parts.map fun x=>(x.1,a.eval x.2)).toList=some cs:=by rw [hx];simpa using hf
   unfold execOp
   simp only [γ4,Instr.build,hz,α9,ε2 hu,uX,rE,γ6]
  ·cases hp) h
end
section
variable {P:Program}
theorem II {t:TypeId}{cs:Array Value}{o:Nat}{v:Value}(w:World)(h:(isAgg t).run P w=.ok false w)(hv:cs[o]?=some v):(part t cs o).run P w=.ok v w:=by
 simp [part,h,hv]
def fieldInfo (P:Program)(s f:Nat):Option (TypeId×Nat):=
 match P.underlying s with
 |some (.struct fs)=>(fs[f]?).map fun fd=>(fd.type,fd.offset)
 |_=>none
variable {ops:ah}{a:Act}{w:World}{K:Value→World→Prop}{d:Option Tmp}{ty:TypeId}{pos:String}{af:Array Edge}{gd:Option (Nat×Bool)}{v:Value}
variable {n:Nat}{T:List (Nat×Value)}
end
section
variable {P:Program}{ops:ah}{a:Act}{w:World}{K:Value→World→Prop}{d:Option Tmp}{ty:TypeId}{pos:String}{af:Array Edge}{gd:Option (Nat×Bool)}{v:Value}
theorem XZ {c x y:Operand}(hw:Region.wanted {dst:=d,op:=.pick c x y,type:=ty,pos:=pos,after:=af,guard:=gd} (yielded ops a.tmps)=true)(hc:a.eval c=.bool true)(hx:a.eval x=v)(h:K v w):
  BY P ops {dst:=d,op:=.pick c x y,type:=ty,pos:=pos,after:=af,guard:=gd} a w K:=Ph hw hc (by simpa using hx) h
theorem Xa {c x y:Operand}(hw:Region.wanted {dst:=d,op:=.pick c x y,type:=ty,pos:=pos,after:=af,guard:=gd} (yielded ops a.tmps)=true)(hc:a.eval c=.bool false)(hx:a.eval y=v)(h:K v w):
  BY P ops {dst:=d,op:=.pick c x y,type:=ty,pos:=pos,after:=af,guard:=gd} a w K:=Ph hw hc (by simpa using hx) h
end
theorem least {p:Nat→Prop}(h:∃m,p m):∃m,p m∧∀k,k<m→¬p k:=by
 obtain⟨m,hm⟩:=h
 induction m using Nat.strongRecOn with
 |_ m ih=>
  by_cases hk:∃k,k<m∧p k
  ·obtain⟨k,uY,Y9⟩:=hk;exact ih k uY Y9
  ·exact⟨m,hm,fun k uY Y9=>hk ⟨k,uY,Y9⟩⟩
theorem Qv {P:Program} {c:Code} {Q:ab} {a:Act} {w:World} (I:Nat→Act→World→Prop) (m:Nat) (h0:I m a w)
  (round:∀m a w,I m a w→c.wp P (Exit.then (fun a' w'=>∃m',m'<m∧I m' a' w') Q) a w):(Code.loop c).wp P Q a w:=by
 refine wp_loop (fun a w=>∃m,I m a w) (fun a w=> @dite Nat (∃m,I m a w) (Classical.propDecidable _) (fun h=>Classical.choose (least h)) fun _=>0) ⟨m,h0⟩ fun a w hI=>?_
 have hc:=Classical.choose_spec (least hI)
 have hr:=round _ a w hc.1
 refine ρ8 (fun e a' w' hq=>?_) hr
 cases e with
 |normal=>
  obtain⟨m',BU,uZ⟩:=hq
  refine⟨⟨m',uZ⟩,?_⟩
  have h':∃m,I m a' w':=⟨m',uZ⟩
  simp only [dif_pos hI,dif_pos h']
  have h2:=(Classical.choose_spec (least h')).2
  refine Nat.lt_of_le_of_lt ?_ BU
  exact τ3 fun gS=>h2 m' gS uZ
 |_=>exact hq
def Sl {α:Type}(enc:α→List Value)(s B:Nat)(w:World)(v:Value)(l:List α):Prop:=
 ∃ao cap,v=.slice ao l.length cap∧l.length≤cap∧∀j x,l[j]?=some x→∃b o,ao=some ⟨b,o,none⟩∧b<B∧w.rangeAt b (o+j*s) (enc x)
section
variable {α:Type}{enc:α→List Value}{s B:Nat}{w w':World}{v:Value}{l:List α}
theorem Sl.nil:Sl enc s B w (.slice none 0 0) ([]:List α):=⟨none,0,rfl,β8 _,fun j x h=>by simp at h⟩
end
section
variable {P:Program}{ops:ah}{a:Act}{w:World}{K:Value→World→Prop}{d:Option Tmp}{ty:TypeId}{pos:String}{af:Array Edge}{gd:Option (Nat×Bool)}{v:Value}
def sliceB (P:Program)(t e s:Nat):Bool:=(match P.underlying t with|some (.slice e')=>e'==e|_=>false)&&((P.info? e).map (·.size)==some s)
theorem EM {t e s:Nat}(h:sliceB P t e s=true):P.underlying t=some (.slice e)∧(P.info? e).map (·.size)=some s:=by
 unfold sliceB at h
 rw [α3]at h
 refine⟨?_,by simpa using h.2⟩
 cases hq:P.underlying t with
 |none=>simp [hq]at h
 |some dd=>cases dd<;>simp_all
theorem DX {e s:Nat}(h:(P.info? e).map (·.size)=some s)(w:World):(sizeOf e).run P w=.ok s w:=by
 cases hq:P.info? e with
 |none=>simp [hq]at h
 |some i=>simp [hq]at h;simp [sizeOf,typeInfo,hq,h]
theorem Qw {x:Operand} {t e s n:Nat} (hw:Region.wanted {dst:=d,op:=.call {callee:=.builtin .len,args:= #[x],argTypes:= #[t]},type:=ty,pos:=pos,after:=af,guard:=gd} (yielded ops a.tmps)=true) (hx:a.eval x=v) (ht:sliceB P t e s=true)
  (hv:∃ao cap,v=.slice ao n cap) (h:K (.int .i64 (n:Int)) w):BY P ops {dst:=d,op:=.call {callee:=.builtin .len,args:= #[x],argTypes:= #[t]},type:=ty,pos:=pos,after:=af,guard:=gd} a w K:=
 Ad hw (by
  obtain⟨ao,cap,hv⟩:=hv
  have hm:(#[x]:Array Operand).map a.eval= #[.slice ao n cap]:=by simp only [θ0,ζ0,ι7];rw [hx,hv]
  unfold execOp
  simp only [resolve,γ4,γ6,α9,invoke,builtin,hm]
  simp [Builtin.len_,ε2 (EM ht).1,goInt]) h
def jO (v:Value)(n j s b o:Nat):Prop:=∃o0 cap,v=.slice (some ⟨b,o0,none⟩) n cap∧o=o0+j*s
theorem FT {t e s n j b o:Nat} {x ix:Operand} (hw:Region.wanted {dst:=d,op:=.indexAddr t x ix,type:=ty,pos:=pos,after:=af,guard:=gd} (yielded ops a.tmps)=true) (hx:a.eval x=v) (hi:a.eval ix=.int .i64 (j:Int))
  (ht:sliceB P t e s=true) (gT:jO v n j s b o) (hj:j<n) (h:K (.pointer (some ⟨b,o,none⟩)) w):
  BY P ops {dst:=d,op:=.indexAddr t x ix,type:=ty,pos:=pos,after:=af,guard:=gd} a w K:=by
 obtain⟨o0,cap,hv,ho⟩:=gT
 refine Ad (v:=.pointer (some ⟨b,o,none⟩)) hw ?_ h
 subst hv;subst ho
 have hc:(0:Int)≤(j:Int)∧(j:Int)<((n:Nat):Int):=⟨by omega,by omega⟩
 have hq:(Instr.indexAt t (.slice (some ⟨b,o0,none⟩) n cap) (.int .i64 (j:Int))).run P w=.ok (.pointer (some ⟨b,o0+j*s,none⟩)) w:=by
  unfold Instr.indexAt
  simp only [asIntOf,γ4,γ6,α9,ε2 (EM ht).1,if_pos hc,DX (EM ht).2,α6,ζ3]
 unfold execOp
 simp only [hx,hi,γ4,hq,γ6,α9]
def OL (P:Program)(t n e s:Nat):Bool:=(match P.underlying t with|some (.array n' e')=>n'==n&&e'==e|_=>false)&&((P.info? e).map (·.size)==some s)
theorem Dh {t n e s:Nat}(h:OL P t n e s=true):P.underlying t=some (.array n e)∧(P.info? e).map (·.size)=some s:=by
 unfold OL at h
 rw [α3]at h
 refine⟨?_,by simpa using h.2⟩
 cases hq:P.underlying t with
 |none=>simp [hq]at h
 |some dd=>cases dd<;>simp_all
theorem Pj {t n e s g o j:Nat} {x ix:Operand} (hw:Region.wanted {dst:=d,op:=.indexAddr t x ix,type:=ty,pos:=pos,after:=af,guard:=gd} (yielded ops a.tmps)=true) (hx:a.eval x=.pointer (some ⟨g,o,none⟩)) (hi:a.eval ix=.int .i64 (j:Int))
  (ht:OL P t n e s=true) (hj:j<n) (h:K (.pointer (some ⟨g,o+j*s,none⟩)) w):BY P ops {dst:=d,op:=.indexAddr t x ix,type:=ty,pos:=pos,after:=af,guard:=gd} a w K:=
 Ad hw (by
  have hc:(0:Int)≤(j:Int)∧(j:Int)<((n:Nat):Int):=⟨by omega,by omega⟩
  have hq:(Instr.indexAt t (.pointer (some ⟨g,o,none⟩)) (.int .i64 (j:Int))).run P w=.ok (.pointer (some ⟨g,o+j*s,none⟩)) w:=by
   unfold Instr.indexAt
   simp only [asIntOf,γ4,γ6,α9,ε2 (Dh ht).1,if_pos hc,DX (Dh ht).2,α6,ζ3,Instr.sureAddr]
  unfold execOp
  simp only [hx,hi,γ4,hq,γ6,α9]) h
theorem Fs {x:Operand}{g o:Nat}(hw:Region.wanted {dst:=d,op:=.nilCheck x,type:=ty,pos:=pos,after:=af,guard:=gd} (yielded ops a.tmps)=true)(hx:a.eval x=.pointer (some ⟨g,o,none⟩))(h:K (.pointer (some ⟨g,o,none⟩)) w):
  BY P ops {dst:=d,op:=.nilCheck x,type:=ty,pos:=pos,after:=af,guard:=gd} a w K:=
 Ad hw (by unfold execOp;simp only [hx,γ6]) h
theorem Sa {t b o:Nat} {x:Operand} {cs:Array Value} (hw:Region.wanted {dst:=d,op:=.load t x,type:=ty,pos:=pos,after:=af,guard:=gd} (yielded ops a.tmps)=true) (hx:a.eval x=.pointer (some ⟨b,o,none⟩)) (h1:J9 P t cs.size=true)
  (hr:w.rangeAt b o cs.toList) (h:K (.agg cs) w):BY P ops {dst:=d,op:=.load t x,type:=ty,pos:=pos,after:=af,guard:=gd} a w K:=
 Ad hw (by
  obtain⟨⟨dd,h2,h3,_⟩,h4⟩:=EW h1
  have:=run_loadAt_mid (P:=P) w b o t cs.toList dd hr h2 h3 (by simpa using h4)
  unfold execOp
  simp only [hx,γ4,this,α9,γ6,π9]) h
theorem D3.range {g o n:Nat}{cs:Array Value}{t:TypeId}(hb:D3 w g cs t):w.rangeAt g o (cs.extract o (o+n)).toList:=World.rangeAt_of_block hb o n
end
section
variable {P:Program}{t:TypeId}(x y:Operand)(a b:Int)(w:World)
end
section
variable {P:Program}{l:ai}{y:Oper}{Q:ab}{S:World→World→Prop}{n:Nat}{T:List (Nat×Value)}{w:World}
end
section
variable {P:Program}{ops:ah}{a:Act}{w:World}{K:Value→World→Prop}{d:Option Tmp}{ty:TypeId}{pos:String}{af:Array Edge}{gd:Option (Nat×Bool)}{v:Value}
def Et (P:Program)(t e s by_:Nat):Bool:=sliceB P t e s&&(match P.info? e with|some i=>(match i.zero with|some z=>z.cells.size==s|none=>false)&&i.bytes==by_|none=>false)&&decide (0<s)
theorem Cp {t e s by_:Nat}(h:Et P t e s by_=true):∃i z,P.underlying t=some (.slice e)∧P.info? e=some i∧i.zero=some z∧i.size=s∧i.bytes=by_∧z.cells.size=s∧0<s:=by
 unfold Et at h
 rw [α3,α3,δ4]at h
 obtain⟨⟨h1,h2⟩,h3⟩:=h
 obtain⟨h4,h5⟩:=EM h1
 cases hq:P.info? e with
 |none=>simp [hq]at h2
 |some i=>
  cases hz:i.zero with
  |none=>simp [hq,hz]at h2
  |some z=>simp [hq,hz]at h2 h5;exact⟨i,z,h4,rfl,hz,h5,h2.2,h2.1,h3⟩
end
theorem Hs {w:World}{b:Nat}{e:TypeId}{s n:Nat}{v:Value}{xs:aj}(h:w.ownsRow b e s v n xs):∀k,v.ownBlock=some k→b≤k∧k<w.heap.size:=by
 intro k hk
 rcases h.2 with⟨rfl,_⟩|⟨g,cap,cur,rfl,hb,hg,_⟩
 ·simp [Value.ownBlock]at hk
 ·simp [Value.ownBlock]at hk;subst hk;exact⟨hb,(ε1.1 hg).1⟩
def GO (M:Nat→Option (Array Value))(hM:∀k,M k=none)(cs:Array Value)(e:TypeId):Cl (SM M):=
 ⟨fun v w=>∃g,v=.slice (some ⟨g,0,none⟩) 1 1∧D3 w g cs e,fun _ _ _ hS ⟨g,h1,h2⟩=>⟨g,h1,h2.sm hS (hM g)⟩⟩
theorem Qx {w:World}{b g:Nat}{e:TypeId}{s n:Nat}{v:Value}{xs:aj}(h:w.ownsRow b e s v n xs)(hg:g=w.heap.size):v.ownBlock≠some g:=fun hk=>by
 have:=(Hs h _ hk).2;omega
theorem UJ {w w':World}{b:Nat}{e:TypeId}{s n:Nat}{v:Value}{xs:aj}(h:w.ownsRow b e s v n xs)(hk:∀k,v.ownBlock=some k→w'.heap[k]?=w.heap[k]?):w'.ownsRow b e s v n xs:=by
 obtain⟨h1,h2⟩:=h
 refine⟨h1,?_⟩
 rcases h2 with h2|⟨g,cap,cur,hv,hb,gU,h3⟩
 ·exact .inl h2
 ·exact .inr ⟨g,cap,cur,hv,hb,by rw [hk g (by rw [hv];rfl)];exact gU,h3⟩
theorem JD {P:Program}{ops:ah}{o:Oper}{a:Act}{w:World}{K K':Value→World→Prop}(h:BY P ops o a w K)(hK:∀v w,K v w→K' v w):BY P ops o a w K':=by
 rcases h with⟨h1,h2⟩|⟨h1,h2⟩
 ·refine .inl ⟨h1,fun Q=>κ4 (fun a' w' hh=>?_) (h2 Q)⟩
  obtain⟨v,e,k⟩:=hh
  exact⟨v,e,hK v w' k⟩
 ·exact .inr ⟨h1,hK _ _ h2⟩
section
variable {P:Program}{l:ai}{Q:ab}{S:World→World→Prop}{n:Nat}{T:List (Nat×Value)}{w:World}
end
section
variable {B0:Nat}{Z R:Array Value}{t:TypeId}{w w':World}
end
section
variable {P:Program}{ops:ah}{a:Act}{w:World}{K:Value→World→Prop}{d:Option Tmp}{ty:TypeId}{pos:String}{af:Array Edge}{gd:Option (Nat×Bool)}{v:Value}
theorem aX {t e s by_:Nat} (hw:Region.wanted {dst:=d,op:=.buildSlice t 0 #[],type:=ty,pos:=pos,after:=af,guard:=gd} (yielded ops a.tmps)=true) (ht:Et P t e s by_=true)
  (h:∀g w',g=w.heap.size→By w w'→D3 w' g #[] e→K (.slice (some ⟨g,0,none⟩) 0 0) w'):BY P ops {dst:=d,op:=.buildSlice t 0 #[],type:=ty,pos:=pos,after:=af,guard:=gd} a w K:=by
 obtain⟨i,z,hu,hi,hz,D7,_,pC,h0⟩:=Cp ht
 refine Ad (w':=w.alloc (.cells #[] e)) hw ?_ (h _ _ U ((By.refl _).alloc _) (ρ4 w _))
 have:(Instr.buildSlice t 0 #[]).run P w=.ok (.slice (some ⟨w.heap.size,0,none⟩) 0 0) (w.alloc (.cells #[] e)):=by
  simp [Instr.buildSlice,ε2 hu,sizeOf,typeInfo,hi,Instr.fill,newRow]
  congr 1
  congr 1
  apply ν6
  simp
 unfold execOp
 simp only [γ4,θ0,ι7,this,α9,γ6]
end
section
variable {P:Program}{l ys:ai}{Q:ab}{S:World→World→Prop}{n fu:Nat}{T:List (Nat×Value)}{w:World}
end
end
section
open Go.RowKit
def S (l:ag):ByteArray:=⟨l.toArray⟩
theorem DT (l:ag):(S l).size=l.length:=by unfold S;rfl
theorem rX (l:ag)(i:Nat):(S l)[i]?=l[i]?:=by
 by_cases h:i<l.length
 ·rw [β4 h,getElem?_pos (S l) i (by rw [DT];exact h)];rfl
 ·rw [γ5 (by omega),getElem?_neg (S l) i (by rw [DT];exact h)]
theorem jP (s:ByteArray):S s.data.toList=s:=by unfold S;cases s;simp
theorem FG (l:ag):(S l).data.toList=l:=by unfold S;simp
theorem Pk (l:ag):(S l).toList=l:=Go.ByteArray.toList_mk l
theorem Pm (l:ag)(i j:Nat):(S l).extract i j=S ((l.take j).drop i):=by
 have:((S l).extract i j).data=(S ((l.take j).drop i)).data:=by rw [ByteArray.data_extract];unfold S;simp [List.drop_take]
 cases h:(S l).extract i j;cases h2:S ((l.take j).drop i);rw [h,h2]at this;simp at this;rw [this]
theorem aY (l:ag)(i:Nat):(S l).extract i l.length=S (l.drop i):=by rw [Pm,τ4]
theorem aZ (l m:ag):S l++S m=S (l++m):=Go.ByteArray.mk_append_mk l m
def Lt (P:Program)(t:TypeId):Bool:=match P.underlying t with|some .string=>true|_=>false
theorem Gg {P:Program}{t:TypeId}(h:Lt P t=true):P.underlying t=some .string:=by
 unfold Lt at h;split at h
 ·assumption
 ·cases h
section
variable {P:Program}{ops:ah}{a:Act}{w:World}{K:Value→World→Prop}{d:Option Tmp}{ty:TypeId}{pos:String}{af:Array Edge}{gd:Option (Nat×Bool)}{v:Value}
theorem a6 {x:Operand} {t:Nat} {l:ag} (hw:Region.wanted {dst:=d,op:=.call {callee:=.builtin .len,args:= #[x],argTypes:= #[t]},type:=ty,pos:=pos,after:=af,guard:=gd} (yielded ops a.tmps)=true) (hx:a.eval x=.string (S l)) (ht:Lt P t=true)
  (h:K (.int .i64 (l.length:Int)) w):BY P ops {dst:=d,op:=.call {callee:=.builtin .len,args:= #[x],argTypes:= #[t]},type:=ty,pos:=pos,after:=af,guard:=gd} a w K:=
 Ad hw (by
  have hm:(#[x]:Array Operand).map a.eval= #[.string (S l)]:=by simp only [θ0,ζ0,ι7];rw [hx]
  unfold execOp
  simp only [resolve,γ4,γ6,α9,invoke,builtin,hm]
  simp [Builtin.len_,ε2 (Gg ht),goInt,DT]) h
theorem jQ {x ix:Operand} {ik:IntKind} {t j:Nat} {l:ag} {b:UInt8} (hw:Region.wanted {dst:=d,op:=.index t x ix,type:=ty,pos:=pos,after:=af,guard:=gd} (yielded ops a.tmps)=true) (hx:a.eval x=.string (S l)) (hi:a.eval ix=.int ik (j:Int)) (ht:Lt P t=true) (hb:l[j]?=some b)
  (h:K (.int .u8 (b.toNat:Int)) w):BY P ops {dst:=d,op:=.index t x ix,type:=ty,pos:=pos,after:=af,guard:=gd} a w K:=
 Ad hw (by
  have h3:(Instr.index t (.string (S l)) (.int ik (j:Int))).run P w=.ok (.int .u8 (b.toNat:Int)) w:=by
   unfold Instr.index
   have h0:(0:Int)≤(j:Int):=by omega
   simp only [asIntOf,γ4,γ6,α9,ε2 (Gg ht),if_pos h0,α6,rX,hb]
  unfold execOp
  simp only [hx,hi,γ4,h3,γ6,α9]) h
theorem Xb {x y:Operand} {t n:Nat} {l:ag} (hw:Region.wanted {dst:=d,op:=.slice t x (some y) none none,type:=ty,pos:=pos,after:=af,guard:=gd} (yielded ops a.tmps)=true) (hx:a.eval x=.string (S l)) (hy:a.eval y=.int .i64 (n:Int)) (ht:Lt P t=true) (hn:n≤l.length)
  (h:K (.string (S (l.drop n))) w):BY P ops {dst:=d,op:=.slice t x (some y) none none,type:=ty,pos:=pos,after:=af,guard:=gd} a w K:=by
 refine Ad hw ?_ h
 have Qn:(Instr.sliceBounds false l.length l.length (some (.int .i64 (n:Int))) none none).run P w=.ok (n,l.length,l.length) w:=by
  simp [Instr.sliceBounds,μ0 (P:=P) w .i64 n l.length .sliceB (by omega) (by omega)]
 unfold execOp
 simp only [δ0,κ7,hx,hy,Instr.sliceAt,Instr.slice,ε2 (Gg ht),γ4,γ6,α9,DT,Qn,aY,σ1,θ3,ξ6]
theorem Xc {x y:Operand} {t n:Nat} {l:ag} (hw:Region.wanted {dst:=d,op:=.slice t x none (some y) none,type:=ty,pos:=pos,after:=af,guard:=gd} (yielded ops a.tmps)=true) (hx:a.eval x=.string (S l)) (hy:a.eval y=.int .i64 (n:Int)) (ht:Lt P t=true) (hn:n≤l.length)
  (h:K (.string (S (l.take n))) w):BY P ops {dst:=d,op:=.slice t x none (some y) none,type:=ty,pos:=pos,after:=af,guard:=gd} a w K:=by
 refine Ad hw ?_ h
 have Qn:(Instr.sliceBounds false l.length l.length none (some (.int .i64 (n:Int))) none).run P w=.ok (0,n,l.length) w:=by
  simp [Instr.sliceBounds,μ0 (P:=P) w .i64 n l.length .sliceAlen (by omega) (by omega)]
 unfold execOp
 simp only [δ0,κ7,hx,hy,Instr.sliceAt,Instr.slice,ε2 (Gg ht),γ4,γ6,α9,DT,Qn,Pm,ζ6,σ1,θ3,ξ6]
theorem Xd {x y z:Operand} {t m n:Nat} {l:ag} (hw:Region.wanted {dst:=d,op:=.slice t x (some y) (some z) none,type:=ty,pos:=pos,after:=af,guard:=gd} (yielded ops a.tmps)=true) (hx:a.eval x=.string (S l)) (hy:a.eval y=.int .i64 (m:Int)) (hz:a.eval z=.int .i64 (n:Int)) (ht:Lt P t=true) (hm:m≤n) (hn:n≤l.length)
  (h:K (.string (S ((l.take n).drop m))) w):BY P ops {dst:=d,op:=.slice t x (some y) (some z) none,type:=ty,pos:=pos,after:=af,guard:=gd} a w K:=by
 refine Ad hw ?_ h
 have Qn:(Instr.sliceBounds false l.length l.length (some (.int .i64 (m:Int))) (some (.int .i64 (n:Int))) none).run P w=.ok (m,n,l.length) w:=by
  simp [Instr.sliceBounds,μ0 (P:=P) w .i64 n l.length .sliceAlen (by omega) (by omega),μ0 (P:=P) w .i64 m n .sliceB (by omega) (by omega)]
 unfold execOp
 simp only [δ0,κ7,hx,hy,hz,Instr.sliceAt,Instr.slice,ε2 (Gg ht),γ4,γ6,α9,DT,Qn,Pm,σ1,θ3,ξ6]
theorem jR {l m:ag}{t:TypeId}{x y:Operand}{r:Bool}(h:(l==m)=r):(eqGuard .eql t x y (.string (S l)) (.string (S m))).run P w=.ok () w∧(binOp .eql t (.string (S l)) (.string (S m))).run P w=.ok (.bool r) w:=by
 subst h;exact⟨by simp [eqGuard],by simp [binOp,Op.stringOp,Pk]⟩
theorem jS {l m:ag}{t:TypeId}{x y:Operand}{r:Bool}(h:(!(l==m))=r):(eqGuard .neq t x y (.string (S l)) (.string (S m))).run P w=.ok () w∧(binOp .neq t (.string (S l)) (.string (S m))).run P w=.ok (.bool r) w:=by
 subst h;exact⟨by simp [eqGuard],by simp [binOp,Op.stringOp,Pk]⟩
theorem a7 {l m:ag}{t:TypeId}{x y:Operand}(h:l.length+m.length≤9223372036854775807):(eqGuard .add t x y (.string (S l)) (.string (S m))).run P w=.ok () w∧(binOp .add t (.string (S l)) (.string (S m))).run P w=.ok (.string (S (l++m))) w:=by
 refine⟨by simp [eqGuard],?_⟩
 have:¬(((S l).size+(S m).size:Nat):Int)>IntKind.i64.max:=by rw [DT,DT];show¬_>(9223372036854775807:Int);omega
 simp only [binOp,Op.stringOp,if_neg this,aZ,γ6]
end
section
variable {P:Program}{a:Act}{w:World}{n:Nat}{T:List (Nat×Value)}
end
end
section
open Go.RowKit
def cellEq:Nat→Value→Value→Option Bool
 |0,.int k a,.int k' b=>if k=k' then some (a==b)else none
 |1,.bool a,.bool b=>some (a==b)
 |2,.string a,.string b=>some (ByteArray.toList a==ByteArray.toList b)
 |_,_,_=>none
def Ci:List Nat→List Value→List Value→Option Bool
 | [],[],[]=>some true
 |q::qs,x::xs,y::ys=>match cellEq q x y,Ci qs xs ys with
  |some a,some b=>some (a&&b)
  |_,_=>none
 |_,_,_=>none
theorem Gh:∀{qs qs':ae} {xs xs' ys ys':aj} {r:Bool},xs.length=qs.length→ys.length=qs.length→Ci (qs++qs') (xs++xs') (ys++ys')=some r→∃a b,Ci qs xs ys=some a∧Ci qs' xs' ys'=some b∧r=(a&&b)
 | [],qs',[],xs',[],ys',r,_,_,h=>⟨true,r,rfl,h,by simp⟩
 | q::qs,qs',x::xs,xs',y::ys,ys',r,hl,hm,h=>by
  simp only [π4,Ci]at h
  split at h
  ·next a b ha hb=>
   cases h
   obtain⟨c,d,h1,h2,h3⟩:=Gh (by simpa using hl) (by simpa using hm) hb
   exact⟨a&&c,d,by simp [Ci,ha,h1],h2,by rw [h3,Bool.and_assoc]⟩
  ·cases h
 | [],_,_::_,_,_,_,_,h,_,_=>by cases h
 | [],_,_,_,_::_,_,_,_,h,_=>by cases h
 |_::_,_,[],_,_,_,_,h,_,_=>by cases h
 |_::_,_,_,_,[],_,_,_,h,_=>by cases h
def NC (pt:TypeId→Option (List Nat)):List Field→Nat→Option (List Nat)
 | [],_=>some []
 | f::fs,o=>if f.name= "_" ∨f.offset≠o then none else match pt f.type with
  |some qs=>match NC pt fs (o+qs.length)with
   |some rs=>some (qs++rs)
   |none=>none
  |none=>none
def ND:Nat→List Nat→List Nat
 |0,_=>[]
 |n+1,l=>l++ND n l
def Gi (P:Program):Nat→TypeId→Option (List Nat)
 |0,_=>none
 | d+1,t=>match P.underlying t with
  |some (.int _)=>if oneB P t then some [0]else none
  |some .bool=>if oneB P t then some [1]else none
  |some .string=>if oneB P t then some [2]else none
  |some (.struct fs)=>if P.stoodInHeld t then none else match NC (Gi P d) fs.toList 0 with
   |some qs=>if J9 P t qs.length then some qs else none
   |none=>none
  |some (.array n e)=>match Gi P d e with
   |some qs=>if J9 P t (ND n qs).length&&((P.info? e).map (·.size)==some qs.length)then some (ND n qs)else none
   |none=>none
  |_=>none
theorem OM:∀(n:Nat) (l:ae),(ND n l).length=n*l.length
 |0,l=>by simp [ND]
 |n+1,l=>by simp [ND,OM n l,θ6];omega
section
variable {P:Program}{w:World}
theorem Xe {t:TypeId}{m o:Nat}{cs:Array Value}(h:J9 P t m=true)(ho:o+m≤cs.size):(part t cs o).run P w=.ok (.agg (cs.extract o (o+m))) w:=by
 obtain⟨⟨dd,h2,h3,gV⟩,h4⟩:=EW h
 have ha:(isAgg t).run P w=.ok true w:=by
  unfold isAgg
  rw [γ4,ε2 h2]
  cases dd<;>simp_all
 cases hq:P.info? t with
 |none=>simp [hq]at h4
 |some i=>
  have hi:i.size=m:=by simpa [hq]using h4
  simp [part,ha,sizeOf,typeInfo,hq,hi,ho]
def rY (P:Program)(w:World)(d:Nat)(t:TypeId)(qs:ae):Prop:=∀(D:Nat) (xs ys:Array Value) (off:Nat) (r:Bool),off+qs.length≤xs.size→off+qs.length≤ys.size→Ci qs ((xs.toList.drop off).take qs.length) ((ys.toList.drop off).take qs.length)=some r→
 ∃a b,(part t xs off).run P w=.ok a w∧(part t ys off).run P w=.ok b w∧(Op.equalIn (D+d) t a b).run P w=.ok r w
theorem take_split (zs:aj)(o m n:Nat):(zs.drop o).take (m+n)=(zs.drop o).take m++(zs.drop (o+m)).take n:=by rw [List.take_add,μ1]
theorem Gj {d:Nat}(ih:∀t qs,Gi P d t=some qs→rY P w d t qs)(D:Nat)(xs ys:Array Value):∀(fs:List Field) (o:Nat) (qs:ae) (r:Bool),NC (Gi P d) fs o=some qs→o+qs.length≤xs.size→o+qs.length≤ys.size→Ci qs ((xs.toList.drop o).take qs.length) ((ys.toList.drop o).take qs.length)=some r→(Op.eqFields (D+d) xs ys fs).run P w=.ok r w
 | [],o,qs,r,h,_,_,hc=>by cases h;simp [Ci]at hc;subst hc;simp [Op.eqFields]
 | f ::fs,o,qs,r,h,hx,hy,hc=>by
  unfold NC at h
  split at h
  ·cases h
  ·next hn=>
   simp only [not_or,Classical.not_not]at hn
   split at h
   ·next q1 hm=>
    split at h
    ·next q2 hr=>
     cases h
     simp only [α4]at hx hy hc
     rw [take_split,take_split]at hc
     obtain⟨a1,b1,c1,c2,c3⟩:=Gh (by simp;omega) (by simp;omega) hc
     obtain⟨a,b,e1,e2,e3⟩:=ih _ _ hm D xs ys o a1 (by omega) (by omega) c1
     rw [←hn.2]at e1 e2
     have ih2:=Gj ih D xs ys fs (o+q1.length) q2 b1 hr (by omega) (by omega) c2
     unfold Op.eqFields
     simp only [ne_eq,hn.1,not_false_eq_true,if_true,γ4,e1,e2,e3,α9]
     rw [c3]
     cases a1
     ·simp
     ·simp [ih2]
    ·cases h
   ·cases h
theorem Hc {d e:Nat}{qs:ae}(ih:rY P w d e qs)(D:Nat)(xs ys:Array Value)(hs:P.cellsOf e=qs.length):∀(c k:Nat) (r:Bool),k*qs.length+c*qs.length≤xs.size→k*qs.length+c*qs.length≤ys.size→Ci (ND c qs) ((xs.toList.drop (k*qs.length)).take (c*qs.length)) ((ys.toList.drop (k*qs.length)).take (c*qs.length))=some r→(Op.eqItems (D+d) e (P.cellsOf e) xs ys (List.range' k c)).run P w=.ok r w
 |0,k,r,_,_,hc=>by simp [Ci,ND]at hc;subst hc;simp [Op.eqItems]
 |c+1,k,r,hx,hy,hc=>by
  have gW:(c+1)*qs.length=qs.length+c*qs.length:=by simp [θ6];omega
  have gX:(k+1)*qs.length=k*qs.length+qs.length:=by simp [θ6]
  rw [gW,take_split,take_split,ND]at hc
  obtain⟨a1,b1,c1,c2,c3⟩:=Gh (by simp;omega) (by simp;omega) hc
  obtain⟨a,b,e1,e2,e3⟩:=ih D xs ys (k*qs.length) a1 (by omega) (by omega) c1
  rw [←gX]at c2
  have ih2:=Hc ih D xs ys hs c (k+1) b1 (by omega) (by omega) c2
  rw [List.range'_succ]
  unfold Op.eqItems
  rw [hs]
  rw [hs]at ih2
  simp only [γ4,e1,e2,e3,α9]
  rw [c3]
  cases a1
  ·simp
  ·simp [ih2]
theorem Kl:∀(d:Nat) (t:TypeId) (qs:ae),Gi P d t=some qs→rY P w d t qs
 |0,t,s,h=>by cases h
 | d + 1,t,qs,h=>by
  intro D xs ys off r hx hy hc
  have one:∀q,oneB P t=true→qs=[q]→(∀a b,cellEq q a b=some r→(Op.equalIn (D+(d+1)) t a b).run P w=.ok r w)→∃a b,(part t xs off).run P w=.ok a w∧(part t ys off).run P w=.ok b w∧(Op.equalIn (D+(d+1)) t a b).run P w=.ok r w:=by
   intro q h1 h2 h3
   subst h2
   simp only [β0,β2,δ1]at hx hy hc
   have Tt:off<xs.size:=by omega
   have iB:off<ys.size:=by omega
   have ex:(xs.toList.drop off).take 1=[xs[off]]:=by rw [η1 (by simpa using Tt)];simp
   have ey:(ys.toList.drop off).take 1=[ys[off]]:=by rw [η1 (by simpa using iB)];simp
   rw [ex,ey]at hc
   simp only [Ci]at hc
   split at hc
   ·next a b ha hb=>
    cases hb
    simp only [Bool.and_true,β1]at hc
    subst hc
    exact⟨xs[off],ys[off],II w (JC h1 w) (by simp [Tt]),II w (JC h1 w) (by simp [iB]),h3 _ _ ha⟩
   ·cases hc
  have row:J9 P t qs.length=true→(∀(us vs:Array Value),us.size=qs.length→vs.size=qs.length→Ci qs us.toList vs.toList=some r→(Op.equalIn (D+(d+1)) t (.agg us) (.agg vs)).run P w=.ok r w)→∃a b,(part t xs off).run P w=.ok a w∧(part t ys off).run P w=.ok b w∧(Op.equalIn (D+(d+1)) t a b).run P w=.ok r w:=by
   intro h1 h3
   refine⟨_,_,Xe h1 hx,Xe h1 hy,h3 _ _ (by simp;omega) (by simp;omega) ?_⟩
   simpa [ξ0]using hc
  unfold Gi at h
  split at h
  ·next k hu=>
   split at h
   ·next h1=>
    cases h
    refine one 0 h1 U fun a b Pb=>?_
    unfold cellEq at Pb
    split at Pb
    ·split at Pb
     ·next hk=>subst hk;cases Pb;exact run_equalIn_int w _ t _ _ _ _ hu
     ·cases Pb
    ·next h=>cases h
    ·next h=>cases h
    ·cases Pb
   ·cases h
  ·next hu=>
   split at h
   ·next h1=>
    cases h
    refine one 1 h1 U fun a b Pb=>?_
    unfold cellEq at Pb
    split at Pb
    ·next h=>cases h
    ·cases Pb;exact run_equalIn_bool w _ t _ _ hu
    ·next h=>cases h
    ·cases Pb
   ·cases h
  ·next hu=>
   split at h
   ·next h1=>
    cases h
    refine one 2 h1 U fun a b Pb=>?_
    unfold cellEq at Pb
    split at Pb
    ·next h=>cases h
    ·next h=>cases h
    ·cases Pb;exact run_equalIn_string w _ t _ _ hu
    ·cases Pb
   ·cases h
  ·next fs hu=>
   split at h
   ·cases h
   ·next GX=>
    split at h
    ·next q2 hf=>
     split at h
     ·next DV=>
      cases h
      refine row DV fun us vs ZA T8 jE=>?_
      have iC:P.fieldsOf t=fs:=by unfold Program.fieldsOf;rw [hu]
      rw [show D+(d+1)=(D+d)+1 by omega,run_equalIn_struct w (D+d) t us vs (by rw [iC];exact hu) (by simpa using GX),iC]
      refine Gj (Kl d) D us vs fs.toList 0 qs r hf (by omega) (by omega) ?_
      rw [ζ6,ζ6,ε4 (by simp;omega),ε4 (by simp;omega)]
      exact jE
     ·cases h
    ·cases h
  ·next m e hu=>
   split at h
   ·next q2 KH=>
    split at h
    ·next En=>
     cases h
     rw [α3]at En
     refine row En.1 fun us vs ZA T8 jE=>?_
     have D7:(P.info? e).map (·.size)=some q2.length:=by simpa using En.2
     have jK:P.cellsOf e=q2.length:=by unfold Program.cellsOf;rw [D7];rfl
     cases hqi:P.info? e with
     |none=>rw [hqi]at D7;cases D7
     | some ie=>
      rw [show D+(d+1)=(D+d)+1 by omega,run_equalIn_array w (D+d) us vs hu hqi]
      rw [OM]at ZA T8
      have:=Hc (Kl d e q2 KH) D us vs jK m 0 r (by omega) (by omega) (by
       rw [Nat.zero_mul,ζ6,ζ6,ε4 (by simp;omega),ε4 (by simp;omega)]
       exact jE)
      rwa [List.range_eq_range']
    ·cases h
   ·cases h
  ·cases h
def UK (P:Program)(t:TypeId)(qs:ae):Bool:=(Gi P 6 t==some qs)&&J9 P t qs.length&& !P.eqGuardType P.depth t
theorem a8 {t:TypeId}{qs:ae}{xs ys:Array Value}{r:Bool}(h:UK P t qs=true)(hx:xs.size=qs.length)(hy:ys.size=qs.length)(hc:Ci qs xs.toList ys.toList=some r)(x y:Operand):
  ((eqGuard .eql t x y (.agg xs) (.agg ys)).run P w=.ok () w∧(binOp .eql t (.agg xs) (.agg ys)).run P w=.ok (.bool r) w)∧
  ((eqGuard .neq t x y (.agg xs) (.agg ys)).run P w=.ok () w∧(binOp .neq t (.agg xs) (.agg ys)).run P w=.ok (.bool (!r)) w):=by
 unfold UK at h
 rw [α3,α3]at h
 obtain⟨⟨h1,h2⟩,h3⟩:=h
 have h1:Gi P 6 t=some qs:=by simpa using h1
 have h3:P.eqGuardType P.depth t=false:=by simpa using h3
 obtain⟨a,b,e1,e2,e3⟩:=Kl (P:=P) (w:=w) 6 t qs h1 9994 xs ys 0 r (by omega) (by omega) (by
  rw [ζ6,ζ6,ε4 (by simp;omega),ε4 (by simp;omega)]
  exact hc)
 have ex:(part t xs 0).run P w=.ok (.agg xs) w:=by rw [Xe h2 (by omega)];simp [←hx]
 have ey:(part t ys 0).run P w=.ok (.agg ys) w:=by rw [Xe h2 (by omega)];simp [←hy]
 rw [ex]at e1
 rw [ey]at e2
 cases e1;cases e2
 refine⟨⟨run_eqGuard_agg w _ t x y xs ys h3,?_⟩,run_eqGuard_agg w _ t x y xs ys h3,?_⟩
 ·rw [run_eql_struct,e3];rfl
 ·rw [run_neq_struct,e3];rfl
end
end
section
open Go.RowKit
inductive SV where
 |int (k:IntKind) (n:Int)
 |bool (b:Bool)
 |tt
 |ff
 |str (l:ag)
 |ptr (i o:Nat)
 |el (i s:Nat) (j:Int) (o:Nat)
 |ix (p:SV) (s n:Nat) (j:Int) (k:Nat)
 |sl (i n c:Nat)
 |sla (ao:ak) (n c:Nat)
 |sp (p:SV) (n c:Nat)
 |st (i s j n c:Nat)
 |agg (l:List SV)
 |tup (l:List SV)
 |fn (f:Nat) (l:List SV)
 |opt (b:Bool) (x:SV)
 |v (x:Value)
structure Loc where
 b:Nat
 pre:List Value
 post:List Value
 t:TypeId
abbrev Gr:=List (Option Loc)
def rm:Option Loc→Nat
 |some L=>L.post.length
 |none=>0
def jT:Value→Option Addr
 | .pointer ao=>ao
 |_=>none
mutual
def den (G:Gr):SV→Option Value
 | .int k n=>some (.int k n)
 | .bool b=>some (.bool b)
 | .tt=>some (.bool true)
 | .ff=>some (.bool false)
 | .str l=>some (.string (S l))
 | .ptr i o=>match G[i]? with
  |some (some L)=>some (.pointer (some ⟨L.b,L.pre.length+o,none⟩))
  |_=>none
 | .el i s j o=>match G[i]? with
  |some p=>some (.pointer (p.map fun L=>⟨L.b,L.pre.length+j.toNat*s+o,none⟩))
  |none=>none
 | .ix p s _ j k=>match den G p with
  |some (.pointer (some ⟨b,o,none⟩))=>some (.pointer (some ⟨b,o+j.toNat*s+k,none⟩))
  |some _=>some (.pointer none)
  |none=>none
 | .sl i n c=>match G[i]? with
  |some p=>some (.slice (p.map fun L=>⟨L.b,L.pre.length,none⟩) n (c+rm p))
  |none=>none
 | .sla ao n c=>some (.slice ao n c)
 | .sp p n c=>match den G p with
  |some v=>some (.slice (jT v) n c)
  |none=>none
 | .st i s j n c=>match G[i]? with
  |some p=>some (.slice (p.map fun L=>⟨L.b,L.pre.length+(if c+rm p=j then 0 else j*s),none⟩) n (c+rm p - j))
  |none=>none
 | .agg l=>(AO G l).map fun vs=>.agg vs.toArray
 | .tup l=>(AO G l).map fun vs=>.tuple vs.toArray
 | .fn f l=>(AO G l).map fun vs=>.func (.func f) #[] vs.toArray
 | .opt b x=>(den G x).map fun v=>bif b then v else undef
 | .v x=>some x
def AO (G:Gr):List SV→Option (List Value)
 | []=>some []
 | x::l=>match den G x with
  |some v=>match AO G l with
   |some vs=>some (v::vs)
   |none=>none
  |none=>none
end
theorem BH {G:Gr}{x:SV}{l:List SV}{vs:aj}(h:AO G (x::l)=some vs):∃v ws,den G x=some v∧AO G l=some ws∧vs=v::ws:=by
 unfold AO at h
 split at h
 ·next v hv=>
  split at h
  ·next ws hw=>cases h;exact⟨v,ws,hv,hw,rfl⟩
  ·cases h
 ·cases h
theorem BK {G:Gr}{x:SV}{l:List SV}{v:Value}{vs:aj}(h:den G x=some v)(k:AO G l=some vs):AO G (x::l)=some (v::vs):=by
 unfold AO;rw [h,k]
theorem BF {G:Gr}:∀{l:List SV} {vs:aj},AO G l=some vs→vs.length=l.length
 | [],vs,h=>by cases h;rfl
 |x::l,vs,h=>by
  obtain⟨v,ws,_,h2,rfl⟩:=BH h
  simp [BF h2]
theorem C0 {G:Gr}:∀{l:List SV} {vs:aj} {k:Nat} {x:SV},AO G l=some vs→l[k]?=some x→∃v,vs[k]?=some v∧den G x=some v
 | [],_,_,_,_,h=>by cases h
 |y::l,vs,0,x,h,hx=>by
  obtain⟨v,ws,h1,_,rfl⟩:=BH h
  cases hx;exact⟨v,rfl,h1⟩
 |y::l,vs,k+1,x,h,hx=>by
  obtain⟨v,ws,_,h2,rfl⟩:=BH h
  obtain⟨u,h3,h4⟩:=C0 h2 hx
  exact⟨u,h3,h4⟩
theorem Cj {G:Gr}:∀{l m:List SV} {vs ws:aj},AO G l=some vs→AO G m=some ws→AO G (l++m)=some (vs++ws)
 | [],m,vs,ws,h,k=>by cases h;exact k
 |x::l,m,vs,ws,h,k=>by
  obtain⟨v,us,h1,h2,rfl⟩:=BH h
  exact BK h1 (Cj h2 k)
theorem CO {G:Gr}:∀{l:List SV} {vs:aj} (k:Nat),AO G l=some vs→AO G (l.take k)=some (vs.take k)
 | [],vs,k,h=>by cases h;simp [AO]
 |x::l,vs,0,h=>by simp [AO]
 |x::l,vs,k+1,h=>by
  obtain⟨v,ws,h1,h2,rfl⟩:=BH h
  exact BK h1 (CO k h2)
theorem CP {G:Gr}:∀{l:List SV} {vs:aj} (k:Nat),AO G l=some vs→AO G (l.drop k)=some (vs.drop k)
 | [],vs,k,h=>by cases h;simp [AO]
 |x::l,vs,0,h=>by simpa using h
 |x::l,vs,k+1,h=>by
  obtain⟨v,ws,h1,h2,rfl⟩:=BH h
  exact CP k h2
mutual
theorem Ax {G:Gr}(F:Gr):∀(x:SV) {v:Value},den G x=some v→den (G++F) x=some v
 | .int _ _,_,h=>h
 | .bool _,_,h=>h
 | .tt,_,h=>h
 | .ff,_,h=>h
 | .str _,_,h=>h
 | .ptr i o,v,h=>by
  unfold den at h⊢
  split at h
  ·next L hL=>rw [α2 (α0.1 hL).1,hL];exact h
  ·cases h
 | .el i s j o,v,h=>by
  unfold den at h⊢
  split at h
  ·next L hL=>rw [α2 (α0.1 hL).1,hL];exact h
  ·cases h
 | .ix p s m j k,v,h=>by
  unfold den at h⊢
  cases hq:den G p with
  |none=>rw [hq]at h;cases h
  |some u=>rw [Ax F p hq];rw [hq]at h;exact h
 | .sl i n c,v,h=>by
  unfold den at h⊢
  split at h
  ·next L hL=>rw [α2 (α0.1 hL).1,hL];exact h
  ·cases h
 | .sla _ _ _,_,h=>h
 | .sp p m k,v,h=>by
  unfold den at h⊢
  cases hq:den G p with
  |none=>rw [hq]at h;cases h
  |some u=>rw [Ax F p hq];rw [hq]at h;exact h
 | .st i s j n c,v,h=>by
  unfold den at h⊢
  split at h
  ·next L hL=>rw [α2 (α0.1 hL).1,hL];exact h
  ·cases h
 | .agg l,v,h=>by
  unfold den at h⊢
  obtain⟨vs,h1,h2⟩:=γ8.1 h
  rw [A6 F l h1];exact congrArg some h2
 | .tup l,v,h=>by
  unfold den at h⊢
  obtain⟨vs,h1,h2⟩:=γ8.1 h
  rw [A6 F l h1];exact congrArg some h2
 | .fn f l,v,h=>by
  unfold den at h⊢
  obtain⟨vs,h1,h2⟩:=γ8.1 h
  rw [A6 F l h1];exact congrArg some h2
 | .opt b x,v,h=>by
  unfold den at h⊢
  obtain⟨u,h1,h2⟩:=γ8.1 h
  rw [Ax F x h1];exact congrArg some h2
 | .v _,_,h=>h
theorem A6 {G:Gr}(F:Gr):∀(l:List SV) {vs:aj},AO G l=some vs→AO (G++F) l=some vs
 | [],_,h=>h
 |x::l,vs,h=>by
  obtain⟨v,ws,h1,h2,rfl⟩:=BH h
  exact BK (Ax F x h1) (A6 F l h2)
end
def SV.oneB:SV→Option Bool
 | .int _ _| .bool _| .tt| .ff| .str _| .ptr _ _| .el _ _ _ _| .ix _ _ _ _ _| .sl _ _ _| .sla _ _ _| .sp _ _ _| .st _ _ _ _ _| .fn _ _=>some true
 | .v x=>some x.oneCell'
 |_=>none
theorem SV.one_spec {G:Gr}{x:SV}{v:Value}{b:Bool}(h:x.oneB=some b)(hb:b=true)(hv:den G x=some v):v.oneCell'=true:=by
 subst hb
 cases x with
 |agg l=>simp [SV.oneB]at h
 |tup l=>simp [SV.oneB]at h
 |opt b x=>simp [SV.oneB]at h
 |v x=>simp [SV.oneB]at h;simp [den]at hv;subst hv;exact h
 |ptr i o=>unfold den at hv;split at hv<;>cases hv;rfl
 |el i s j o=>unfold den at hv;split at hv<;>cases hv;rfl
 |ix p s m j k=>unfold den at hv;split at hv<;>cases hv<;>rfl
 |sl i n c=>unfold den at hv;split at hv<;>cases hv;rfl
 |st i s j n c=>unfold den at hv;split at hv<;>cases hv;rfl
 |sp p m k=>unfold den at hv;split at hv<;>cases hv<;>rfl
 |fn f l=>unfold den at hv;obtain⟨vs,_,h2⟩:=γ8.1 hv;subst h2;rfl
 |_=>simp [den]at hv;subst hv;rfl
inductive BZ where
 |blk (cs:List SV)
 |lst (s n:Nat) (f:Nat→List SV)
 |fac (b:Nat) (o:Obj)
 |row (e s n c:Nat) (f:Nat→List SV)
 |buf (e s n:Nat) (f:Nat→List SV)
abbrev O (l:List SV):Option BZ:=some (.blk l)
def BZ.mut:BZ→Bool
 | .lst _ _ _=>false
 | .fac _ _=>false
 |_=>true
def BZ.empty:BZ→Prop
 | .lst _ n _=>n=0
 |_=>False
def CD (f:Nat→List SV):Nat→Option (List Value)
 |0=>some []
 | n+1=>match CD f n with
  |some l=>match AO [] (f n)with
   |some vs=>some (l++vs)
   |none=>none
  |none=>none
def Ag (G:Gr)(w:World)(p:Option Loc):BZ→Prop
 | .blk cs=>∃L vs,p=some L∧AO G cs=some vs∧D3 w L.b (L.pre++vs++L.post).toArray L.t
 | .lst s n f=>(∀k,∃vs,AO [] (f k)=some vs)∧(n=0∨∃L,p=some L∧L.b<w.heap.size∧∀k,k<n→∃vs,AO [] (f k)=some vs∧w.rangeAt L.b (L.pre.length+k*s) vs)
 | .fac b o=>∃L,p=some L∧L.b=b∧w.heap[b]?=some o
 | .row e s n c f=>(∀k,∃vs,AO [] (f k)=some vs∧vs.length=s)∧(∀L,p=some L→L.pre=[])∧∃xs,CD f n=some xs∧w.ownsRow 0 e s (.slice (p.map fun L=>⟨L.b,L.pre.length,none⟩) n (c+rm p)) n xs
 | .buf e s n f=>(∀k,∃vs,AO [] (f k)=some vs∧vs.length=s)∧((p=none∧n=0)∨∃L,p=some L∧L.b<w.heap.size∧((n=0∧L.post=[])∨∃d ys xs,L.pre.length=d*s∧ys.length=d*s∧0<L.post.length∧CD f n=some xs∧w.ownsRow 0 e s (.slice (some ⟨L.b,0,none⟩) (d+n) (d+L.post.length)) (d+n) (ys++xs)))
abbrev Hp:=List (Option BZ)
structure Mem (H:Hp)(G:Gr)(w:World):Prop where
 len:H.length=G.length
 ent:∀(i:Nat) (e:BZ),H[i]?=some (some e)→Ag G w ((G[i]?).getD none) e
 sep:∀(i j:Nat) (e f:BZ) (L M:Loc),i≠j→H[i]?=some (some e)→H[j]?=some (some f)→e.mut=true→G[i]?=some (some L)→G[j]?=some (some M)→¬f.empty→L.b≠M.b
structure CQ (ks:ae)(w w':World):Prop where
 os:w'.os=w.os
 tape:w'.tape=w.tape
 output:w'.output=w.output
 size:w.heap.size≤w'.heap.size
 block:∀k,k<w.heap.size→ks.contains k=false→w'.heap[k]?=w.heap[k]?
section
variable {ks ks':ae}{a w w':World}{B g:Nat}
theorem CQ.refl (ks:ae)(w:World):CQ ks w w:=⟨rfl,rfl,rfl,β8 _,fun _ _ _=>rfl⟩
theorem CQ.grow (h:CQ ks a w)(hg:By w w'):CQ ks a w':=
 ⟨hg.os.trans h.os,hg.tape.trans h.tape,hg.output.trans h.output,β3 h.size hg.size,fun k hk hc=>(hg.block k (ζ7 hk h.size)).trans (h.block k hk hc)⟩
theorem CQ.upd (h:CQ ks a w)(hu:XW g w w')(hg:ks.contains g=true∨a.heap.size≤g):CQ ks a w':=
 ⟨hu.os.trans h.os,hu.tape.trans h.tape,hu.output.trans h.output,β3 h.size (ι2 hu.size.symm),fun k hk hc=>(hu.block k (fun e=>by
  subst e
  rcases hg with hg|hg
  ·rw [hg]at hc;cases hc
  ·omega)).trans (h.block k hk hc)⟩
theorem CQ.mix (h:CQ ks a w)(m:CQ ks' w w')(hk:∀k,k<a.heap.size→ks.contains k=false→ks'.contains k=false):CQ ks a w':=
 ⟨m.os.trans h.os,m.tape.trans h.tape,m.output.trans h.output,β3 h.size m.size,fun k hl hc=>(m.block k (ζ7 hl h.size) (hk k hl hc)).trans (h.block k hl hc)⟩
theorem D3.mix {cs:Array Value}{t:TypeId}(h:D3 w g cs t)(m:CQ ks w w')(hk:ks.contains g=false):D3 w' g cs t:=by
 unfold D3;rw [m.block g h.lt hk];exact h
theorem HF {b o:Nat}{cs:aj}(hr:w.rangeAt b o cs)(m:CQ ks w w')(hb:b<w.heap.size)(hk:ks.contains b=false):w'.rangeAt b o cs:=fun j x hx=>by
 rw [World.cell?_of_block (w:=w) (m.block b hb hk)];exact hr j x hx
theorem KM {b e s n:Nat}{v:Value}{xs:aj}(h:w.ownsRow b e s v n xs)(m:CQ ks w w')(hk:∀k,v.ownBlock=some k→ks.contains k=false):w'.ownsRow b e s v n xs:=
 UJ h fun k hv=>m.block k (Hs h k hv).2 (hk k hv)
theorem By.mix (hg:By w w'):CQ [] w w':=(CQ.refl [] w).grow hg
end
theorem Ag.lt {G:Gr}{w:World}{L:Loc}{e:BZ}(h:Ag G w (some L) e)(hn:¬e.empty):L.b<w.heap.size:=by
 cases e with
 |blk cs=>obtain⟨M,vs,h1,_,h3⟩:=h;cases h1;exact h3.lt
 |lst s n f=>
  rcases h.2 with h|⟨M,h1,h2,_⟩
  ·exact absurd h hn
  ·cases h1;exact h2
 |row e s n c f=>obtain⟨_,_,xs,_,h⟩:=h;exact(Hs h L.b (by simp [Value.ownBlock])).2
 |fac b o=>obtain⟨M,h1,h2,h3⟩:=h;cases h1;rw [h2];exact(ε1.1 h3).1
 |buf e s n f=>
  rcases h.2 with h|⟨M,h1,h2,_⟩
  ·cases h.1
  ·cases h1;exact h2
theorem Ag.mix {G:Gr}{ks:ae}{w w':World}{p:Option Loc}{e:BZ}(h:Ag G w p e)(m:CQ ks w w')(hk:¬e.empty→∀L,p=some L→ks.contains L.b=false):Ag G w' p e:=by
 cases e with
 |blk cs=>obtain⟨M,vs,h1,h2,h3⟩:=h;exact⟨M,vs,h1,h2,h3.mix m (hk (fun h=>h) M h1)⟩
 | lst s n f=>
  refine⟨h.1,?_⟩
  by_cases h0:n=0
  ·exact .inl h0
  ·rcases h.2 with h|⟨M,h1,h2,h3⟩
   ·exact .inl h
   ·exact .inr ⟨M,h1,ζ7 h2 m.size,fun k hl=>by obtain⟨vs,h4,h5⟩:=h3 k hl;exact⟨vs,h4,HF h5 m h2 (hk h0 M h1)⟩⟩
 |row e s n c f=>
  obtain⟨h1,h2,xs,h3,h4⟩:=h
  refine⟨h1,h2,xs,h3,KM h4 m fun k hv=>?_⟩
  cases p with
  |none=>simp [Value.ownBlock]at hv
  |some L=>simp [Value.ownBlock]at hv;subst hv;exact hk (fun h=>h) L U
 |fac b o=>
  obtain⟨M,h1,h2,h3⟩:=h
  refine⟨M,h1,h2,?_⟩
  have Dz:=hk (fun h=>h) M h1
  rw [h2]at Dz
  rw [m.block b (ε1.1 h3).1 Dz];exact h3
 | buf e s n f=>
  refine⟨h.1,?_⟩
  rcases h.2 with h|⟨M,h1,h2,h3⟩
  ·exact .inl h
  ·refine .inr ⟨M,h1,ζ7 h2 m.size,?_⟩
   rcases h3 with h3|⟨d,ys,xs,q1,q2,q3,q4,q5⟩
   ·exact .inl h3
   ·exact .inr ⟨d,ys,xs,q1,q2,q3,q4,KM q5 m fun k hv=>by simp [Value.ownBlock]at hv;subst hv;exact hk (fun h=>h) M h1⟩
theorem Ag.more {G:Gr}(F:Gr){w:World}{p:Option Loc}{e:BZ}(h:Ag G w p e):Ag (G++F) w p e:=by
 cases e with
 |blk cs=>obtain⟨M,vs,h1,h2,h3⟩:=h;exact⟨M,vs,h1,A6 F cs h2,h3⟩
 |lst s n f=>exact h
 |row e s n c f=>exact h
 |fac b o=>exact h
 |buf e s n f=>exact h
theorem BI {e:BZ}(h:e.mut=true):¬e.empty:=by cases e<;>first|(cases h;done)|exact fun h=>h
theorem XW.mix {g:Nat}{w w':World}(hu:XW g w w'):CQ [g] w w':=(CQ.refl [g] w).upd hu (.inl (by simp))
def look:List (Nat×SV)→Nat→Option SV
 | [],_=>none
 |(k,x)::l,t=>bif Nat.beq k t then some x else look l t
structure Sy (n:Nat)(T:List (Nat×SV))(H:Hp)(ks:ae)(G0:Gr)(w0:World)(G:Gr)(a:Act)(w:World):Prop where
 size:a.tmps.size=n
 defers:a.defers=[]
 get:∀t x,look T t=some x→den G x=some (a.tmps.getD t undef)
 mem:Mem H G w
 pre:∃F,G=G0++F
 own:∀(i:Nat) (e:BZ) (L:Loc),H[i]?=some (some e)→e.mut=true→G[i]?=some (some L)→ks.contains L.b=true∨w0.heap.size≤L.b
 mix:CQ ks w0 w
theorem DG {f:Nat→List SV}{s:Nat}(hs:∀k,∃vs,AO [] (f k)=some vs∧vs.length=s):∀{n:Nat} {xs:aj},CD f n=some xs→xs.length=n*s
 |0,xs,h=>by cases h;simp
 | n+1,xs,h=>by
  unfold CD at h
  obtain⟨vs,h1,h2⟩:=hs n
  split at h
  ·next l hl=>
   rw [h1]at h
   cases h
   simp [DG hs hl,h2,θ6]
  ·cases h
theorem IJ {f:Nat→List SV}{s:Nat}(hs:∀k,∃vs,AO [] (f k)=some vs∧vs.length=s):∀n:Nat,∃xs,CD f n=some xs
 |0=>⟨[],rfl⟩
 |n+1=>by
  obtain⟨l,hl⟩:=IJ hs n
  obtain⟨vs,h1,_⟩:=hs n
  exact⟨l++vs,by unfold CD;rw [hl,h1]⟩
theorem IK {f:Nat→List SV}{s:Nat}(hs:∀k,∃vs,AO [] (f k)=some vs∧vs.length=s):∀{n:Nat} {xs:aj},CD f n=some xs→∀k,k<n→∃vs,AO [] (f k)=some vs∧∀j v,vs[j]?=some v→xs[k*s+j]?=some v
 |0,xs,h,k,hk=>by omega
 | n+1,xs,h,k,hk=>by
  unfold CD at h
  obtain⟨vs,h1,h2⟩:=hs n
  split at h
  ·next l hl=>
   rw [h1]at h
   cases h
   have ZB:=DG hs hl
   by_cases GY:k<n
   ·obtain⟨us,h3,h4⟩:=IK hs hl k GY
    refine⟨us,h3,fun j v hj=>?_⟩
    have:=h4 j v hj
    rw [α2 (α0.1 this).1];exact this
   ·have:k=n:=by omega
    subst this
    refine⟨vs,h1,fun j v hj=>?_⟩
    rw [α1 (by omega),show k*s+j - l.length=j by omega];exact hj
  ·cases h
theorem Dd {f g:Nat→List SV}:∀{n:Nat},(∀k,k<n→f k=g k)→CD f n=CD g n
 |0,_=>rfl
 |n+1,h=>by unfold CD;rw [Dd (fun k hk=>h k (by omega)),h n (by omega)]
theorem DQ {w:World}{e s n c:Nat}{p:Option Loc}{f:Nat→List SV}{G:Gr}(h:Ag G w p (.row e s n c f)){k:Nat}(hk:k<n):∃L vs,p=some L∧AO [] (f k)=some vs∧vs.length=s∧w.rangeAt L.b (L.pre.length+k*s) vs:=by
 obtain⟨h1,h2,xs,h3,h4,h5⟩:=h
 obtain⟨vs,v1,v2⟩:=h1 k
 obtain⟨us,u1,u2⟩:=IK h1 h3 k hk
 rw [v1]at u1;cases u1
 rcases h5 with⟨_,h5⟩|⟨g,cap,cur,q1,_,q3,q4,q5,q6,q7⟩
 ·omega
 ·cases p with
  |none=>cases q1
  |some L=>
   simp only [δ0,θ8,β1,μ6]at q1
   obtain⟨⟨q8,q9,_⟩,_,_⟩:=q1
   refine⟨L,vs,rfl,v1,v2,fun j v hj=>?_⟩
   have hx:=u2 j v hj
   rw [←q7]at hx
   have BU:=(α0.1 hx).1
   rw [γ1 (by simp at BU;omega)]at hx
   rw [q9,δ1,q8]
   rw [cell_of_row w g (k*s+j) cur e _ q3]
   simpa using hx
theorem MT {w:World}{e s n:Nat}{p:Option Loc}{f:Nat→List SV}{G:Gr}(h:Ag G w p (.buf e s n f)){k:Nat}(hk:k<n):∃L vs,p=some L∧AO [] (f k)=some vs∧w.rangeAt L.b (L.pre.length+k*s) vs:=by
 rcases h.2 with⟨_,h0⟩|⟨L,h1,_,⟨h0,_⟩|⟨d,ys,xs,q1,q2,q3,q4,q5⟩⟩
 ·omega
 ·omega
 ·obtain⟨vs,v1,v2⟩:=h.1 k
  obtain⟨us,u1,u2⟩:=IK h.1 q4 k hk
  rw [v1]at u1;cases u1
  refine⟨L,vs,h1,v1,fun j v hj=>?_⟩
  have:=q5.cells (g:=L.b) U (ys.length+(k*s+j)) v (by rw [α1 (ν8 _ _),Nat.add_sub_cancel_left];exact u2 j v hj)
  rw [ζ3,δ1,q2,←q1,←η4]at this
  exact this
end
section
open Go.RowKit
structure TI where
 one:Bool
 row:Option Nat
 zero:Option (List SV)
 flds:List (Nat×Nat×Nat)
 knd:Option IntKind
 isS:Bool
 isB:Bool
 elm:Option (Nat×Nat×Nat)
 eqk:Option (List Nat)
 arr:Option (Nat×Nat×Nat)
inductive Tb where
 |e
 |n (k:Nat) (i:TI) (l r:Tb)
def Tb.get:Tb→Nat→Option TI
 | .e,_=>none
 | .n k i l r,t=>bif Nat.beq t k then some i else bif Nat.ble t k then l.get t else r.get t
def zB:Value→SV→Bool
 | .int k n,.int k' n'=>k==k'&&n==n'
 | .bool b,.ff=> !b
 | .string s,.str l=>s.data.toList.isEmpty&&l.isEmpty
 | .pointer none,.v (.pointer none)=>true
 | .slice none n c,.sla none n' c'=>Nat.beq n n'&&Nat.beq c c'
 | .nilIface,.v .nilIface=>true
 | .nilFunc,.v .nilFunc=>true
 | .map none,.v (.map none)=>true
 |_,_=>false
def qL:List Value→List SV→Bool
 | [],[]=>true
 |v::vs,x::xs=>zB v x&&qL vs xs
 |_,_=>false
theorem bA {G:Gr}{v:Value}{x:SV}(h:zB v x=true):den G x=some v:=by
 unfold zB at h
 split at h
 ·simp only [α3,ε5]at h;obtain⟨rfl,rfl⟩:=h;rfl
 ·simp at h;subst h;rfl
 ·next s l=>
  simp only [α3,List.isEmpty_iff]at h
  obtain⟨h1,rfl⟩:=h
  have:=jP s
  rw [h1]at this
  simp [den,this]
 ·rfl
 ·simp only [α3]at h
  have h1:=α5 h.1
  have h2:=α5 h.2
  subst h1;subst h2;rfl
 ·rfl
 ·rfl
 ·rfl
 ·cases h
theorem Qy {G:Gr}:∀{vs:aj} {xs:List SV},qL vs xs=true→AO G xs=some vs
 | [],[],_=>rfl
 |v::vs,x::xs,h=>by
  simp only [qL,α3]at h
  exact BK (bA h.1) (Qy h.2)
 | [],_::_,h=>by cases h
 |_::_,[],h=>by cases h
def UL (P:Program)(t:TypeId):Bool:=match P.underlying t with|some .bool=>true|_=>false
def qM (P:Program)(t:TypeId)(k:IntKind):Bool:=match P.underlying t with|some (.int k')=>k'==k|_=>false
theorem Xf {P:Program}{t:TypeId}{k:IntKind}(h:qM P t k=true):P.underlying t=some (.int k):=by
 unfold qM at h;split at h
 ·next k' hk=>rw [hk,ξ4 h]
 ·cases h
def Pn (P:Program)(t:TypeId)(zs:List SV):Bool:=match P.info? t with
 |some i=>match i.zero with
  |some z=>qL z.cells.toList zs
  |none=>false
 |none=>false
def MU (P:Program)(t:TypeId):Nat→List (Nat×Nat×Nat)→Bool
 |_,[]=>true
 |k,(ft,off,sz)::l=>(match fieldInfo P t k with|some (a,b)=>Nat.beq a ft&&Nat.beq b off|none=>false)&&(match Dp P t k with|some b=>Nat.beq b off|none=>sz==0)&&MU P t (k+1) l
def rZ (P:Program)(t:TypeId)(l:List (Nat×Nat×Nat)):Bool:=match placesOf P t with|some ps=>ps==l.map (·.2)|none=>false
def qN (P:Program)(t:TypeId)(i:TI):Bool:=
 (!i.one||oneB P t)&&(match i.row with|some m=>J9 P t m|none=>true)&&(match i.zero with|some zs=>Pn P t zs|none=>true)&&
 (match i.flds with| []=>true|l=>MU P t 0 l&&rZ P t l)&&(match i.knd with|some k=>qM P t k|none=>true)&&(!i.isS||Lt P t)&&(!i.isB||UL P t)&&
 (match i.elm with|some (e,s,b)=>Et P t e s b|none=>true)&&(match i.eqk with|some qs=>UK P t qs|none=>true)&&(match i.arr with|some (n,e,s)=>OL P t n e s|none=>true)
def Tb.ok (P:Program):Tb→Bool
 | .e=>true
 | .n k i l r=>qN P k i&&l.ok P&&r.ok P
theorem Tb.at {P:Program}:∀{X:Tb} {t:Nat} {i:TI},X.ok P=true→X.get t=some i→qN P t i=true
 | .e,_,_,_,h=>by cases h
 | .n k j l r,t,i,hX,h=>by
  simp only [Tb.ok,α3]at hX
  unfold Tb.get at h
  cases hb:Nat.beq t k with
  |true=>rw [hb]at h;cases h;have:=α5 hb;subst this;exact hX.1.1
  |false=>
   rw [hb]at h
   cases hc:Nat.ble t k with
   |true=>rw [hc]at h;exact Tb.at hX.1.2 h
   |false=>rw [hc]at h;exact Tb.at hX.2 h
structure Tx where
 tb:Tb
 nw:Bool
abbrev Tx.get (X:Tx)(t:Nat):Option TI:=X.tb.get t
abbrev Tx.ok (P:Program)(X:Tx):Bool:=X.tb.ok P
section
variable {P:Program}{t:TypeId}{i:TI}(h:qN P t i=true)
include h
theorem DI:(!i.one||oneB P t)=true∧(match i.row with|some m=>J9 P t m|none=>true)=true∧(match i.zero with|some zs=>Pn P t zs|none=>true)=true∧
 (match i.flds with| []=>true|l=>MU P t 0 l&&rZ P t l)=true∧(match i.knd with|some k=>qM P t k|none=>true)=true∧(!i.isS||Lt P t)=true∧(!i.isB||UL P t)=true∧
 (match i.elm with|some (e,s,b)=>Et P t e s b|none=>true)=true∧(match i.eqk with|some qs=>UK P t qs|none=>true)=true∧(match i.arr with|some (n,e,s)=>OL P t n e s|none=>true)=true:=by
 unfold qN at h
 simp only [α3]at h
 obtain⟨⟨⟨⟨⟨⟨⟨⟨⟨h1,h2⟩,h3⟩,h4⟩,h5⟩,h6⟩,h7⟩,h8⟩,h9⟩,GG⟩:=h
 exact⟨h1,h2,h3,h4,h5,h6,h7,h8,h9,GG⟩
theorem JE (ho:i.one=true):oneB P t=true:=by have:=(DI h).1;rw [ho]at this;simpa using this
theorem JF {m:Nat}(ho:i.row=some m):J9 P t m=true:=by have:=(DI h).2.1;rw [ho]at this;exact this
theorem NF {zs:List SV}(ho:i.zero=some zs):∃z m,(P.info? t).map (fun i=>(i.zero,i.size))=some (some z,m)∧∀G,AO G zs=some z.cells.toList:=by
 have:=(DI h).2.2.1
 rw [ho]at this
 simp only [Pn]at this
 split at this
 ·next f hf=>
  split at this
  ·next z hz=>exact⟨z,f.size,by rw [hf,←hz];rfl,fun G=>Qy this⟩
  ·cases this
 ·cases this
theorem Qz:∀(l:List (Nat×Nat×Nat)) (k:Nat),MU P t k l=true→∀(f ft off sz:Nat),l[f]?=some (ft,off,sz)→fieldInfo P t (k+f)=some (ft,off)∧(sz≠0→Dp P t (k+f)=some off)
 | [],_,_,f,ft,off,sz,hf=>by cases hf
 | (a,b,c)::l,k,hb,0,ft,off,sz,hf=>by
  cases hf
  simp only [MU,α3]at hb
  obtain⟨⟨h1,h2⟩,_⟩:=hb
  constructor
  ·split at h1
   ·next a' b' e=>simp only [α3]at h1;rw [ι6,e,α5 h1.1,α5 h1.2]
   ·cases h1
  ·intro hz
   split at h2
   ·next b' e=>rw [ι6,e,α5 h2]
   ·simp at h2;exact absurd h2 hz
 |(a,b,c)::l,k,hb,f+1,ft,off,sz,hf=>by
  simp only [MU,α3]at hb
  have:=Qz l (k+1) hb.2 f ft off sz hf
  rw [show k+(f+1)=k+1+f by omega];exact this
theorem UM {f ft off sz:Nat}(hf:i.flds[f]?=some (ft,off,sz)):fieldInfo P t f=some (ft,off)∧(sz≠0→Dp P t f=some off):=by
 have:=(DI h).2.2.2.1
 split at this
 ·next e=>rw [e]at hf;cases hf
 ·rw [α3]at this
  have:=Qz h i.flds 0 this.1 f ft off sz hf
  rwa [δ1]at this
theorem jU (hn:i.flds≠[]):placesOf P t=some (i.flds.map (·.2)):=by
 have:=(DI h).2.2.2.1
 split at this
 ·next e=>exact absurd e hn
 ·rw [α3]at this
  have:=this.2
  unfold rZ at this
  split at this
  ·next ps e=>rw [e];simpa using this
  ·cases this
theorem UN {k:IntKind}(ho:i.knd=some k):P.underlying t=some (.int k):=by have:=(DI h).2.2.2.2.1;rw [ho]at this;exact Xf this
theorem Po (ho:i.isS=true):Lt P t=true:=by have:=(DI h).2.2.2.2.2.1;rw [ho]at this;simpa using this
theorem Q0 (ho:i.isB=true):P.underlying t=some .bool:=by
 have:=(DI h).2.2.2.2.2.2.1
 rw [ho]at this
 simp only [UL,Bool.not_true,Bool.false_or]at this
 split at this
 ·assumption
 ·cases this
theorem DJ {e s b:Nat}(ho:i.elm=some (e,s,b)):Et P t e s b=true:=by have:=(DI h).2.2.2.2.2.2.2.1;rw [ho]at this;exact this
theorem bC {qs:ae}(ho:i.eqk=some qs):UK P t qs=true:=by have:=(DI h).2.2.2.2.2.2.2.2.1;rw [ho]at this;exact this
theorem NG {n e s:Nat}(ho:i.arr=some (n,e,s)):OL P t n e s=true:=by have:=(DI h).2.2.2.2.2.2.2.2.2;rw [ho]at this;exact this
end
def lg {α:Type}:List α→Nat→Option α
 | [],_=>none
 |x::_,0=>some x
 |_::l,k+1=>lg l k
theorem At {α:Type}:∀(l:List α) (k:Nat),lg l k=l[k]?
 | [],_=>rfl
 |_::_,0=>rfl
 |_::l,k+1=>by rw [lg,At l k];rfl
def tk {α:Type}:Nat→List α→Option (List α)
 |0,_=>some []
 |_+1,[]=>none
 |m+1,x::l=>match tk m l with
  |some r=>some (x::r)
  |none=>none
theorem IL {α:Type}:∀{m:Nat} {l r:List α},tk m l=some r→r=l.take m∧m≤l.length
 |0,l,r,h=>by cases h;simp
 |m+1,[],r,h=>by cases h
 |m+1,x::l,r,h=>by
  unfold tk at h
  split at h
  ·next s hs=>cases h;obtain⟨rfl,h2⟩:=IL hs;simp;exact h2
  ·cases h
def dp {α:Type}:Nat→List α→List α
 |0,l=>l
 |_+1,[]=>[]
 |o+1,_::l=>dp o l
theorem Hd {α:Type}:∀(o:Nat) (l:List α),dp o l=l.drop o
 |0,l=>by simp [dp]
 |o+1,[]=>by simp [dp]
 |o+1,x::l=>by simp [dp,Hd o l]
def sp {α:Type}:Nat→List α→List α→Option (List α)
 |0,cs,[]=>some cs
 |0,[],_::_=>none
 |0,_::cs,x::xs=>match sp 0 cs xs with
  |some r=>some (x::r)
  |none=>none
 |_+1,[],_=>none
 |o+1,c::cs,xs=>match sp o cs xs with
  |some r=>some (c::r)
  |none=>none
theorem Jl {α:Type}:∀{o:Nat} {cs xs r:List α},sp o cs xs=some r→r=cs.take o++xs++cs.drop (o+xs.length)∧o+xs.length≤cs.length
 |0,cs,[],r,h=>by simp [sp]at h;subst h;simp
 |0,[],_::_,r,h=>by simp [sp]at h
 | 0,c::cs,x::xs,r,h=>by
  unfold sp at h
  split at h
  ·next s hs=>
   cases h
   obtain⟨h1,h2⟩:=Jl hs
   subst h1
   simp at h2⊢
   exact h2
  ·cases h
 |o+1,[],xs,r,h=>by simp [sp]at h
 | o+1,c::cs,xs,r,h=>by
  unfold sp at h
  split at h
  ·next s hs=>
   cases h
   obtain⟨h1,h2⟩:=Jl hs
   subst h1
   rw [show o+1+xs.length=o+xs.length+1 by omega]
   simp at h2⊢
   omega
  ·cases h
theorem JG {g:Nat}{t:TypeId}:∀(new old A B:aj) (w:World),old.length=new.length→D3 w g (A++old++B).toArray t→D3 (w.setCells g A.length new) g (A++new++B).toArray t∧XW g w (w.setCells g A.length new)
 | [],[],A,B,w,_,h=>⟨h,rfl,rfl,rfl,rfl,fun _ _=>rfl⟩
 | [],_::_,_,_,_,h,_=>by cases h
 |_::_,[],_,_,_,h,_=>by cases h
 | x::new,y::old,A,B,w,hl,h=>by
  have h1:D3 (w.setCell ⟨g,A.length,none⟩ x) g ((A++[x])++old++B).toArray t:=by
   have:=h.set (k:=A.length) x
   simpa using this
  have oW:old.length=new.length:=by simpa using hl
  obtain⟨h2,h3⟩:=JG new old (A++[x]) B _ oW h1
  have e:w.setCells g A.length (x::new)=(w.setCell ⟨g,A.length,none⟩ x).setCells g (A++[x]).length new:=by
   rw [World.setCells];simp
  rw [e]
  refine⟨by simpa using h2,?_⟩
  have u:=OI w g A.length x
  exact⟨h3.os.trans u.os,h3.tape.trans u.tape,h3.output.trans u.output,h3.size.trans u.size,fun k hk=>(h3.block k hk).trans (u.block k hk)⟩
abbrev Ob:=List (Bool×Bool)
def Dc (E:Ob):Prop:=E.map (·.1)=E.map (·.2)
theorem AB:Dc []:=rfl
theorem Ae {E F:Ob}(h:Dc (E++F)):Dc E∧Dc F:=by
 unfold Dc at*
 simp only [ζ5]at h
 exact υ1 h (by simp)
theorem IM {x:Bool×Bool}{F:Ob}(h:Dc (x::F)):x.1=x.2∧Dc F:=by
 unfold Dc at*
 simp only [ζ0,ι8]at h
 exact h
def r8:Value→SV
 | .bool true=>.tt
 | .bool false=>.ff
 | .int k n=>.int k n
 | .string s=>.str s.data.toList
 | .slice ao n c=>.sla ao n c
 |x=>.v x
theorem Xg {G:Gr}(x:Value):den G (r8 x)=some x:=by
 unfold r8
 split<;>first|rfl|simp [den,jP]
def DA (T:List (Nat×SV)):Operand→Option SV
 | .tmp t=>look T t
 | .const v=>some (r8 v)
 | .global g=>some (.v (.pointer (some ⟨g,0,none⟩)))
 | .func f=>some (.fn f [])
def HG (gc:Option Bool)(T:List (Nat×SV))(x:Operand):Option (SV×Ob):=match DA T x with
 |some (.opt b y)=>match gc with
  |some g=>some (y,[(b,g)])
  |none=>none
 |some y=>some (y,[])
 |none=>none
def KA (gc:Option Bool):Prop:=∀g,gc=some g→g=true
section
variable {n:Nat}{T:List (Nat×SV)}{H:Hp}{ks:ae}{G0:Gr}{w0:World}{G:Gr}{a:Act}{w:World}
theorem Sy.ev (A:Sy n T H ks G0 w0 G a w){x:Operand}{y:SV}(h:DA T x=some y):den G y=some (a.eval x):=by
 cases x with
 |tmp t=>exact A.get t y h
 |const v=>cases h;exact Xg v
 |global g=>cases h;rfl
 |func f=>cases h;rfl
theorem Sy.evg (A:Sy n T H ks G0 w0 G a w){gc:Option Bool}(hg:KA gc){x:Operand}{y:SV}{E:Ob}(h:HG gc T x=some (y,E))(hE:Dc E):den G y=some (a.eval x):=by
 unfold HG at h
 split at h
 ·next b z hz=>
  split at h
  ·next g=>
   cases h
   have e:=(IM hE).1
   have hg:=hg g U
   simp only at e
   rw [hg]at e
   subst e
   have:=A.ev hz
   unfold den at this
   obtain⟨v,h1,h2⟩:=γ8.1 this
   rw [h1];exact congrArg some h2
  ·cases h
 ·next z _ hz=>cases h;exact A.ev hz
 ·cases h
end
inductive Out where
 |val (x:SV) (E:Ob)
 |new (t:TypeId) (e:BZ) (x:SV)
 |upd (i:Nat) (cs:List SV) (E:Ob)
def SV.toB:SV→Option Bool
 | .tt=>some true
 | .ff=>some false
 | .bool b=>some b
 |_=>none
theorem SV.toB_den {G:Gr}{x:SV}{b:Bool}(h:x.toB=some b):den G x=some (.bool b):=by
 cases x<;>simp [SV.toB]at h<;>subst h<;>rfl
def jV (op:BinOp)(a b:Int):Option Bool:=match op with
 | .eql=>some (a==b)
 | .neq=>some (!(a==b))
 | .lss=>some (decide (a<b))
 | .leq=>some (decide (a≤b))
 | .gtr=>some (decide (a>b))
 | .geq=>some (decide (a≥b))
 |_=>none
def jW (op:BinOp)(a b:Int):Option Int:=match op with
 | .add=>some (a+b)
 | .sub=>some (a - b)
 | .mul=>some (a*b)
 |_=>none
def ON:Nat→SV→SV→Option Bool
 |0,.int k a,.int k' b=>bif k==k' then some (a==b)else none
 |1,x,y=>match x.toB,y.toB with
  |some p,some q=>some (p==q)
  |_,_=>none
 |2,.str l,.str m=>some (l==m)
 |_,_,_=>none
def Xh:List Nat→List SV→List SV→Option Bool
 | [],[],[]=>some true
 | [q],[x],[y]=>ON q x y
 |q::qs,x::xs,y::ys=>match ON q x y,Xh qs xs ys with
  |some a,some b=>some (a&&b)
  |_,_=>none
 |_,_,_=>none
theorem Sb {G:Gr}{q:Nat}{x y:SV}{u v:Value}{r:Bool}(h:ON q x y=some r)(hx:den G x=some u)(hy:den G y=some v):cellEq q u v=some r:=by
 unfold ON at h
 split at h
 ·next k a k' b=>
  cases hk:k==k' with
  |false=>rw [hk]at h;cases h
  |true=>rw [hk]at h;cases h;cases hx;cases hy;have:=ξ4 hk;subst this;simp [cellEq]
 ·split at h
  ·next p q hp hq=>
   cases h
   have e1:=SV.toB_den (G:=G) hp
   have e2:=SV.toB_den (G:=G) hq
   rw [hx]at e1;rw [hy]at e2
   cases e1;cases e2;rfl
  ·cases h
 ·cases h;cases hx;cases hy;simp [cellEq,Pk]
 ·cases h
theorem Xi {G:Gr}:∀{qs:ae} {xs ys:List SV} {us vs:aj} {r:Bool},Xh qs xs ys=some r→AO G xs=some us→AO G ys=some vs→Ci qs us vs=some r∧us.length=qs.length∧vs.length=qs.length:=by
 intro qs
 induction qs with
 | nil=>
  intro xs ys us vs r h hx hy
  cases xs with
  |nil=>
   cases ys with
   |nil=>cases h;cases hx;cases hy;exact⟨rfl,rfl,rfl⟩
   |cons y ys=>simp [Xh]at h
  |cons x xs=>simp [Xh]at h
 | cons q qs ih=>
  intro xs ys us vs r h hx hy
  cases xs with
  |nil=>cases qs<;>simp [Xh]at h
  | cons x xs=>
   cases ys with
   |nil=>cases qs<;>cases xs<;>simp [Xh]at h
   | cons y ys=>
    obtain⟨u,us',h1,h2,rfl⟩:=BH hx
    obtain⟨v,vs',h3,h4,rfl⟩:=BH hy
    have key:∀a b,ON q x y=some a→Xh qs xs ys=some b→r=(a&&b)→Ci (q::qs) (u::us') (v::vs')=some r∧(u::us').length=(q::qs).length∧(v::vs').length=(q::qs).length:=by
     intro a b ha hb hr
     obtain⟨i1,i2,i3⟩:=ih hb h2 h4
     refine⟨?_,by simp [i2],by simp [i3]⟩
     simp [Ci,Sb ha h1 h3,i1,hr]
    unfold Xh at h
    split at h
    ·next e=>cases e
    ·next e1 e2 e3=>cases e1;cases e2;cases e3;exact key r true h U (by simp)
    ·next e1 e2 e3=>
     cases e1;cases e2;cases e3
     split at h
     ·next a b ha hb=>cases h;exact key a b ha hb U
     ·cases h
    ·cases h
def xM (op:BinOp)(k:IntKind)(a b:Int):Option Int:=match op with
 | .shl=>some (k.wrap (a*2^min b.toNat k.bits))
 | .shr=>some (a.fdiv (2^min b.toNat k.bits))
 |_=>none
def jX (op:BinOp)(k:IntKind)(a b:Int):Option Int:=match op with
 | .quo=>some (k.wrap (a.tdiv b))
 | .rem=>some (a.tmod b)
 |_=>none
def jY (op:BinOp)(k:IntKind)(a b:Int):Option Int:=match op with
 | .and=>some (k.wrap ((BitVec.ofInt k.bits a&&&BitVec.ofInt k.bits b).toNat))
 | .or=>some (k.wrap ((BitVec.ofInt k.bits a|||BitVec.ofInt k.bits b).toNat))
 | .xor=>some (k.wrap ((BitVec.ofInt k.bits a^^^BitVec.ofInt k.bits b).toNat))
 | .andNot=>some (k.wrap ((BitVec.ofInt k.bits a&&& ~~~ (BitVec.ofInt k.bits b)).toNat))
 |_=>none
def bD (X:Tx) (op:BinOp) (t:TypeId) (x y:SV):Option (SV×List Bool):=match x,y with
  | .int k a,.int k' b=>match xM op k a b with
   |some m=>some (.int k m,[decide (0≤b)])
   | none=>bif k==k' then(match jV op a b with
    |some r=>some (.bool r,[])
    | none=>match jX op k a b with
     |some m=>some (.int k m,[decide (b≠0)])
     |none=>match jY op k a b with
     |some m=>some (.int k m,[])
     |none=>match jW op a b with
      | some m=>bif X.nw then(match k with
        | .i64=>some (.int .i64 m,[decide (-9223372036854775808≤m∧m≤9223372036854775807)])
        |_=>some (.int k (k.wrap m),[]))else some (.int k (k.wrap m),[])
      |none=>none)else none
  | .str l,.str m=>match op with
    | .eql=>some (.bool (l==m),[])
    | .neq=>some (.bool (!(l==m)),[])
    | .add=>some (.str (l++m),[decide (l.length+m.length≤9223372036854775807)])
    |_=>none
  | .agg xs,.agg ys=>match X.get t with
    | some i=>match i.eqk with
      | some qs=>match Xh qs xs ys with
        | some r=>match op with
          | .eql=>some (.bool r,[])
          | .neq=>some (.bool (!r),[])
          |_=>none
        |none=>none
      |none=>none
    |none=>none
  | x,y=>match x.toB,y.toB with
    | some p,some q=>match X.get t with
      | some i=>bif i.isB then(match op with
        | .eql=>some (.bool (p==q),[])
        | .neq=>some (.bool (!(p==q)),[])
        |_=>none)else none
      |none=>none
    |_,_=>none
theorem IN {m:Int}(h: -9223372036854775808≤m∧m≤9223372036854775807):IntKind.wrap .i64 m=m:=by simp only [IntKind.wrap,IntKind.signed,IntKind.bits];simp;omega
theorem jZ {P:Program}{t:TypeId}(x y:Operand)(a b:Bool)(w:World)(ht:P.underlying t=some .bool):(eqGuard .eql t x y (.bool a) (.bool b)).run P w=.ok () w∧(binOp .eql t (.bool a) (.bool b)).run P w=.ok (.bool (a==b)) w:=by
 exact⟨by simp [eqGuard],run_eql_bool w t a b ht⟩
theorem j0 {P:Program}{t:TypeId}(x y:Operand)(a b:Bool)(w:World)(ht:P.underlying t=some .bool):(eqGuard .neq t x y (.bool a) (.bool b)).run P w=.ok () w∧(binOp .neq t (.bool a) (.bool b)).run P w=.ok (.bool (!(a==b))) w:=by
 exact⟨by simp [eqGuard],run_neq_bool w t a b ht⟩
theorem UO {P:Program} {X:Tx} (hX:X.ok P=true) {G:Gr} {op:BinOp} {t:TypeId} {x y r:SV} {q:List Bool} {u v:Value} (h:bD X op t x y=some (r,q)) (hx:den G x=some u) (hy:den G y=some v) (ox oy:Operand) (w:World):
    ∃z,den G r=some z∧((∀p∈q,p=true)→(eqGuard op t ox oy u v).run P w=.ok () w∧(binOp op t u v).run P w=.ok z w):=by
  unfold bD at h
  split at h
  · next k a k' b =>
   split at h
   · next m hm=>
     cases h;cases hx;cases hy
     refine⟨_,rfl,fun hq=>?_⟩
     have h0:0≤b:=δ5 (hq _ (by simp))
     have h1:¬b<0:=by omega
     cases op<;>simp only [xM]at hm<;>first|(cases hm;done)|skip
     all_goals cases hm
     all_goals exact⟨by simp [eqGuard],by simp [binOp,Op.shift,h1]⟩
   · cases hk : k ==k' with
    |false=>rw [hk]at h;cases h
    | true=>
      rw [hk]at h
      have:=ξ4 hk
      subst this
      cases hx;cases hy
      simp only [θ5]at h
      split at h
      · next r' hr=>
        cases h
        refine⟨_,rfl,fun _=>?_⟩
        cases op<;>simp only [jV]at hr<;>first|(cases hr;done)|skip
        all_goals cases hr
        ·exact rR ox oy a b _ w U
        ·exact rS ox oy a b _ w U
        ·exact rT ox oy a b _ w U
        ·exact rU ox oy a b _ w U
        ·exact rV ox oy a b _ w U
        ·exact rW ox oy a b _ w U
      · split at h
        · next m hm=>
          cases h
          refine⟨_,rfl,fun hq=>?_⟩
          have h0:b≠0:=δ5 (hq _ (by simp))
          cases op<;>simp only [jX]at hm<;>first|(cases hm;done)|skip
          all_goals cases hm
          all_goals exact⟨by simp [eqGuard],by simp [binOp,Op.intDiv,h0]⟩
        · split at h
          · next m hm=>
            cases h
            refine⟨_,rfl,fun hq=>?_⟩
            cases op<;>simp only [jY]at hm<;>first|(cases hm;done)|skip
            all_goals cases hm
            all_goals exact⟨by simp [eqGuard],by simp [binOp,Op.intBits]⟩
          · split at h
            · next m hm=>
              have key:(eqGuard op t ox oy (.int k a) (.int k b)).run P w=.ok () w∧(binOp op t (.int k a) (.int k b)).run P w=.ok (.int k (k.wrap m)) w:=by
                cases op<;>simp only [jW]at hm<;>first|(cases hm;done)|skip
                all_goals cases hm
                all_goals exact⟨by simp [eqGuard],by simp [binOp,Op.intArith]⟩
              cases hn:X.nw with
              |false=>rw [hn]at h;cases h;exact⟨_,rfl,fun _=>key⟩
              | true=>
                rw [hn]at h
                simp only [θ5]at h
                split at h
                · cases h
                  refine⟨_,rfl,fun hq=>?_⟩
                  have:=IN (m:=m) (δ5 (hq _ (by simp)))
                  rw [this]at key
                  exact key
                ·cases h;exact⟨_,rfl,fun _=>key⟩
            ·cases h
  · next l m=>
    cases hx;cases hy
    split at h
    ·cases h;exact⟨_,rfl,fun _=>jR U⟩
    ·cases h;exact⟨_,rfl,fun _=>jS U⟩
    ·cases h;exact⟨_,rfl,fun hq=>a7 (δ5 (hq _ (by simp)))⟩
    ·cases h
  · next xs ys=>
    split at h
    · next i hi=>
      split at h
      · next qs oX=>
        split at h
        · next r' hr=>
          unfold den at hx hy
          obtain⟨us,u1,u2⟩:=γ8.1 hx
          obtain⟨vs,v1,v2⟩:=γ8.1 hy
          subst u2;subst v2
          obtain⟨c1,c2,c3⟩:=Xi hr u1 v1
          have key:=a8 (P:=P) (w:=w) (bC (Tb.at hX hi) oX) (xs:=us.toArray) (ys:=vs.toArray) (by simpa using c2) (by simpa using c3) (by simpa using c1) ox oy
          split at h
          ·cases h;exact⟨_,rfl,fun _=>key.1⟩
          ·cases h;exact⟨_,rfl,fun _=>key.2⟩
          ·cases h
        ·cases h
      ·cases h
    ·cases h
  · split at h
    · next p q hp hq=>
      split at h
      · next i hi=>
        have ht:=Tb.at hX hi
        cases hb:i.isB with
        |false=>rw [hb]at h;cases h
        | true=>
          rw [hb]at h
          simp only [θ5]at h
          have e1:=SV.toB_den (G:=G) hp
          have e2:=SV.toB_den (G:=G) hq
          rw [hx]at e1
          rw [hy]at e2
          cases e1;cases e2
          split at h
          ·cases h;exact⟨_,rfl,fun _=>jZ ox oy p q w (Q0 ht hb)⟩
          ·cases h;exact⟨_,rfl,fun _=>j0 ox oy p q w (Q0 ht hb)⟩
          ·cases h
      ·cases h
    ·cases h
section
variable {n:Nat}{T:List (Nat×SV)}{H:Hp}{ks:ae}{G0:Gr}{w0:World}{G:Gr}{a:Act}{w:World}
theorem Sy.evx (A:Sy n T H ks G0 w0 G a w){gc:Option Bool}{x:Operand}{y:SV}{E:Ob}(h:HG gc T x=some (y,E)):∃v,den G y=some v∧(Dc E→KA gc→a.eval x=v):=by
 have key:∃v,den G y=some v:=by
  unfold HG at h
  split at h
  ·next b z hz=>
   split at h
   ·cases h
    have:=A.ev hz
    unfold den at this
    obtain⟨v,h1,_⟩:=γ8.1 this
    exact⟨v,h1⟩
   ·cases h
  ·next z _ hz=>cases h;exact⟨_,A.ev hz⟩
  ·cases h
 obtain⟨v,hv⟩:=key
 exact⟨v,hv,fun hE hg=>by have:=A.evg hg h hE;rw [hv]at this;exact(β6 this).symm⟩
end
def DK (X:Tx)(t:TypeId)(cs:List SV)(o:Nat):Option SV:=match X.get t with
 | some f=>match f.row with
  |some 0=>none
  |some (m+1)=>match tk (m+1) (dp o cs)with
   |some r=>some (.agg r)
   |none=>none
  |none=>bif f.one then lg cs o else none
 |none=>none
def partsOf:Option (Option BZ)→Option (Nat×Nat×(Nat→List SV))
 |some (some (.lst s n f))=>some (s,n,f)
 |some (some (.row _ s n _ f))=>some (s,n,f)
 |some (some (.buf _ s n f))=>some (s,n,f)
 |_=>none
def Q3 (k:IntKind):List SV→Option (List Int)
 | []=>some []
 | .int k' n::l=>match k==k',Q3 k l with
  |true,some r=>some (n::r)
  |_,_=>none
 |_::_=>none
def Q4:List SV→Option (List (List UInt8))
 | []=>some []
 | .str s::l=>match Q4 l with
  |some r=>some (s::r)
  |none=>none
 |_::_=>none
def Q5:List SV→Option (List Bool)
 | []=>some []
 |x::l=>match x.toB,Q5 l with
  |some b,some r=>some (b::r)
  |_,_=>none
def bE (rs:List SV)(j:Int):Option SV:=match rs with
 | .int k _::_=>match Q3 k rs with
  |some l=>some (.int k (l.getD j.toNat 0))
  |none=>none
 | .str _::_=>match Q4 rs with
  |some l=>some (.str (l.getD j.toNat []))
  |none=>none
 |_=>match Q5 rs with
  |some l=>some (.bool (l.getD j.toNat false))
  |none=>none
theorem OO {k:IntKind}:∀{l:List SV} {r:List Int},Q3 k l=some r→∀(i:Nat) (x:SV),l[i]?=some x→x=.int k (r.getD i 0)
 | [],r,h,i,x,hx=>by cases hx
 | y::l,r,h,i,x,hx=>by
  unfold Q3 at h
  split at h
  ·next e=>cases e
  ·next k' n l' e=>
   cases e
   split at h
   ·next r' hk hr=>
    cases h
    cases i with
    |zero=>cases hx;have:=ξ4 hk;subst this;rfl
    |succ i=>exact OO hr i x hx
   ·cases h
  ·cases h
theorem OP:∀{l:List SV} {r:List (List UInt8)},Q4 l=some r→∀(i:Nat) (x:SV),l[i]?=some x→x=.str (r.getD i [])
 | [],r,h,i,x,hx=>by cases hx
 | y::l,r,h,i,x,hx=>by
  unfold Q4 at h
  split at h
  ·next e=>cases e
  ·next s l' e=>
   cases e
   split at h
   ·next r' hr=>
    cases h
    cases i with
    |zero=>cases hx;rfl
    |succ i=>exact OP hr i x hx
   ·cases h
  ·cases h
theorem OQ {G:Gr}:∀{l:List SV} {r:List Bool},Q5 l=some r→∀(i:Nat) (x:SV),l[i]?=some x→den G x=some (.bool (r.getD i false))
 | [],r,h,i,x,hx=>by cases hx
 | y::l,r,h,i,x,hx=>by
  unfold Q5 at h
  split at h
  ·next b r' hb hr=>
   cases h
   cases i with
   |zero=>cases hx;exact SV.toB_den hb
   |succ i=>exact OQ hr i x hx
  ·cases h
theorem UP {G:Gr}{rs:List SV}{j:Int}{r:SV}(h:bE rs j=some r):(∃v,den G r=some v)∧∀x,rs[j.toNat]?=some x→den G r=den G x:=by
 unfold bE at h
 split at h
 ·next k n l=>
  split at h
  ·next q hq=>cases h;exact⟨⟨_,rfl⟩,fun x hx=>by rw [OO hq _ x hx]⟩
  ·cases h
 ·next s l=>
  split at h
  ·next q hq=>cases h;exact⟨⟨_,rfl⟩,fun x hx=>by rw [OP hq _ x hx]⟩
  ·cases h
 ·split at h
  ·next q hq=>cases h;exact⟨⟨_,rfl⟩,fun x hx=>by rw [OQ hq _ x hx];rfl⟩
  ·cases h
def Xj (g:Nat→Option SV):Nat→Nat→Option (List SV)
 |_,0=>some []
 |k,n+1=>match g k,Xj g (k+1) n with
  |some x,some r=>some (x::r)
  |_,_=>none
theorem Q6 {g:Nat→Option SV}:∀{n k:Nat} {r:List SV},Xj g k n=some r→∀i,i<n→∃x,r[i]?=some x∧g (k+i)=some x
 |0,_,_,_,i,hi=>by omega
 | n+1,k,r,h,i,hi=>by
  unfold Xj at h
  split at h
  ·next x r' hx hr=>
   cases h
   cases i with
   |zero=>exact⟨x,rfl,hx⟩
   |succ i=>
    obtain⟨y,h1,h2⟩:=Q6 hr i (by omega)
    exact⟨y,h1,by rw [show k+(i+1)=k+1+i by omega];exact h2⟩
  ·cases h
def Lu (X:Tx)(t:TypeId)(cs:List SV):List (Nat×Nat×Int)→Nat→Option SV
 | [],off=>DK X t cs off
 |(s,n,j)::js,off=>match Xj (fun c=>Lu X t cs js (off+c*s)) 0 n with
  |some rs=>bE rs j
  |none=>none
def NH:List (Nat×Nat×Int)→Nat
 | []=>0
 |(s,_,j)::js=>j.toNat*s+NH js
def j8:List (Nat×Nat×Int)→Prop
 | []=>True
 |(_,n,j)::js=>j.toNat<n∧j8 js
def Gk (H:Hp):SV→Option (List SV×Nat×List (Nat×Nat×Int)×List Bool)
 | .ptr i o=>match lg H i with
  |some (some (.blk cs))=>some (cs,o,[],[])
  |_=>none
 | .el i s j o=>match partsOf (lg H i)with
  |some (s',n,f)=>match Nat.beq s s' with
   |true=>some (f j.toNat,o,[],[decide (j.toNat<n)])
   |false=>none
  |none=>none
 | .ix p s n j k=>match Gk H p with
  |some (cs,o,js,q)=>some (cs,o+k,js++[(s,n,j)],q++[decide (j.toNat<n)])
  |none=>none
 |_=>none
def Ec (X:Tx)(H:Hp)(t:TypeId)(x:SV):Option (SV×List Bool):=match Gk H x with
 |some (cs,o,js,q)=>match Lu X t cs js o with
  |some r=>some (r,q)
  |none=>none
 |none=>none
def ZV (H:Hp):SV→Option (List Bool)
 | .ptr _ _=>some []
 | .el i _ j _=>match partsOf (lg H i)with
  |some (_,n,_)=>some [decide (j.toNat<n)]
  |none=>none
 | .ix p _ _ _ _=>ZV H p
 |_=>none
def ZW (gc:Option Bool)(p:Bool):Bool×Bool:=match gc with
 |none=>(p,true)
 |some b=>(!b||p,true)
theorem DU {gc:Option Bool}(hg:KA gc){l:List Bool}(h:Dc (l.map (ZW gc))):∀p∈l,p=true:=by
 induction l with
 |nil=>intro p hp;cases hp
 | cons x l ih=>
  obtain⟨h1,h2⟩:=IM h
  intro p hp
  rcases η5.1 hp with rfl|hp
  ·unfold ZW at h1
   cases gc with
   |none=>exact h1
   |some b=>have:=hg b U;subst this;simpa using h1
  ·exact ih h2 p hp
def xN (X:Tx)(H:Hp)(t:TypeId)(x i:SV):Option (SV×List Bool):=match x,i with
 | .sl k n _,.int .i64 j=>match X.get t,partsOf (lg H k)with
  |some f,some (_,m,_)=>match f.elm with
   |some (_,s,_)=>some (.el k s j 0,[decide (0≤j∧j<(n:Int)∧j.toNat<m)])
   |none=>none
  |some f,none=>match f.elm,lg H k with
   |some (_,s,_),some (some (.blk _))=>some (.ix (.ptr k 0) s n j 0,[decide (0≤j∧j<(n:Int))])
   |_,_=>none
  |_,_=>none
 | .sp p n _,.int .i64 j=>match X.get t with
  |some f=>match f.elm,ZV H p with
   |some (_,s,_),some q=>some (.ix p s n j 0,q++[decide (0≤j∧j<(n:Int))])
   |_,_=>none
  |none=>none
 | .st k s' b n c,.int .i64 j=>match X.get t,lg H k with
  |some f,some (some (.row _ _ m c' _))=>match f.elm with
   |some (_,s,_)=>bif Nat.beq s s'&&Nat.beq c c' then some (.el k s ((b:Int)+j) 0,[decide (0≤j∧j<(n:Int)∧((b:Int)+j).toNat<m)])else none
   |none=>none
  |_,_=>none
 | x,.int .i64 j=>match X.get t with
  |some f=>match f.arr,ZV H x with
   |some (m,_,s),some q=>some (.ix x s m j 0,q++[decide (0≤j∧j<(m:Int))])
   |_,_=>none
  |none=>none
 |_,_=>none
def xO (X:Tx) (t:TypeId) (x i:SV):Option (SV×List Bool):=match x,i with
 | .agg l,.int .i64 j=>match X.get t with
  | some f=>match f.arr with
   |some (m,e,s)=>match Lu X e l [(s,m,j)] 0 with
    |some r=>some (r,[decide (0≤j∧j<(m:Int))])
    |none=>none
   |none=>none
  |none=>none
 | .str l,.int _ j=>match X.get t with
  |some f=>bif f.isS then some (.int .u8 (((l.getD j.toNat 0).toNat:Nat):Int),[decide (0≤j∧j<(l.length:Int))])else none
  |none=>none
 |_,_=>none
def Xk:Option (Option BZ)→Nat→Nat
 |some (some (.row _ _ m _ _)),_=>m
 |_,c=>c
def xP:Option (Option BZ)→Nat→Bool
 |some (some (.row _ _ _ c' _)),c=>Nat.beq c c'
 |_,_=>true
def ZX (X:Tx) (H:Hp) (t:TypeId) (x:SV) (lo hi:Option SV):Option (SV×List Bool):=match x with
 | .sl i n c=>match X.get t with
  | some f=>match f.elm with
   |some (_,s,_)=>match lo,hi with
    |some (.int .i64 a),none=>some (.st i s a.toNat (n - a.toNat) c,[decide (0≤a∧a≤(n:Int))])
    |none,some (.int .i64 b)=>bif xP (lg H i) c then some (.sl i b.toNat c,[decide (0≤b∧b≤(Xk (lg H i) c:Int))])else none
    |_,_=>none
   |none=>none
  |none=>none
 | .str l=>match X.get t with
  |some f=>bif f.isS then(match lo,hi with
   |some (.int .i64 a),none=>some (.str (l.drop a.toNat),[decide (0≤a∧a≤(l.length:Int))])
   |none,some (.int .i64 b)=>some (.str (l.take b.toNat),[decide (0≤b∧b≤(l.length:Int))])
   |some (.int .i64 a),some (.int .i64 b)=>some (.str ((l.take b.toNat).drop a.toNat),[decide (0≤a∧a≤b∧b≤(l.length:Int))])
   |_,_=>none)else none
  |none=>none
 | x=>match X.get t,lo,hi with
  | some f,none,none=>match f.arr,ZV H x with
   |some (m,_,_),some q=>match m with
    |0=>none
    |m+1=>some (.sp x (m+1) (m+1),q)
   |_,_=>none
  |_,_,_=>none
def Pp (X:Tx)(t:TypeId)(f:Nat):SV→Option SV
 | .agg l=>match X.get t with
  |some i=>match lg i.flds f with
   |some (ft,off,_)=>DK X ft l off
   |none=>none
  |none=>none
 |_=>none
def UQ (X:Tx)(t:TypeId)(f:Nat):Option Nat:=match X.get t with
 | some j=>match lg j.flds f with
  |some (_,off,sz)=>match sz with
   |0=>none
   |_+1=>some off
  |none=>none
 |none=>none
def bF (X:Tx)(H:Hp)(t:TypeId)(f:Nat):SV→Option (SV×List Bool)
 | .ptr i o=>match UQ X t f with
  |some off=>some (.ptr i (o+off),[])
  |none=>none
 | .el i s j o=>match UQ X t f,partsOf (lg H i)with
  |some off,some (_,n,_)=>some (.el i s j (o+off),[decide (j.toNat<n)])
  |_,_=>none
 | .ix p s n j k=>match UQ X t f,ZV H p with
  |some off,some q=>some (.ix p s n j (k+off),q)
  |_,_=>none
 |_=>none
def FU:List SV→Option Ob
 | []=>some []
 |x::l=>match x.oneB,FU l with
  |some true,some E=>some E
  |some b,some E=>some ((b,true)::E)
  |_,_=>none
def DM (X:Tx) (H:Hp) (t:TypeId) (x y:SV):Option (Nat×List SV×Ob):=match x with
 | .ptr i o=>match lg H i with
  | some (some (.blk cs))=>match X.get t with
   | some f=>match f.row with
    | some m=>match y with
     | .agg l=>bif Nat.beq l.length m then(match sp o cs l,FU l with
      |some r,some E=>some (i,r,E)
      |_,_=>none)else none
     |_=>none
    |none=>bif f.one then(match sp o cs [y],FU [y]with
     |some r,some E=>some (i,r,E)
     |_,_=>none)else none
   |none=>none
  |_=>none
 |_=>none
def JH (b:Bool):SV→SV×Ob
 | .opt c x=>(x,[(c,b)])
 |x=>(x,[])
def Q7 (b:Bool):SV→SV→Option SV
 | .bool p,.ff=>some (.bool (b&&p))
 | .tt,.bool q=>some (.bool (b||q))
 | .int k n,.int k' m=>bif k==k' then some (.int k (bif b then n else m))else none
 | .str l,.str m=>some (.str (bif b then l else m))
 |x,y=>match x.toB,y.toB with
  |some p,some q=>some (.bool (bif b then p else q))
  |_,_=>none
def NL (gc:Option Bool)(T:List (Nat×SV)):List (Nat×Operand)→Option (List (Nat×SV)×Ob)
 | []=>some ([],[])
 |(i,x)::l=>match HG gc T x,NL gc T l with
  |some (y,E),some (r,F)=>some ((i,y)::r,E++F)
  |_,_=>none
def JI:SV→Option (List SV)
 | .agg l=>some l
 | .tup _=>none
 | .opt _ _=>none
 | .v _=>none
 |x=>some [x]
def Q8 (pl:List (Nat×Nat×Nat)):List SV→List (Nat×SV)→Option (List SV)
 |cs,[]=>some cs
 | cs,(i,x)::r=>match lg pl i,JI x with
  |some (_,off,sz),some l=>bif Nat.beq l.length sz then(match sp off cs l with
   |some cs'=>Q8 pl cs' r
   |none=>none)else none
  |_,_=>none
def Q9 (s:Nat):List SV→List (Nat×SV)→Option (List SV)
 |cs,[]=>some cs
 | cs,(i,x)::r=>match JI x with
  |some l=>bif Nat.beq l.length s then(match sp (i*s) cs l with
   |some cs'=>Q9 s cs' r
   |none=>none)else none
  |none=>none
def Sc (gc:Option Bool)(T:List (Nat×SV)):List Operand→Option (List SV×Ob)
 | []=>some ([],[])
 |x::l=>match HG gc T x,Sc gc T l with
  |some (y,E),some (r,F)=>some (y::r,E++F)
  |_,_=>none
def j9 (X:Tx)(t:TypeId):SV→Option SV
 | .str l=>match X.get t with
  |some i=>bif i.isS then some (.int .i64 (l.length:Int))else none
  |none=>none
 | .sla _ n _=>match X.get t with
  |some i=>match i.elm with
   |some _=>some (.int .i64 (n:Int))
   |none=>none
  |none=>none
 | .sl _ n _=>match X.get t with
  |some i=>match i.elm with
   |some _=>some (.int .i64 (n:Int))
   |none=>none
  |none=>none
 | .st _ _ _ n _=>match X.get t with
  |some i=>match i.elm with
   |some _=>some (.int .i64 (n:Int))
   |none=>none
  |none=>none
 | .sp _ n _=>match X.get t with
  |some i=>match i.elm with
   |some _=>some (.int .i64 (n:Int))
   |none=>none
  |none=>none
 |_=>none
def ZY (X:Tx)(s t:TypeId):SV→Option SV
 | .int k n=>match X.get s,X.get t with
  |some i,some j=>match i.knd,j.knd with
   |some k1,some k2=>bif k==k1 then some (.int k2 (k2.wrap n))else none
   |_,_=>none
  |_,_=>none
 |_=>none
def KN (gc:Option Bool)(T:List (Nat×SV)):Option Operand→Option (Option SV×Ob)
 |none=>some (none,[])
 |some x=>match HG gc T x with
  |some (y,E)=>some (some y,E)
  |none=>none
def gb (gc:Option Bool)(b:Bool):Bool:=match gc with
 |none=>b
 |some g=>g&&b
theorem ZZ {gc:Option Bool}(h:KA gc)(b:Bool):gb gc b=b:=by
 cases gc with
 |none=>rfl
 |some g=>have:=h g U;subst this;rfl
def UR:List SV→Bool
 | []=>true
 | .int _ _::l=>UR l
 | .bool _::l=>UR l
 | .tt::l=>UR l
 | .ff::l=>UR l
 | .str _::l=>UR l
 | .sla _ _ _::l=>UR l
 | .v _::l=>UR l
 |_::_=>false
theorem RB:∀{l:List SV},UR l=true→∃vs,AO [] l=some vs∧vs.length=l.length
 | [],_=>⟨[],rfl,rfl⟩
 | x::l,h=>by
  have key:∀v,den [] x=some v→UR l=true→∃vs,AO [] (x::l)=some vs∧vs.length=(x::l).length:=fun v hv hl=>by
   obtain⟨vs,h1,h2⟩:=RB hl
   exact⟨v::vs,BK hv h1,by simp [h2]⟩
  cases x<;>simp only [UR]at h<;>first|(cases h;done)|exact key _ U h
def Xl (T:List (Nat×SV))(s:Nat):List (Nat×Operand)→Nat→Option (List SV)
 | [],_=>some []
 | (i,x)::l,k=>bif Nat.beq i k then(match HG none T x,Xl T s l (k+1)with
  |some (y,[]),some r=>match JI y with
   |some c=>bif Nat.beq c.length s then some (c++r)else none
   |none=>none
  |_,_=>none)else none
def US (X:Tx) (T:List (Nat×SV)) (H:Hp) (gc:Option Bool):Op→Option Out
 | .move x=>match HG gc T x with
  |some (y,E)=>some (.val y E)
  |none=>none
 | .assign x=>match HG gc T x with
  |some (y,E)=>some (.val y E)
  |none=>none
 | .extract x k=>match HG gc T x with
  |some (.tup l,E)=>match lg l k with
   |some y=>some (.val y E)
   |none=>none
  |_=>none
 | .unOp .not _ x=>match HG gc T x with
  |some (.tt,E)=>some (.val .ff E)
  |some (.ff,E)=>some (.val .tt E)
  |some (.bool b,E)=>some (.val (.bool !b) E)
  |_=>none
 | .unOp .neg _ x=>match HG gc T x with
  |some (.int k n,E)=>some (.val (.int k (k.wrap (0 - n))) E)
  |_=>none
 | .nilCheck x=>match HG gc T x with
  |some (.ptr i o,E)=>some (.val (.ptr i o) E)
  |_=>none
 | .fieldAddr t x f=>match HG gc T x with
  |some (y,E)=>match bF X H t f y with
   |some (r,q)=>some (.val r (E++q.map (ZW gc)))
   |none=>none
  |none=>none
 | .field t x f=>match HG gc T x with
  |some (y,E)=>match Pp X t f y with
   |some r=>some (.val r E)
   |none=>none
  |none=>none
 | .load t x=>match HG gc T x with
  |some (y,E)=>match Ec X H t y with
   |some (r,q)=>some (.val r (E++q.map (ZW gc)))
   |none=>none
  |none=>none
 | .indexAddr t x i=>match HG gc T x,HG gc T i with
  |some (y,E),some (z,F)=>match xN X H t y z with
   |some (r,q)=>some (.val r (E++(F++q.map (ZW gc))))
   |none=>none
  |_,_=>none
 | .index t x i=>match HG gc T x,HG gc T i with
  |some (y,E),some (z,F)=>match xO X t y z with
   |some (r,q)=>some (.val r (E++(F++q.map (ZW gc))))
   |none=>none
  |_,_=>none
 | .slice t x lo hi mx=>match mx with
  | none=>match HG gc T x,KN gc T lo,KN gc T hi with
   |some (y,E),some (a,F),some (b,D)=>match ZX X H t y a b with
    |some (r,q)=>some (.val r (E++(F++(D++q.map (ZW gc)))))
    |none=>none
   |_,_,_=>none
  |some _=>none
 | .binOp op t x y _=>match HG gc T x,HG gc T y with
  |some (u,E),some (v,F)=>match bD X op t u v with
   |some (r,q)=>some (.val r (E++(F++q.map (ZW gc))))
   |none=>none
  |_,_=>none
 | .convert s t x=>match HG gc T x with
  |some (y,E)=>match ZY X s t y with
   |some r=>some (.val r E)
   |none=>none
  |none=>none
 | .pick c x y=>match HG gc T c with
  |some (.tt,E)=>match HG gc T x with
   |some (u,F)=>some (.val u (E++F))
   |none=>none
  |some (.ff,E)=>match HG gc T y with
   |some (u,F)=>some (.val u (E++F))
   |none=>none
  | some (.bool b,E)=>match DA T x,DA T y with
   | some p,some q=>match JH (gb gc b) p,JH (gb gc (!b)) q with
    |(u,F),(v,D)=>match Q7 b u v with
     |some r=>some (.val r (E++(F++D)))
     |none=>none
   |_,_=>none
  |_=>none
 | .build t parts=>match X.get t,NL gc T parts.toList with
  | some i,some (ps,E)=>match i.zero,i.flds with
   |some z,_::_=>match Q8 i.flds z ps with
    |some cs=>some (.val (.agg cs) E)
    |none=>none
   | some z,[]=>match i.arr with
    |some (_,_,s)=>match Q9 s z ps with
     |some cs=>some (.val (.agg cs) E)
     |none=>none
    |none=>none
   |_,_=>none
  |_,_=>none
 | .makeFunc fn first cap=>match fn,first.toList,Sc gc T cap.toList with
  | .func f,[],some (l,E)=>some (.val (.fn f l) E)
  |_,_,_=>none
 | .call c=>match c.callee,c.args.toList,c.argTypes.toList with
  | .builtin .len,[x],[t]=>match HG gc T x with
   |some (y,E)=>match j9 X t y with
    |some r=>some (.val r E)
    |none=>none
   |none=>none
  |_,_,_=>none
 | .alloc t=>match gc with
  | none=>match X.get t with
   |some i=>match i.zero with
    |some z=>some (.new t (.blk z) (.ptr H.length 0))
    |none=>none
   |none=>none
  |some _=>none
 | .box t x=>match gc with
  | none=>match HG none T x with
   |some (y,[])=>match JI y with
    |some l=>some (.new t (.blk l) (.ptr H.length 0))
    |none=>none
   |_=>none
  |some _=>none
 | .buildSlice t m parts=>match gc with
  | none=>match X.get t,Xl T ((X.get t).elim 0 fun i=>(i.elm.elim 0 fun e=>e.2.1)) parts.toList 0 with
   | some i,some cs=>match i.elm with
    | some (e,s,_)=>match Nat.beq parts.toList.length m&&Nat.ble (m*s) 4000 with
     | true=>match m,X.get e with
      | 0,some ie=>match ie.zero with
       |some z=>match Nat.beq z.length s&&UR z with
        |true=>some (.new e (.row e s 0 0 fun _=>z) (.sl H.length 0 0))
        |false=>none
       |none=>none
      |0,none=>none
      |m+1,_=>some (.new e (.blk cs) (.sl H.length (m+1) (m+1)))
     |false=>none
    |none=>none
   |_,_=>none
  |some _=>none
 | .store t x y=>match gc with
  | none=>match HG none T x,HG none T y with
   |some (u,E),some (v,F)=>match DM X H t u v with
    |some (i,cs,D)=>some (.upd i cs (E++(F++D)))
    |none=>none
   |_,_=>none
  |some _=>none
 |_=>none
theorem Cq {G:Gr}:∀{l:List SV} {E:Ob} {vs:aj},FU l=some E→Dc E→AO G l=some vs→vs.all (·.oneCell')=true
 | [],E,vs,h,hE,hv=>by cases hv;rfl
 |x::l,E,vs,h,hE,hv=>by
  obtain⟨v,ws,h1,h2,rfl⟩:=BH hv
  unfold FU at h
  split at h
  ·next E' hx hl=>cases h;simp [SV.one_spec hx U h1,Cq hl hE h2]
  ·next b E' _ hx hl=>cases h;obtain⟨e1,e2⟩:=IM hE;simp only at e1;simp [SV.one_spec hx e1 h1,Cq hl e2 h2]
  ·cases h
theorem Ag.range {G:Gr}{w:World}{p:Option Loc}{cs:List SV}(h:Ag G w p (.blk cs)):∃L vs,p=some L∧AO G cs=some vs∧w.rangeAt L.b L.pre.length vs:=by
 obtain⟨L,vs,h1,h2,h3⟩:=h
 refine⟨L,vs,h1,h2,fun j x hx=>?_⟩
 refine h3.cell ?_
 have hj:=(α0.1 hx).1
 simp only [List.getElem?_toArray]
 rw [γ2,α1 (by omega),α2 (by omega)]
 simpa using hx
theorem Lv {G:Gr}{l:List SV}{vs:aj}(h:AO [] l=some vs):AO G l=some vs:=by
 have:=A6 (G:=[]) G l h
 simpa using this
theorem DB {G:Gr}{i:Nat}{L:Loc}(h:(G[i]?).getD none=some L):G[i]?=some (some L):=by
 cases hq:G[i]? with
 |none=>rw [hq]at h;cases h
 |some p=>rw [hq]at h;simp at h;rw [h]
theorem Gm {H:Hp}{G:Gr}{w:World}(h:Mem H G w){i s n:Nat}{f:Nat→List SV}(hp:partsOf (lg H i)=some (s,n,f)):(∀k,∃vs,AO [] (f k)=some vs)∧∀k,k<n→∃L vs,(G[i]?).getD none=some L∧AO [] (f k)=some vs∧w.rangeAt L.b (L.pre.length+k*s) vs:=by
 unfold partsOf at hp
 split at hp
 ·next s' n' f' hi=>
  cases hp
  rw [At]at hi
  have he:=h.ent i _ hi
  refine⟨he.1,fun k hk=>?_⟩
  rcases he.2 with h0|⟨L,e1,_,e3⟩
  ·omega
  ·obtain⟨vs,e4,e5⟩:=e3 k hk;exact⟨L,vs,e1,e4,e5⟩
 ·next e' s' n' c' f' hi=>
  cases hp
  rw [At]at hi
  have he:=h.ent i _ hi
  refine⟨fun k=>by obtain⟨vs,h1,_⟩:=he.1 k;exact⟨vs,h1⟩,fun k hk=>?_⟩
  obtain⟨L,vs,e1,e2,_,e4⟩:=DQ he hk
  exact⟨L,vs,e1,e2,e4⟩
 ·next e' s' n' f' hi=>
  cases hp
  rw [At]at hi
  have he:=h.ent i _ hi
  exact⟨fun k=>by obtain⟨vs,h1,_⟩:=he.1 k;exact⟨vs,h1⟩,fun k hk=>MT he hk⟩
 ·cases hp
section
variable {P:Program}{X:Tx}{ops:ah}{n:Nat}{T:List (Nat×SV)}{H:Hp}{ks:ae}{G0:Gr}{w0:World}{G:Gr}{a:Act}{w:World}{K:Value→World→Prop}
variable {d:Option Tmp}{ty:TypeId}{pos:String}{af:Array Edge}{gd:Option (Nat×Bool)}
theorem MV {t:TypeId}{cs:List SV}{vs:aj}{o:Nat}{r:SV}(h:DK X t cs o=some r)(hv:AO G cs=some vs):∃z,den G r=some z:=by
 unfold DK at h
 split at h
 ·next f hf=>
  split at h
  ·cases h
  ·next m hm=>
   split at h
   ·next r' hr=>
    cases h
    have h2:=(IL hr).1
    subst h2
    rw [Hd]
    have:=CO (m+1) (CP o hv)
    refine⟨.agg ((vs.drop o).take (m+1)).toArray,?_⟩
    simp [den,this]
   ·cases h
  ·next hr=>
   cases Bc:f.one with
   |false=>rw [Bc]at h;cases h
   |true=>
    rw [Bc]at h
    simp only [θ5,At]at h
    obtain⟨v,_,h2⟩:=C0 hv h
    exact⟨v,h2⟩
 ·cases h
theorem Ft (hX:X.ok P=true) {t:TypeId} {cs:List SV} {vs:aj} {o b q:Nat} {r:SV} {z:Value} {x:Operand} (h:DK X t cs o=some r) (hv:AO G cs=some vs) (hz:den G r=some z) (hr:w.rangeAt b q vs)
  (hw:Region.wanted {dst:=d,op:=.load t x,type:=ty,pos:=pos,after:=af,guard:=gd} (yielded ops a.tmps)=true) (hx:a.eval x=.pointer (some ⟨b,q+o,none⟩)) (hK:K z w):
  BY P ops {dst:=d,op:=.load t x,type:=ty,pos:=pos,after:=af,guard:=gd} a w K:=by
 unfold DK at h
 split at h
 ·next f hf=>
  have ht:=Tb.at hX hf
  split at h
  ·cases h
  ·next m hm=>
   split at h
   ·next r' OB=>
    cases h
    obtain⟨h2,h3⟩:=IL OB
    subst h2
    rw [Hd]at hz h3
    have e:=CO (m+1) (CP o hv)
    simp only [den,e,δ0,β1]at hz
    subst hz
    have hl:=BF hv
    refine Sa hw hx ?_ ?_ hK
    ·rw [γ3]at h3
     have:((vs.drop o).take (m+1)).toArray.size=m+1:=by simp;omega
     rw [this];exact JF ht hm
    ·intro j y hy
     have hj:=(α0.1 hy).1
     simp only [δ6,γ3]at hj
     rw [γ1 (by omega),η0]at hy
     have:=hr (o+j) y hy
     rwa [show q+(o+j)=q+o+j by omega]at this
   ·cases h
  ·next hm=>
   cases Bc:f.one with
   |false=>rw [Bc]at h;cases h
   |true=>
    rw [Bc]at h
    simp only [θ5,At]at h
    obtain⟨v,h1,h2⟩:=C0 hv h
    rw [hz]at h2
    cases h2
    exact aS hw hx (JE ht Bc) (hr o z h1) hK
 ·cases h
theorem Km {t:TypeId}{cs:List SV}{vs:aj}(hv:AO G cs=some vs):∀{js:List (Nat×Nat×Int)} {off:Nat} {r:SV},Lu X t cs js off=some r→∃z,den G r=some z∧(j8 js→∃r',DK X t cs (off+NH js)=some r'∧den G r'=some z)
 | [],off,r,h=>by
  obtain⟨z,hz⟩:=MV h hv
  exact⟨z,hz,fun _=>⟨r,h,hz⟩⟩
 | (s,n,j)::js,off,r,h=>by
  unfold Lu at h
  split at h
  ·next rs SK=>
   obtain⟨⟨z,hz⟩,Ww⟩:=UP (G:=G) h
   refine⟨z,hz,fun⟨h1,h2⟩=>?_⟩
   obtain⟨x,a1,a2⟩:=Q6 SK j.toNat h1
   rw [δ1]at a2
   obtain⟨z',b1,b2⟩:=Km hv a2
   obtain⟨r',c1,c2⟩:=b2 h2
   rw [Ww x a1,b1]at hz
   cases hz
   exact⟨r',by simp only [NH];rw [←η4];exact c1,c2⟩
  ·cases h
theorem OR:∀(js:List (Nat×Nat×Int)) (s n:Nat) (j:Int),NH (js++[(s,n,j)])=NH js+j.toNat*s
 | [],s,n,j=>by simp [NH]
 |(a,b,c)::js,s,n,j=>by simp only [π4,NH,OR js];omega
theorem RE:∀{js:List (Nat×Nat×Int)} {s n:Nat} {j:Int},j8 js→j.toNat<n→j8 (js++[(s,n,j)])
 | [],_,_,_,_,h=>⟨h,trivial⟩
 |_::_,_,_,_,h1,h=>⟨h1.1,RE h1.2 h⟩
theorem RF (A:Sy n T H ks G0 w0 G a w):∀{x:SV} {v:Value} {cs:List SV} {o:Nat} {js:List (Nat×Nat×Int)} {q:List Bool},Gk H x=some (cs,o,js,q)→den G x=some v→∃vs,AO G cs=some vs∧((∀p∈q,p=true)→j8 js∧∃b k,v=.pointer (some ⟨b,k+(o+NH js),none⟩)∧w.rangeAt b k vs)
 | .ptr i o',v,cs,o,js,q,h,hy=>by
  simp only [Gk]at h
  split at h
  ·next cs' hi=>
   cases h
   rw [At]at hi
   obtain⟨L,vs,h1,h2,h3⟩:=(A.mem.ent i _ hi).range
   refine⟨vs,h2,fun _=>⟨trivial,L.b,L.pre.length,?_,h3⟩⟩
   unfold den at hy
   rw [DB h1]at hy
   exact(β6 hy).symm
  ·cases h
 | .el i s j o',v,cs,o,js,q,h,hy=>by
  simp only [Gk]at h
  split at h
  ·next s' m f hi=>
   split at h
   ·next hb=>
    cases h
    have:=α5 hb
    subst this
    obtain⟨g1,g2⟩:=Gm A.mem hi
    obtain⟨vs,h1⟩:=g1 j.toNat
    refine⟨vs,Lv h1,fun hq=>⟨trivial,?_⟩⟩
    have BU:j.toNat<m:=δ5 (hq _ (by simp))
    obtain⟨L,vs',e1,e4,e5⟩:=g2 _ BU
    rw [h1]at e4;cases e4
    refine⟨L.b,L.pre.length+j.toNat*s,?_,e5⟩
    unfold den at hy
    rw [DB e1]at hy
    exact(β6 hy).symm
   ·cases h
  ·cases h
 | .ix p s m j k,v,cs,o,js,q,h,hy=>by
  simp only [Gk]at h
  split at h
  ·next cs' o' js' q' hp=>
   cases h
   cases hu:den G p with
   |none=>unfold den at hy;rw [hu]at hy;cases hy
   |some u=>
    obtain⟨vs,h1,h2⟩:=RF A hp hu
    refine⟨vs,h1,fun hq=>?_⟩
    obtain⟨h3,b,kk,h4,h5⟩:=h2 (fun p hp=>hq p (by simp [hp]))
    have BU:j.toNat<m:=δ5 (hq _ (by simp))
    refine⟨RE h3 BU,b,kk,?_,h5⟩
    unfold den at hy
    rw [hu,h4]at hy
    rw [←β6 hy,OR]
    simp only [Value.pointer.injEq,β1,μ6,true_and,and_true]
    omega
  ·cases h
theorem OT (A:Sy n T H ks G0 w0 G a w){t:TypeId}{y r:SV}{q:List Bool}{v:Value}(h:Ec X H t y=some (r,q))(hy:den G y=some v):∃z,den G r=some z∧((∀p∈q,p=true)→∃(cs:List SV) (o:Nat) (vs:aj) (r':SV) (b k:Nat),DK X t cs o=some r'∧den G r'=some z∧AO G cs=some vs∧v=.pointer (some ⟨b,k+o,none⟩)∧w.rangeAt b k vs):=by
 unfold Ec at h
 split at h
 ·next cs o js q' hb=>
  split at h
  ·next r' hs=>
   cases h
   obtain⟨vs,h1,h2⟩:=RF A hb hy
   obtain⟨z,hz,Ww⟩:=Km h1 hs
   refine⟨z,hz,fun hq=>?_⟩
   obtain⟨h3,b,k,h4,h5⟩:=h2 hq
   obtain⟨r'',c1,c2⟩:=Ww h3
   exact⟨cs,_,vs,r'',b,k,c1,c2,h1,h4,h5⟩
  ·cases h
 ·cases h
theorem FV (hX:X.ok P=true)(A:Sy n T H ks G0 w0 G a w){t:TypeId}{x:Operand}{y r:SV}{q:List Bool}{v:Value}(h:Ec X H t y=some (r,q))(hy:den G y=some v):∃z,den G r=some z∧
  ((∀p∈q,p=true)→a.eval x=v→Region.wanted {dst:=d,op:=.load t x,type:=ty,pos:=pos,after:=af,guard:=gd} (yielded ops a.tmps)=true→∀K:Value→World→Prop,K z w→BY P ops {dst:=d,op:=.load t x,type:=ty,pos:=pos,after:=af,guard:=gd} a w K):=by
 obtain⟨z,hz,h3⟩:=OT A h hy
 refine⟨z,hz,fun hq hx hw K hK=>?_⟩
 obtain⟨cs,o,vs,r',b,k,e1,e2,e3,e4,e5⟩:=h3 hq
 exact Ft hX e1 e3 e2 e5 hw (by rw [hx,e4]) hK
theorem Kn (A:Sy n T H ks G0 w0 G a w):∀{x:SV} {v:Value} {q:List Bool},ZV H x=some q→den G x=some v→(∀p∈q,p=true)→∃b o,v=.pointer (some ⟨b,o,none⟩)
 | .ptr i o,v,q,h,hy,_=>by
  unfold den at hy
  split at hy
  ·cases hy;exact⟨_,_,rfl⟩
  ·cases hy
 | .el i s j o,v,q,h,hy,hq=>by
  simp only [ZV]at h
  split at h
  ·next s' m f hi=>
   cases h
   have BU:j.toNat<m:=δ5 (hq _ (by simp))
   obtain⟨L,vs',e1,_⟩:=(Gm A.mem hi).2 _ BU
   unfold den at hy
   rw [DB e1]at hy
   exact⟨_,_,(β6 hy).symm⟩
  ·cases h
 | .ix p s m j k,v,q,h,hy,hq=>by
  simp only [ZV]at h
  cases hu:den G p with
  |none=>unfold den at hy;rw [hu]at hy;cases hy
  |some u=>
   obtain⟨b,o,rfl⟩:=Kn A h hu hq
   unfold den at hy
   rw [hu]at hy
   exact⟨_,_,(β6 hy).symm⟩
theorem OU {t:TypeId}{m o:Nat}{cs:Array Value}(h:J9 P t m=true)(ho:o+m≤cs.size):(part t cs o).run P w=.ok (.agg (cs.extract o (o+m))) w:=by
 obtain⟨⟨dd,h2,h3,gV⟩,h4⟩:=EW h
 have ha:(isAgg t).run P w=.ok true w:=by
  unfold isAgg
  rw [γ4,ε2 h2]
  cases dd<;>simp_all
 cases hq:P.info? t with
 |none=>simp [hq]at h4
 |some i=>
  have hi:i.size=m:=by simpa [hq]using h4
  simp [part,ha,sizeOf,typeInfo,hq,hi,ho]
theorem Sd {s f ft off:Nat}{cs:Array Value}{v:Value}(hf:fieldInfo P s f=some (ft,off))(hp:(part ft cs off).run P w=.ok v w):(Instr.field s (.agg cs) f).run P w=.ok v w:=by
 unfold fieldInfo at hf
 split at hf
 ·rename_i fs hu
  cases hq:fs[f]? with
  |none=>simp [hq]at hf
  |some fd=>
   simp [hq]at hf
   obtain⟨rfl,rfl⟩:=hf
   simp only [γ4,Instr.field,ε2 hu,α9,hq,asAgg,γ6,hp]
 ·cases hf
theorem Pq (hX:X.ok P=true){t:TypeId}{cs:List SV}{vs:aj}{o:Nat}{r:SV}{z:Value}(h:DK X t cs o=some r)(hv:AO G cs=some vs)(hz:den G r=some z):(part t vs.toArray o).run P w=.ok z w:=by
 unfold DK at h
 split at h
 ·next g hg=>
  have SL:=Tb.at hX hg
  split at h
  ·cases h
  ·next m hm=>
   split at h
   ·next r' OB=>
    cases h
    obtain⟨e1,e2⟩:=IL OB
    subst e1
    rw [Hd]at hz e2
    have e:=CO (m+1) (CP o hv)
    simp only [den,e,δ0,β1]at hz
    subst hz
    have hl:=BF hv
    rw [γ3]at e2
    rw [OU (JF SL hm) (by simp;omega)]
    simp [ξ0]
   ·cases h
  ·next hm=>
   cases Bc:g.one with
   |false=>rw [Bc]at h;cases h
   |true=>
    rw [Bc]at h
    simp only [θ5,At]at h
    obtain⟨u,h3,h4⟩:=C0 hv h
    rw [hz]at h4
    cases h4
    exact II w (JC (JE SL Bc) w) (by simpa using h3)
 ·cases h
theorem Se (hX:X.ok P=true) {t f:Nat} {x:Operand} {y r:SV} {v:Value} (h:Pp X t f y=some r) (hy:den G y=some v):∃z,den G r=some z∧
  (a.eval x=v→Region.wanted {dst:=d,op:=.field t x f,type:=ty,pos:=pos,after:=af,guard:=gd} (yielded ops a.tmps)=true→∀K:Value→World→Prop,K z w→BY P ops {dst:=d,op:=.field t x f,type:=ty,pos:=pos,after:=af,guard:=gd} a w K):=by
 unfold Pp at h
 split at h
 ·next l=>
  split at h
  ·next i hi=>
   split at h
   ·next ft off sz hf=>
    have ht:=Tb.at hX hi
    rw [At]at hf
    have pD:=(UM ht hf).1
    unfold den at hy
    obtain⟨vs,h1,h2⟩:=γ8.1 hy
    obtain⟨z,hz⟩:=MV h h1
    refine⟨z,hz,fun hx hw K hK=>Ad hw ?_ hK⟩
    have hp:(part ft vs.toArray off).run P w=.ok z w:=by
     unfold DK at h
     split at h
     ·next g hg=>
      have SL:=Tb.at hX hg
      split at h
      ·cases h
      ·next m hm=>
       split at h
       ·next r' OB=>
        cases h
        obtain⟨e1,e2⟩:=IL OB
        subst e1
        rw [Hd]at hz e2
        have e:=CO (m+1) (CP off h1)
        simp only [den,e,δ0,β1]at hz
        subst hz
        have hl:=BF h1
        rw [γ3]at e2
        rw [OU (JF SL hm) (by simp;omega)]
        simp [ξ0]
       ·cases h
      ·next hm=>
       cases Bc:g.one with
       |false=>rw [Bc]at h;cases h
       |true=>
        rw [Bc]at h
        simp only [θ5,At]at h
        obtain⟨u,h3,h4⟩:=C0 h1 h
        rw [hz]at h4
        cases h4
        exact II w (JC (JE SL Bc) w) (by simpa using h3)
     ·cases h
    rw [←h2]at hx
    unfold execOp
    simp only [hx,γ4,Sd pD hp,α9,γ6]
   ·cases h
  ·cases h
 ·cases h
end
theorem IP (off:Nat):∀(c:aj) (k:Nat) (Z:Array Value),off+k+c.length≤Z.size→((c.zipIdx k).foldl (fun cs (x:Value×Nat)=>cs.setIfInBounds (off+x.2) x.1) Z).toList=Z.toList.take (off+k)++c++Z.toList.drop (off+k+c.length)
 | [],k,Z,h=>by simp
 |u::c,k,Z,h=>by
  simp only [β0]at h
  rw [List.zipIdx_cons,υ2,IP off c (k+1) _ (by simp;omega)]
  simp only [Array.toList_setIfInBounds]
  have Dz:off+k<Z.toList.length:=by simp;omega
  rw [show off+(k+1)=off+k+1 by omega,List.take_add_one,γ7 Dz]
  simp only [List.take_set_of_le (β8 _),Option.toList_some,γ2,π4,ξ2,β0]
  rw [List.drop_set_of_lt (by omega)]
  rw [show off+k+1+c.length=off+k+(c.length+1) by omega]
theorem Ed {G:Gr}{x:SV}{l:List SV}{v:Value}(h:JI x=some l)(hv:den G x=some v):AO G l=some v.cells.toList:=by
 cases x with
 |agg m=>cases h;unfold den at hv;obtain⟨vs,h1,h2⟩:=γ8.1 hv;subst h2;simpa [Value.cells]using h1
 |tup m=>cases h
 |opt b y=>cases h
 |v y=>cases h
 |ptr i o=>cases h;have:=hv;unfold den at this;split at this<;>cases this;exact BK hv U
 |sl i o c=>cases h;have:=hv;unfold den at this;split at this<;>cases this;exact BK hv U
 |el i s j o=>cases h;have:=hv;unfold den at this;split at this<;>cases this;exact BK hv U
 |st i s j n c=>cases h;have:=hv;unfold den at this;split at this<;>cases this;exact BK hv U
 |sp p n c=>cases h;have:=hv;unfold den at this;split at this<;>cases this;exact BK hv U
 |ix p s m j k=>cases h;have:=hv;unfold den at this;split at this<;>cases this<;>exact BK hv U
 |fn f m=>cases h;have:=hv;unfold den at this;obtain⟨vs,_,h2⟩:=γ8.1 this;subst h2;exact BK hv U
 |_=>cases h;have:=hv;simp only [den,β1]at this;subst this;exact BK hv U
theorem Ko {G:Gr}{pl:List (Nat×Nat×Nat)}:∀{ps:List (Nat×SV)} {cs r:List SV} {vs:aj} {us:List (Nat×Value)},Q8 pl cs ps=some r→AO G cs=some vs→us.map (·.1)=ps.map (·.1)→AO G (ps.map (·.2))=some (us.map (·.2))→
  ∃zs,AO G r=some zs∧Instr.fill (fun i=>(pl.map (·.2))[i]?) vs.toArray us=some zs.toArray
 | [],cs,r,vs,us,h,hv,h1,h2=>by
  cases h
  have:us=[]:=by cases us<;>simp at h1⊢
  subst this
  exact⟨vs,hv,rfl⟩
 |(i,x)::ps,cs,r,vs,[],h,hv,h1,h2=>by cases h1
 | (i,x)::ps,cs,r,vs,(j,u)::us,h,hv,h1,h2=>by
  simp only [ζ0,ι8]at h1
  obtain⟨rfl,h1⟩:=h1
  obtain⟨v,ws,h3,h4,h5⟩:=BH h2
  simp only [ζ0,ι8]at h5
  obtain⟨rfl,rfl⟩:=h5
  unfold Q8 at h
  split at h
  ·next off sz l hp hl=>
   cases hb:Nat.beq l.length sz with
   |false=>rw [hb]at h;cases h
   | true=>
    rw [hb]at h
    simp only [θ5]at h
    have D7:=α5 hb
    split at h
    ·next cs' hs=>
     obtain⟨e1,e2⟩:=Jl hs
     have hc:=Ed hl h3
     have hlen:=BF hc
     have FO:=BF hv
     have Wx:AO G cs'=some (vs.take off++u.cells.toList++vs.drop (off+l.length)):=by
      rw [e1];exact Cj (Cj (CO off hv) hc) (CP _ hv)
     obtain⟨zs,h6,h7⟩:=Ko h Wx h1 h4
     refine⟨zs,h6,?_⟩
     rw [At]at hp
     unfold Instr.fill
     have I4:(pl.map (·.2))[j]?=some (off,sz):=by simp [hp]
     simp only [I4]
     have hu:u.cells.size=l.length:=by simpa using hlen
     rw [if_neg (by simp [hu,D7];omega)]
     rw [←h7]
     congr 1
     have f:=IP off u.cells.toList 0 vs.toArray (by simp;omega)
     apply ν6
     rw [←σ2,ρ5]
     simpa [hu]using f
    ·cases h
  ·cases h
theorem Kp {G:Gr}{s:Nat}:∀{ps:List (Nat×SV)} {cs r:List SV} {vs:aj} {us:List (Nat×Value)},Q9 s cs ps=some r→AO G cs=some vs→us.map (·.1)=ps.map (·.1)→AO G (ps.map (·.2))=some (us.map (·.2))→
  ∃zs,AO G r=some zs∧Instr.fill (fun i=>some (i*s,s)) vs.toArray us=some zs.toArray
 | [],cs,r,vs,us,h,hv,h1,h2=>by
  cases h
  have:us=[]:=by cases us<;>simp at h1⊢
  subst this
  exact⟨vs,hv,rfl⟩
 |(i,x)::ps,cs,r,vs,[],h,hv,h1,h2=>by cases h1
 | (i,x)::ps,cs,r,vs,(j,u)::us,h,hv,h1,h2=>by
  simp only [ζ0,ι8]at h1
  obtain⟨rfl,h1⟩:=h1
  obtain⟨v,ws,h3,h4,h5⟩:=BH h2
  simp only [ζ0,ι8]at h5
  obtain⟨rfl,rfl⟩:=h5
  unfold Q9 at h
  split at h
  ·next l hl=>
   cases hb:Nat.beq l.length s with
   |false=>rw [hb]at h;cases h
   | true=>
    rw [hb]at h
    simp only [θ5]at h
    have D7:=α5 hb
    split at h
    ·next cs' hs=>
     obtain⟨e1,e2⟩:=Jl hs
     have hc:=Ed hl h3
     have hlen:=BF hc
     have FO:=BF hv
     have Wx:AO G cs'=some (vs.take (j*s)++u.cells.toList++vs.drop (j*s+l.length)):=by
      rw [e1];exact Cj (Cj (CO _ hv) hc) (CP _ hv)
     obtain⟨zs,h6,h7⟩:=Kp h Wx h1 h4
     refine⟨zs,h6,?_⟩
     unfold Instr.fill
     simp only
     have hu:u.cells.size=l.length:=by simpa using hlen
     rw [if_neg (by simp [hu,D7];omega)]
     rw [←h7]
     congr 1
     have f:=IP (j*s) u.cells.toList 0 vs.toArray (by simp;omega)
     apply ν6
     rw [←σ2,ρ5]
     simpa [hu]using f
    ·cases h
  ·cases h
theorem Sf {G:Gr}{b:Bool}{x y r:SV}{u v:Value}(h:Q7 b x y=some r)(hx:den G x=some u)(hy:den G y=some v):den G r=some (bif b then u else v):=by
 unfold Q7 at h
 split at h
 ·cases h;simp only [den,β1]at hx hy⊢;subst hx;subst hy;cases b<;>rfl
 ·cases h;simp only [den,β1]at hx hy⊢;subst hx;subst hy;cases b<;>rfl
 ·next k n k' m=>
  cases hk:k==k' with
  |false=>rw [hk]at h;cases h
  |true=>rw [hk]at h;cases h;have:=ξ4 hk;subst this;simp only [den,β1]at hx hy⊢;subst hx;subst hy;cases b<;>rfl
 ·cases h;simp only [den,β1]at hx hy⊢;subst hx;subst hy;cases b<;>rfl
 ·split at h
  ·next p q hp hq=>
   cases h
   have e1:=SV.toB_den (G:=G) hp
   have e2:=SV.toB_den (G:=G) hq
   rw [hx]at e1;rw [hy]at e2
   cases e1;cases e2
   simp only [den]
   cases b<;>rfl
  ·cases h
theorem Kq {G:Gr}{b:Bool}{x u:SV}{E:Ob}{v:Value}(h:JH b x=(u,E))(hx:den G x=some v):∃z,den G u=some z∧(Dc E→b=true→z=v):=by
 unfold JH at h
 split at h
 ·next c y=>
  cases h
  unfold den at hx
  obtain⟨z,h1,h2⟩:=γ8.1 hx
  refine⟨z,h1,fun hE hb=>?_⟩
  have:=(IM hE).1
  simp only at this
  rw [this,hb]at h2
  exact h2
 ·cases h;exact⟨v,hx,fun _ _=>rfl⟩
section
variable {P:Program}{X:Tx}{ops:ah}{n:Nat}{T:List (Nat×SV)}{H:Hp}{ks:ae}{G0:Gr}{w0:World}{G:Gr}{a:Act}{w:World}
theorem JJ (A:Sy n T H ks G0 w0 G a w){gc:Option Bool}:∀{l:List (Nat×Operand)} {r:List (Nat×SV)} {E:Ob},NL gc T l=some (r,E)→∃vs,r.map (·.1)=l.map (·.1)∧AO G (r.map (·.2))=some vs∧vs.length=l.length∧(Dc E→KA gc→l.map (fun x=>a.eval x.2)=vs)
 | [],r,E,h=>by cases h;exact⟨[],rfl,rfl,rfl,fun _ _=>rfl⟩
 | (i,x)::l,r,E,h=>by
  unfold NL at h
  split at h
  ·next y E1 r1 F hy hr=>
   cases h
   obtain⟨v,h1,h2⟩:=A.evx hy
   obtain⟨vs,h3,h4,h5,h6⟩:=JJ A hr
   refine⟨v::vs,by simp [h3],BK h1 h4,by simp [h5],fun hE hg=>?_⟩
   obtain⟨e1,e2⟩:=Ae hE
   simp [h2 e1 hg,h6 e2 hg]
  ·cases h
theorem KO (A:Sy n T H ks G0 w0 G a w){gc:Option Bool}:∀{l:List Operand} {r:List SV} {E:Ob},Sc gc T l=some (r,E)→∃vs,AO G r=some vs∧(Dc E→KA gc→l.map a.eval=vs)
 | [],r,E,h=>by cases h;exact⟨[],rfl,fun _ _=>rfl⟩
 | x::l,r,E,h=>by
  unfold Sc at h
  split at h
  ·next y E1 r1 F hy hr=>
   cases h
   obtain⟨v,h1,h2⟩:=A.evx hy
   obtain⟨vs,h4,h6⟩:=KO A hr
   refine⟨v::vs,BK h1 h4,fun hE hg=>?_⟩
   obtain⟨e1,e2⟩:=Ae hE
   simp [h2 e1 hg,h6 e2 hg]
  ·cases h
theorem Jm:∀(l:List (Nat×Operand)) (vs:aj),vs.length=l.length→((l.map (·.1)).zip vs).map (·.1)=l.map (·.1)∧((l.map (·.1)).zip vs).map (·.2)=vs:=by
 intro l
 induction l with
 |nil=>intro vs h;cases vs<;>simp_all
 |cons x l ih=>intro vs h;cases vs with|nil=>simp at h|cons v vs=>simp at h⊢;exact ih vs h
theorem Fu (f:Operand→Value):∀l:List (Nat×Operand),l.map (fun x=>(x.1,f x.2))=(l.map (·.1)).zip (l.map fun x=>f x.2)
 | []=>rfl
 |x::l=>by simp [Fu f l]
def Yields (P:Program)(ops:ah)(o:Oper)(a:Act)(w:World)(z:Value):Prop:=Region.wanted o (yielded ops a.tmps)=true→∀K:Value→World→Prop,K z w→BY P ops o a w K
theorem UT (A:Sy n T H ks G0 w0 G a w) {gc:Option Bool} {c x y:Operand} {b:Bool} {p q u v r:SV} {E F D:Ob} {d:Option Tmp} {ty:TypeId} {pos:String} {af:Array Edge} {gd:Option (Nat×Bool)} (hc:HG gc T c=some (.bool b,E)) (hp:DA T x=some p) (hq:DA T y=some q)
  (h1:JH (gb gc b) p=(u,F)) (h2:JH (gb gc (!b)) q=(v,D)) (h3:Q7 b u v=some r):∃z,den G r=some z∧(Dc (E++(F++D))→KA gc→Yields P ops {dst:=d,op:=.pick c x y,type:=ty,pos:=pos,after:=af,guard:=gd} a w z):=by
 obtain⟨k,hk,FC⟩:=A.evx hc
 obtain⟨z1,e1,e2⟩:=Kq h1 (A.ev hp)
 obtain⟨z2,e3,e4⟩:=Kq h2 (A.ev hq)
 refine⟨_,Sf h3 e1 e3,fun hE hg hw K hK=>?_⟩
 obtain⟨o1,o2⟩:=Ae hE
 obtain⟨o3,o4⟩:=Ae o2
 have oY:=FC o1 hg
 cases hk
 refine Ph hw oY ?_ hK
 cases b with
 |true=>simpa using (e2 o3 (by rw [ZZ hg])).symm
 |false=>simpa using (e4 o4 (by rw [ZZ hg];rfl)).symm
theorem kA {f:FuncId} {first cap:Array Operand} {lb:aj} {d:Option Tmp} {ty:TypeId} {pos:String} {af:Array Edge} {gd:Option (Nat×Bool)} {K:Value→World→Prop} (hw:Region.wanted {dst:=d,op:=.makeFunc (.func f) first cap,type:=ty,pos:=pos,after:=af,guard:=gd} (yielded ops a.tmps)=true)
  (h1:first.toList=[]) (hx:cap.toList.map a.eval=lb) (h:K (.func (.func f) #[] lb.toArray) w):BY P ops {dst:=d,op:=.makeFunc (.func f) first cap,type:=ty,pos:=pos,after:=af,guard:=gd} a w K:=by
 have:first= #[]:=by have:=congrArg List.toArray h1;simpa using this
 subst this
 have hc:cap.map a.eval=lb.toArray:=by rw [←hx];apply ν6;simp
 exact Ad hw (by unfold execOp;simp only [Instr.makeFunc,γ4,γ6,α9,θ0,ι7,hc]) h
theorem FW (A:Sy n T H ks G0 w0 G a w){gc:Option Bool}{lo:Option Operand}{k:Int}{E:Ob}(h:KN gc T lo=some (some (.int .i64 k),E)):∃x,lo=some x∧(Dc E→KA gc→a.eval x=.int .i64 k):=by
 unfold KN at h
 split at h
 ·cases h
 ·next x=>
  split at h
  ·next y F hy=>cases h;obtain⟨v,h1,h2⟩:=A.evx hy;cases h1;exact⟨x,rfl,h2⟩
  ·cases h
theorem FX {gc:Option Bool}{lo:Option Operand}{E:Ob}(h:KN gc T lo=some (none,E)):lo=none:=by
 unfold KN at h
 split at h
 ·rfl
 ·split at h<;>cases h
theorem JK (hX:X.ok P=true){t f off:Nat}(h:UQ X t f=some off):Dp P t f=some off:=by
 unfold UQ at h
 split at h
 ·next j hj=>
  split at h
  ·next ft o sz hf=>
   split at h
   ·cases h
   ·next m=>cases h;rw [At]at hf;exact(UM (Tb.at hX hj) hf).2 (by omega)
  ·cases h
 ·cases h
theorem Xm (hX:X.ok P=true)(A:Sy n T H ks G0 w0 G a w){t f:Nat}{x:Operand}{y r:SV}{q:List Bool}{v:Value}{d:Option Tmp}{ty:TypeId}{pos:String}{af:Array Edge}{gd:Option (Nat×Bool)}(h:bF X H t f y=some (r,q))(hy:den G y=some v):∃z,den G r=some z∧
  ((∀p∈q,p=true)→a.eval x=v→Region.wanted {dst:=d,op:=.fieldAddr t x f,type:=ty,pos:=pos,after:=af,guard:=gd} (yielded ops a.tmps)=true→∀K:Value→World→Prop,K z w→BY P ops {dst:=d,op:=.fieldAddr t x f,type:=ty,pos:=pos,after:=af,guard:=gd} a w K):=by
 unfold bF at h
 split at h
 ·next i o=>
  split at h
  ·next off ho=>
   cases h
   unfold den at hy
   split at hy
   ·next L hL=>
    cases hy
    exact⟨.pointer (some ⟨L.b,L.pre.length+o+off,none⟩),by unfold den;rw [hL];simp [η4],fun _ hx hw K hK=>EL hw hx (JK hX ho) hK⟩
   ·cases hy
  ·cases h
 ·next i s j o=>
  split at h
  ·next off s' m g ho hi=>
   cases h
   unfold den at hy
   split at hy
   ·next p hp=>
    cases hy
    refine⟨.pointer (p.map fun L=>⟨L.b,L.pre.length+j.toNat*s+(o+off),none⟩),by unfold den;rw [hp],fun hq hx hw K hK=>?_⟩
    have BU:j.toNat<m:=δ5 (hq _ (by simp))
    obtain⟨L,_,e1,_⟩:=(Gm A.mem hi).2 _ BU
    rw [hp]at e1
    simp only [δ2]at e1
    subst e1
    exact EL hw hx (JK hX ho) (by simpa [η4]using hK)
   ·cases hy
  ·cases h
 ·next p s m j k=>
  split at h
  ·next off q' ho Pc=>
   cases h
   cases hu:den G p with
   |none=>unfold den at hy;rw [hu]at hy;cases hy
   | some u=>
    have hex:∃z,den G (.ix p s m j (k+off))=some z:=by
     unfold den
     rw [hu]
     split
     ·exact⟨_,rfl⟩
     ·exact⟨_,rfl⟩
     ·next h=>cases h
    obtain⟨z,hz⟩:=hex
    refine⟨z,hz,fun hq hx hw K hK=>?_⟩
    obtain⟨b,o,rfl⟩:=Kn A Pc hu hq
    unfold den at hy hz
    rw [hu]at hy hz
    simp only [β1]at hy hz
    subst hy;subst hz
    exact EL hw hx (JK hX ho) (by simpa [η4]using hK)
  ·cases h
 ·cases h
theorem KP (hX:X.ok P=true) (A:Sy n T H ks G0 w0 G a w) {gc:Option Bool} {o:Oper} {x:SV} {E:Ob} (h:US X T H gc o.op=some (.val x E)):∃z,den G x=some z∧(Dc E→KA gc→Yields P ops o a w z):=by
 obtain⟨d,i,ty,pos,af,gd⟩:=o
 simp only at h
 unfold US at h
 split at h
 ·split at h
  ·next y F hy=>cases h;obtain⟨v,h1,h2⟩:=A.evx hy;exact⟨v,h1,fun hE hg hw K hK=>aR hw (h2 hE hg) hK⟩
  ·cases h
 ·split at h
  ·next y F hy=>cases h;obtain⟨v,h1,h2⟩:=A.evx hy;exact⟨v,h1,fun hE hg hw K hK=>UF hw (h2 hE hg) hK⟩
  ·cases h
 ·split at h
  ·next k l F hy=>
   split at h
   ·next y hl=>
    cases h
    obtain⟨v,h1,h2⟩:=A.evx hy
    unfold den at h1
    obtain⟨vs,h3,rfl⟩:=γ8.1 h1
    rw [At]at hl
    obtain⟨u,h4,h5⟩:=C0 h3 hl
    exact⟨u,h5,fun hE hg hw K hK=>SY hw (h2 hE hg) (by simpa using h4) hK⟩
   ·cases h
  ·cases h
 ·split at h
  ·next F hy=>cases h;obtain⟨v,h1,h2⟩:=A.evx hy;cases h1;exact⟨_,rfl,fun hE hg hw K hK=>UG hw (h2 hE hg) hK⟩
  ·next F hy=>cases h;obtain⟨v,h1,h2⟩:=A.evx hy;cases h1;exact⟨_,rfl,fun hE hg hw K hK=>UG hw (h2 hE hg) hK⟩
  ·next b F hy=>cases h;obtain⟨v,h1,h2⟩:=A.evx hy;cases h1;exact⟨_,rfl,fun hE hg hw K hK=>UG hw (h2 hE hg) hK⟩
  ·cases h
 ·split at h
  ·next k m F hy=>
   cases h
   obtain⟨v,h1,h2⟩:=A.evx hy
   cases h1
   refine⟨_,rfl,fun hE hg hw K hK=>Ad hw ?_ hK⟩
   have h3:=h2 hE hg
   unfold execOp
   simp only [h3,Op.unary,Op.intArith,γ4,γ6,α9]
  ·cases h
 ·split at h
  ·next i o F hy=>
   cases h
   obtain⟨v,h1,h2⟩:=A.evx hy
   refine⟨v,h1,fun hE hg hw K hK=>?_⟩
   have h3:=h2 hE hg
   unfold den at h1
   split at h1
   ·cases h1;exact Fs hw h3 hK
   ·cases h1
  ·cases h
 ·split at h
  ·next t x f y F hy=>
   split at h
   ·next r q hr=>
    cases h
    obtain⟨v,h1,h2⟩:=A.evx hy
    obtain⟨z,hz,k⟩:=Xm (P:=P) (ops:=ops) hX A (d:=d) (ty:=ty) (pos:=pos) (af:=af) (gd:=gd) hr h1
    exact⟨z,hz,fun hE hg hw K hK=>k (DU hg (Ae hE).2) (h2 (Ae hE).1 hg) hw K hK⟩
   ·cases h
  ·cases h
 ·split at h
  ·next t x f y F hy=>
   split at h
   ·next r hr=>
    cases h
    obtain⟨v,h1,h2⟩:=A.evx hy
    obtain⟨z,hz,k⟩:=Se (P:=P) (ops:=ops) (a:=a) (w:=w) hX hr h1
    exact⟨z,hz,fun hE hg hw K hK=>k (h2 hE hg) hw K hK⟩
   ·cases h
  ·cases h
 ·split at h
  ·next t x y F hy=>
   split at h
   ·next r q hr=>
    cases h
    obtain⟨v,h1,h2⟩:=A.evx hy
    obtain⟨z,hz,k⟩:=FV (P:=P) (ops:=ops) hX A hr h1
    exact⟨z,hz,fun hE hg hw K hK=>k (DU hg (Ae hE).2) (h2 (Ae hE).1 hg) hw K hK⟩
   ·cases h
  ·cases h
 ·next t x i=>
  split at h
  ·next y F z D hy hz=>
   split at h
   ·next r q hr=>
    cases h
    obtain⟨v,h1,h2⟩:=A.evx hy
    obtain⟨u,h3,h4⟩:=A.evx hz
    unfold xN at hr
    split at hr
    ·next k m c j=>
     split at hr
     ·next f s' m' g hf J6=>
      split at hr
      ·next e s bb he=>
       cases hr
       have hs:sliceB P t e s=true:=by have:=DJ (Tb.at hX hf) he;unfold Et at this;rw [α3,α3]at this;exact this.1.1
       unfold den at h1
       split at h1
       ·next p hp=>
        cases h1;cases h3
        refine⟨.pointer (p.map fun L=>⟨L.b,L.pre.length+j.toNat*s+0,none⟩),by unfold den;rw [hp],fun hE hg hw K hK=>?_⟩
        obtain⟨e1,e2⟩:=Ae hE
        obtain⟨e3,e4⟩:=Ae e2
        have hq:0≤j∧j<(m:Int)∧j.toNat<m':=δ5 (DU hg e4 _ (by simp))
        have hj:j=((j.toNat:Nat):Int):=by omega
        have h5:=h2 e1 hg
        have h6:=h4 e3 hg
        rw [hj]at h6
        obtain⟨L,_,f1,_⟩:=(Gm A.mem J6).2 _ hq.2.2
        rw [hp]at f1
        simp only [δ2]at f1
        subst f1
        exact FT (n:=m) hw h5 h6 hs ⟨L.pre.length,_,rfl,rfl⟩ (by omega) (by simpa using hK)
       ·cases h1
      ·cases hr
     ·next f hf J6=>
      split at hr
      ·next e s bb cs' he HZ=>
       cases hr
       have hs:sliceB P t e s=true:=by have:=DJ (Tb.at hX hf) he;unfold Et at this;rw [α3,α3]at this;exact this.1.1
       rw [At]at HZ
       obtain⟨L,vs,g1,_,_⟩:=A.mem.ent k _ HZ
       unfold den at h1
       rw [DB g1]at h1
       cases h1;cases h3
       refine⟨.pointer (some ⟨L.b,L.pre.length+0+j.toNat*s+0,none⟩),by unfold den;simp only [den,DB g1],fun hE hg hw K hK=>?_⟩
       obtain⟨e1,e2⟩:=Ae hE
       obtain⟨e3,e4⟩:=Ae e2
       have hq:0≤j∧j<(m:Int):=δ5 (DU hg e4 _ (by simp))
       have hj:j=((j.toNat:Nat):Int):=by omega
       have h5:=h2 e1 hg
       have h6:=h4 e3 hg
       rw [hj]at h6
       exact FT (n:=m) hw h5 h6 hs ⟨L.pre.length,_,rfl,rfl⟩ (by omega) (by simpa using hK)
      ·cases hr
     ·cases hr
    ·next p m c j=>
     split at hr
     ·next f hf=>
      split at hr
      ·next e s bb q' he Pc=>
       cases hr
       have hs:sliceB P t e s=true:=by have:=DJ (Tb.at hX hf) he;unfold Et at this;rw [α3,α3]at this;exact this.1.1
       unfold den at h1
       split at h1
       ·next pv u5=>
        cases h1;cases h3
        have hex:∃z,den G (.ix p s m j 0)=some z:=by
         unfold den
         rw [u5]
         split
         ·exact⟨_,rfl⟩
         ·exact⟨_,rfl⟩
         ·next h=>cases h
        obtain⟨z,hz⟩:=hex
        refine⟨z,hz,fun hE hg hw K hK=>?_⟩
        obtain⟨e1,e2⟩:=Ae hE
        obtain⟨e3,e4⟩:=Ae e2
        have GZ:=DU hg e4
        have hq:0≤j∧j<(m:Int):=δ5 (GZ _ (by simp))
        obtain⟨b,o,rfl⟩:=Kn A Pc u5 (fun p hp=>GZ p (by simp [hp]))
        have hj:j=((j.toNat:Nat):Int):=by omega
        have h5:=h2 e1 hg
        have h6:=h4 e3 hg
        rw [hj]at h6
        unfold den at hz
        rw [u5]at hz
        simp only [β1]at hz
        subst hz
        exact FT (n:=m) hw h5 h6 hs ⟨o,_,rfl,rfl⟩ (by omega) (by simpa using hK)
       ·cases h1
      ·cases hr
     ·cases hr
    ·next k s' b m c j=>
     split at hr
     ·next f er sr mr cr fr hf J6=>
      split at hr
      ·next e s bb he=>
       cases JA:Nat.beq s s'&&Nat.beq c cr with
       |false=>rw [JA]at hr;cases hr
       | true=>
        rw [JA]at hr
        cases hr
        rw [α3]at JA
        have q1:=α5 JA.1
        have q2:=α5 JA.2
        subst q1;subst q2
        have hs:sliceB P t e s=true:=by have:=DJ (Tb.at hX hf) he;unfold Et at this;rw [α3,α3]at this;exact this.1.1
        unfold den at h1
        split at h1
        ·next p hp=>
         cases h1;cases h3
         refine⟨.pointer (p.map fun L=>⟨L.b,L.pre.length+((b:Int)+j).toNat*s+0,none⟩),by unfold den;rw [hp],fun hE hg hw K hK=>?_⟩
         obtain⟨e1,e2⟩:=Ae hE
         obtain⟨e3,e4⟩:=Ae e2
         have hq:0≤j∧j<(m:Int)∧((b:Int)+j).toNat<mr:=δ5 (DU hg e4 _ (by simp))
         have hj:j=((j.toNat:Nat):Int):=by omega
         have h5:=h2 e1 hg
         have h6:=h4 e3 hg
         rw [hj]at h6
         rw [At]at J6
         obtain⟨_,_,xs,_,_,g5⟩:=A.mem.ent k _ J6
         rw [hp]at g5
         simp only [δ2]at g5
         rcases g5 with⟨_,g5⟩|⟨g,cap,cur,c1,_,_,c4,_⟩
         ·omega
         ·cases p with
          |none=>cases c1
          |some L=>
           simp only [δ0,θ8]at c1
           have Bw:¬(c+rm (some L)=b):=by omega
           simp only [δ0,if_neg Bw]at h5
           have hmul:((b:Int)+j).toNat*s=b*s+j.toNat*s:=by rw [show((b:Int)+j).toNat=b+j.toNat by omega,θ6]
           refine FT (n:=m) (o:=L.pre.length+b*s+j.toNat*s) hw h5 h6 hs ⟨_,_,rfl,rfl⟩ (by omega) ?_
           simpa [hmul,η4]using hK
        ·cases h1
      ·cases hr
     ·cases hr
    ·next j _ _ _=>
     split at hr
     ·next f hf=>
      split at hr
      ·next m e s q' Qo Pc=>
       cases hr
       have hex:∃z,den G (.ix y s m j 0)=some z:=by
        unfold den
        rw [h1]
        split
        ·exact⟨_,rfl⟩
        ·exact⟨_,rfl⟩
        ·next h=>cases h
       obtain⟨z,hz⟩:=hex
       cases h3
       refine⟨z,hz,fun hE hg hw K hK=>?_⟩
       obtain⟨e1,e2⟩:=Ae hE
       obtain⟨e3,e4⟩:=Ae e2
       have GZ:=DU hg e4
       have hq:0≤j∧j<(m:Int):=δ5 (GZ _ (by simp))
       obtain⟨b,o,rfl⟩:=Kn A Pc h1 (fun p hp=>GZ p (by simp [hp]))
       have hj:j=((j.toNat:Nat):Int):=by omega
       have h5:=h2 e1 hg
       have h6:=h4 e3 hg
       rw [hj]at h6
       unfold den at hz
       rw [h1]at hz
       simp only [β1]at hz
       subst hz
       exact Pj hw h5 h6 (NG (Tb.at hX hf) Qo) (by omega) (by simpa using hK)
      ·cases hr
     ·cases hr
    ·cases hr
   ·cases h
  ·cases h
 ·next t x i=>
  split at h
  ·next y F z D hy hz=>
   split at h
   ·next r q hr=>
    cases h
    obtain⟨v,h1,h2⟩:=A.evx hy
    obtain⟨u,h3,h4⟩:=A.evx hz
    unfold xO at hr
    split at hr
    ·next l j=>
     split at hr
     ·next f hf=>
      split at hr
      ·next m e s Qo=>
       split at hr
       ·next r' Ww=>
        cases hr
        unfold den at h1
        obtain⟨vs,v1,v2⟩:=γ8.1 h1
        obtain⟨zz,rF,OE⟩:=Km v1 Ww
        cases h3
        refine⟨zz,rF,fun hE hg hw K hK=>Ad hw ?_ hK⟩
        obtain⟨e1,e2⟩:=Ae hE
        obtain⟨e3,e4⟩:=Ae e2
        have hq:0≤j∧j<(m:Int):=δ5 (DU hg e4 _ (by simp))
        obtain⟨r'',c1,c2⟩:=OE ⟨by omega,trivial⟩
        obtain⟨hu,D7⟩:=Dh (NG (Tb.at hX hf) Qo)
        have hp:=Pq (P:=P) (w:=w) hX c1 v1 c2
        simp only [NH,ι6,δ1]at hp
        have h5:=h2 e1 hg
        have h6:=h4 e3 hg
        rw [←v2]at h5
        have PP:(Instr.index t (.agg vs.toArray) (.int .i64 j)).run P w=.ok zz w:=by
         unfold Instr.index
         simp only [asIntOf,γ4,γ6,α9,ε2 hu,if_pos hq,DX D7,hp]
        unfold execOp
        simp only [h5,h6,γ4,PP,α9,γ6]
       ·cases hr
      ·cases hr
     ·cases hr
    ·next l ik j=>
     split at hr
     ·next f hf=>
      cases hb:f.isS with
      |false=>rw [hb]at hr;cases hr
      | true=>
       rw [hb]at hr
       cases hr
       cases h1;cases h3
       refine⟨_,rfl,fun hE hg hw K hK=>?_⟩
       obtain⟨e1,e2⟩:=Ae hE
       obtain⟨e3,e4⟩:=Ae e2
       have hq:0≤j∧j<(l.length:Int):=δ5 (DU hg e4 _ (by simp))
       have hj:j=((j.toNat:Nat):Int):=by omega
       have h5:=h2 e1 hg
       have h6:=h4 e3 hg
       rw [hj]at h6
       exact jQ hw h5 h6 (Po (Tb.at hX hf) hb) (b:=l.getD j.toNat 0) (by
        have BU:j.toNat<l.length:=by omega
        simp [List.getD,BU]) hK
     ·cases hr
    ·cases hr
   ·cases h
  ·cases h
 ·next t x lo hi mx=>
  split at h
  ·split at h
   ·next y F aa F1 bb D hy ha aH=>
    split at h
    ·next r q hr=>
     cases h
     obtain⟨v,h1,h2⟩:=A.evx hy
     unfold ZX at hr
     split at hr
     ·next i m c=>
      split at hr
      ·next f hf=>
       split at hr
       ·next e s bb he=>
        obtain⟨ie,z,f1,f2,f3,f4,f5,f6,f7⟩:=Cp (DJ (Tb.at hX hf) he)
        have D7:(P.info? e).map (·.size)=some s:=by rw [f2];simp [f4]
        unfold den at h1
        split at h1
        ·next p hp=>
         cases h1
         split at hr
         ·next k1=>
          cases hr
          obtain⟨x1,rfl,ZC⟩:=FW A ha
          have:=FX aH
          subst this
          refine⟨_,by unfold den;rw [hp],fun hE hg hw K hK=>Ad hw ?_ hK⟩
          obtain⟨e1,e2⟩:=Ae hE
          obtain⟨e3,e4⟩:=Ae e2
          obtain⟨e5,e6⟩:=Ae e4
          have hq:0≤k1∧k1≤(m:Int):=δ5 (DU hg e6 _ (by simp))
          have h5:=h2 e1 hg
          have h6:=ZC e3 hg
          have Qn:(Instr.sliceBounds true m (c+rm p) (some (.int .i64 k1)) none none).run P w=.ok (k1.toNat,m,c+rm p) w:=by
           simp [Instr.sliceBounds,μ0 (P:=P) w .i64 k1 m _ (by omega) (by omega)]
          unfold execOp
          simp only [h5,h6,δ0,κ7,Instr.sliceAt,Instr.slice,γ4,ε2 f1,Qn,α9,DX D7,γ6]
          cases p with
          |none=>simp
          |some L=>by_cases hc:c+rm (some L)=k1.toNat<;>simp [hc,ζ3]
         ·next k1=>
          cases CJ:xP (lg H i) c with
          |false=>rw [CJ]at hr;cases hr
          |true=>
          rw [CJ]at hr
          cases hr
          obtain⟨x1,rfl,ZC⟩:=FW A aH
          have:=FX ha
          subst this
          refine⟨_,by unfold den;rw [hp],fun hE hg hw K hK=>Ad hw ?_ hK⟩
          obtain⟨e1,e2⟩:=Ae hE
          obtain⟨e3,e4⟩:=Ae e2
          obtain⟨e5,e6⟩:=Ae e4
          have hq:0≤k1∧k1≤(Xk (lg H i) c:Int):=δ5 (DU hg e6 _ (by simp))
          have AaI:Xk (lg H i) c≤c+rm p:=by
           unfold Xk
           split
           ·next er sr mr cr fr J6=>
            rw [J6]at CJ
            have q2:=α5 CJ
            rw [At]at J6
            obtain⟨_,_,xs,_,_,g5⟩:=A.mem.ent i _ J6
            rw [hp]at g5
            simp only [δ2]at g5
            rcases g5 with⟨_,g5⟩|⟨g,cap,cur,c1,_,_,c4,_⟩
            ·omega
            ·cases p with
             |none=>cases c1
             |some L=>simp only [δ0,θ8]at c1;omega
           ·omega
          have Qn:(Instr.sliceBounds true m (c+rm p) none (some (.int .i64 k1)) none).run P w=.ok (0,k1.toNat,c+rm p) w:=by
           simp [Instr.sliceBounds,μ0 (P:=P) w .i64 k1 (c+rm p) _ (by omega) (by omega)]
          have h5:=h2 e1 hg
          have h6:=ZC e5 hg
          unfold execOp
          simp only [h5,h6,δ0,κ7,Instr.sliceAt,Instr.slice,γ4,ε2 f1,Qn,α9,DX D7,γ6]
          cases p with
          |none=>simp
          |some L=>simp [ζ3]
         ·cases hr
        ·cases h1
       ·cases hr
      ·cases hr
     ·next l=>
      split at hr
      ·next f hf=>
       cases hb:f.isS with
       |false=>rw [hb]at hr;cases hr
       | true=>
        rw [hb]at hr
        simp only [θ5]at hr
        have iD:=Po (Tb.at hX hf) hb
        cases h1
        split at hr
        ·next k1=>
         cases hr
         obtain⟨x1,rfl,ZC⟩:=FW A ha
         have:=FX aH
         subst this
         refine⟨_,rfl,fun hE hg hw K hK=>?_⟩
         obtain⟨e1,e2⟩:=Ae hE
         obtain⟨e3,e4⟩:=Ae e2
         obtain⟨e5,e6⟩:=Ae e4
         have hq:0≤k1∧k1≤(l.length:Int):=δ5 (DU hg e6 _ (by simp))
         have hj:k1=((k1.toNat:Nat):Int):=by omega
         have h6:=ZC e3 hg
         rw [hj]at h6
         exact Xb hw (h2 e1 hg) h6 iD (by omega) hK
        ·next k1=>
         cases hr
         obtain⟨x1,rfl,ZC⟩:=FW A aH
         have:=FX ha
         subst this
         refine⟨_,rfl,fun hE hg hw K hK=>?_⟩
         obtain⟨e1,e2⟩:=Ae hE
         obtain⟨e3,e4⟩:=Ae e2
         obtain⟨e5,e6⟩:=Ae e4
         have hq:0≤k1∧k1≤(l.length:Int):=δ5 (DU hg e6 _ (by simp))
         have hj:k1=((k1.toNat:Nat):Int):=by omega
         have h6:=ZC e5 hg
         rw [hj]at h6
         exact Xc hw (h2 e1 hg) h6 iD (by omega) hK
        ·next k1 k2=>
         cases hr
         obtain⟨x1,rfl,ZC⟩:=FW A ha
         obtain⟨x2,rfl,o9⟩:=FW A aH
         refine⟨_,rfl,fun hE hg hw K hK=>?_⟩
         obtain⟨e1,e2⟩:=Ae hE
         obtain⟨e3,e4⟩:=Ae e2
         obtain⟨e5,e6⟩:=Ae e4
         have hq:0≤k1∧k1≤k2∧k2≤(l.length:Int):=δ5 (DU hg e6 _ (by simp))
         have Jj:k1=((k1.toNat:Nat):Int):=by omega
         have Lo:k2=((k2.toNat:Nat):Int):=by omega
         have h6:=ZC e3 hg
         have h7:=o9 e5 hg
         rw [Jj]at h6
         rw [Lo]at h7
         exact Xd hw (h2 e1 hg) h6 h7 iD (by omega) (by omega) hK
        ·cases hr
      ·cases hr
     ·split at hr
      ·next f hf=>
       split at hr
       ·next m e s q' Qo Pc=>
        split at hr
        ·cases hr
        ·next m0=>
        cases hr
        have:=FX ha
        subst this
        have:=FX aH
        subst this
        refine⟨_,by unfold den;rw [h1],fun hE hg hw K hK=>Ad hw ?_ hK⟩
        obtain⟨e1,e2⟩:=Ae hE
        obtain⟨e3,e4⟩:=Ae e2
        obtain⟨e5,e6⟩:=Ae e4
        obtain⟨b,o,rfl⟩:=Kn A Pc h1 (DU hg e6)
        obtain⟨hu,D7⟩:=Dh (NG (Tb.at hX hf) Qo)
        have h5:=h2 e1 hg
        have Qn:(Instr.sliceBounds false (m0+1) (m0+1) none none none).run P w=.ok (0,m0+1,m0+1) w:=by simp [Instr.sliceBounds]
        unfold execOp
        simp only [h5,κ7,Instr.sliceAt,γ4,ε2 hu,Instr.sureAddr,γ6,Qn,α9,DX D7]
        simp [jT,ζ3]
       ·cases hr
      ·cases hr
    ·cases h
   ·cases h
  ·cases h
 ·next op t x y t2=>
  split at h
  ·next u E1 v E2 hx hy=>
   split at h
   ·next r D hr=>
    cases h
    obtain⟨u',h1,h2⟩:=A.evx hx
    obtain⟨v',h3,h4⟩:=A.evx hy
    obtain⟨z,hz,k⟩:=UO hX hr h1 h3 x y w
    refine⟨z,hz,fun hE hg hw K hK=>?_⟩
    obtain⟨e1,e2⟩:=Ae hE
    obtain⟨e3,e4⟩:=Ae e2
    exact MR hw (h2 e1 hg) (h4 e3 hg) (k (DU hg e4)) hK
   ·cases h
  ·cases h
 ·split at h
  ·next s t x y F hy=>
   split at h
   ·next r hr=>
    cases h
    obtain⟨v,h1,h2⟩:=A.evx hy
    unfold ZY at hr
    split at hr
    ·next k m=>
     split at hr
     ·next i j hi hj=>
      split at hr
      ·next k1 k2 SN FC=>
       cases hb:k==k1 with
       |false=>rw [hb]at hr;cases hr
       |true=>
        rw [hb]at hr
        cases hr
        have:=ξ4 hb
        subst this
        cases h1
        refine⟨_,rfl,fun hE hg hw K hK=>Ad hw ?_ hK⟩
        have h3:=h2 hE hg
        unfold execOp
        simp only [h3,γ4]
        simp [convert,ε2 (UN (Tb.at hX hi) SN),ε2 (UN (Tb.at hX hj) FC),Conv.intToInt]
      ·cases hr
     ·cases hr
    ·cases hr
   ·cases h
  ·cases h
 ·split at h
  ·next c x y F hc=>
   split at h
   ·next u D hx=>
    cases h
    obtain⟨k,h1,h2⟩:=A.evx hc
    obtain⟨v,h3,h4⟩:=A.evx hx
    cases h1
    exact⟨v,h3,fun hE hg hw K hK=>XZ hw (h2 (Ae hE).1 hg) (h4 (Ae hE).2 hg) hK⟩
   ·cases h
  ·next c x y F hc=>
   split at h
   ·next u D hx=>
    cases h
    obtain⟨k,h1,h2⟩:=A.evx hc
    obtain⟨v,h3,h4⟩:=A.evx hx
    cases h1
    exact⟨v,h3,fun hE hg hw K hK=>Xa hw (h2 (Ae hE).1 hg) (h4 (Ae hE).2 hg) hK⟩
   ·cases h
  ·next c x y b F hc=>
   split at h
   ·next p q hp hq=>
    split at h
    next u F1 v D h1 h2=>
    split at h
    ·next r hr=>cases h;exact UT A hc hp hq h1 h2 hr
    ·cases h
   ·cases h
  ·cases h
 ·next t parts=>
  split at h
  ·next i ps F hi hp=>
   split at h
   ·next z f fs hz hf=>
    split at h
    ·next cs hc=>
     cases h
     have ht:=Tb.at hX hi
     obtain⟨zv,m,h1,h2⟩:=NF ht hz
     obtain⟨vs,h3,h4,h5,h6⟩:=JJ A hp
     have u6:AO G z=some zv.cells.toList:=h2 G
     obtain⟨e1,e2⟩:=Jm parts.toList vs h5
     obtain⟨zs,h7,h8⟩:=Ko (us:=(parts.toList.map (·.1)).zip vs) hc u6 (by rw [e1,h3]) (by rw [e2];exact h4)
     refine⟨.agg zs.toArray,by simp [den,h7],fun hE hg hw K hK=>?_⟩
     have h9:=h6 hE hg
     refine XY (vs:=(parts.toList.map (·.1)).zip vs) hw ?_ h1 (jU ht (by rw [hf];simp)) (by simpa using h8) hK
     rw [←h9]
     simp only [Array.toList_map]
     exact Fu a.eval parts.toList
    ·cases h
   ·next z hz hf=>
    split at h
    ·next m e s Qo=>
     split at h
     ·next cs hc=>
      cases h
      have ht:=Tb.at hX hi
      obtain⟨zv,m',h1,h2⟩:=NF ht hz
      obtain⟨vs,h3,h4,h5,h6⟩:=JJ A hp
      have u6:AO G z=some zv.cells.toList:=h2 G
      obtain⟨e1,e2⟩:=Jm parts.toList vs h5
      obtain⟨zs,h7,h8⟩:=Kp (us:=(parts.toList.map (·.1)).zip vs) hc u6 (by rw [e1,h3]) (by rw [e2];exact h4)
      refine⟨.agg zs.toArray,by simp [den,h7],fun hE hg hw K hK=>Ad hw ?_ hK⟩
      have h9:=h6 hE hg
      have uF:=(zero_of_info h1).1 w
      have FD:(parts.map fun x=>(x.1,a.eval x.2)).toList=(parts.toList.map (·.1)).zip vs:=by
       rw [←h9]
       simp only [Array.toList_map]
       exact Fu a.eval parts.toList
      obtain⟨hu,D7⟩:=Dh (NG ht Qo)
      unfold execOp
      simp only [γ4,Instr.build,uF,α9,ε2 hu,DX D7]
      erw [FD]
      simp at h8
      simp only [h8,γ6,α9]
     ·cases h
    ·cases h
   ·cases h
  ·cases h
 ·split at h
  ·next first cap f l F hf hl=>
   cases h
   obtain⟨vs,h1,h2⟩:=KO A hl
   exact⟨.func (.func f) #[] vs.toArray,by simp [den,h1],fun hE hg hw K hK=>kA hw hf (h2 hE hg) hK⟩
  ·cases h
 ·next c=>
  obtain⟨callee,args,ats⟩:=c
  simp only at h
  split at h
  ·next x t ha ht=>
   have e1:args= #[x]:=by have:=congrArg List.toArray ha;simpa using this
   have e2:ats= #[t]:=by have:=congrArg List.toArray ht;simpa using this
   subst e1;subst e2
   split at h
   ·next y F hy=>
    split at h
    ·next r hr=>
     cases h
     obtain⟨v,h1,h2⟩:=A.evx hy
     unfold j9 at hr
     split at hr
     ·split at hr
      ·next i hi=>
       cases hb:i.isS with
       |false=>rw [hb]at hr;cases hr
       |true=>rw [hb]at hr;cases hr;cases h1;exact⟨_,rfl,fun hE hg hw K hK=>a6 hw (h2 hE hg) (Po (Tb.at hX hi) hb) hK⟩
      ·cases hr
     ·split at hr
      ·next i hi=>
       split at hr
       ·next q hq=>
        obtain⟨e,s,bb⟩:=q
        cases hr;cases h1
        have hs:sliceB P t e s=true:=by have:=DJ (Tb.at hX hi) hq;unfold Et at this;rw [α3,α3]at this;exact this.1.1
        exact⟨_,rfl,fun hE hg hw K hK=>Qw hw (h2 hE hg) hs ⟨_,_,rfl⟩ hK⟩
       ·cases hr
      ·cases hr
     ·split at hr
      ·next i hi=>
       split at hr
       ·next q hq=>
        obtain⟨e,s,bb⟩:=q
        cases hr
        have hs:sliceB P t e s=true:=by have:=DJ (Tb.at hX hi) hq;unfold Et at this;rw [α3,α3]at this;exact this.1.1
        unfold den at h1
        split at h1
        ·cases h1;exact⟨_,rfl,fun hE hg hw K hK=>Qw hw (h2 hE hg) hs ⟨_,_,rfl⟩ hK⟩
        ·cases h1
       ·cases hr
      ·cases hr
     ·split at hr
      ·next i hi=>
       split at hr
       ·next q hq=>
        obtain⟨e,s,bb⟩:=q
        cases hr
        have hs:sliceB P t e s=true:=by have:=DJ (Tb.at hX hi) hq;unfold Et at this;rw [α3,α3]at this;exact this.1.1
        unfold den at h1
        split at h1
        ·cases h1;exact⟨_,rfl,fun hE hg hw K hK=>Qw hw (h2 hE hg) hs ⟨_,_,rfl⟩ hK⟩
        ·cases h1
       ·cases hr
      ·cases hr
     ·split at hr
      ·next i hi=>
       split at hr
       ·next q hq=>
        obtain⟨e,s,bb⟩:=q
        cases hr
        have hs:sliceB P t e s=true:=by have:=DJ (Tb.at hX hi) hq;unfold Et at this;rw [α3,α3]at this;exact this.1.1
        unfold den at h1
        split at h1
        ·cases h1;exact⟨_,rfl,fun hE hg hw K hK=>Qw hw (h2 hE hg) hs ⟨_,_,rfl⟩ hK⟩
        ·cases h1
       ·cases hr
      ·cases hr
     ·cases hr
    ·cases h
   ·cases h
  ·cases h
 ·split at h
  ·split at h
   ·split at h<;>cases h
   ·cases h
  ·cases h
 ·split at h
  ·split at h
   ·split at h<;>cases h
   ·cases h
  ·cases h
 ·(repeat' (split at h))<;>(cases h;done)
 ·(repeat' (split at h))<;>(cases h;done)
 ·cases h
end
inductive Gd where
 |run
 |skip
 |sym (b:Bool)
def Av (ops:ah) (T:List (Nat×SV)):Option (Nat×Bool)→Option Gd
 |none=>some .run
 | some (j,c)=>match Ki ops j with
  | some t=>match look T t with
   |some .tt=>bif c then some .run else some .skip
   |some .ff=>bif c then some .skip else some .run
   |some (.bool b)=>some (.sym (bif c then b else !b))
   |some (.opt g x)=>match x with
    | .tt=>bif c then some (.sym g)else some .skip
    | .ff=>bif c then some .skip else some (.sym g)
    | .bool p=>some (.sym (g&&(bif c then p else !p)))
    |_=>none
   |some (.tup [])=>some .skip
   |_=>none
  |none=>none
def DY (X:Tx)(n:Nat)(ops:ah)(T:List (Nat×SV))(H:Hp)(o:Oper):Option Out:=match DF n o.dst with
 | true=>match Av ops T o.guard with
  |some .run=>US X T H none o.op
  |some .skip=>some (.val (.tup []) [])
  |some (.sym b)=>match US X T H (some b) o.op with
   |some (.val x E)=>some (.val (.opt b x) E)
   |_=>none
  |none=>none
 |false=>none
def BN (T:List (Nat×SV)):Option Nat→SV→List (Nat×SV)
 |some d,x=>(d,x)::T
 |none,_=>T
def CE {α:Type}:List α→Nat→α→List α
 | [],_,_=>[]
 |_::l,0,x=>x::l
 |y::l,k+1,x=>y::CE l k x
theorem Aw {α:Type}:∀(l:List α) (k:Nat) (x:α),CE l k x=l.set k x
 | [],_,_=>rfl
 |_::_,0,_=>rfl
 |y::l,k+1,x=>by simp [CE,Aw l k x]
def Sg (T:List (Nat×SV))(H:Hp)(d:Option Nat):Out→List (Nat×SV)
 | .val x _=>BN T d x
 | .new _ _ x=>BN T d x
 | .upd _ _ _=>BN T d (.tup [])
def Lw (H:Hp):Out→Hp
 | .val _ _=>H
 | .new _ e _=>H++[some e]
 | .upd i cs _=>CE H i (some (.blk cs))
def OV:Out→Ob
 | .val _ E=>E
 | .new _ _ _=>[]
 | .upd _ _ E=>E
section
variable {P:Program}{X:Tx}{ops:ah}{n:Nat}{T:List (Nat×SV)}{H:Hp}{ks:ae}{G0:Gr}{w0:World}{G:Gr}{a:Act}{w w':World}{Q:ab}{o:Oper}{rest:ai}
theorem DN (h:BY P ops o a w fun v w'=>wpList P ops Q rest (a.put o.dst v) w'):wpList P ops Q (o::rest) a w:=by
 refine wpList_step fun K hK=>?_
 rcases h with⟨hw,h⟩|⟨hw,h⟩
 ·rw [if_pos hw]
  refine κ4 (fun a' w' h=>?_) (h Q)
  obtain⟨v,rfl,hk⟩:=h
  exact hK _ _ hk
 ·rw [if_neg (by rw [hw];simp)]
  exact hK _ _ h
theorem Sy.put (A:Sy n T H ks G0 w0 G a w){d:Option Nat}(hd:DF n d=true){x:SV}{v:Value}(hx:den G x=some v):Sy n (BN T d x) H ks G0 w0 G (a.put d v) w:=by
 cases d with
 |none=>exact A
 | some d=>
  have uG:d<n:=by simpa [DF]using hd
  refine⟨by simp [Act.put,A.size],by simp [Act.put,A.defers],fun t y hy=>?_,A.mem,A.pre,A.own,A.mix⟩
  have hs:d<a.tmps.size:=by rw [A.size];exact uG
  simp only [BN,look]at hy
  cases hb:Nat.beq d t with
  |true=>
   rw [hb]at hy
   cases hy
   have:=α5 hb
   subst this
   simp [Act.put,hs,hx]
  |false=>
   rw [hb]at hy
   have Bw:d≠t:=fun e=>by subst e;simp at hb
   simp only [Act.put,β5]
   rw [η7 Bw,←β5]
   exact A.get t y hy
theorem Sy.grew (A:Sy n T H ks G0 w0 G a w)(T9:By w w'):Sy n T H ks G0 w0 G a w':=
 ⟨A.size,A.defers,A.get,⟨A.mem.len,fun i e h=>(A.mem.ent i e h).mix T9.mix (fun _ L _=>rfl),A.mem.sep⟩,A.pre,A.own,A.mix.grow T9⟩
theorem Sy.slotEq (A:Sy n T H ks G0 w0 G a w)(t:Nat){x y:SV}(hx:look T t=some x)(hd:den G y=den G x):Sy n ((t,y)::T) H ks G0 w0 G a w:=
 ⟨A.size,A.defers,fun q z hz=>by
  unfold look at hz
  cases hb:Nat.beq t q with
  |true=>rw [hb]at hz;cases hz;have:=α5 hb;subst this;rw [hd];exact A.get t x hx
  |false=>rw [hb]at hz;exact A.get q z hz,A.mem,A.pre,A.own,A.mix⟩
theorem Sy.addE (A:Sy n T H ks G0 w0 G a w) {p:Option Loc} {en:BZ} (SO:Ag G w p en)
  (hs:∀(i:Nat) (e:BZ) (L M:Loc),H[i]?=some (some e)→G[i]?=some (some L)→p=some M→(¬e.empty∧en.mut=true)∨(e.mut=true∧¬en.empty)→L.b≠M.b)
  (ho:en.mut=true→∀L:Loc,p=some L→ks.contains L.b=true∨w0.heap.size≤L.b):Sy n T (H++[some en]) ks G0 w0 (G++[p]) a w:=by
 have hlen:=A.mem.len
 have hold:∀(i:Nat) (x:BZ),(H++[some en])[i]?=some (some x)→((G++[p])[i]?=G[i]?∧H[i]?=some (some x))∨(i=H.length∧(G++[p])[i]?=some p∧x=en):=by
  intro i x h
  by_cases hi:i<H.length
  ·rw [α2 hi]at h;exact .inl ⟨α2 (by omega),h⟩
  ·rw [α1 (by omega)]at h
   have hl:=(α0.1 h).1
   have e:i=H.length:=by simp at hl;omega
   subst e
   simp at h
   exact .inr ⟨rfl,by rw [α1 (by omega),hlen];simp,h.symm⟩
 refine⟨A.size,A.defers,fun q x hx=>Ax _ x (A.get q x hx),⟨by simp [hlen],?_,?_⟩,?_,?_,A.mix⟩
 ·intro i x h
  rcases hold i x h with⟨h1,h2⟩|⟨rfl,h1,rfl⟩<;>rw [h1]
  ·exact(A.mem.ent i x h2).more _
  ·exact SO.more _
 ·intro i j x y M N Ge h1 h2 h3 h4 h5 h6
  rcases hold i x h1 with⟨k1,k2⟩|⟨rfl,k1,rfl⟩<;>rw [k1]at h4<;>rcases hold j y h2 with⟨q1,q2⟩|⟨rfl,q1,rfl⟩<;>rw [q1]at h5
  ·exact A.mem.sep i j x y M N Ge k2 q2 h3 h4 h5 h6
  ·cases h5;exact hs i x M N k2 h4 U (.inr ⟨h3,h6⟩)
  ·cases h4;exact fun z=>hs j y N M q2 h5 U (.inl ⟨h6,h3⟩) z.symm
  ·exact absurd U Ge
 ·obtain⟨F,hF⟩:=A.pre;exact⟨F++[p],by rw [hF,γ2]⟩
 ·intro i x M h1 h2 h3
  rcases hold i x h1 with⟨k1,k2⟩|⟨rfl,k1,rfl⟩<;>rw [k1]at h3
  ·exact A.own i x M k2 h2 h3
  ·cases h3;exact ho h2 M U
theorem Sy.apart (A:Sy n T H ks G0 w0 G a w){b:Nat}(h1:b<w0.heap.size)(h2:ks.contains b=false){i:Nat}{e:BZ}{L:Loc}(hi:H[i]?=some (some e))(hL:G[i]?=some (some L))(hm:e.mut=true):L.b≠b:=fun h=>by
 rcases A.own i e L hi hm hL with h7|h7
 ·rw [h,h2]at h7;cases h7
 ·rw [h]at h7;omega
theorem Sy.old (A:Sy n T H ks G0 w0 G a w){i:Nat}{e:BZ}{L:Loc}(hi:H[i]?=some (some e))(hL:G[i]?=some (some L))(Bw:¬e.empty):L.b<w.heap.size:=by
 have:=A.mem.ent i e hi
 rw [hL]at this
 exact Ag.lt this Bw
theorem Sy.noRow (A:Sy n T H ks G0 w0 G a w)(e s:Nat)(f:Nat→List SV)(Be:∀k,∃vs,AO [] (f k)=some vs∧vs.length=s):Sy n T (H++[some (.row e s 0 0 f)]) ks G0 w0 (G++[none]) a w:=
 A.addE ⟨Be,fun L h=>(by cases h),[],rfl,by simp,.inl ⟨rfl,rfl⟩⟩ (fun _ _ _ _ _ _ h=>by cases h) fun _ _ h=>by cases h
theorem Sy.newBlk (A:Sy n T H ks G0 w0 G a w){g:Nat}{t:TypeId}{en:BZ}(hg:g=w.heap.size)(T9:By w w')(SO:Ag G w' (some ⟨g,[],[],t⟩) en)(aI:en.mut=true):
  Sy n T (H++[some en]) ks G0 w0 (G++[some ⟨g,[],[],t⟩]) a w':=
 (A.grew T9).addE SO (fun i e L M h1 h2 h3 h=>by
  cases h3
  have:L.b<w.heap.size:=h.elim (fun q=>A.old h1 h2 q.1) fun q=>A.old h1 h2 (BI q.1)
  simp only;omega) fun _ L h=>by cases h;right;simp only;rw [hg];exact A.mix.size
theorem Sy.turn (A:Sy n T H ks G0 w0 G a w){i:Nat}{cs cs':List SV}{L:Loc}{vs':aj}(hi:H[i]?=some (some (.blk cs)))(hL:G[i]?=some (some L))(hu:XW L.b w w')(hv:AO G cs'=some vs')(hb:D3 w' L.b (L.pre++vs'++L.post).toArray L.t):
  Sy n T (CE H i (some (.blk cs'))) ks G0 w0 G a w':=by
 have IA:i<H.length:=(α0.1 hi).1
 have hold:∀(j:Nat) (e:BZ),(CE H i (some (.blk cs')))[j]?=some (some e)→(j≠i∧H[j]?=some (some e))∨(j=i∧e=.blk cs'):=by
  intro j e h
  rw [Aw]at h
  by_cases hj:j=i
  ·subst hj;rw [γ7 IA]at h;cases h;exact .inr ⟨rfl,rfl⟩
  ·rw [γ0 (ε9 hj)]at h;exact .inl ⟨hj,h⟩
 refine⟨A.size,A.defers,A.get,⟨by rw [Aw];simpa using A.mem.len,?_,?_⟩,A.pre,?_,A.mix.upd hu (A.own i _ L hi U hL)⟩
 ·intro j e h
  rcases hold j e h with⟨k1,k2⟩|⟨rfl,rfl⟩
  ·refine(A.mem.ent j e k2).mix hu.mix fun Bw M hM=>?_
   have u7:G[j]?=some (some M):=by
    cases hq:G[j]? with
    |none=>rw [hq]at hM;cases hM
    |some p=>rw [hq]at hM;simp at hM;rw [hM]
   have:=A.mem.sep i j _ e L M (ε9 k1) hi k2 U hL u7 Bw
   simp;exact fun e=>this e.symm
  ·rw [hL];exact⟨L,vs',rfl,hv,hb⟩
 ·intro j k e f M N Eb h1 h2 h3 h4 h5 h6
  have a1:∃e',H[j]?=some (some e')∧e'.mut=e.mut:=by
   rcases hold j e h1 with⟨_,k2⟩|⟨rfl,rfl⟩
   ·exact⟨e,k2,rfl⟩
   ·exact⟨_,hi,rfl⟩
  have a2:∃e',H[k]?=some (some e')∧¬e'.empty:=by
   rcases hold k f h2 with⟨_,k2⟩|⟨rfl,rfl⟩
   ·exact⟨f,k2,h6⟩
   ·exact⟨_,hi,fun h=>h⟩
  obtain⟨e',b1,b2⟩:=a1
  obtain⟨f',b3,b4⟩:=a2
  exact A.mem.sep j k e' f' M N Eb b1 b3 (by rw [b2];exact h3) h4 h5 b4
 ·intro j e M h1 h2 h3
  rcases hold j e h1 with⟨_,k2⟩|⟨rfl,rfl⟩
  ·exact A.own j e M k2 h2 h3
  ·exact A.own j _ M hi U h3
theorem A7 {gd:Option (Nat×Bool)}(A:Sy n T H ks G0 w0 G a w)(h:Av ops T o.guard=some .run):Region.wanted o (yielded ops a.tmps)=true:=by
 unfold Av at h
 split at h
 ·next hg=>exact wn hg
 ·next j c hg=>
  split at h
  ·next t ht=>
   split at h
   ·next hx=>cases c with
    |true=>have:=A.get t _ hx;simp only [den,β1]at this;exact wy hg ht this.symm
    |false=>cases h
   ·next hx=>cases c with
    |true=>cases h
    |false=>have:=A.get t _ hx;simp only [den,β1]at this;exact wy hg ht this.symm
   ·cases h
   ·split at h<;>(cases c<;>cases h)
   ·cases h
   ·cases h
  ·cases h
theorem IQ (A:Sy n T H ks G0 w0 G a w){t:Nat}{g:Bool}{x:SV}{v:Value}(h:look T t=some (.opt g x))(hx:∀G,den G x=some v):a.tmps.getD t undef=bif g then v else undef:=by
 have:=A.get t _ h
 unfold den at this
 rw [hx G]at this
 exact(β6 this).symm
theorem RG (A:Sy n T H ks G0 w0 G a w)(h:Av ops T o.guard=some .skip):Region.wanted o (yielded ops a.tmps)=false:=by
 unfold Av at h
 split at h
 ·cases h
 ·next j c hg=>
  split at h
  ·next t ht=>
   split at h
   ·next hx=>cases c with
    |true=>cases h
    |false=>have:=A.get t _ hx;simp only [den,β1]at this;exact T6 hg ht (.inl this.symm)
   ·next hx=>cases c with
    |true=>have:=A.get t _ hx;simp only [den,β1]at this;exact T6 hg ht (.inl this.symm)
    |false=>cases h
   ·cases h
   ·next g x hx=>
    split at h
    ·cases c with
     |true=>cases h
     |false=>
      have:=IQ A hx (v:=.bool true) (fun _=>rfl)
      cases g with
      |true=>exact T6 hg ht (.inl this)
      |false=>exact T6 hg ht (.inr this)
    ·cases c with
     |true=>
      have:=IQ A hx (v:=.bool false) (fun _=>rfl)
      cases g with
      |true=>exact T6 hg ht (.inl this)
      |false=>exact T6 hg ht (.inr this)
     |false=>cases h
    ·cases h
    ·cases h
   ·next hx=>have:=A.get t _ hx;simp [den,AO]at this;exact T6 hg ht (.inr (by rw [β5,←this];rfl))
   ·cases h
  ·cases h
theorem Pr {b:Bool}(A:Sy n T H ks G0 w0 G a w)(h:Av ops T o.guard=some (.sym b)):Region.wanted o (yielded ops a.tmps)=b:=by
 unfold Av at h
 split at h
 ·cases h
 ·next j c hg=>
  split at h
  ·next t ht=>
   split at h
   ·cases c<;>cases h
   ·cases c<;>cases h
   ·next p hx=>
    cases h
    have:=A.get t _ hx
    simp only [den,β1]at this
    cases p<;>cases c<;>first|exact wy hg ht this.symm|exact T6 hg ht (.inl this.symm)
   ·next g x hx=>
    split at h
    ·cases c with
     |true=>
      cases h
      have:=IQ A hx (v:=.bool true) (fun _=>rfl)
      cases b with
      |true=>exact wy hg ht this
      |false=>exact T6 hg ht (.inr this)
     |false=>cases h
    ·cases c with
     |true=>cases h
     |false=>
      cases h
      have:=IQ A hx (v:=.bool false) (fun _=>rfl)
      cases b with
      |true=>exact wy hg ht this
      |false=>exact T6 hg ht (.inr this)
    ·next p=>
     cases h
     have:=IQ A hx (v:=.bool p) (fun _=>rfl)
     cases g with
     |true=>cases p<;>cases c<;>first|exact wy hg ht this|exact T6 hg ht (.inl this)
     |false=>exact T6 hg ht (.inr this)
    ·cases h
   ·cases h
   ·cases h
  ·cases h
theorem OW {s:Nat}:∀(ps:List (Nat×Value)) (k:Nat) (Z:Array Value),(∀j x,ps[j]?=some x→x.1=k+j∧x.2.cells.size=s)→Z.size=(k+ps.length)*s→
  Instr.fill (fun j=>some (j*s,s)) Z ps=some (Z.toList.take (k*s)++(ps.map (·.2.cells.toList)).flatten).toArray
 | [],k,Z,_,hZ=>by
  simp only [Instr.fill,ι7,List.flatten_nil,ε0]
  congr 1
  rw [ε4 (by simp at hZ⊢;omega)]
 | (i,v)::ps,k,Z,h,hZ=>by
  obtain⟨h1,h2⟩:=h 0 (i,v) U
  simp only [ι6]at h1
  subst h1
  have h2:v.cells.size=s:=h2
  simp only [β0]at hZ
  have hZ':Z.size=(i+1+ps.length)*s:=by rw [hZ];congr 1;omega
  have hmul:(i+1+ps.length)*s=i*s+s+ps.length*s:=by simp [θ6]
  rw [Instr.fill]
  simp only
  have hf:=IP (i*s) v.cells.toList 0 Z (by simp;omega)
  rw [if_neg (by simp [h2];omega)]
  have hs:(v.cells.zipIdx.foldl (fun cs (x:Value×Nat)=>cs.setIfInBounds (i*s+x.2) x.1) Z)=(Z.toList.take (i*s)++v.cells.toList++Z.toList.drop (i*s+s)).toArray:=by
   apply ν6
   rw [←σ2,ρ5]
   simpa [h2]using hf
  erw [hs]
  rw [OW ps (i+1) _ (fun j x hj=>by
   have:=h (j+1) x hj
   exact⟨by omega,this.2⟩) (by simp [h2];omega)]
  congr 2
  simp only [ζ0,List.flatten_cons,θ6,υ6]
  have hl:(Z.toList.take (i*s)++v.cells.toList).length=i*s+s:=by simp [h2];omega
  rw [κ5 (by omega),ε4 (by omega)]
  simp
theorem OX (A:Sy n T H ks G0 w0 G a w){s:Nat}:∀{l:List (Nat×Operand)} {k:Nat} {cs:List SV},Xl T s l k=some cs→∃vs:List (Nat×Value),l.map (fun x=>(x.1,a.eval x.2))=vs∧(∀j x,vs[j]?=some x→x.1=k+j∧x.2.cells.size=s)∧AO G cs=some ((vs.map (·.2.cells.toList)).flatten)
 | [],k,cs,h=>by cases h;exact⟨[],rfl,fun j x h=>(by cases h),rfl⟩
 | (i, x)::l,k,cs,h=>by
  unfold Xl at h
  cases hb:Nat.beq i k with
  |false=>rw [hb]at h;cases h
  | true=>
   rw [hb]at h
   simp only [θ5]at h
   have:=α5 hb
   subst this
   split at h
   ·next y r hy hr=>
    split at h
    ·next c hc=>
     cases UA:Nat.beq c.length s with
     |false=>rw [UA]at h;cases h
     | true=>
      rw [UA]at h
      cases h
      obtain⟨v,h1,h2⟩:=A.evx hy
      have hv:=h2 AB (fun g hg=>by cases hg)
      obtain⟨vs,e1,e2,e3⟩:=OX A hr
      have Ch:=Ed hc h1
      have Tv:=BF Ch
      refine⟨(i,v)::vs,by simp [hv,e1],fun j x hj=>?_,?_⟩
      ·cases j with
       |zero=>cases hj;exact⟨by simp,by simpa [α5 UA]using Tv⟩
       |succ j=>have:=e2 j x hj;exact⟨by omega,this.2⟩
      ·simpa using Cj Ch e3
    ·cases h
   ·cases h
theorem KQ (hX:X.ok P=true) (A:Sy n T H ks G0 w0 G a w) {gc:Option Bool} {t:TypeId} {en:BZ} {x:SV} (h:US X T H gc o.op=some (.new t en x)) (rG:Region.wanted o (yielded ops a.tmps)=true) {K:Value→World→Prop}
  (hK:∀g w' v,g=w.heap.size→By w w'→Ag G w' (some ⟨g,[],[],t⟩) en→en.mut=true→den (G++[some ⟨g,[],[],t⟩]) x=some v→K v w'):BY P ops o a w K:=by
 have PQ:∀g,(G++[some (⟨g,[],[],t⟩:Loc)])[H.length]?=some (some ⟨g,[],[],t⟩):=fun g=>by rw [α1 (by rw [A.mem.len];exact β8 _),A.mem.len];simp
 have pE:∀g,den (G++[some ⟨g,[],[],t⟩]) (.ptr H.length 0)=some (.pointer (some ⟨g,0,none⟩)):=fun g=>by unfold den;rw [PQ g];simp [rm]
 have HZ:∀{g w' cs} {vs:aj},AO G cs=some vs→D3 w' g vs.toArray t→Ag G w' (some ⟨g,[],[],t⟩) (.blk cs):=fun hv hb=>⟨_,_,rfl,hv,by simpa using hb⟩
 obtain⟨d,i,ty,pos,af,gd⟩:=o
 simp only at h
 unfold US at h
 split at h
 all_goals first|((repeat' (split at h))<;>(cases h;done))|skip
 ·next e=>
  split at h
  ·split at h
   ·next j hj=>
    split at h
    ·next z hz=>
     cases h
     obtain⟨zv,m,h1,h2⟩:=NF (Tb.at hX hj) hz
     exact XX rG h1 fun g w' a1 a2 a3=>hK g w' _ a1 a2 (HZ (h2 G) (by simpa using a3)) U (pE g)
    ·cases h
   ·cases h
  ·cases h
 ·next e x=>
  split at h
  ·split at h
   ·next y hy=>
    split at h
    ·next l hl=>
     cases h
     obtain⟨v,h1,h2⟩:=A.evx hy
     exact jM rG (h2 AB (fun g hg=>by cases hg)) fun g w' a1 a2 a3=>hK g w' _ a1 a2 (HZ (Ed hl h1) (by simpa using a3)) U (pE g)
    ·cases h
   ·cases h
  ·cases h
 ·next ts m parts=>
  split at h
  ·split at h
   ·next i cs' hi Ld=>
    split at h
    ·next e s bb he=>
     split at h
     ·next hb=>
      rw [α3]at hb
      have hm:=α5 hb.1
      have jF:=δ8 hb.2
      simp only [hi,he,Option.elim_some]at Ld
      obtain⟨vs,e1,e2,e3⟩:=OX A Ld
      have MK:=DJ (Tb.at hX hi) he
      obtain⟨ie,z,f1,f2,f3,f4,f5,f6,f7⟩:=Cp MK
      split at h
      ·next ie' yE=>
       split at h
       ·next zz hzz=>
        split at h
        ·next OE=>
         cases h
         rw [α3]at OE
         have hp:parts= #[]:=by
          have:parts.toList=[]:=γ9 hm
          have:=congrArg List.toArray this
          simpa using this
         subst hp
         obtain⟨us,u1,u2⟩:=RB OE.2
         have hzl:=α5 OE.1
         refine aX rG MK fun g w' a1 a2 a3=>hK g w' _ a1 a2 ⟨fun _=>⟨us,u1,by omega⟩,fun L hL=>(by cases hL;rfl),[],rfl,by simp,.inr ⟨g,0, #[],rfl,β7 _,a3,β8 _,by simp [maxLen],by simp,by simp⟩⟩ U ?_
         unfold den;rw [PQ g];simp [rm]
        ·cases h
       ·cases h
      ·cases h
      ·next m'=>
       cases h
       have UB:∀g,den (G++[some ⟨g,[],[],t⟩]) (.sl H.length (m'+1) (m'+1))=some (.slice (some ⟨g,0,none⟩) (m'+1) (m'+1)):=fun g=>by unfold den;rw [PQ g];simp [rm]
       refine Ad (w':=w.alloc (.cells ((vs.map fun x:Nat×Value=>x.2.cells.toList).flatten).toArray t)) rG ?_ (hK _ _ _ U ((By.refl _).alloc _) (HZ e3 (ρ4 w _)) U (UB _))
       have FO:vs.length=m'+1:=by rw [←e1];simpa using hm
       have jF:(m'+1)*s≤4000:=jF
       have pF:=OW (s:=s) vs 0 ((Array.range ((m'+1)*s)).map (z.cells[· % z.cells.size]!)) e2 (by simp [FO])
       have hr:=run_buildSlice (P:=P) w ts t (m'+1) vs.toArray ((vs.map (·.2.cells.toList)).flatten).toArray ie z f1 f2 f3 (by rw [f4];omega) (by rw [f4];simp only [Nat.mul_eq_zero];omega) (by rw [f4];simpa using pF)
       have FD:(parts.map fun x=>(x.1,a.eval x.2))=vs.toArray:=by
        apply ν6
        simpa using e1
       unfold execOp
       simp only [γ4]
       erw [FD,hr]
       simp only [α9,γ6]
     ·cases h
    ·cases h
   ·cases h
  ·cases h
theorem Di (hX:X.ok P=true) (A:Sy n T H ks G0 w0 G a w) {t:TypeId} {x y:Operand} {u v:SV} {p q:Value} {i:Nat} {cs':List SV} {D:Ob} {d:Option Tmp} {ty:TypeId} {pos:String} {af:Array Edge} {gd:Option (Nat×Bool)}
  (h:DM X H t u v=some (i,cs',D)) (hD:Dc D) (hu:den G u=some p) (hv:den G v=some q) (hx:a.eval x=p) (hy:a.eval y=q) (hw:Region.wanted {dst:=d,op:=.store t x y,type:=ty,pos:=pos,after:=af,guard:=gd} (yielded ops a.tmps)=true) {K:Value→World→Prop}
  (hK:∀cs L vs' w',H[i]?=some (some (.blk cs))→G[i]?=some (some L)→XW L.b w w'→AO G cs'=some vs'→D3 w' L.b (L.pre++vs'++L.post).toArray L.t→K undef w'):BY P ops {dst:=d,op:=.store t x y,type:=ty,pos:=pos,after:=af,guard:=gd} a w K:=by
 unfold DM at h
 split at h
 ·next i' o=>
  split at h
  ·next cs hi=>
   rw [At]at hi
   obtain⟨L,vs,e1,e2,e3⟩:=A.mem.ent i' _ hi
   have hG:G[i']?=some (some L):=by
    cases hq:G[i']? with
    |none=>rw [hq]at e1;cases e1
    |some r=>rw [hq]at e1;simp at e1;rw [e1]
   have hp:p=.pointer (some ⟨L.b,L.pre.length+o,none⟩):=by
    unfold den at hu;rw [hG]at hu;exact(β6 hu).symm
   have FO:=BF e2
   have key:∀(l:List SV) (us:aj),sp o cs l=some cs'→AO G l=some us→us.all (·.oneCell')=true→i'=i→
     (∀w',(w'=w.setCells L.b (L.pre.length+o) us)→(Instr.storeAt t p q).run P w=.ok () w')→BY P ops {dst:=d,op:=.store t x y,type:=ty,pos:=pos,after:=af,guard:=gd} a w K:=by
    intro l us hs hl Bc he PP
    subst he
    obtain⟨f1,f2⟩:=Jl hs
    have ZB:=BF hl
    have Wx:AO G cs'=some (vs.take o++us++vs.drop (o+l.length)):=by
     rw [f1];exact Cj (Cj (CO o e2) hl) (CP _ e2)
    have GH:L.pre++vs++L.post=(L.pre++vs.take o)++((vs.drop o).take l.length)++(vs.drop (o+l.length)++L.post):=by
     have:vs=vs.take o++((vs.drop o).take l.length++vs.drop (o+l.length)):=by
      rw [←μ1,θ7,θ7]
     conv=>lhs;rw [this]
     simp [γ2]
    rw [GH]at e3
    have pG:(L.pre++vs.take o).length=L.pre.length+o:=by simp;omega
    obtain⟨g1,g2⟩:=JG us ((vs.drop o).take l.length) (L.pre++vs.take o) (vs.drop (o+l.length)++L.post) w (by simp;omega) e3
    rw [pG]at g1 g2
    refine MQ (w':=w.setCells L.b (L.pre.length+o) us) hw ?_ (hK cs L _ _ hi hG g2 Wx (by simpa [γ2]using g1))
    unfold execOp
    simp only [hx,hy,γ4,PP _ U,α9,γ6]
   have FE:∀j,j<vs.length→(w.cell? ⟨L.b,L.pre.length+j,none⟩).isSome=true∧w.frozen? ⟨L.b,L.pre.length+j,none⟩=false:=by
    intro j hj
    refine⟨?_,e3.frozen _⟩
    have:(L.pre++vs++L.post).toArray[L.pre.length+j]?=some vs[j]:=by
     simp only [List.getElem?_toArray]
     rw [γ2,α1 (by omega),α2 (by omega)]
     simp [hj]
    rw [e3.cell this];rfl
   split at h
   ·next f hf=>
    have ht:=Tb.at hX hf
    split at h
    ·next m hm=>
     split at h
     ·next l=>
      cases hb:Nat.beq l.length m with
      |false=>rw [hb]at h;cases h
      | true=>
       rw [hb]at h
       simp only [θ5]at h
       have yF:=α5 hb
       split at h
       ·next r E hs ho=>
        cases h
        unfold den at hv
        obtain⟨us,k1,k2⟩:=γ8.1 hv
        have Bc:=Cq ho hD k1
        have yG:=BF k1
        obtain⟨f1,f2⟩:=Jl hs
        refine key l us hs k1 Bc U fun w' pH=>?_
        rw [hp,←k2,pH]
        have:=run_storeAt_mid (P:=P) w L.b (L.pre.length+o) t us.toArray (fun j hj=>by
         have:=FE (o+j) (by simp at hj;omega)
         rwa [←η4]at this) (by simp;rw [yG,yF];simpa using (EW (JF ht hm)).2) (by simpa using Bc)
        simpa using this
       ·cases h
     ·cases h
    ·next hm=>
     cases Bc:f.one with
     |false=>rw [Bc]at h;cases h
     | true=>
      rw [Bc]at h
      simp only [θ5]at h
      split at h
      ·next r E hs ho=>
       cases h
       have k1:AO G [v]=some [q]:=BK hv U
       have IG:=Cq ho hD k1
       obtain⟨f1,f2⟩:=Jl hs
       refine key [v] [q] hs k1 IG U fun w' pH=>?_
       rw [hp,pH]
       have:=Pi (P:=P) (v:=q) (k:=L.pre.length+o) (JE ht Bc) (by simpa using IG) e3 (by simp at f2⊢;omega)
       simpa [World.setCells]using this
      ·cases h
   ·cases h
  ·cases h
 ·cases h
theorem RH (hX:X.ok P=true) (A:Sy n T H ks G0 w0 G a w) {gc:Option Bool} {i:Nat} {cs':List SV} {E:Ob} (h:US X T H gc o.op=some (.upd i cs' E)) (hE:Dc E) (hw:Region.wanted o (yielded ops a.tmps)=true) {K:Value→World→Prop}
  (hK:∀cs L vs' w',H[i]?=some (some (.blk cs))→G[i]?=some (some L)→XW L.b w w'→AO G cs'=some vs'→D3 w' L.b (L.pre++vs'++L.post).toArray L.t→K undef w'):BY P ops o a w K:=by
 obtain⟨d,j,ty,pos,af,gd⟩:=o
 simp only at h
 unfold US at h
 split at h
 all_goals first|((repeat' (split at h))<;>(cases h;done))|skip
 next t x y=>
 split at h
 ·split at h
  ·next u E1 v E2 hx hy=>
   split at h
   ·next i2 cs2 D hs=>
    cases h
    obtain⟨e1,e2⟩:=Ae hE
    obtain⟨e3,e4⟩:=Ae e2
    have yH:KA none:=fun g hg=>by cases hg
    obtain⟨p,h1,h2⟩:=A.evx hx
    obtain⟨q,h3,h4⟩:=A.evx hy
    exact Di hX A hs e4 h1 h3 (h2 e1 yH) (h4 e3 yH) hw hK
   ·cases h
  ·cases h
 ·cases h
theorem UU (hX:X.ok P=true) (A:Sy n T H ks G0 w0 G a w) {out:Out} (h:DY X n ops T H o=some out) (hE:Dc (OV out))
  (hk:∀G' a' w',Sy n (Sg T H o.dst out) (Lw H out) ks G0 w0 G' a' w'→wpList P ops Q rest a' w'):wpList P ops Q (o::rest) a w:=by
 unfold DY at h
 have u9:KA none:=fun g hg=>by cases hg
 split at h
 ·next hd=>
  split at h
  ·next hg=>
   have hw:=A7 (gd:=none) A hg
   cases out with
   |val x E=>
    obtain⟨z,hz,k⟩:=KP (P:=P) (ops:=ops) hX A h
    exact DN (k hE u9 hw _ (hk _ _ _ (A.put hd hz)))
   |new t en x=>
    exact DN (KQ (P:=P) (ops:=ops) hX A h hw fun g w' v a1 a2 a3 a4 a5=>hk (G++[some (⟨g,[],[],t⟩:Loc)]) _ _ (Sy.put (A.newBlk a1 a2 a3 a4) hd a5))
   |upd i cs E=>
    refine DN (RH hX A h hE hw fun cs0 L vs' w' a1 a2 a3 a4 a5=>hk _ _ _ (Sy.put (A.turn a1 a2 a3 a4 a5) hd U))
  ·next hg=>
   cases h
   exact DN (FS (RG A hg) (hk _ _ _ (A.put hd U)))
  ·next b hg=>
   split at h
   ·next x E hx=>
    cases h
    have hw:=Pr A hg
    obtain⟨z,hz,k⟩:=KP (P:=P) (ops:=ops) hX A hx
    cases b with
    |true=>exact DN (k hE (fun g hg=>by cases hg;rfl) hw _ (hk _ _ _ (A.put hd (x:=.opt true x) (by simp [den,hz]))))
    |false=>exact DN (FS hw (hk _ _ _ (A.put hd (x:=.opt false x) (by simp [den,hz]))))
   ·cases h
  ·cases h
 ·cases h
end
inductive Fr where
 |thn (c:Code)
 |blk (id:Nat)
 |lp (I:Act→World→Prop)
def He (P:Program)(Q:ab):List Fr→Exit→Act→World→Prop
 | []=>Q
 | .thn c::K=>Exit.then (c.wp P (He P Q K)) (He P Q K)
 | .blk id::K=>Exit.inBlock id (He P Q K)
 | .lp I::K=>Exit.then I (He P Q K)
inductive Pos where
 |ops (all:ah) (l:ai)
 |code (c:Code)
 |norm
 |ret
def Goal (P:Program)(Q:ab)(K:List Fr):Pos→Act→World→Prop
 | .ops all l=>wpList P all (He P Q K) l
 | .code c=>c.wp P (He P Q K)
 | .norm=>He P Q K .normal
 | .ret=>Q .ret
def Kr (id:Nat):List Fr→Option (List Fr)
 | []=>none
 | .blk j::K=>bif Nat.beq id j then some K else Kr id K
 | .thn _::K=>Kr id K
 | .lp _::K=>Kr id K
theorem IR {P:Program}{Q:ab}{id:Nat}{a:Act}{w:World}:∀{K K':List Fr},Kr id K=some K'→He P Q K' .normal a w→He P Q K (.exit id) a w
 | [],K',h,_=>by cases h
 | .blk j::K,K',h,hk=>by
  unfold Kr at h
  cases hb:Nat.beq id j with
  |true=>
   rw [hb]at h;cases h
   have:=α5 hb
   subst this
   exact aV hk
  |false=>
   rw [hb]at h
   exact aW (fun e=>by subst e;simp at hb) (IR h hk)
 | .thn c::K,K',h,hk=>UH (IR (K:=K) h hk)
 | .lp I::K,K',h,hk=>UH (IR (K:=K) h hk)
theorem IS {P:Program}{Q:ab}{a:Act}{w:World}:∀{K:List Fr},Q .ret a w→He P Q K .ret a w
 | [],h=>h
 | .blk j::K,h=>jN (IS (K:=K) h)
 | .thn c::K,h=>ZU (IS (K:=K) h)
 | .lp I::K,h=>ZU (IS (K:=K) h)
structure Xn where
 T:List (Nat×SV)
 H:Hp
 K:List Fr
 pos:Pos
 E:Ob
def Xn.more (E:Ob):Xn→Xn
 |⟨T,H,K,pos,F⟩=>⟨T,H,K,pos,E++F⟩
def go (X:Tx)(n:Nat):Nat→List (Nat×SV)→Hp→List Fr→Pos→Xn
 |0,T,H,K,pos=>⟨T,H,K,pos,[]⟩
 |f+1,T,H,K,.ops all []=>go X n f T H K .norm
 | f+1,T,H,K,.ops all (o::l)=>match DY X n all T H o with
  |some out=>match OV out with
   | []=>go X n f (Sg T H o.dst out) (Lw H out) K (.ops all l)
   |E=>(go X n f (Sg T H o.dst out) (Lw H out) K (.ops all l)).more E
  |none=>⟨T,H,K,.ops all (o::l),[]⟩
 |f+1,T,H,[],.norm=>⟨T,H,[],.norm,[]⟩
 |f+1,T,H,.thn c::K,.norm=>go X n f T H K (.code c)
 |f+1,T,H,.blk _::K,.norm=>go X n f T H K .norm
 |f+1,T,H,.lp I::K,.norm=>⟨T,H,.lp I::K,.norm,[]⟩
 |f+1,T,H,K,.ret=>⟨T,H,K,.ret,[]⟩
 | f+1,T,H,K,.code c=>match c with
  | .skip=>go X n f T H K .norm
  | .label _=>go X n f T H K .norm
  | .seq a b=>go X n f T H (.thn b::K) (.code a)
  | .region _ ops false=>go X n f T H K (.ops ops ops.toList)
  | .cond x a b=>match DA T x with
   |some .tt=>go X n f T H K (.code a)
   |some .ff=>go X n f T H K (.code b)
   |_=>⟨T,H,K,.code c,[]⟩
  | .block id b=>go X n f T H (.blk id::K) (.code b)
  | .exit id=>match Kr id K with
   |some K'=>go X n f T H K' .norm
   |none=>⟨T,H,K,.code c,[]⟩
  | .ret=>⟨T,H,K,.ret,[]⟩
  |_=>⟨T,H,K,.code c,[]⟩
section
variable {P:Program}{X:Tx}{n:Nat}{ks:ae}{G0:Gr}{w0:World}{Q:ab}
def xQ (P:Program)(Q:ab)(n:Nat)(ks:ae)(G0:Gr)(w0:World)(T:List (Nat×SV))(H:Hp)(K:List Fr)(pos:Pos):Prop:=∀G a w,Sy n T H ks G0 w0 G a w→Goal P Q K pos a w
theorem Dq (hX:X.ok P=true):∀(f:Nat) (T:List (Nat×SV)) (H:Hp) (K:List Fr) (pos:Pos),Dc (go X n f T H K pos).E→xQ P Q n ks G0 w0 (go X n f T H K pos).T (go X n f T H K pos).H (go X n f T H K pos).K (go X n f T H K pos).pos→xQ P Q n ks G0 w0 T H K pos
 |0,T,H,K,pos,_,h=>h
 |f+1,T,H,K,.ops all [],hE,h=>by
  unfold go at hE h
  have:=Dq hX f T H K .norm hE h
  exact fun G a w A=>jL (P:=P) (ops:=all) (this G a w A)
 | f+1,T,H,K,.ops all (o::l),hE,h=>by
  unfold go at hE h
  cases hs:DY X n all T H o with
  |none=>rw [hs]at h;exact h
  | some out=>
   simp only [hs]at hE h
   cases ho:OV out with
   |nil=>
    simp only [ho]at hE h
    have:=Dq hX f _ _ K (.ops all l) hE h
    exact fun G a w A=>UU hX A hs (by rw [ho];rfl) fun G' a' w' A'=>this G' a' w' A'
   |cons e E=>
    simp only [ho,Xn.more]at hE h
    have yI:=Ae hE
    have:=Dq hX f _ _ K (.ops all l) yI.2 h
    exact fun G a w A=>UU hX A hs (by rw [ho];exact yI.1) fun G' a' w' A'=>this G' a' w' A'
 |f+1,T,H,[],.norm,_,h=>h
 |f+1,T,H,.thn c::K,.norm,hE,h=>by
  unfold go at hE h
  exact fun G a w A=>aT (Q:=He P Q K) (Dq hX f T H K (.code c) hE h G a w A)
 |f+1,T,H,.blk id::K,.norm,hE,h=>by
  unfold go at hE h
  exact fun G a w A=>aU (id:=id) (Q:=He P Q K) (Dq hX f T H K .norm hE h G a w A)
 |f+1,T,H,.lp I::K,.norm,_,h=>h
 |f+1,T,H,K,.ret,_,h=>by cases K<;>exact h
 | f+1,T,H,K,.code c,hE,h=>by
  unfold go at hE h
  cases c with
  |skip=>exact fun G a w A=>wp_skip (Dq hX f T H K .norm hE h G a w A)
  |label l=>exact fun G a w A=>wp_label (Dq hX f T H K .norm hE h G a w A)
  |seq x y=>exact fun G a w A=>wp_seq (Dq hX f T H (.thn y::K) (.code x) hE h G a w A)
  |region id ops dr=>
   cases dr with
   |false=>exact fun G a w A=>wp_region_list (Dq hX f T H K (.ops ops ops.toList) hE h G a w A)
   |true=>exact h
  |cond x y z=>
   simp only at hE h
   split at h
   ·next hx=>rw [hx]at hE;exact fun G a w A=>wp_cond_true (by have:=A.ev hx;simp only [den,β1]at this;exact this.symm) (Dq hX f T H K (.code y) hE h G a w A)
   ·next hx=>rw [hx]at hE;exact fun G a w A=>wp_cond_false (by have:=A.ev hx;simp only [den,β1]at this;exact this.symm) (Dq hX f T H K (.code z) hE h G a w A)
   ·exact h
  |block id b=>exact fun G a w A=>wp_block (Dq hX f T H (.blk id::K) (.code b) hE h G a w A)
  |exit id=>
   simp only at hE h
   split at h
   ·next K' hK=>rw [hK]at hE;exact fun G a w A=>wp_exit (IR hK (Dq hX f T H K' .norm hE h G a w A))
   ·exact h
  |ret=>exact fun G a w A=>wp_ret (IS (h G a w A))
  |_=>exact h
end
def li {α:Type}(n i:Nat)(k:Nat→α)(e:α):α:=bif Nat.beq n i then k i else e
theorem kB {α:Type}(n i:Nat)(k:Nat→α):li n i k (k n)=k n:=by
 unfold li
 cases h:Nat.beq n i with
 |true=>rw [α5 h];rfl
 |false=>rfl
def lit {α:Type}(n:Nat)(k:Nat→α):α:=li n 0 k (li n 1 k (li n 2 k (li n 3 k (li n 4 k (li n 5 k (li n 6 k (li n 7 k (li n 8 k (li n 9 k (li n 10 k (li n 11 k (li n 12 k (li n 13 k (li n 14 k (li n 15 k (li n 16 k (li n 17 k (li n 18 k (li n 19 k (li n 20 k (li n 21 k (li n 22 k (li n 23 k (li n 24 k (li n 25 k (li n 26 k (li n 27 k (k n))))))))))))))))))))))))))))
theorem NM {α:Type}(n:Nat)(k:Nat→α):lit n k=k n:=by simp only [lit,kB]
mutual
def OY {α:Type}:SV→(SV→α)→α
 | .agg l,k=>Xo l fun l=>k (.agg l)
 | .tup l,k=>Xo l fun l=>k (.tup l)
 | .fn f l,k=>Xo l fun l=>k (.fn f l)
 | .opt b x,k=>OY x fun x=>k (.opt b x)
 | .ptr i o,k=>lit i fun i=>k (.ptr i o)
 | .sl i n c,k=>lit i fun i=>k (.sl i n c)
 | .el i s j o,k=>lit i fun i=>k (.el i s j o)
 | .ix p s n j o,k=>OY p fun p=>k (.ix p s n j o)
 | .sla a n c,k=>k (.sla a n c)
 | .sp p n c,k=>OY p fun p=>k (.sp p n c)
 | .st i s j n c,k=>lit i fun i=>k (.st i s j n c)
 | .int i n,k=>k (.int i n)
 | .bool b,k=>k (.bool b)
 | .tt,k=>k .tt
 | .ff,k=>k .ff
 | .str l,k=>k (.str l)
 | .v x,k=>k (.v x)
def Xo {α:Type}:List SV→(List SV→α)→α
 | [],k=>k []
 |x::l,k=>OY x fun x=>Xo l fun l=>k (x::l)
end
mutual
theorem JL {α:Type}:∀(x:SV) (k:SV→α),OY x k=k x
 | .agg l,k=>by rw [OY,Ht l]
 | .tup l,k=>by rw [OY,Ht l]
 | .fn f l,k=>by rw [OY,Ht l]
 | .opt b x,k=>by rw [OY,JL x]
 | .ptr _ _,_=>by rw [OY,NM]
 | .sl _ _ _,_=>by rw [OY,NM]
 | .el _ _ _ _,_=>by rw [OY,NM]
 | .ix p _ _ _ _,_=>by rw [OY,JL p]
 | .sla _ _ _,_=>rfl
 | .sp p _ _,_=>by rw [OY,JL p]
 | .st _ _ _ _ _,_=>by rw [OY,NM]
 | .int _ _,_=>rfl
 | .bool _,_=>rfl
 | .tt,_=>rfl
 | .ff,_=>rfl
 | .str _,_=>rfl
 | .v _,_=>rfl
theorem Ht {α:Type}:∀(l:List SV) (k:List SV→α),Xo l k=k l
 | [],_=>rfl
 |x::l,k=>by rw [Xo,JL x,Ht l]
end
def Pt {α:Type}:Hp→(Hp→α)→α
 | [],k=>k []
 |none::l,k=>Pt l fun l=>k (none::l)
 |some (.blk cs)::l,k=>Xo cs fun cs=>Pt l fun l=>k (some (.blk cs)::l)
 |some (.lst s n f)::l,k=>Pt l fun l=>k (some (.lst s n f)::l)
 |some (.fac b o)::l,k=>Pt l fun l=>k (some (.fac b o)::l)
 |some (.row e s n c xs)::l,k=>Pt l fun l=>k (some (.row e s n c xs)::l)
 |some (.buf e s n xs)::l,k=>Pt l fun l=>k (some (.buf e s n xs)::l)
theorem Gn {α:Type}:∀(l:Hp) (k:Hp→α),Pt l k=k l
 | [],_=>rfl
 |none::l,k=>by rw [Pt,Gn l]
 |some (.blk cs)::l,k=>by rw [Pt,Ht cs,Gn l]
 |some (.lst s n f)::l,k=>by rw [Pt,Gn l]
 |some (.fac b o)::l,k=>by rw [Pt,Gn l]
 |some (.row e s n c xs)::l,k=>by rw [Pt,Gn l]
 |some (.buf e s n xs)::l,k=>by rw [Pt,Gn l]
def qO {α:Type}:Hp→Option BZ→(Hp→α)→α
 | [],e,k=>k [e]
 |x::l,e,k=>qO l e fun l=>k (x::l)
theorem UV {α:Type}(e:Option BZ):∀(l:Hp) (k:Hp→α),qO l e k=k (l++[e])
 | [],k=>rfl
 |x::l,k=>by rw [qO,UV e l];rfl
def qP {α:Type}:Hp→Nat→Option BZ→(Hp→α)→α
 | [],_,_,k=>k []
 |_::l,0,e,k=>k (e::l)
 |y::l,i+1,e,k=>qP l i e fun l=>k (y::l)
theorem UW {α:Type}(e:Option BZ):∀(l:Hp) (i:Nat) (k:Hp→α),qP l i e k=k (CE l i e)
 | [],_,k=>rfl
 |_::_,0,k=>rfl
 |y::l,i+1,k=>by rw [qP,UW e l];rfl
def r9 {α:Type}:BZ→(BZ→α)→α
 | .blk cs,k=>Xo cs fun cs=>k (.blk cs)
 | .lst s n f,k=>k (.lst s n f)
 | .fac b o,k=>k (.fac b o)
 | .row e s n c xs,k=>k (.row e s n c xs)
 | .buf e s n xs,k=>k (.buf e s n xs)
theorem bG {α:Type}:∀(e:BZ) (k:BZ→α),r9 e k=k e
 | .blk cs,k=>by rw [r9,Ht]
 | .lst _ _ _,_=>rfl
 | .fac _ _,_=>rfl
 | .row _ _ _ _ _,_=>rfl
 | .buf _ _ _ _,_=>rfl
def Xp {α:Type}(T:List (Nat×SV)):Option Nat→SV→(List (Nat×SV)→α)→α
 |some d,x,k=>k ((d,x)::T)
 |none,_,k=>k T
theorem NN {α:Type}(T:List (Nat×SV))(d:Option Nat)(x:SV)(k:List (Nat×SV)→α):Xp T d x k=k (BN T d x):=by cases d<;>rfl
def xR (E:Ob)(r:Xn):Xn:=match E with
 | []=>r
 |E=>r.more E
def Ll (X:Tx)(n:Nat):Nat→List (Nat×SV)→Hp→List Fr→Pos→Xn
 |0,T,H,K,pos=>⟨T,H,K,pos,[]⟩
 |f+1,T,H,K,.ops all []=>Ll X n f T H K .norm
 |f+1,T,H,K,.ops all (o::l)=>match DY X n all T H o with
  |some (.val x E)=>OY x fun x=>Xp T o.dst x fun T=>xR E (Ll X n f T H K (.ops all l))
  |some (.new t e x)=>OY x fun x=>r9 e fun e=>Xp T o.dst x fun T=>qO H (some e) fun H=>Ll X n f T H K (.ops all l)
  |some (.upd i cs E)=>Xo cs fun cs=>Xp T o.dst (.tup []) fun T=>qP H i (some (.blk cs)) fun H=>xR E (Ll X n f T H K (.ops all l))
  |none=>⟨T,H,K,.ops all (o::l),[]⟩
 |f+1,T,H,[],.norm=>⟨T,H,[],.norm,[]⟩
 |f+1,T,H,.thn c::K,.norm=>Ll X n f T H K (.code c)
 |f+1,T,H,.blk _::K,.norm=>Ll X n f T H K .norm
 |f+1,T,H,.lp I::K,.norm=>⟨T,H,.lp I::K,.norm,[]⟩
 |f+1,T,H,K,.ret=>⟨T,H,K,.ret,[]⟩
 | f+1,T,H,K,.code c=>match c with
  | .skip=>Ll X n f T H K .norm
  | .label _=>Ll X n f T H K .norm
  | .seq a b=>Ll X n f T H (.thn b::K) (.code a)
  | .region _ ops false=>Ll X n f T H K (.ops ops ops.toList)
  | .cond x a b=>match DA T x with
   |some .tt=>Ll X n f T H K (.code a)
   |some .ff=>Ll X n f T H K (.code b)
   |_=>⟨T,H,K,.code c,[]⟩
  | .block id b=>Ll X n f T H (.blk id::K) (.code b)
  | .exit id=>match Kr id K with
   |some K'=>Ll X n f T H K' .norm
   |none=>⟨T,H,K,.code c,[]⟩
  | .ret=>⟨T,H,K,.ret,[]⟩
  |_=>⟨T,H,K,.code c,[]⟩
theorem Dr (X:Tx)(n:Nat):∀(f:Nat) (T:List (Nat×SV)) (H:Hp) (K:List Fr) (pos:Pos),Ll X n f T H K pos=go X n f T H K pos
 |0,T,H,K,pos=>rfl
 |f+1,T,H,K,.ops all []=>by unfold Ll go;exact Dr X n f _ _ _ _
 | f+1,T,H,K,.ops all (o::l)=>by
  unfold Ll go
  cases DY X n all T H o with
  |none=>rfl
  | some out=>
   cases out with
   |val x E=>
    simp only [JL,NN,Dr X n f,Sg,Lw,OV]
    cases E<;>rfl
   |new t e x=>
    simp only [JL,bG,NN,UV,Dr X n f,Sg,Lw,OV]
   |upd i cs E=>
    simp only [Ht,NN,UW,Dr X n f,Sg,Lw,OV]
    cases E<;>rfl
 |f+1,T,H,[],.norm=>rfl
 |f+1,T,H,.thn c::K,.norm=>by unfold Ll go;exact Dr X n f _ _ _ _
 |f+1,T,H,.blk _::K,.norm=>by unfold Ll go;exact Dr X n f _ _ _ _
 |f+1,T,H,.lp I::K,.norm=>rfl
 |f+1,T,H,K,.ret=>by unfold Ll go;rfl
 |f+1,T,H,K,.code c=>by
  unfold Ll go
  cases c with
  |skip=>exact Dr X n f _ _ _ _
  |label _=>exact Dr X n f _ _ _ _
  |seq a b=>exact Dr X n f _ _ _ _
  |region id ops dr=>cases dr<;>first|rfl|exact Dr X n f _ _ _ _
  |cond x a b=>simp only [Dr X n f];try rfl
  |block id b=>exact Dr X n f _ _ _ _
  |exit id=>simp only [Dr X n f];try rfl
  |ret=>rfl
  |_=>rfl
def qQ {α:Type}:List (Nat×SV)→(List (Nat×SV)→α)→α
 | [],k=>k []
 |x::l,k=>qQ l fun l=>k (x::l)
theorem UX {α:Type}:∀(l:List (Nat×SV)) (k:List (Nat×SV)→α),qQ l k=k l
 | [],_=>rfl
 |x::l,k=>by rw [qQ,UX l]
def qR {α:Type}:Hp→(Hp→α)→α
 | [],k=>k []
 |x::l,k=>qR l fun l=>k (x::l)
theorem UY {α:Type}:∀(l:Hp) (k:Hp→α),qR l k=k l
 | [],_=>rfl
 |x::l,k=>by rw [qR,UY l]
def bH (X:Tx)(n f:Nat)(T:List (Nat×SV))(H:Hp)(K:List Fr)(pos:Pos):Xn:=qQ T fun T=>qR H fun H=>Ll X n f T H K pos
theorem bI (X:Tx)(n f:Nat)(T:List (Nat×SV))(H:Hp)(K:List Fr)(pos:Pos):bH X n f T H K pos=go X n f T H K pos:=by
 unfold bH
 rw [UX,UY,Dr]
section
variable {P:Program}{X:Tx}{n:Nat}{ks:ae}{G0:Gr}{w0:World}{Q:ab}{T T':List (Nat×SV)}{H H':Hp}{K K':List Fr}{pos pos':Pos}{E:Ob}{G:Gr}{a:Act}{w:World}
theorem M0 (hX:X.ok P=true)(f:Nat)(A:Sy n T H ks G0 w0 G a w)(h:bH X n f T H K pos=⟨T',H',K',pos',E⟩)(hE:Dc E)(hk:∀{G a w},Sy n T' H' ks G0 w0 G a w→Goal P Q K' pos' a w):Goal P Q K pos a w:=by
 rw [bI]at h
 have:=Dq (P:=P) (Q:=Q) (n:=n) (ks:=ks) (G0:=G0) (w0:=w0) hX f T H K pos
 rw [h]at this
 exact this hE (fun G a w A=>hk A) G a w A
theorem N {Y:Tb}(hX:Y.ok P=true)(f:Nat)(A:Sy n T H ks G0 w0 G a w)(h:bH ⟨Y,true⟩ n f T H K pos=⟨T',H',K',pos',E⟩)(hE:Dc E)(hk:∀{G a w},Sy n T' H' ks G0 w0 G a w→Goal P Q K' pos' a w):Goal P Q K pos a w:=M0 (X:=⟨Y,true⟩) hX f A h hE hk
theorem M {Y:Tb}(hX:Y.ok P=true)(f:Nat)(A:Sy n T H ks G0 w0 G a w)(h:bH ⟨Y,false⟩ n f T H K pos=⟨T',H',K',pos',E⟩)(hE:Dc E)(hk:∀{G a w},Sy n T' H' ks G0 w0 G a w→Goal P Q K' pos' a w):Goal P Q K pos a w:=M0 (X:=⟨Y,false⟩) hX f A h hE hk
theorem Sy.isT (A:Sy n T H ks G0 w0 G a w)(t:Nat){b:Bool}(h:look T t=some (.bool b))(hb:b=true):Sy n ((t,.tt)::T) H ks G0 w0 G a w:=
 ⟨A.size,A.defers,fun s x hx=>by
  simp only [look]at hx
  cases hc:Nat.beq t s with
  |true=>rw [hc]at hx;cases hx;have:=α5 hc;subst this;have:=A.get t _ h;rw [hb]at this;exact this
  |false=>rw [hc]at hx;exact A.get s x hx,A.mem,A.pre,A.own,A.mix⟩
theorem Sy.isF (A:Sy n T H ks G0 w0 G a w)(t:Nat){b:Bool}(h:look T t=some (.bool b))(hb:b=false):Sy n ((t,.ff)::T) H ks G0 w0 G a w:=
 ⟨A.size,A.defers,fun s x hx=>by
  simp only [look]at hx
  cases hc:Nat.beq t s with
  |true=>rw [hc]at hx;cases hx;have:=α5 hc;subst this;have:=A.get t _ h;rw [hb]at this;exact this
  |false=>rw [hc]at hx;exact A.get s x hx,A.mem,A.pre,A.own,A.mix⟩
theorem AU (t:Nat){p:Prop}[Decidable p]{R:Prop}(A:Sy n T H ks G0 w0 G a w)(h:look T t=some (.bool (decide p)))(h1:p→Sy n ((t,.tt)::T) H ks G0 w0 G a w→R)(h2:¬p→Sy n ((t,.ff)::T) H ks G0 w0 G a w→R):R:=by
 by_cases hp:p
 ·exact h1 hp (A.isT t h (by simp [hp]))
 ·exact h2 hp (A.isF t h (by simp [hp]))
theorem AV (t:Nat){α:Type}[BEq α][LawfulBEq α]{x y:α}{R:Prop}(A:Sy n T H ks G0 w0 G a w)(h:look T t=some (.bool (x==y)))(h1:x=y→Sy n ((t,.tt)::T) H ks G0 w0 G a w→R)(h2:x≠y→Sy n ((t,.ff)::T) H ks G0 w0 G a w→R):R:=by
 cases hb:x==y with
 |true=>exact h1 (ξ4 hb) (A.isT t h hb)
 |false=>exact h2 (fun e=>by subst e;simp at hb) (A.isF t h hb)
theorem FY (t:Nat){α:Type}[BEq α][LawfulBEq α]{x y:α}{R:Prop}(A:Sy n T H ks G0 w0 G a w)(h:look T t=some (.bool (!(x==y))))(h1:x≠y→Sy n ((t,.tt)::T) H ks G0 w0 G a w→R)(h2:x=y→Sy n ((t,.ff)::T) H ks G0 w0 G a w→R):R:=by
 cases hb:x==y with
 |true=>exact h2 (ξ4 hb) (A.isF t h (by rw [hb];rfl))
 |false=>exact h1 (fun e=>by subst e;simp at hb) (A.isT t h (by rw [hb];rfl))
theorem fork (t:Nat){b:Bool}{R:Prop}(A:Sy n T H ks G0 w0 G a w)(h:look T t=some (.bool b))(h1:b=true→Sy n ((t,.tt)::T) H ks G0 w0 G a w→R)(h2:b=false→Sy n ((t,.ff)::T) H ks G0 w0 G a w→R):R:=by
 cases hb:b with
 |true=>exact h1 hb (A.isT t h hb)
 |false=>exact h2 hb (A.isF t h hb)
end
mutual
def Lm (k:Nat):SV→Bool
 | .ptr i _=>Nat.blt i k
 | .el i _ _ _=>Nat.blt i k
 | .sl i _ _=>Nat.blt i k
 | .agg l=>HH k l
 | .tup l=>HH k l
 | .fn _ l=>HH k l
 | .opt _ x=>Lm k x
 | .ix p _ _ _ _=>Lm k p
 | .sp p _ _=>Lm k p
 | .st i _ _ _ _=>Nat.blt i k
 |_=>true
def HH (k:Nat):List SV→Bool
 | []=>true
 |x::l=>Lm k x&&HH k l
end
mutual
theorem Ds {G:Gr}{k:Nat}:∀(x:SV),Lm k x=true→den (G.take k) x=den G x
 | .ptr i _,h=>by unfold den;rw [γ1 (by simpa [Lm,μ7]using h)]
 | .el i _ _ _,h=>by unfold den;rw [γ1 (by simpa [Lm,μ7]using h)]
 | .sl i _ _,h=>by unfold den;rw [γ1 (by simpa [Lm,μ7]using h)]
 | .agg l,h=>by unfold den;rw [BS l (by simpa [Lm]using h)]
 | .tup l,h=>by unfold den;rw [BS l (by simpa [Lm]using h)]
 | .fn _ l,h=>by unfold den;rw [BS l (by simpa [Lm]using h)]
 | .opt _ x,h=>by unfold den;rw [Ds x (by simpa [Lm]using h)]
 | .ix p _ _ _ _,h=>by unfold den;rw [Ds p (by simpa [Lm]using h)]
 | .sp p _ _,h=>by unfold den;rw [Ds p (by simpa [Lm]using h)]
 | .st i _ _ _ _,h=>by unfold den;rw [γ1 (by simpa [Lm,μ7]using h)]
 | .int _ _,_=>rfl
 | .bool _,_=>rfl
 | .tt,_=>rfl
 | .ff,_=>rfl
 | .str _,_=>rfl
 | .sla _ _ _,_=>rfl
 | .v _,_=>rfl
theorem BS {G:Gr}{k:Nat}:∀(l:List SV),HH k l=true→AO (G.take k) l=AO G l
 | [],_=>rfl
 |x::l,h=>by
  simp only [HH,α3]at h
  unfold AO
  rw [Ds x h.1,BS l h.2]
end
mutual
def D4 (m:ae):SV→Option SV
 | .ptr i o=>match lg m i with
  |some j=>some (.ptr j o)
  |none=>none
 | .el i s k o=>match lg m i with
  |some j=>some (.el j s k o)
  |none=>none
 | .sl i n c=>match lg m i with
  |some j=>some (.sl j n c)
  |none=>none
 | .agg l=>match D8 m l with
  |some l=>some (.agg l)
  |none=>none
 | .tup l=>match D8 m l with
  |some l=>some (.tup l)
  |none=>none
 | .fn f l=>match D8 m l with
  |some l=>some (.fn f l)
  |none=>none
 | .opt b x=>none
 | .ix p s n j k=>match D4 m p with
  |some q=>some (.ix q s n j k)
  |none=>none
 | .sp p n c=>match D4 m p with
  |some q=>some (.sp q n c)
  |none=>none
 | .st i s j n c=>match lg m i with
  |some i=>some (.st i s j n c)
  |none=>none
 | .sla a n c=>some (.sla a n c)
 | .int i n=>some (.int i n)
 | .bool b=>some (.bool b)
 | .tt=>some .tt
 | .ff=>some .ff
 | .str l=>some (.str l)
 | .v x=>some (.v x)
def D8 (m:ae):List SV→Option (List SV)
 | []=>some []
 | x::l=>match D4 m x with
  |some x=>match D8 m l with
   |some l=>some (x::l)
   |none=>none
  |none=>none
end
def BE (m:ae)(G:Gr):Gr:=m.map fun j=>(G[j]?).getD none
theorem Bp {m:ae}{G:Gr}(hm:∀j∈m,j<G.length){i j:Nat}(h:m[i]?=some j):(BE m G)[i]?=G[j]?:=by
 have hj:j<G.length:=hm j (θ1 h)
 simp [BE,h,hj]
mutual
theorem Eu {m:ae}{G:Gr}(hm:∀j∈m,j<G.length):∀(x:SV) {y:SV},D4 m x=some y→den (BE m G) x=den G y
 | .ptr i o,y,h=>by
  unfold D4 at h
  split at h
  ·next j hj=>cases h;rw [At]at hj;unfold den;rw [Bp hm hj]
  ·cases h
 | .el i s k o,y,h=>by
  unfold D4 at h
  split at h
  ·next j hj=>cases h;rw [At]at hj;unfold den;rw [Bp hm hj]
  ·cases h
 | .sl i n c,y,h=>by
  unfold D4 at h
  split at h
  ·next j hj=>cases h;rw [At]at hj;unfold den;rw [Bp hm hj]
  ·cases h
 | .agg l,y,h=>by
  unfold D4 at h
  split at h
  ·next l' hl=>cases h;unfold den;rw [Dt hm l hl]
  ·cases h
 | .tup l,y,h=>by
  unfold D4 at h
  split at h
  ·next l' hl=>cases h;unfold den;rw [Dt hm l hl]
  ·cases h
 | .fn f l,y,h=>by
  unfold D4 at h
  split at h
  ·next l' hl=>cases h;unfold den;rw [Dt hm l hl]
  ·cases h
 | .opt b x,y,h=>by cases h
 | .ix p s n j k,y,h=>by
  unfold D4 at h
  split at h
  ·next q hq=>cases h;unfold den;rw [Eu hm p hq]
  ·cases h
 | .sp p n c,y,h=>by
  unfold D4 at h
  split at h
  ·next q hq=>cases h;unfold den;rw [Eu hm p hq]
  ·cases h
 | .st i s k n c,y,h=>by
  unfold D4 at h
  split at h
  ·next j hj=>cases h;rw [At]at hj;unfold den;rw [Bp hm hj]
  ·cases h
 | .sla _ _ _,y,h=>by cases h;rfl
 | .int _ _,y,h=>by cases h;rfl
 | .bool _,y,h=>by cases h;rfl
 | .tt,y,h=>by cases h;rfl
 | .ff,y,h=>by cases h;rfl
 | .str _,y,h=>by cases h;rfl
 | .v _,y,h=>by cases h;rfl
theorem Dt {m:ae}{G:Gr}(hm:∀j∈m,j<G.length):∀(l:List SV) {r:List SV},D8 m l=some r→AO (BE m G) l=AO G r
 | [],r,h=>by cases h;rfl
 | x::l,r,h=>by
  unfold D8 at h
  split at h
  ·next y hy=>
   split at h
   ·next l' hl=>cases h;unfold AO;rw [Eu hm x hy,Dt hm l hl]
   ·cases h
  ·cases h
end
def JM (m:ae):Option BZ→Option (Option BZ)
 |none=>some none
 |some (.blk cs)=>match D8 m cs with
  |some l=>some (some (.blk l))
  |none=>none
 |some (.row e s n c xs)=>some (some (.row e s n c xs))
 |some (.lst s n f)=>some (some (.lst s n f))
 |some (.fac b o)=>some (some (.fac b o))
 |some (.buf e s n f)=>some (some (.buf e s n f))
def DR (m:ae):Hp→Option Hp
 | []=>some []
 | e::l=>match JM m e with
  |some e=>match DR m l with
   |some l=>some (e::l)
   |none=>none
  |none=>none
def DC (H:Hp):List Nat→Option Hp
 | []=>some []
 | j::m=>match lg H j with
  |some e=>match DC H m with
   |some l=>some (e::l)
   |none=>none
  |none=>none
theorem EG {m:ae}:∀{H:Hp} {l:Hp},DR m H=some l→l.length=H.length∧∀(i:Nat) (e:Option BZ),H[i]?=some e→∃f,l[i]?=some f∧JM m e=some f
 | [],l,h=>by cases h;exact⟨rfl,fun i e h=>by cases h⟩
 | x::H,l,h=>by
  unfold DR at h
  split at h
  ·next y hy=>
   split at h
   ·next r hr=>
    cases h
    obtain⟨h1,h2⟩:=EG hr
    refine⟨by simp [h1],fun i e he=>?_⟩
    cases i with
    |zero=>cases he;exact⟨y,rfl,hy⟩
    |succ i=>exact h2 i e he
   ·cases h
  ·cases h
theorem Du {H:Hp}:∀{m:ae} {l:Hp},DC H m=some l→l.length=m.length∧(∀j∈m,j<H.length)∧∀(i j:Nat),m[i]?=some j→l[i]?=H[j]?
 | [],l,h=>by cases h;exact⟨rfl,by simp,fun i j h=>by cases h⟩
 | k ::m,l,h=>by
  unfold DC at h
  split at h
  ·next e he=>
   rw [At]at he
   split at h
   ·next r hr=>
    cases h
    obtain⟨h1,h2,h3⟩:=Du hr
    refine⟨by simp [h1],fun j hj=>?_,fun i j hj=>?_⟩
    ·rcases η5.1 hj with rfl|hj
     ·exact(α0.1 he).1
     ·exact h2 j hj
    ·cases i with
     |zero=>cases hj;exact he.symm
     |succ i=>exact h3 i j hj
   ·cases h
  ·cases h
theorem Ck {m:ae}{e f:BZ}(h:JM m (some e)=some (some f)):f.mut=e.mut∧(f.empty↔e.empty):=by
 cases e with
 |blk cs=>simp only [JM]at h;split at h<;>cases h;exact⟨rfl,ν9⟩
 |row=>cases h;exact⟨rfl,ν9⟩
 |lst=>cases h;exact⟨rfl,ν9⟩
 |fac=>cases h;exact⟨rfl,ν9⟩
 |buf=>cases h;exact⟨rfl,ν9⟩
theorem Dj {m:ae}{e:BZ}{f:Option BZ}(h:JM m (some e)=some f):∃f',f=some f':=by
 cases e with
 |blk cs=>simp only [JM]at h;split at h<;>cases h;exact⟨_,rfl⟩
 |row=>cases h;exact⟨_,rfl⟩
 |lst=>cases h;exact⟨_,rfl⟩
 |fac=>cases h;exact⟨_,rfl⟩
 |buf=>cases h;exact⟨_,rfl⟩
theorem RI {m:ae}{G:Gr}{w:World}(hm:∀j∈m,j<G.length){i j:Nat}(hj:m[i]?=some j){e f:BZ}(h:JM m (some e)=some (some f)):Ag (BE m G) w (((BE m G)[i]?).getD none) e↔Ag G w ((G[j]?).getD none) f:=by
 rw [Bp hm hj]
 cases e with
 |blk cs=>
  simp only [JM]at h
  split at h
  ·next l hl=>cases h;simp only [Ag,Dt hm cs hl]
  ·cases h
 |row=>cases h;exact ν9
 |lst=>cases h;exact ν9
 |fac=>cases h;exact ν9
 |buf=>cases h;exact ν9
def Ks:List Nat→Bool
 | []=>true
 |x::l=> !(l.elem x)&&Ks l
theorem RJ:∀{m:ae},Ks m=true→∀(i k j:Nat),m[i]?=some j→m[k]?=some j→i=k
 | [],_,i,k,j,h,_=>by cases h
 | x::m,hb,i,k,j,h1,h2=>by
  simp only [Ks,α3,κ0,List.elem_eq_mem,ζ1]at hb
  cases i with
  |zero=>
   cases k with
   |zero=>rfl
   |succ k=>cases h1;exact absurd (θ1 (l:=m) (i:=k) h2) hb.1
  |succ i=>
   cases k with
   |zero=>cases h2;exact absurd (θ1 (l:=m) (i:=i) h1) hb.1
   |succ k=>rw [RJ hb.2 i k j h1 h2]
theorem Mem.sub {H H' l:Hp}{G:Gr}{w:World}{m:ae}(h:Mem H G w)(h1:DC H m=some l)(h2:DR m H'=some l)(hn:Ks m=true):Mem H' (BE m G) w:=by
 obtain⟨p1,p2,p3⟩:=Du h1
 obtain⟨r1,r2⟩:=EG h2
 have hm:∀j∈m,j<G.length:=fun j hj=>by rw [←h.len];exact p2 j hj
 have at_:∀(i:Nat) (e:BZ),H'[i]?=some (some e)→∃j f,m[i]?=some j∧H[j]?=some (some f)∧JM m (some e)=some (some f):=by
  intro i e he
  obtain⟨f,h3,h4⟩:=r2 i _ he
  have hi:i<m.length:=by rw [←p1];exact(α0.1 h3).1
  obtain⟨f',rfl⟩:=Dj h4
  refine⟨m[i],f',by simp [hi],?_,h4⟩
  rw [←p3 i m[i] (by simp [hi])];exact h3
 refine⟨by simp [BE];omega,fun i e he=>?_,fun i k e f L M ZD he hf KJ hL hM Bw=>?_⟩
 ·obtain⟨j,f,a1,a2,a3⟩:=at_ i e he
  exact(RI hm a1 a3).2 (h.ent j f a2)
 ·obtain⟨j,e',a1,a2,a3⟩:=at_ i e he
  obtain⟨j',f',b1,b2,b3⟩:=at_ k f hf
  rw [Bp hm a1]at hL
  rw [Bp hm b1]at hM
  refine h.sep j j' e' f' L M (fun e=>ZD ?_) a2 b2 (by rw [(Ck a3).1];exact KJ) hL hM (fun h=>Bw ((Ck b3).2.1 h))
  subst e
  exact RJ hn i k j a1 b1
def keys (H:Hp)(G:Gr):List Nat:=(H.zip G).filterMap fun x=>match x.1,x.2 with
 |some e,some L=>bif e.mut then some L.b else none
 |_,_=>none
theorem mem_keys {H:Hp}{G:Gr}{b:Nat}:(keys H G).contains b=true↔∃(i:Nat) (e:BZ) (L:Loc),H[i]?=some (some e)∧e.mut=true∧G[i]?=some (some L)∧L.b=b:=by
 simp only [δ9,keys,List.mem_filterMap]
 constructor
 ·rintro ⟨⟨e,p⟩,h1,h2⟩
  obtain⟨i,hi⟩:=κ2.1 h1
  rw [List.getElem?_zip_eq_some]at hi
  split at h2
  ·next e' L h3 h4=>
   simp only at h3 h4;subst h3;subst h4
   cases hm:e'.mut with
   |false=>rw [hm]at h2;cases h2
   |true=>rw [hm]at h2;cases h2;exact⟨i,e',L,hi.1,hm,hi.2,rfl⟩
  ·cases h2
 ·rintro ⟨i,e,L,h1,hm,h2,h3⟩
  exact⟨(some e,some L),κ2.2 ⟨i,List.getElem?_zip_eq_some.2 ⟨h1,h2⟩⟩,by simp [h3,hm]⟩
def Za:Hp→Hp→Prop
 |H,H'=>∀(i:Nat) (e:BZ),H'[i]?=some (some e)→e.mut=false→H[i]?=some (some e)
def UZ:Hp→List (Option BZ)
 | []=>[]
 |some (.lst s n f)::l=>some (.lst s n f)::UZ l
 |some (.fac b o)::l=>some (.fac b o)::UZ l
 |_::l=>UZ l
def RK:Hp→Hp→List (Option BZ)
 |_,[]=>[]
 | [],some (.lst s n f)::l=>none::RK [] l
 |x::H,some (.lst s n f)::l=>x::RK H l
 | [],some (.fac b o)::l=>none::RK [] l
 |x::H,some (.fac b o)::l=>x::RK H l
 | [],_::l=>RK [] l
 |_::H,_::l=>RK H l
theorem Ev:∀{H' H:Hp},RK H H'=UZ H'→Za H H'
 | [],H,_,i,e,h,_=>by cases h
 | x ::H',H,hk,i,e,h,hm=>by
  cases x with
  | none=>
   cases i with
   |zero=>cases h
   |succ i=>
    cases H with
    |nil=>have:=Ev (H':=H') (H:=[]) hk i e h hm;simp at this
    |cons y H=>exact Ev (H':=H') (H:=H) hk i e h hm
  | some q=>
   cases q with
   | lst s n f=>
    cases H with
    |nil=>simp [UZ,RK]at hk
    |cons y H=>
     simp only [UZ,RK,ι8]at hk
     cases i with
     |zero=>cases h;exact congrArg some hk.1
     |succ i=>exact Ev (H':=H') (H:=H) hk.2 i e h hm
   | fac b o=>
    cases H with
    |nil=>simp [UZ,RK]at hk
    |cons y H=>
     simp only [UZ,RK,ι8]at hk
     cases i with
     |zero=>cases h;exact congrArg some hk.1
     |succ i=>exact Ev (H':=H') (H:=H) hk.2 i e h hm
   | _=>
    cases i with
    |zero=>cases h;cases hm
    |succ i=>
     cases H with
     |nil=>have:=Ev (H':=H') (H:=[]) hk i e h hm;simp at this
     |cons y H=>exact Ev (H':=H') (H:=H) hk i e h hm
def NO (R:SV→Hp→Prop)(H:Hp)(G:Gr)(w:World)(e:Ending)(w':World):Prop:=
 ∃x H' F v,R x H'∧den (G++F) x=some v∧e=.returned v∧Mem H' (G++F) w'∧CQ (keys H G) w w'∧G.length≤H'.length∧
  Za H H'∧∀(i:Nat) (e:BZ),H'[i]?=some (some e)→e.mut=true→∀L:Loc,(G++F)[i]?=some (some L)→(keys H G).contains L.b=true∨w.heap.size≤L.b
abbrev HT (P:Program)(f:Nat):Option (Bool×Bool):=(P.funcs[f]?).map fun fn=>(fn.name== "runtime.NumGoroutine",fn.body.isNone)
def Fn (P:Program)(f:Nat)(args:List SV)(H:Hp)(R:SV→Hp→Prop):Prop:=
 HT P f=some (false,false)∧∀G w vs,Mem H G w→AO G args=some vs→Calls P f vs.toArray w (NO R H G w)
def OZ:List SV→Nat→List (Nat×SV)
 | [],_=>[]
 |v::vs,k=>(k,v)::OZ vs (k+1)
theorem EX {t:Nat}{x:SV}:∀{xs:List SV} {k:Nat},look (OZ xs k) t=some x→k≤t∧xs[t - k]?=some x
 | [],_,h=>by cases h
 | u::vs,k,h=>by
  unfold OZ look at h
  cases hb:Nat.beq k t with
  |true=>rw [hb]at h;cases h;have:=α5 hb;subst this;simp
  |false=>
   rw [hb]at h
   obtain⟨h1,h2⟩:=EX h
   refine⟨by omega,?_⟩
   rw [show t - k=(t - (k+1))+1 by omega];simpa using h2
section
variable {P:Program}{X:Tx}{n f:Nat}{ks:ae}{G0:Gr}{w0:World}{T:List (Nat×SV)}{H:Hp}{G:Gr}{a:Act}{w:World}{K:List Fr}
theorem AR {fn:Func} {c:Code} {args:List SV} {R:SV→Hp→Prop} (CG:HT P f=some (false,false)) (hf:P.funcs[f]?=some fn) (hb:fn.body=some c) (hn:fn.ntmps=n) (hl:Nat.ble args.length n=true)
  (h:∀G w a,H.length=G.length→Sy n (OZ args 0) H (keys H G) G w G a w→Goal P (bodyPost P fn (NO R H G w)) [] (.code c) a w):Fn P f args H R:=by
 refine⟨CG,fun G w vs hM hv=>π8 hf hb (h G w _ hM.len ⟨?_,rfl,fun t x hx=>?_,hM,⟨[],by simp⟩,fun i e L h1 h2 h3=>.inl (mem_keys.2 ⟨i,e,L,h1,h2,h3,rfl⟩),CQ.refl _ _⟩)⟩
 ·have:=BF hv
  have:=δ8 hl
  simp [hn];omega
 ·obtain⟨_,h2⟩:=EX hx
  simp only [ξ7]at h2
  obtain⟨v,h3,h4⟩:=C0 hv h2
  have BU:t<vs.length:=(α0.1 h3).1
  rw [h4]
  simp [β5,κ1,BU]at h3⊢
  exact h3.symm
theorem Sh (hX:X.ok P=true){t:TypeId}{cs:List SV}{vs:aj}{o b q:Nat}{r:SV}{z:Value}(h:DK X t cs o=some r)(hv:AO G cs=some vs)(hz:den G r=some z)(hr:w.rangeAt b q vs):(loadVar t ⟨b,q+o,none⟩).run P w=.ok z w:=by
 unfold DK at h
 split at h
 ·next f hf=>
  have ht:=Tb.at hX hf
  split at h
  ·cases h
  ·next m hm=>
   split at h
   ·next r' OB=>
    cases h
    obtain⟨h2,h3⟩:=IL OB
    subst h2
    rw [Hd]at hz h3
    have e:=CO (m+1) (CP o hv)
    simp only [den,e,δ0,β1]at hz
    subst hz
    have hl:=BF hv
    obtain⟨⟨dd,f2,f3,_⟩,f4⟩:=EW (JF ht hm)
    rw [γ3]at h3
    refine run_loadVar_mid w b (q+o) t _ dd (fun j y hy=>?_) f2 f3 (by rw [f4];simp;omega)
    have hj:=(α0.1 hy).1
    simp only [δ6,γ3]at hj
    rw [γ1 (by omega),η0]at hy
    have:=hr (o+j) y hy
    rwa [show q+(o+j)=q+o+j by omega]at this
   ·cases h
  ·next hm=>
   cases Bc:f.one with
   |false=>rw [Bc]at h;cases h
   |true=>
    rw [Bc]at h
    simp only [θ5,At]at h
    obtain⟨v,h1,h2⟩:=C0 hv h
    rw [hz]at h2
    cases h2
    have hc:=hr o z h1
    simp [loadVar,JC (JE ht Bc),hc,go_sem]
 ·cases h
def KB (X:Tx) (T:List (Nat×SV)) (H:Hp):List ResultVar→Option (List SV)
 | []=>some []
 | .tmp t::l=>match look T t with
  |some x=>match KB X T H l with
   |some r=>some (x::r)
   |none=>none
  |none=>none
 | .cell p t::l=>match look T p with
  | some y=>match Ec X H t y with
   |some (x,[])=>match KB X T H l with
    |some r=>some (x::r)
    |none=>none
   |_=>none
  |none=>none
def Am:List SV→SV
 | [x]=>x
 |l=>.tup l
theorem Kt (hX:X.ok P=true)(A:Sy n T H ks G0 w0 G a w):∀{l:List ResultVar} {r:List SV},KB X T H l=some r→∃vs,AO G r=some vs∧(l.mapM (m:=Sem) fun
  | .tmp t=>pure (a.tmps.getD t undef)
  | .cell p t=>do loadVar t (←asAddr (a.tmps.getD p undef))).run P w=.ok vs w
 | [],r,h=>by cases h;exact⟨[],rfl,by simp⟩
 | .tmp t::l,r,h=>by
  unfold KB at h
  split at h
  ·next x hx=>
   split at h
   ·next r' hr=>
    cases h
    obtain⟨vs,h1,h2⟩:=Kt hX A hr
    refine⟨_,BK (A.get t x hx) h1,?_⟩
    rw [σ0]
    simp only [γ4,γ6,α9,h2]
   ·cases h
  ·cases h
 | .cell p t::l,r,h=>by
  unfold KB at h
  split at h
  ·next y hy=>
   split at h
   ·next x hx=>
    split at h
    ·next r' hr=>
     cases h
     obtain⟨vs,h1,h2⟩:=Kt hX A hr
     have hp:=A.get p y hy
     obtain⟨z,hz,k3⟩:=OT A hx hp
     obtain⟨cs,o,us,r0,b,k,k1,k6,k2,k4,k5⟩:=k3 (fun _ h=>by cases h)
     have PP:((do loadVar t (←asAddr (a.tmps.getD p undef))):Sem Value).run P w=.ok z w:=by
      rw [k4]
      simp only [asAddr,γ4,γ6,α9]
      exact Sh hX k1 k2 k6 k5
     refine⟨_,BK hz h1,?_⟩
     rw [σ0]
     simp only [γ4,γ6,α9,h2]at PP⊢
     rw [PP]
     simp only [α9,h2]
    ·cases h
   ·cases h
  ·cases h
def BT:Nat→Nat→List Nat
 |_,0=>[]
 |k,c+1=>k::BT (k+1) c
theorem EH:∀(c k i:Nat),i<c→(BT k c)[i]?=some (k+i)
 |0,_,_,h=>by omega
 |c+1,k,0,_=>rfl
 |c+1,k,i+1,h=>by
  have:=EH c (k+1) i (by omega)
  simp only [BT,List.getElem?_cons_succ,this]
  congr 1;omega
theorem Cs:∀(c k:Nat),(BT k c).length=c
 |0,_=>rfl
 |c+1,k=>by simp [BT,Cs c (k+1)]
theorem Oa {G0 F:Gr}:BE (BT 0 G0.length) (G0++F)=G0:=by
 apply θ9
 intro i
 by_cases hi:i<G0.length
 ·rw [Bp (fun j hj=>by
   obtain⟨k,hk⟩:=κ2.1 hj
   have Dz:k<G0.length:=by have:=(α0.1 hk).1;rwa [Cs]at this
   rw [EH _ _ _ Dz]at hk
   cases hk
   simp;omega) (EH _ 0 i hi)]
  rw [δ1,α2 hi]
 ·rw [γ5 (by simp [BE,Cs];omega),γ5 (by omega)]
theorem IT {fn:Func}(hX:X.ok P=true){y:SV}{r:List SV}{rv:List ResultVar}(A:Sy n T H ks G0 w0 G a w)(hr:fn.results.toList=rv)(hv:KB X T H rv=some r)(hy:Am r=y):∃v,den G y=some v∧(results fn a.tmps).run P w=.ok v w:=by
 obtain⟨vs,e1,e2⟩:=Kt hX A hv
 have PP:(fn.results.mapM (m:=Sem) fun
   | .tmp t=>pure (a.tmps.getD t undef)
   | .cell p t=>do loadVar t (←asAddr (a.tmps.getD p undef))).run P w=.ok vs.toArray w:=by
  rw [←π9 (xs:=fn.results),List.mapM_toArray,hr]
  simp only [Sem.run_map,e2,α9]
 have pI:(results fn a.tmps).run P w=.ok (if h:vs.toArray.size=1 then vs.toArray[0]else .tuple vs.toArray) w:=by
  unfold results
  rw [γ4]
  erw [PP]
  simp only [α9,γ6]
 rw [pI]
 have hlen:=BF e1
 cases r with
 |nil=>cases e1;subst hy;exact⟨_,rfl,rfl⟩
 | cons z r=>
  obtain⟨v,ws,k1,k2,rfl⟩:=BH e1
  cases r with
  |nil=>cases k2;subst hy;exact⟨v,k1,rfl⟩
  |cons z2 r=>
   subst hy
   obtain⟨v2,ws2,_,_,rfl⟩:=BH k2
   refine⟨.tuple (v::v2::ws2).toArray,by simp only [Am,den,e1,δ0],?_⟩
   simp
theorem KC {Y:Tb} {fn:Func} {R:SV→Hp→Prop} {H0:Hp} (hX:Y.ok P=true) (m:ae) {x y:SV} {H' l:Hp} {r:List SV} {rv:List ResultVar} (A:Sy n T H (keys H0 G0) G0 w0 G a w) (hR:R x H') (hr:fn.results.toList=rv) (hv:KB ⟨Y,false⟩ T H rv=some r) (hy:Am r=y)
  (hx:D4 (BT 0 H0.length++m) x=some y) (hl:DR (BT 0 H0.length++m) H'=some l) (hp:DC H (BT 0 H0.length++m)=some l) (hn:Ks (BT 0 H0.length++m)=true) (ZE:RK H0 H'=UZ H') (h0:H0.length=G0.length):bodyPost P fn (NO R H0 G0 w0) .ret a w:=by
 obtain⟨F,hF⟩:=A.pre
 obtain⟨p1,p2,p3⟩:=Du hp
 have hm:∀j∈BT 0 H0.length++m,j<G.length:=fun j hj=>by rw [←A.mem.len];exact p2 j hj
 have vA:=IT (X:=⟨Y,false⟩) (fn:=fn) hX A hr hv hy
 obtain⟨v,uW,rH⟩:=vA
 have GH:BE (BT 0 H0.length++m) G=G0++BE m G:=by
  rw [show BE (BT 0 H0.length++m) G=BE (BT 0 H0.length) G++BE m G by simp [BE],h0,hF,Oa]
 have ZF:=A.mem.sub hp hl hn
 rw [GH]at ZF
 refine⟨A.defers,v,rH,x,H',BE m G,v,hR,?_,rfl,ZF,A.mix,?_,Ev ZE,fun i e he uH=>?_⟩
 ·rw [←GH,Eu hm x hx];exact uW
 ·have:=(EG hl).1
  rw [p1]at this
  simp [Cs]at this
  omega
 ·obtain⟨f,h3,h4⟩:=(EG hl).2 i _ he
  obtain⟨f',rfl⟩:=Dj h4
  obtain⟨q1,q2⟩:=Ck h4
  intro L hL
  have hi:i<(BT 0 H0.length++m).length:=by rw [←p1];exact(α0.1 h3).1
  have hj:(BT 0 H0.length++m)[i]?=some (BT 0 H0.length++m)[i]:=by simp [hi]
  rw [←GH,Bp hm hj]at hL
  rw [p3 i _ hj]at h3
  exact A.own _ f' L h3 (by rw [q1];exact uH) hL
end
def CN:Hp→List Nat→Hp→Hp
 |H,[],l=>H++l
 |H,j::m,e::l=>CN (CE H j e) m l
 |H,_::_,[]=>H
theorem Ku:∀{m:ae} {H l:Hp},m.length≤l.length→(CN H m l).length=H.length+(l.length - m.length)
 | [],H,l,_=>by simp [CN]
 |j::m,H,[],h=>by simp at h
 |j::m,H,e::l,h=>by
  simp only [β0]at h⊢
  rw [CN,Ku (by omega),Aw]
  simp
theorem MW:∀{m:ae} {H l:Hp},m.length≤l.length→Ks m=true→(∀j∈m,j<H.length)→∀i:Nat,
  (∃k:Nat,m[k]?=some i∧(CN H m l)[i]?=l[k]?)∨(i∉m∧i<H.length∧(CN H m l)[i]?=H[i]?)∨(H.length≤i∧(CN H m l)[i]?=l[m.length+(i - H.length)]?)
 | [],H,l,_,_,_,i=>by
  by_cases hi:i<H.length
  ·exact .inr (.inl ⟨by simp,hi,by simp [CN,α2 hi]⟩)
  ·exact .inr (.inr ⟨by omega,by simp [CN,α1 (τ3 hi)]⟩)
 |j::m,H,[],h,_,_,i=>by simp at h
 | j::m,H,e::l,h,hn,hm,i=>by
  simp only [β0]at h
  simp only [Ks,α3,κ0,List.elem_eq_mem,ζ1]at hn
  have hlen:(CE H j e).length=H.length:=by rw [Aw];simp
  have hj:j<H.length:=hm j (by simp)
  rw [CN]
  rcases MW (H:=CE H j e) (l:=l) (by omega) hn.2 (fun k hk=>by rw [hlen];exact hm k (by simp [hk])) i with⟨k,h1,h2⟩|⟨h1,h2,h3⟩|⟨h1,h2⟩
  ·exact .inl ⟨k+1,by simpa using h1,by simpa using h2⟩
  ·by_cases Ge:i=j
   ·subst Ge
    exact .inl ⟨0,by simp,by rw [h3,Aw,γ7 hj];rfl⟩
   ·exact .inr (.inl ⟨by simp [Ge,h1],by rwa [hlen]at h2,by rw [h3,Aw,γ0 (ε9 Ge)]⟩)
  ·rw [hlen]at h1 h2
   exact .inr (.inr ⟨h1,by rw [h2,show(j::m).length+(i - H.length)=(m.length+(i - H.length))+1 by simp;omega];simp⟩)
def Bi (n:Nat) (ops:ah) (T:List (Nat×SV)) (o:Oper):Option (Nat×List SV):=match DF n o.dst with
 | true=>match Av ops T o.guard with
  | some .run=>match o.op with
   | .call c=>match c.callee with
    | .value x=>match DA T x with
     |some (.fn f l)=>match Sc none T c.args.toList with
      |some (az,[])=>some (f,az++l)
      |_=>none
     |_=>none
    |_=>none
   |_=>none
  |_=>none
 |false=>none
section
variable {P:Program}{X:Tx}{n:Nat}{ks:ae}{G0:Gr}{w0:World}{T:List (Nat×SV)}{H:Hp}{G:Gr}{a:Act}{w:World}{ops:ah}{o:Oper}{rest:ai}{Q:ab}{K:List Fr}
theorem RL {x:Operand} {f:FuncId} {lb:Array Value} {args:Array Operand} {ats:Array TypeId} {vs us:Array Value} {R:Ending→World→Prop} {K:Value→World→Prop} {d:Option Tmp} {ty:TypeId} {pos:String} {af:Array Edge} {gd:Option (Nat×Bool)} (hw:Region.wanted {dst:=d,op:=.call {callee:=.value x,args:=args,argTypes:=ats},type:=ty,pos:=pos,after:=af,guard:=gd} (yielded ops a.tmps)=true)
  (hf:a.eval x=.func (.func f) #[] lb) (CG:HT P f=some (false,false)) (hx:args.map a.eval=vs) (hu:vs++lb=us) (hc:Calls P f us w R) (h:∀e w',R e w'→∃v,e=.returned v∧K v w'):
  BY P ops {dst:=d,op:=.call {callee:=.value x,args:=args,argTypes:=ats},type:=ty,pos:=pos,after:=af,guard:=gd} a w K:=
 Pg hw (by
  subst hx;subst hu
  unfold execOp
  simp only [resolve,hf,γ4,Deferred.ofValue,γ6,α9,invoke,Array.empty_append,enters CG]) hc h
theorem DO (A:Sy n T H ks G0 w0 G a w){f:Nat}{az:List SV}(h:Bi n ops T o=some (f,az))(CG:HT P f=some (false,false)):DF n o.dst=true∧∃vs,AO G az=some vs∧∀{R:Ending→World→Prop} {K:Value→World→Prop},Calls P f vs.toArray w R→(∀e w',R e w'→∃v,e=.returned v∧K v w')→BY P ops o a w K:=by
 obtain⟨d,i,ty,pos,af,gd⟩:=o
 unfold Bi at h
 split at h
 ·next hd=>
  refine⟨hd,?_⟩
  split at h
  ·next hg=>
   have hw:=A7 (gd:=none) A hg
   split at h
   ·next c hc=>
    simp only at hc
    subst hc
    obtain⟨callee,args,ats⟩:=c
    simp only at h
    split at h
    ·next x=>
     split at h
     ·next f' l hx=>
      split at h
      ·next az' hs=>
       cases h
       have h1:=A.ev hx
       unfold den at h1
       obtain⟨ls,h2,h3⟩:=γ8.1 h1
       obtain⟨us,h4,h5⟩:=KO A hs
       have h6:=h5 AB (fun g hg=>by cases hg)
       refine⟨us++ls,Cj h4 h2,fun hc hk=>?_⟩
       refine RL (lb:=ls.toArray) (vs:=us.toArray) (us:=(us++ls).toArray) hw h3.symm CG ?_ (by simp) hc hk
       rw [←h6];apply ν6;simp
      ·cases h
     ·cases h
    ·cases h
   ·cases h
  ·cases h
 ·cases h
def bJ (P:Program)(n:Nat)(ops:ah)(o:Oper)(f:Nat)(az:List SV)(G:Gr)(a:Act)(w:World):Prop:=DF n o.dst=true∧∃vs,AO G az=some vs∧∀{R:Ending→World→Prop} {K:Value→World→Prop},Calls P f vs.toArray w R→(∀e w',R e w'→∃v,e=.returned v∧K v w')→BY P ops o a w K
def bK (P:Program)(f:Nat)(args:List SV)(H':Hp)(R:SV→Hp→Prop)(Gp:Gr)(w:World)(ks:ae)(w0:World):Prop:=
 HT P f=some (false,false)∧∀vs,Mem H' Gp w→(∀b,(keys H' Gp).contains b=true→ks.contains b=true∨w0.heap.size≤b)→AO Gp args=some vs→Calls P f vs.toArray w (NO R H' Gp w)
theorem Oc {f:Nat} {args az:List SV} {H' l:Hp} {R R2:SV→Hp→Prop} (m:ae) (A:Sy n T H ks G0 w0 G a w) (hf:bK P f args H' R (BE m G) w ks w0) (hc:bJ P n ops o f az G a w) (h2:D8 m args=some az) (h3:DR m H'=some l) (h4:DC H m=some l) (h5:Ks m=true)
  (hk:∀x H2,R x H2→∃y l2,D4 (m++BT H.length (H2.length - m.length)) x=some y∧DR (m++BT H.length (H2.length - m.length)) H2=some l2∧R2 y (CN H m l2)):BY P ops o a w fun v w'=>∃y H3 F,R2 y H3∧den (G++F) y=some v∧Sy n T H3 ks G0 w0 (G++F) a w':=by
 obtain⟨CG,hf⟩:=hf
 obtain⟨hd,vs,hv,Lp⟩:=hc
 obtain⟨p1,p2,p3⟩:=Du h4
 obtain⟨r1,r2⟩:=EG h3
 have hlen:=A.mem.len
 have hm:∀j∈m,j<G.length:=fun j hj=>by rw [←hlen];exact p2 j hj
 have hM:=A.mem.sub h4 h3 h5
 have Qp:AO (BE m G) args=some vs:=by rw [Dt hm args h2];exact hv
 have pJ:H'.length=m.length:=by rw [←r1,p1]
 have I4:(BE m G).length=m.length:=by simp [BE]
 have KK:∀b,(keys H' (BE m G)).contains b=true→∃i e L,i∈m∧H[i]?=some (some e)∧e.mut=true∧G[i]?=some (some L)∧L.b=b:=by
  intro b hb
  obtain⟨i,e,L,k1,km,k2,k3⟩:=mem_keys.1 hb
  obtain⟨f,q1,q2⟩:=r2 i _ k1
  obtain⟨f',rfl⟩:=Dj q2
  have hi:i<m.length:=by rw [←p1];exact(α0.1 q1).1
  have hj:m[i]?=some m[i]:=by simp [hi]
  rw [Bp hm hj]at k2
  rw [p3 i _ hj]at q1
  exact⟨m[i],f',L,ι3 hi,q1,by rw [(Ck q2).1];exact km,k2,k3⟩
 have Do:∀b,(keys H' (BE m G)).contains b=true→ks.contains b=true∨w0.heap.size≤b:=by
  intro b hb
  obtain⟨i,e,L,_,k1,k2,k3,k4⟩:=KK b hb
  subst k4
  exact A.own i e L k1 k2 k3
 refine Lp (hf vs hM Do Qp) ?_
 rintro e w' ⟨x,H2,F,v,hR,hx,rfl,I5,DE,ZB,pK,Qq⟩
 refine⟨v,rfl,?_⟩
 obtain⟨y,l2,e1,e2,e3⟩:=hk x H2 hR
 obtain⟨s1,s2⟩:=EG e2
 have Ty:H2.length=m.length+F.length:=by have:=I5.len;simp [I4]at this;exact this
 have pL:m.length≤l2.length:=by rw [s1,Ty];omega
 have vC:H2.length - m.length=F.length:=by omega
 rw [vC]at e1 e2 s2
 have M8:(BT H.length F.length).length=F.length:=Cs _ _
 have Y9:BE (m++BT H.length F.length) (G++F)=BE m G++F:=by
  have a1:BE m (G++F)=BE m G:=by
   unfold BE
   refine ρ6 fun j hj=>?_
   rw [α2 (hm j hj)]
  have a2:BE (BT H.length F.length) (G++F)=F:=by
   apply θ9
   intro i
   by_cases hi:i<F.length
   ·unfold BE
    rw [ι0,EH _ _ _ hi]
    simp only [δ0]
    rw [α1 (by omega),show H.length+i - G.length=i by omega]
    simp [hi]
   ·rw [γ5 (by simp [BE,M8];omega),γ5 (by omega)]
  rw [show BE (m++BT H.length F.length) (G++F)=BE m (G++F)++BE (BT H.length F.length) (G++F) by simp [BE],a1,a2]
 have Le:∀j∈m++BT H.length F.length,j<(G++F).length:=by
  intro j hj
  rcases ζ9.1 hj with hj|hj
  ·have:=hm j hj;simp;omega
  ·obtain⟨k,hk⟩:=κ2.1 hj
   have Dz:k<F.length:=by have:=(α0.1 hk).1;rwa [M8]at this
   rw [EH _ _ _ Dz]at hk
   cases hk
   simp;omega
 have cases3:∀(i:Nat) (e:BZ),(CN H m l2)[i]?=some (some e)→
   (∃(k:Nat) (e':BZ),(m++BT H.length F.length)[k]?=some i∧H2[k]?=some (some e')∧JM (m++BT H.length F.length) (some e')=some (some e))∨(i∉m∧H[i]?=some (some e)∧i<H.length):=by
  intro i e he
  have back:∀k:Nat,l2[k]?=some (some e)→∃e',H2[k]?=some (some e')∧JM (m++BT H.length F.length) (some e')=some (some e):=by
   intro k hk
   have pM:k<H2.length:=by rw [←s1];exact(α0.1 hk).1
   obtain⟨f,t1,t2⟩:=s2 k H2[k] (by simp [pM])
   rw [hk]at t1
   cases t1
   cases hq:H2[k]with
   |none=>rw [hq]at t2;cases t2
   |some e'=>rw [hq]at t2;exact⟨e',by simp [pM,hq],t2⟩
  rcases MW (H:=H) (l:=l2) pL h5 p2 i with⟨k,q1,q2⟩|⟨q1,q2,q3⟩|⟨q1,q2⟩
  ·rw [q2]at he
   obtain⟨e',b1,b2⟩:=back k he
   exact .inl ⟨k,e',by rw [α2 (α0.1 q1).1];exact q1,b1,b2⟩
  ·rw [q3]at he;exact .inr ⟨q1,he,q2⟩
  ·rw [q2]at he
   obtain⟨e',b1,b2⟩:=back _ he
   have BU:i - H.length<F.length:=by have:=(α0.1 b1).1;omega
   refine .inl ⟨_,e',?_,b1,b2⟩
   rw [α1 (by omega),show m.length+(i - H.length) - m.length=i - H.length by omega,EH _ _ _ BU]
   congr 1;omega
 have Eo:∀(i k:Nat),(m++BT H.length F.length)[k]?=some i→(BE m G++F)[k]?=(G++F)[i]?:=fun i k hk=>by rw [←Y9,Bp Le hk]
 have M9:∀i:Nat,i<H.length→(G++F)[i]?=G[i]?:=fun i hi=>α2 (by omega)
 have Cy:∀(i:Nat) (e:BZ) (L:Loc),(i∉m∨e.mut=false)→H[i]?=some (some e)→G[i]?=some (some L)→¬e.empty→(keys H' (BE m G)).contains L.b=false:=by
  intro i e L hi he hL Bw
  cases hc:(keys H' (BE m G)).contains L.b with
  |false=>rfl
  |true=>
   obtain⟨j,e',L',k0,k1,k2,k3,k4⟩:=KK _ hc
   refine absurd k4 (A.mem.sep j i e' e L' L (fun h=>?_) k1 he k2 k3 hL Bw)
   subst h
   rcases hi with hi|hi
   ·exact hi k0
   ·rw [k1]at he;cases he;rw [k2]at hi;cases hi
 have pO:∀(i:Nat) (e:BZ) (L:Loc),H[i]?=some (some e)→G[i]?=some (some L)→¬e.empty→L.b<w.heap.size:=by
  intro i e L he hL Bw
  have:=A.mem.ent i e he
  rw [hL]at this
  exact Ag.lt this Bw
 have pP:∀(i k:Nat) (e e':BZ),(m++BT H.length F.length)[k]?=some i→H2[k]?=some (some e')→JM (m++BT H.length F.length) (some e')=some (some e)→e.mut=false→H[i]?=some (some e)∧i<H.length:=by
  intro i k e e' t1 t2 t3 t4
  have h6:e'.mut=false:=by rw [←(Ck t3).1];exact t4
  have h7:=pK k e' t2 h6
  obtain⟨f,q1,q2⟩:=r2 k _ h7
  obtain⟨f',rfl⟩:=Dj q2
  have Dz:k<m.length:=by rw [←p1];exact(α0.1 q1).1
  rw [α2 Dz]at t1
  rw [p3 k i t1]at q1
  have:e=f':=by
   cases e' with
   |lst s n g=>cases q2;cases t3;rfl
   |fac b o=>cases q2;cases t3;rfl
   |blk=>cases h6
   |row=>cases h6
   |buf=>cases h6
  subst this
  exact⟨q1,(α0.1 q1).1⟩
 refine⟨y,_,F,e3,?_,⟨A.size,A.defers,fun t z hz=>Ax F z (A.get t z hz),⟨?_,?_,?_⟩,?_,?_,?_⟩⟩
 ·rw [←Eu Le x e1,Y9];exact hx
 ·rw [Ku pL,s1,Ty];simp;omega
 ·intro i e he
  rcases cases3 i e he with⟨k,e',t1,t2,t3⟩|⟨t1,t2,t3⟩
  ·have:=I5.ent k e' t2
   rw [←Y9]at this
   exact(RI Le t1 t3).1 this
  ·rw [M9 i t3]
   refine((A.mem.ent i e t2).mix DE fun Bw L hL=>?_).more F
   refine Cy i e L (.inl t1) t2 ?_ Bw
   cases hq:G[i]? with
   |none=>rw [hq]at hL;cases hL
   |some p=>rw [hq]at hL;simp at hL;rw [hL]
 ·intro i j e f L M Ge he rE KJ hL Tz Bw
  have still:∀(i':Nat) (e':BZ),(CN H m l2)[i']?=some (some e')→(∃(k:Nat) (e'':BZ),(m++BT H.length F.length)[k]?=some i'∧H2[k]?=some (some e'')∧JM (m++BT H.length F.length) (some e'')=some (some e')∧e'.mut=true)∨((i'∉m∨e'.mut=false)∧H[i']?=some (some e')∧i'<H.length):=by
   intro i' e' iE
   rcases cases3 i' e' iE with⟨k,e'',t1,t2,t3⟩|⟨t1,t2,t3⟩
   ·cases PR:e'.mut with
    |true=>exact .inl ⟨k,e'',t1,t2,t3,rfl⟩
    |false=>obtain⟨g1,g2⟩:=pP i' k e' e'' t1 t2 t3 PR;exact .inr ⟨.inr U,g1,g2⟩
   ·exact .inr ⟨.inl t1,t2,t3⟩
  rcases still i e he with⟨k,e',t1,t2,t3,t4⟩|⟨t1,t2,t3⟩
  ·rcases still j f rE with⟨k',f',u1,u2,u3,u4⟩|⟨u1,u2,u3⟩
   ·rw [←Eo i k t1]at hL
    rw [←Eo j k' u1]at Tz
    refine I5.sep k k' e' f' L M (fun h=>Ge ?_) t2 u2 (by rw [←(Ck t3).1];exact t4) hL Tz (fun h=>Bw ((Ck u3).2.2 h))
    subst h
    rw [t1]at u1
    exact β6 u1
   ·rw [←Eo i k t1]at hL
    rw [M9 j u3]at Tz
    have h6:=Qq k e' t2 (by rw [←(Ck t3).1];exact t4) L hL
    intro iF
    rcases h6 with h6|h6
    ·rw [iF,Cy j f M u1 u2 Tz Bw]at h6;cases h6
    ·have:=pO j f M u2 Tz Bw;omega
  ·rcases still j f rE with⟨k',f',u1,u2,u3,u4⟩|⟨u1,u2,u3⟩
   ·rw [←Eo j k' u1]at Tz
    rw [M9 i t3]at hL
    have h6:=Qq k' f' u2 (by rw [←(Ck u3).1];exact u4) M Tz
    intro iF
    rcases h6 with h6|h6
    ·rw [←iF,Cy i e L t1 t2 hL (BI KJ)]at h6;cases h6
    ·have:=pO i e L t2 hL (BI KJ);omega
   ·rw [M9 i t3]at hL
    rw [M9 j u3]at Tz
    exact A.mem.sep i j e f L M Ge t2 u2 KJ hL Tz Bw
 ·obtain⟨F0,vD⟩:=A.pre
  exact⟨F0++F,by rw [vD,γ2]⟩
 ·intro i e L he KJ hL
  rcases cases3 i e he with⟨k,e',t1,t2,t3⟩|⟨t1,t2,t3⟩
  ·rw [←Eo i k t1]at hL
   rcases Qq k e' t2 (by rw [←(Ck t3).1];exact KJ) L hL with h6|h6
   ·exact Do _ h6
   ·right;exact β3 A.mix.size h6
  ·rw [M9 i t3]at hL;exact A.own i e L t2 KJ hL
 ·refine A.mix.mix DE fun k rI yJ=>?_
  cases hc:(keys H' (BE m G)).contains k with
  |false=>rfl
  |true=>
   rcases Do k hc with h6|h6
   ·rw [h6]at yJ;cases yJ
   ·omega
theorem RM {f:Nat} {args az:List SV} {H' l:Hp} {R R2:SV→Hp→Prop} (m:ae) (hf:Fn P f args H' R) (A:Sy n T H ks G0 w0 G a w) (h1:Bi n ops T o=some (f,az)) (h2:D8 m args=some az) (h3:DR m H'=some l) (h4:DC H m=some l) (h5:Ks m=true)
  (hk:∀x H2,R x H2→∃y l2,D4 (m++BT H.length (H2.length - m.length)) x=some y∧DR (m++BT H.length (H2.length - m.length)) H2=some l2∧R2 y (CN H m l2)):BY P ops o a w fun v w'=>∃y H3 F,R2 y H3∧den (G++F) y=some v∧Sy n T H3 ks G0 w0 (G++F) a w':=
 Oc m A ⟨hf.1,fun vs hM _ hv=>hf.2 _ w vs hM hv⟩ (DO A h1 hf.1) h2 h3 h4 h5 hk
theorem sA {f:Nat} {args az:List SV} {H' l:Hp} {R:SV→Hp→Prop} (m:ae) (hf:Fn P f args H' R) (A:Sy n T H ks G0 w0 G a w) (h1:Bi n ops T o=some (f,az)) (h2:D8 m args=some az) (h3:DR m H'=some l) (h4:DC H m=some l) (h5:Ks m=true)
  (hk:∀x H2,R x H2→∃y l2,D4 (m++BT H.length (H2.length - m.length)) x=some y∧DR (m++BT H.length (H2.length - m.length)) H2=some l2∧∀{G a w},Sy n (BN T o.dst y) (CN H m l2) ks G0 w0 G a w→Goal P Q K (.ops ops rest) a w):Goal P Q K (.ops ops (o::rest)) a w:=by
 have hd:=(DO (P:=P) (ops:=ops) A h1 hf.1).1
 refine DN (Q:=He P Q K) ?_
 rcases RM (R2:=fun y H3=>∀{G a w},Sy n (BN T o.dst y) H3 ks G0 w0 G a w→Goal P Q K (.ops ops rest) a w) m hf A h1 h2 h3 h4 h5 hk with⟨hw,h⟩|⟨hw,y,H3,F,g1,g2,g3⟩
 ·refine .inl ⟨hw,fun Q'=>?_⟩
  refine κ4 (fun a' w' hh=>?_) (h Q')
  obtain⟨v,rfl,y,H3,F,g1,g2,g3⟩:=hh
  exact⟨v,rfl,g1 (Sy.put g3 hd g2)⟩
 ·exact .inr ⟨hw,g1 (Sy.put g3 hd g2)⟩
abbrev Rt (x:SV)(H:Hp):SV→Hp→Prop:=fun y H'=>y=x∧H'=H
theorem kC {f:Nat} {args az:List SV} {H' H2 l l2:Hp} {x y:SV} (m:ae) (hf:Fn P f args H' (Rt x H2)) (A:Sy n T H ks G0 w0 G a w) (h1:Bi n ops T o=some (f,az)) (h2:D8 m args=some az) (h3:DR m H'=some l) (h4:DC H m=some l) (h5:Ks m=true)
  (h6:D4 (m++BT H.length (H2.length - m.length)) x=some y) (h7:DR (m++BT H.length (H2.length - m.length)) H2=some l2) (hk:∀{G a w},Sy n (BN T o.dst y) (CN H m l2) ks G0 w0 G a w→Goal P Q K (.ops ops rest) a w):Goal P Q K (.ops ops (o::rest)) a w:=
 sA m hf A h1 h2 h3 h4 h5 fun x' H' ⟨e1,e2⟩=>by subst e1;subst e2;exact⟨y,l2,h6,h7,hk⟩
end
end
end Go.Proofs.YtbbdanhpphlbpaaGreatDoor
