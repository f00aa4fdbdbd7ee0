/- ScPlays, part 1: the engine, contracts, theory. -/
import Derived.WalkKit
import Derived.Deep.WholeRow
import Derived.Deep.MidRow
import Derived.Great.BuildSlice
import Derived.ChangeKeysEq
import Derived.Deep.Draws
import Derived.Laws.StructEq
import Derived.Maps.AppendAt
import Derived.Deep.Upon
set_option linter.unusedVariables false
set_option linter.unusedSimpArgs false
set_option linter.unusedSectionVars false
namespace Go.Proofs.YtbbdanhpphlbpaaGreatDoor
open Go.RowKit
abbrev BW (w w':World):Prop:=Below w.heap.size w w'
theorem BW.refl (w:World):BW w w:=Below.refl _ _
theorem BW.trans {a b c:World}(h:BW a b)(k:BW b c):BW a c:=Below.trans h (Below.mono k h.size)
theorem BW.alloc {a b:World}(h:BW a b)(o:Obj):BW a (b.alloc o):=Below.alloc h h.size o
theorem BW.drew {a b:World}(h:BW a b):BW a b.drew:=Below.drew h
structure St (n:Nat)(T:List (Nat×Value))(a:Act):Prop where
 size:a.tmps.size=n
 defers:a.defers=[]
 get:∀t v,T.lookup t=some v→a.tmps.getD t undef=v
def ev (T:List (Nat×Value)):Operand→Option Value
 | .tmp t=>T.lookup t
 | .const v=>some v
 | .global g=>some (.pointer (some ⟨g,0,none⟩))
 | .func f=>some (.func (.func f) #[] #[])
theorem St.ev {n:Nat}{T:List (Nat×Value)}{a:Act}(h:St n T a){x:Operand}{v:Value}(hx:ev T x=some v):a.eval x=v:=by
 cases x with
 |tmp t=>exact h.get t v hx
 |const u=>exact Option.some.inj hx
 |global g=>exact Option.some.inj hx
 |func f=>exact Option.some.inj hx
theorem St.put {n:Nat}{T:List (Nat×Value)}{a:Act}(h:St n T a){d:Nat}(hd:d<n)(v:Value):St n ((d,v)::T) (a.put (some d) v):=by
 refine⟨by simp [Act.put,h.size],by simp [Act.put,h.defers],fun t u hu=>?_⟩
 rw [List.lookup_cons]at hu
 have hs:d<a.tmps.size:=by rw [h.size];exact hd
 by_cases ht:t=d
 ·subst ht
  simp at hu
  simp [Act.put,hs,hu]
 ·have:(t==d)=false:=by simpa using ht
  simp only [this]at hu
  have hg:=h.get t u hu
  simp only [Act.put,Array.getD_eq_getD_getElem?]
  rw [Array.getElem?_setIfInBounds_ne (Ne.symm ht),←Array.getD_eq_getD_getElem?]
  exact hg
theorem St.cut {n:Nat}{T:List (Nat×Value)}{a:Act}(h:St n T a)(T':List (Nat×Value))(hT:∀x∈T',a.tmps.getD x.1 undef=x.2):St n T' a:=
 ⟨h.size,h.defers,fun t v hv=>by
  have:(t,v)∈T':=by
   clear hT
   induction T' with
   |nil=>simp at hv
   | cons x l ih=>
    rw [List.lookup_cons]at hv
    by_cases hx:t=x.1
    ·subst hx;simp at hv;subst hv;simp
    ·have:(t==x.1)=false:=by simpa using hx
     simp only [this]at hv
     exact List.mem_cons_of_mem _ (ih hv)
  exact hT (t,v) this⟩
theorem St.sub {n:Nat}{T T':List (Nat×Value)}{a:Act}(h:St n T a)(hT:(T'.map fun x=>T.lookup x.1)=T'.map fun x=>some x.2):St n T' a:=
 h.cut T' fun x hx=>h.get _ _ (List.map_inj_left.1 hT x hx)
def Ci (n:Nat):Option Nat→Bool
 |some d=>decide (d<n)
 |none=>true
def Hs (ops:Array Oper)(j:Nat):Option Tmp:=(ops[j]?).bind (·.dst)
def BG (P:Program)(ops:Array Oper)(o:Oper)(a:Act)(w:World)(K:Value→World→Prop):Prop:=
 (Region.wanted o (yielded ops a.tmps)=true∧∀Q,o.wp P a w (fun a' w'=>∃v,a'=a.put o.dst v∧K v w') Q)∨(Region.wanted o (yielded ops a.tmps)=false∧K undef w)
section
variable {P:Program}{ops:Array Oper}{o:Oper}{a:Act}{w w':World}{K:Value→World→Prop}{Q:Exit→Act→World→Prop}{rest:List Oper}{n:Nat}{T:List (Nat×Value)}
theorem wn {f:Nat→Option Bool}(h:o.guard=none):Region.wanted o f=true:=by unfold Region.wanted;rw [h]
theorem wy {j t:Nat}{b:Bool}(h:o.guard=some (j,b))(hj:Hs ops j=some t)(hv:a.tmps.getD t undef=.bool b):Region.wanted o (yielded ops a.tmps)=true:=by
 unfold Region.wanted yielded
 rw [h]
 have qZ:(ops[j]?).bind (·.dst)=some t:=hj
 simp only [qZ,Option.bind_some]
 cases hq:a.tmps[t]? with
 |none=>simp [Array.getD_eq_getD_getElem?,hq,undef]at hv
 |some v=>simp [Array.getD_eq_getD_getElem?,hq]at hv;subst hv;simp
theorem P7 {j t:Nat}{b:Bool}(h:o.guard=some (j,b))(hj:Hs ops j=some t)(hv:a.tmps.getD t undef=.bool !b∨a.tmps.getD t undef=undef):Region.wanted o (yielded ops a.tmps)=false:=by
 unfold Region.wanted yielded
 rw [h]
 have qZ:(ops[j]?).bind (·.dst)=some t:=hj
 simp only [qZ,Option.bind_some]
 cases hq:a.tmps[t]? with
 |none=>simp
 |some v=>
  simp [Array.getD_eq_getD_getElem?,hq]at hv
  rcases hv with hv|hv
  ·subst hv;cases b<;>simp
  ·subst hv;simp [undef]
theorem AR {v:Value}(hw:Region.wanted o (yielded ops a.tmps)=true)(hr:(execOp a.eval o).run P w=.ok (.value v) w')(h:K v w'):BG P ops o a w K:=
 .inl ⟨hw,fun Q=>by unfold Oper.wp;rw [hr,Oper.upon_value];exact⟨v,rfl,h⟩⟩
theorem Jq (hw:Region.wanted o (yielded ops a.tmps)=true)(hr:(execOp a.eval o).run P w=.ok .skip w')(h:K undef w'):BG P ops o a w K:=
 .inl ⟨hw,fun Q=>by unfold Oper.wp;rw [hr,Oper.upon_skip];exact⟨undef,rfl,h⟩⟩
theorem EL (hw:Region.wanted o (yielded ops a.tmps)=false)(h:K undef w):BG P ops o a w K:=.inr ⟨hw,h⟩
theorem MX {f:FuncId} {args:Array Value} {R:Ending→World→Prop} (hw:Region.wanted o (yielded ops a.tmps)=true) (hr:(execOp a.eval o).run P w=.ok (.enter f args) w) (hc:Calls P f args w R)
  (h:∀e w',R e w'→∃v,e=.returned v∧K v w'):BG P ops o a w K:=
 .inl ⟨hw,fun Q=>by
  unfold Oper.wp;rw [hr,Oper.upon_enter]
  refine Calls.mono hc fun e w' he=>?_
  obtain⟨v,rfl,hk⟩:=h e w' he
  exact⟨v,rfl,hk⟩⟩
theorem Yf (h:Q .normal a w):wpList P ops Q [] a w:=h
end
def DR (w:World)(g:Nat)(cs:Array Value)(t:TypeId):Prop:=w.heap[g]?=some (.cells cs t (0,0))
theorem DR.lt {w:World}{g:Nat}{cs:Array Value}{t:TypeId}(h:DR w g cs t):g<w.heap.size:=(Array.getElem?_eq_some_iff.1 h).1
theorem DR.cell {w:World}{g k:Nat}{cs:Array Value}{t:TypeId}{v:Value}(h:DR w g cs t)(hv:cs[k]?=some v):w.cell? ⟨g,k,none⟩=some v:=by
 rw [cell_of_row w g k cs t _ h];exact hv
theorem DR.frozen {w:World}{g:Nat}{cs:Array Value}{t:TypeId}(h:DR w g cs t)(k:Nat):w.frozen? ⟨g,k,none⟩=false:=by
 unfold DR at h;simp [World.frozen?,h]
structure S5 (g:Nat)(w w':World):Prop where
 os:w'.os=w.os
 tape:w'.tape=w.tape
 output:w'.output=w.output
 size:w'.heap.size=w.heap.size
 block:∀k,k≠g→w'.heap[k]?=w.heap[k]?
theorem LL (w:World)(g k:Nat)(v:Value):S5 g w (w.setCell ⟨g,k,none⟩ v):=
 ⟨rfl,rfl,rfl,by simp [World.setCell],fun j hj=>Below.heap_setCell _ _ _ _ hj⟩
theorem DR.set {w:World}{g k:Nat}{cs:Array Value}{t:TypeId}(h:DR w g cs t)(v:Value):DR (w.setCell ⟨g,k,none⟩ v) g (cs.setIfInBounds k v) t:=by
 rw [setCell_eq_setRow w g k _ _ _ _ h]
 exact setRow_heap w g _ _ _ _ h
section
variable {P:Program}{ops:Array Oper}{a:Act}{w w':World}{K:Value→World→Prop}{d:Option Tmp}{ty:TypeId}{pos:String}{af:Array Edge}{gd:Option (Nat×Bool)}{v u:Value}
theorem V1 {x:Operand}(hw:Region.wanted {dst:=d,op:=.move x,type:=ty,pos:=pos,after:=af,guard:=gd} (yielded ops a.tmps)=true)(hx:a.eval x=v)(h:K v w):
  BG P ops {dst:=d,op:=.move x,type:=ty,pos:=pos,after:=af,guard:=gd} a w K:=AR hw (by subst hx;rfl) h
theorem QB {x:Operand}(hw:Region.wanted {dst:=d,op:=.assign x,type:=ty,pos:=pos,after:=af,guard:=gd} (yielded ops a.tmps)=true)(hx:a.eval x=v)(h:K v w):
  BG P ops {dst:=d,op:=.assign x,type:=ty,pos:=pos,after:=af,guard:=gd} a w K:=AR hw (by subst hx;rfl) h
theorem MY {c x y:Operand}{b:Bool}(hw:Region.wanted {dst:=d,op:=.pick c x y,type:=ty,pos:=pos,after:=af,guard:=gd} (yielded ops a.tmps)=true)(hc:a.eval c=.bool b)(hx:(if b then a.eval x else a.eval y)=v)(h:K v w):
  BG P ops {dst:=d,op:=.pick c x y,type:=ty,pos:=pos,after:=af,guard:=gd} a w K:=
 AR hw (by subst hx;unfold execOp;simp [hc,asBool]) h
theorem Yg {t:TypeId} {x:Operand} (hw:Region.wanted {dst:=d,op:=.box t x,type:=ty,pos:=pos,after:=af,guard:=gd} (yielded ops a.tmps)=true) (hx:a.eval x=v)
  (h:∀g w',g=w.heap.size→BW w w'→DR w' g v.cells t→K (.pointer (some ⟨g,0,none⟩)) w'):
  BG P ops {dst:=d,op:=.box t x,type:=ty,pos:=pos,after:=af,guard:=gd} a w K:=
 AR (w':=w.alloc (.cells v.cells t)) hw (by subst hx;rfl) (h _ _ rfl ((BW.refl _).alloc _) (heap_alloc_last w _))
theorem S6 {t:TypeId} {z:Value} {m:Nat} (hw:Region.wanted {dst:=d,op:=.alloc t,type:=ty,pos:=pos,after:=af,guard:=gd} (yielded ops a.tmps)=true)
  (hi:(P.info? t).map (fun i=>(i.zero,i.size))=some (some z,m)) (h:∀g w',g=w.heap.size→BW w w'→DR w' g z.cells t→K (.pointer (some ⟨g,0,none⟩)) w'):
  BG P ops {dst:=d,op:=.alloc t,type:=ty,pos:=pos,after:=af,guard:=gd} a w K:=
 AR (w':=w.alloc (.cells z.cells t)) hw (by
  have hz:=(zero_of_info hi).1 w
  unfold execOp
  simp only [Instr.alloc,newVar,newRow,Sem.run_bind,hz,Result.andThen_ok]
  rfl) (h _ _ rfl ((BW.refl _).alloc _) (heap_alloc_last w _))
theorem LM {s:TypeId}{fs:Array Field}{f:Nat}{fd:Field}(w:World)(g k off:Nat)(hu:P.underlying s=some (.struct fs))(hf:fs[f]?=some fd)(hs:(P.info? fd.type).map (·.size !=0)=some true)(ho:fd.offset=off):
  (Instr.fieldAt s (.pointer (some ⟨g,k,none⟩)) f).run P w=.ok (.pointer (some ⟨g,k+off,none⟩)) w:=by
 cases hq:P.info? fd.type with
 |none=>simp [hq]at hs
 |some i=>
  have hz:i.size≠0:=by simpa [hq]using hs
  simp [Instr.fieldAt,run_underlying hu,hf,Instr.sureAddr,fieldPlace,sizeOf,typeInfo,hq,hz,Addr.add_mid,ho]
def C2 (P:Program)(s f:Nat):Option Nat:=
 match P.underlying s with
 |some (.struct fs)=>match fs[f]? with
  |some fd=>if(P.info? fd.type).map (·.size !=0)=some true then some fd.offset else none
  |none=>none
 |_=>none
theorem KT {s f off:Nat}(w:World)(g k:Nat)(h:C2 P s f=some off):(Instr.fieldAt s (.pointer (some ⟨g,k,none⟩)) f).run P w=.ok (.pointer (some ⟨g,k+off,none⟩)) w:=by
 unfold C2 at h
 split at h
 ·rename_i fs hu
  split at h
  ·rename_i fd hf
   split at h
   ·rename_i hs
    exact LM w g k off hu hf hs (by simpa using h)
   ·cases h
  ·cases h
 ·cases h
theorem DS {s:TypeId} {x:Operand} {f g k off:Nat} (hw:Region.wanted {dst:=d,op:=.fieldAddr s x f,type:=ty,pos:=pos,after:=af,guard:=gd} (yielded ops a.tmps)=true) (hx:a.eval x=.pointer (some ⟨g,k,none⟩))
  (hf:C2 P s f=some off) (h:K (.pointer (some ⟨g,k+off,none⟩)) w):
  BG P ops {dst:=d,op:=.fieldAddr s x f,type:=ty,pos:=pos,after:=af,guard:=gd} a w K:=
 AR hw (by unfold execOp;simp only [hx,Sem.run_bind,KT w g k hf,Result.andThen_ok,Sem.run_pure]) h
def oneB (P:Program)(t:TypeId):Bool:=
 (match P.underlying t with|some (.struct _)=>false|some (.array _ _)=>false|some _=>true|none=>false)&&((P.info? t).map (·.size)==some 1)
theorem HK {t:TypeId}(h:oneB P t=true)(w:World):(isAgg t).run P w=.ok false w:=by
 unfold oneB at h
 rw [Bool.and_eq_true]at h
 cases hq:P.underlying t with
 |none=>simp [hq]at h
 |some d=>
  unfold isAgg
  rw [Sem.run_bind,run_underlying hq w]
  cases d<;>simp_all
theorem Ot {t:TypeId}{g k:Nat}(h1:oneB P t=true)(hc:w.cell? ⟨g,k,none⟩=some v):(Instr.loadAt t (.pointer (some ⟨g,k,none⟩))).run P w=.ok v w:=by
 simp [Instr.loadAt,Instr.sureAddr,loadVar,HK h1,hc,go_sem]
theorem V2 {t:TypeId} {x:Operand} {g k:Nat} (hw:Region.wanted {dst:=d,op:=.load t x,type:=ty,pos:=pos,after:=af,guard:=gd} (yielded ops a.tmps)=true) (hx:a.eval x=.pointer (some ⟨g,k,none⟩)) (h1:oneB P t=true)
  (hc:w.cell? ⟨g,k,none⟩=some v) (h:K v w):BG P ops {dst:=d,op:=.load t x,type:=ty,pos:=pos,after:=af,guard:=gd} a w K:=
 AR hw (by unfold execOp;simp only [hx,Sem.run_bind,Ot h1 hc,Result.andThen_ok,Sem.run_pure]) h
def ID (P:Program)(t:TypeId)(m:Nat):Bool:=
 (match P.underlying t with|some (.struct _)=>true|some (.array _ _)=>true|_=>false)&&((P.info? t).map (·.size)==some m)
theorem Dl {t:TypeId}{m:Nat}(h:ID P t m=true):(∃dd:TypeDesc,P.underlying t=some dd∧dd.isRow=true∧(match dd with| .struct _| .array _ _=>true|_=>false)=true)∧(P.info? t).map (·.size)=some m:=by
 unfold ID at h
 rw [Bool.and_eq_true]at h
 refine⟨?_,by simpa using h.2⟩
 cases hq:P.underlying t with
 |none=>simp [hq]at h
 |some dd=>refine⟨dd,rfl,?_,?_⟩<;>(cases dd<;>simp_all [TypeDesc.isRow])
theorem MZ {t t':TypeId}{g k:Nat}{cs:Array Value}(h1:oneB P t=true)(sZ:v.oneCell'=true)(hb:DR w g cs t')(hk:k<cs.size):(Instr.storeAt t (.pointer (some ⟨g,k,none⟩)) v).run P w=.ok () (w.setCell ⟨g,k,none⟩ v):=by
 have hc:w.cell? ⟨g,k,none⟩=some cs[k]:=hb.cell (by simp [hk])
 have hf:=hb.frozen k
 unfold oneB at h1
 rw [Bool.and_eq_true]at h1
 have hs:(P.info? t).map (·.size)=some 1:=by simpa using h1.2
 cases hq:P.info? t with
 |none=>simp [hq]at hs
 | some i=>
  have hi:i.size=1:=by simpa [hq]using hs
  have hz:(sizeOf t).run P w=.ok 1 w:=by simp [sizeOf,typeInfo,hq,hi]
  have lT:v.cells= #[v]:=by cases v<;>simp_all [Value.oneCell',Value.cells]
  have lQ:(store ((⟨g,k,none⟩:Addr).add 0) v).run P w=.ok () (w.setCell ⟨g,k,none⟩ v):=by
   rw [Addr.add_mid,Nat.add_zero,run_store P w _ v _ sZ,hc]
   simp [hf]
  simp only [Instr.storeAt,Instr.sureAddr,storeVar,Sem.run_bind,Sem.run_pure,Result.andThen_ok,hz,lT,List.size_toArray,List.length_cons,List.length_nil,Nat.zero_add,ne_eq,not_true_eq_false,if_false,storeCells,lQ]
theorem QC {t:TypeId}{x:Operand}{b:Bool}(hw:Region.wanted {dst:=d,op:=.unOp .not t x,type:=ty,pos:=pos,after:=af,guard:=gd} (yielded ops a.tmps)=true)(hx:a.eval x=.bool b)(h:K (.bool !b) w):
  BG P ops {dst:=d,op:=.unOp .not t x,type:=ty,pos:=pos,after:=af,guard:=gd} a w K:=
 AR hw (by unfold execOp;simp only [hx,Op.unary,Sem.run_bind,Sem.run_pure,Result.andThen_ok]) h
theorem Jr {op:BinOp} {t t2:TypeId} {x y:Operand} {r:Value} (hw:Region.wanted {dst:=d,op:=.binOp op t x y t2,type:=ty,pos:=pos,after:=af,guard:=gd} (yielded ops a.tmps)=true) (hx:a.eval x=u) (hy:a.eval y=v)
  (hr:(eqGuard op t x y u v).run P w=.ok () w∧(binOp op t u v).run P w=.ok r w) (h:K r w):BG P ops {dst:=d,op:=.binOp op t x y t2,type:=ty,pos:=pos,after:=af,guard:=gd} a w K:=
 AR hw (by unfold execOp;simp only [hx,hy,Sem.run_bind,hr.1,hr.2,Sem.run_pure,Result.andThen_ok]) h
theorem enters {f:FuncId}(h:((P.funcs[f]?).map fun fn=>(fn.name== "runtime.NumGoroutine",fn.body.isNone))=some (false,false))(args:Array Value)(w:World):(callFunc f args).run P w=.ok (.enter f args) w:=by
 cases hf:P.funcs[f]? with
 |none=>simp [hf]at h
 |some fn=>
  rw [hf]at h
  simp only [Option.map_some,Option.some.injEq,Prod.mk.injEq]at h
  unfold callFunc
  simp only [Sem.run_bind,run_program,Result.andThen_ok,hf,h.1,h.2,Bool.false_eq_true,if_false,Sem.run_pure]
theorem Ou {x:Operand}{k:Nat}{vs:Array Value}(hw:Region.wanted {dst:=d,op:=.extract x k,type:=ty,pos:=pos,after:=af,guard:=gd} (yielded ops a.tmps)=true)(hx:a.eval x=.tuple vs)(hk:vs[k]?=some v)(h:K v w):
  BG P ops {dst:=d,op:=.extract x k,type:=ty,pos:=pos,after:=af,guard:=gd} a w K:=
 AR hw (by unfold execOp;simp only [hx,Instr.extract,hk,Sem.run_bind,Sem.run_pure,Result.andThen_ok]) h
end
section
variable {P:Program}{t:TypeId}{k:IntKind}(x y:Operand)(a b:Int)(r:Bool)(w:World)
theorem cY (h:(a==b)=r):(eqGuard .eql t x y (.int k a) (.int k b)).run P w=.ok () w∧(binOp .eql t (.int k a) (.int k b)).run P w=.ok (.bool r) w:=by
 subst h;exact⟨by simp [eqGuard],by simp [binOp,Op.intCmp]⟩
theorem cZ (h:(!(a==b))=r):(eqGuard .neq t x y (.int k a) (.int k b)).run P w=.ok () w∧(binOp .neq t (.int k a) (.int k b)).run P w=.ok (.bool r) w:=by
 subst h;exact⟨by simp [eqGuard],by simp [binOp,Op.intCmp,bne]⟩
theorem dA (h:decide (a<b)=r):(eqGuard .lss t x y (.int k a) (.int k b)).run P w=.ok () w∧(binOp .lss t (.int k a) (.int k b)).run P w=.ok (.bool r) w:=by
 subst h;exact⟨by simp [eqGuard],by simp [binOp,Op.intCmp]⟩
theorem dB (h:decide (a≤b)=r):(eqGuard .leq t x y (.int k a) (.int k b)).run P w=.ok () w∧(binOp .leq t (.int k a) (.int k b)).run P w=.ok (.bool r) w:=by
 subst h;exact⟨by simp [eqGuard],by simp [binOp,Op.intCmp]⟩
theorem dC (h:decide (a>b)=r):(eqGuard .gtr t x y (.int k a) (.int k b)).run P w=.ok () w∧(binOp .gtr t (.int k a) (.int k b)).run P w=.ok (.bool r) w:=by
 subst h;exact⟨by simp [eqGuard],by simp [binOp,Op.intCmp]⟩
theorem dD (h:decide (a≥b)=r):(eqGuard .geq t x y (.int k a) (.int k b)).run P w=.ok () w∧(binOp .geq t (.int k a) (.int k b)).run P w=.ok (.bool r) w:=by
 subst h;exact⟨by simp [eqGuard],by simp [binOp,Op.intCmp]⟩
end
section
variable {P:Program}{K:Act→World→Prop}{Q:Exit→Act→World→Prop}{a:Act}{w:World}{id j n:Nat}{T:List (Nat×Value)}
theorem V3 (h:K a w):Exit.then K Q .normal a w:=h
theorem QD (h:Q (.exit j) a w):Exit.then K Q (.exit j) a w:=h
theorem Uu (h:Q .ret a w):Exit.then K Q .ret a w:=h
theorem V4 (h:Q .normal a w):Exit.inBlock id Q .normal a w:=h
theorem Yh (h:Q .ret a w):Exit.inBlock id Q .ret a w:=h
theorem V5 (h:Q .normal a w):Exit.inBlock id Q (.exit id) a w:=by simp only [Exit.inBlock,if_true];exact h
theorem V6 (jF:j≠id)(h:Q (.exit j) a w):Exit.inBlock id Q (.exit j) a w:=by simp only [Exit.inBlock,if_neg jF];exact h
def QE:List Value→Nat→List (Nat×Value)
 | [],_=>[]
 |v::vs,k=>(k,v)::QE vs (k+1)
theorem Js (t:Nat)(v:Value):∀(vs:List Value) (k:Nat),(QE vs k).lookup t=some v→k≤t∧vs[t - k]?=some v
 | [],_,h=>by simp [QE]at h
 | u::vs,k,h=>by
  unfold QE at h
  rw [List.lookup_cons]at h
  by_cases ht:t=k
  ·subst ht;simp at h;subst h;simp
  ·have:(t==k)=false:=by simpa using ht
   simp only [this]at h
   obtain⟨h1,h2⟩:=Js t v vs (k+1) h
   refine⟨by omega,?_⟩
   rw [show t - k=(t - (k+1))+1 by omega];simpa using h2
theorem enter {f:FuncId} {fn:Func} {c:Code} {args:List Value} {R:Ending→World→Prop} (hf:P.funcs[f]?=some fn) (hb:fn.body=some c) (hn:fn.ntmps=n) (hl:args.length≤n)
  (h:∀a,St n (QE args 0) a→c.wp P (bodyPost P fn R) a w):Calls P f args.toArray w R:=by
 refine calls_of_wp hf hb (h _ ⟨by simp [hn];omega,rfl,fun t v hv=>?_⟩)
 obtain⟨_,h2⟩:=Js t v args 0 hv
 have i7:t<args.length:=(List.getElem?_eq_some_iff.1 h2).1
 simp only [Nat.sub_zero]at h2
 simp [Array.getD_eq_getD_getElem?,Array.getElem?_append,i7]at h2⊢
 exact h2
end
structure Cl (S:World→World→Prop) where
 P:Value→World→Prop
 st:∀v w w',S w w'→P v w→P v w'
def waits (o:Oper)(j:Nat):Bool:=o.after.toList.any fun e=>Region.binds .any e&&e.on==j
def Ih (ops:Array Oper)(n:Nat)(T:List (Nat×Value)):Bool:=
 ((List.range ops.size).all fun i=>match ops[i]? with
  |some o=>(match o.dst with
   |some d=>decide (d<n)&&((List.range ops.size).all fun j=>i==j||Hs ops j !=some d)&&T.all fun x=>x.1 !=d
   |none=>true)&&o.after.all fun e=> !Region.binds .any e||decide (e.on<i)
  |none=>false)
theorem EM {ops:Array Oper}{n i:Nat}{T:List (Nat×Value)}{o:Oper}(h:Ih ops n T=true)(hi:ops[i]?=some o):
  (∀d,o.dst=some d→d<n∧(∀j,j<ops.size→Hs ops j=some d→j=i)∧∀x∈T,x.1≠d)∧∀e∈o.after,Region.binds .any e=true→e.on<i:=by
 have i7:i<ops.size:=(Array.getElem?_eq_some_iff.1 hi).1
 unfold Ih at h
 rw [List.all_eq_true]at h
 have h1:=h i (by simpa using i7)
 simp only [hi]at h1
 rw [Bool.and_eq_true]at h1
 obtain⟨h2,h3⟩:=h1
 refine⟨fun d hd=>?_,fun e he hb=>?_⟩
 ·simp only [hd,Bool.and_eq_true,decide_eq_true_eq,List.all_eq_true]at h2
  refine⟨h2.1.1,fun j hj wC=>?_,fun x hx=>by simpa using h2.2 x hx⟩
  have:=h2.1.2 j (by simpa using hj)
  simp only [wC,Bool.or_eq_true,beq_iff_eq,bne_self_eq_false,Bool.false_eq_true,or_false]at this
  exact this.symm
 ·have:=(Array.all_eq_true_iff_forall_mem.1 h3) e he
  simpa [hb]using this
theorem F7 {l:Array Bool}{i k:Nat}(b:Bool)(h:i≠k):(l.setIfInBounds i true).getD k b=l.getD k b:=by
 simp [Array.getD_eq_getD_getElem?,Array.getElem?_setIfInBounds_ne h]
section
variable {P:Program}{l:List Oper}{Q:Exit→Act→World→Prop}{S:World→World→Prop}{n:Nat}{T:List (Nat×Value)}{w:World}
end
structure SM (M:Nat→Option (Array Value))(w w':World):Prop where
 os:w'.os=w.os
 tape:w'.tape=w.tape
 output:w'.output=w.output
 size:w.heap.size≤w'.heap.size
 block:∀k,k<w.heap.size→M k=none→w'.heap[k]?=w.heap[k]?
 turns:∀k fin cs t,M k=some fin→DR w k cs t→∃cs',DR w' k cs' t∧cs'.size=cs.size∧∀j:Nat,cs'[j]?=cs[j]?∨cs'[j]?=fin[j]?
theorem SM.trans {M:Nat→Option (Array Value)}(a b c:World)(h:SM M a b)(k:SM M b c):SM M a c:=
 ⟨k.os.trans h.os,k.tape.trans h.tape,k.output.trans h.output,Nat.le_trans h.size k.size,fun i hi hm=>(k.block i (Nat.lt_of_lt_of_le hi h.size) hm).trans (h.block i hi hm),fun i fin cs t hm hb=>by
  obtain⟨Ez,h1,h2,h3⟩:=h.turns i fin cs t hm hb
  obtain⟨cs2,k1,k2,k3⟩:=k.turns i fin Ez t hm h1
  refine⟨cs2,k1,k2.trans h2,fun j=>?_⟩
  rcases k3 j with e|e
  ·rcases h3 j with e'|e'
   ·exact .inl (e.trans e')
   ·exact .inr (e.trans e')
  ·exact .inr e⟩
theorem DR.sm {M:Nat→Option (Array Value)}{w w':World}{g:Nat}{cs:Array Value}{t:TypeId}(hb:DR w g cs t)(h:SM M w w')(hM:M g=none):DR w' g cs t:=by
 unfold DR;rw [h.block g hb.lt hM];exact hb
section
variable {P:Program}{ops:Array Oper}{a:Act}{w w0:World}{K:Value→World→Prop}{d:Option Tmp}{ty:TypeId}{pos:String}{af:Array Edge}{gd:Option (Nat×Bool)}{v:Value}{M:Nat→Option (Array Value)}
def placesOf (P:Program)(t:TypeId):Option (List (Nat×Nat)):=
 match P.underlying t with
 |some (.struct fs)=>fs.toList.mapM fun f=>(P.info? f.type).map fun i=>(f.offset,i.size)
 |_=>none
theorem run_places {P:Program}(w:World):∀(fs:List Field) (ps:List (Nat×Nat)),fs.mapM (fun f=>(P.info? f.type).map fun i=>(f.offset,i.size))=some ps→(fs.mapM (fun f=>do pure (f.offset,←sizeOf f.type):Field→Sem (Nat×Nat))).run P w=.ok ps w
 | [],ps,h=>by simp at h;subst h;simp
 | f::fs,ps,h=>by
  rw [List.mapM_cons]at h
  cases hi:P.info? f.type with
  |none=>simp [hi]at h
  | some i=>
   cases hr:fs.mapM (fun f=>(P.info? f.type).map fun i=>(f.offset,i.size))with
   |none=>simp [hi,hr]at h
   |some qs=>
    simp [hi,hr]at h
    subst h
    have ih:=run_places w fs qs hr
    have hz:(sizeOf f.type).run P w=.ok i.size w:=by simp [sizeOf,typeInfo,hi]
    rw [List.mapM_cons]
    simp only [Sem.run_bind,hz,Result.andThen_ok,Sem.run_pure,ih]
theorem S7 {t:TypeId} {parts:Array (Nat×Operand)} {vs:List (Nat×Value)} {z:Value} {m:Nat} {ps:List (Nat×Nat)} {cs:Array Value} (hw:Region.wanted {dst:=d,op:=.build t parts,type:=ty,pos:=pos,after:=af,guard:=gd} (yielded ops a.tmps)=true)
  (hx:(parts.map fun x=>(x.1,a.eval x.2)).toList=vs) (hi:(P.info? t).map (fun i=>(i.zero,i.size))=some (some z,m)) (hp:placesOf P t=some ps) (hf:Instr.fill (fun i=>ps[i]?) z.cells vs=some cs) (h:K (.agg cs) w):
  BG P ops {dst:=d,op:=.build t parts,type:=ty,pos:=pos,after:=af,guard:=gd} a w K:=
 AR hw (by
  have hz:=(zero_of_info hi).1 w
  unfold placesOf at hp
  split at hp
  ·rename_i fs hu
   have lB:=run_places (P:=P) w fs.toList ps hp
   have s8:(fs.mapM (fun f=>do pure (f.offset,←sizeOf f.type):Field→Sem (Nat×Nat))).run P w=.ok ps.toArray w:=by
    rw [←Array.toArray_toList (xs:=fs),List.mapM_toArray]
    simp only [Sem.run_map,lB,Result.andThen_ok]
   have pW:Instr.fill (fun i=>ps.toArray[i]?) z.cells (parts.map fun x=>(x.1,a.eval x.2)).toList=some cs:=by rw [hx];simpa using hf
   unfold execOp
   simp only [Sem.run_bind,Instr.build,hz,Result.andThen_ok,run_underlying hu,s8,pW,Sem.run_pure]
  ·cases hp) h
end
section
variable {P:Program}
theorem GR {t:TypeId}{cs:Array Value}{o:Nat}{v:Value}(w:World)(h:(isAgg t).run P w=.ok false w)(hv:cs[o]?=some v):(part t cs o).run P w=.ok v w:=by
 simp [part,h,hv]
def fieldInfo (P:Program)(s f:Nat):Option (TypeId×Nat):=
 match P.underlying s with
 |some (.struct fs)=>(fs[f]?).map fun fd=>(fd.type,fd.offset)
 |_=>none
variable {ops:Array Oper}{a:Act}{w:World}{K:Value→World→Prop}{d:Option Tmp}{ty:TypeId}{pos:String}{af:Array Edge}{gd:Option (Nat×Bool)}{v:Value}
variable {n:Nat}{T:List (Nat×Value)}
end
section
variable {P:Program}{ops:Array Oper}{a:Act}{w:World}{K:Value→World→Prop}{d:Option Tmp}{ty:TypeId}{pos:String}{af:Array Edge}{gd:Option (Nat×Bool)}{v:Value}
theorem S8 {c x y:Operand}(hw:Region.wanted {dst:=d,op:=.pick c x y,type:=ty,pos:=pos,after:=af,guard:=gd} (yielded ops a.tmps)=true)(hc:a.eval c=.bool true)(hx:a.eval x=v)(h:K v w):
  BG P ops {dst:=d,op:=.pick c x y,type:=ty,pos:=pos,after:=af,guard:=gd} a w K:=MY hw hc (by simpa using hx) h
theorem S9 {c x y:Operand}(hw:Region.wanted {dst:=d,op:=.pick c x y,type:=ty,pos:=pos,after:=af,guard:=gd} (yielded ops a.tmps)=true)(hc:a.eval c=.bool false)(hx:a.eval y=v)(h:K v w):
  BG P ops {dst:=d,op:=.pick c x y,type:=ty,pos:=pos,after:=af,guard:=gd} a w K:=MY hw hc (by simpa using hx) h
end
theorem least {p:Nat→Prop}(h:∃m,p m):∃m,p m∧∀k,k<m→¬p k:=by
 obtain⟨m,hm⟩:=h
 induction m using Nat.strongRecOn with
 |_ m ih=>
  by_cases hk:∃k,k<m∧p k
  ·obtain⟨k,s9,nY⟩:=hk;exact ih k s9 nY
  ·exact⟨m,hm,fun k s9 nY=>hk ⟨k,s9,nY⟩⟩
theorem KU {P:Program} {c:Code} {Q:Exit→Act→World→Prop} {a:Act} {w:World} (I:Nat→Act→World→Prop) (m:Nat) (h0:I m a w)
  (round:∀m a w,I m a w→c.wp P (Exit.then (fun a' w'=>∃m',m'<m∧I m' a' w') Q) a w):(Code.loop c).wp P Q a w:=by
 refine wp_loop (fun a w=>∃m,I m a w) (fun a w=> @dite Nat (∃m,I m a w) (Classical.propDecidable _) (fun h=>Classical.choose (least h)) fun _=>0) ⟨m,h0⟩ fun a w hI=>?_
 have hc:=Classical.choose_spec (least hI)
 have hr:=round _ a w hc.1
 refine Code.wp_mono (fun e a' w' hq=>?_) hr
 cases e with
 |normal=>
  obtain⟨m',i7,tA⟩:=hq
  refine⟨⟨m',tA⟩,?_⟩
  have h':∃m,I m a' w':=⟨m',tA⟩
  simp only [dif_pos hI,dif_pos h']
  have h2:=(Classical.choose_spec (least h')).2
  refine Nat.lt_of_le_of_lt ?_ i7
  exact Nat.le_of_not_lt fun wD=>h2 m' wD tA
 |_=>exact hq
def Sl {α:Type}(enc:α→List Value)(s B:Nat)(w:World)(v:Value)(l:List α):Prop:=
 ∃ao cap,v=.slice ao l.length cap∧l.length≤cap∧∀j x,l[j]?=some x→∃b o,ao=some ⟨b,o,none⟩∧b<B∧w.rangeAt b (o+j*s) (enc x)
section
variable {α:Type}{enc:α→List Value}{s B:Nat}{w w':World}{v:Value}{l:List α}
theorem Sl.mono {B':Nat}(h:Sl enc s B w v l)(hB:B≤B'):Sl enc s B' w v l:=by
 obtain⟨ao,cap,hv,mV,he⟩:=h
 refine⟨ao,cap,hv,mV,fun j x hx=>?_⟩
 obtain⟨b,o,h1,h2,h3⟩:=he j x hx
 exact⟨b,o,h1,Nat.lt_of_lt_of_le h2 hB,h3⟩
theorem Sl.nil:Sl enc s B w (.slice none 0 0) ([]:List α):=⟨none,0,rfl,Nat.le_refl _,fun j x h=>by simp at h⟩
end
section
variable {P:Program}{ops:Array Oper}{a:Act}{w:World}{K:Value→World→Prop}{d:Option Tmp}{ty:TypeId}{pos:String}{af:Array Edge}{gd:Option (Nat×Bool)}{v:Value}
def sliceB (P:Program)(t e s:Nat):Bool:=(match P.underlying t with|some (.slice e')=>e'==e|_=>false)&&((P.info? e).map (·.size)==some s)
theorem DT {t e s:Nat}(h:sliceB P t e s=true):P.underlying t=some (.slice e)∧(P.info? e).map (·.size)=some s:=by
 unfold sliceB at h
 rw [Bool.and_eq_true]at h
 refine⟨?_,by simpa using h.2⟩
 cases hq:P.underlying t with
 |none=>simp [hq]at h
 |some dd=>cases dd<;>simp_all
theorem C3 {e s:Nat}(h:(P.info? e).map (·.size)=some s)(w:World):(sizeOf e).run P w=.ok s w:=by
 cases hq:P.info? e with
 |none=>simp [hq]at h
 |some i=>simp [hq]at h;simp [sizeOf,typeInfo,hq,h]
theorem Nf {x:Operand} {t e s n:Nat} (hw:Region.wanted {dst:=d,op:=.call {callee:=.builtin .len,args:= #[x],argTypes:= #[t]},type:=ty,pos:=pos,after:=af,guard:=gd} (yielded ops a.tmps)=true) (hx:a.eval x=v) (ht:sliceB P t e s=true)
  (hv:∃ao cap,v=.slice ao n cap) (h:K (.int .i64 (n:Int)) w):BG P ops {dst:=d,op:=.call {callee:=.builtin .len,args:= #[x],argTypes:= #[t]},type:=ty,pos:=pos,after:=af,guard:=gd} a w K:=
 AR hw (by
  obtain⟨ao,cap,hv⟩:=hv
  have hm:(#[x]:Array Operand).map a.eval= #[.slice ao n cap]:=by simp only [List.map_toArray,List.map_cons,List.map_nil];rw [hx,hv]
  unfold execOp
  simp only [resolve,Sem.run_bind,Sem.run_pure,Result.andThen_ok,invoke,builtin,hm]
  simp [Builtin.len_,run_underlying (DT ht).1,goInt]) h
def Yi (v:Value)(n j s b o:Nat):Prop:=∃o0 cap,v=.slice (some ⟨b,o0,none⟩) n cap∧o=o0+j*s
theorem Sl.at {α:Type}{enc:α→List Value}{s B j:Nat}{l:List α}{y:α}(hs:Sl enc s B w v l)(hy:l[j]?=some y):∃b o,b<B∧w.rangeAt b o (enc y)∧Yi v l.length j s b o:=by
 obtain⟨ao,cap,hv,_,he⟩:=hs
 obtain⟨b,o,wE,hb,hr⟩:=he j y hy
 exact⟨b,o+j*s,hb,hr,o,cap,by rw [hv,wE],rfl⟩
theorem EN {t e s n j b o:Nat} {x ix:Operand} (hw:Region.wanted {dst:=d,op:=.indexAddr t x ix,type:=ty,pos:=pos,after:=af,guard:=gd} (yielded ops a.tmps)=true) (hx:a.eval x=v) (hi:a.eval ix=.int .i64 (j:Int))
  (ht:sliceB P t e s=true) (wF:Yi v n j s b o) (hj:j<n) (h:K (.pointer (some ⟨b,o,none⟩)) w):
  BG P ops {dst:=d,op:=.indexAddr t x ix,type:=ty,pos:=pos,after:=af,guard:=gd} a w K:=by
 obtain⟨o0,cap,hv,ho⟩:=wF
 refine AR (v:=.pointer (some ⟨b,o,none⟩)) hw ?_ h
 subst hv;subst ho
 have hc:(0:Int)≤(j:Int)∧(j:Int)<((n:Nat):Int):=⟨by omega,by omega⟩
 have hq:(Instr.indexAt t (.slice (some ⟨b,o0,none⟩) n cap) (.int .i64 (j:Int))).run P w=.ok (.pointer (some ⟨b,o0+j*s,none⟩)) w:=by
  unfold Instr.indexAt
  simp only [asIntOf,Sem.run_bind,Sem.run_pure,Result.andThen_ok,run_underlying (DT ht).1,if_pos hc,C3 (DT ht).2,Int.toNat_natCast,Addr.add_mid]
 unfold execOp
 simp only [hx,hi,Sem.run_bind,hq,Sem.run_pure,Result.andThen_ok]
def LN (P:Program)(t n e s:Nat):Bool:=(match P.underlying t with|some (.array n' e')=>n'==n&&e'==e|_=>false)&&((P.info? e).map (·.size)==some s)
theorem Cv {t n e s:Nat}(h:LN P t n e s=true):P.underlying t=some (.array n e)∧(P.info? e).map (·.size)=some s:=by
 unfold LN at h
 rw [Bool.and_eq_true]at h
 refine⟨?_,by simpa using h.2⟩
 cases hq:P.underlying t with
 |none=>simp [hq]at h
 |some dd=>cases dd<;>simp_all
theorem Ma {t n e s g o j:Nat} {x ix:Operand} (hw:Region.wanted {dst:=d,op:=.indexAddr t x ix,type:=ty,pos:=pos,after:=af,guard:=gd} (yielded ops a.tmps)=true) (hx:a.eval x=.pointer (some ⟨g,o,none⟩)) (hi:a.eval ix=.int .i64 (j:Int))
  (ht:LN P t n e s=true) (hj:j<n) (h:K (.pointer (some ⟨g,o+j*s,none⟩)) w):BG P ops {dst:=d,op:=.indexAddr t x ix,type:=ty,pos:=pos,after:=af,guard:=gd} a w K:=
 AR hw (by
  have hc:(0:Int)≤(j:Int)∧(j:Int)<((n:Nat):Int):=⟨by omega,by omega⟩
  have hq:(Instr.indexAt t (.pointer (some ⟨g,o,none⟩)) (.int .i64 (j:Int))).run P w=.ok (.pointer (some ⟨g,o+j*s,none⟩)) w:=by
   unfold Instr.indexAt
   simp only [asIntOf,Sem.run_bind,Sem.run_pure,Result.andThen_ok,run_underlying (Cv ht).1,if_pos hc,C3 (Cv ht).2,Int.toNat_natCast,Addr.add_mid,Instr.sureAddr]
  unfold execOp
  simp only [hx,hi,Sem.run_bind,hq,Sem.run_pure,Result.andThen_ok]) h
theorem Ef {x:Operand}{g o:Nat}(hw:Region.wanted {dst:=d,op:=.nilCheck x,type:=ty,pos:=pos,after:=af,guard:=gd} (yielded ops a.tmps)=true)(hx:a.eval x=.pointer (some ⟨g,o,none⟩))(h:K (.pointer (some ⟨g,o,none⟩)) w):
  BG P ops {dst:=d,op:=.nilCheck x,type:=ty,pos:=pos,after:=af,guard:=gd} a w K:=
 AR hw (by unfold execOp;simp only [hx,Sem.run_pure]) h
theorem Ov {t b o:Nat} {x:Operand} {cs:Array Value} (hw:Region.wanted {dst:=d,op:=.load t x,type:=ty,pos:=pos,after:=af,guard:=gd} (yielded ops a.tmps)=true) (hx:a.eval x=.pointer (some ⟨b,o,none⟩)) (h1:ID P t cs.size=true)
  (hr:w.rangeAt b o cs.toList) (h:K (.agg cs) w):BG P ops {dst:=d,op:=.load t x,type:=ty,pos:=pos,after:=af,guard:=gd} a w K:=
 AR hw (by
  obtain⟨⟨dd,h2,h3,_⟩,h4⟩:=Dl h1
  have:=run_loadAt_mid (P:=P) w b o t cs.toList dd hr h2 h3 (by simpa using h4)
  unfold execOp
  simp only [hx,Sem.run_bind,this,Result.andThen_ok,Sem.run_pure,Array.toArray_toList]) h
theorem DR.range {g o n:Nat}{cs:Array Value}{t:TypeId}(hb:DR w g cs t):w.rangeAt g o (cs.extract o (o+n)).toList:=World.rangeAt_of_block hb o n
end
section
variable {P:Program}{t:TypeId}(x y:Operand)(a b:Int)(w:World)
end
section
variable {P:Program}{l:List Oper}{y:Oper}{Q:Exit→Act→World→Prop}{S:World→World→Prop}{n:Nat}{T:List (Nat×Value)}{w:World}
end
section
variable {P:Program}{ops:Array Oper}{a:Act}{w:World}{K:Value→World→Prop}{d:Option Tmp}{ty:TypeId}{pos:String}{af:Array Edge}{gd:Option (Nat×Bool)}{v:Value}
def D2 (P:Program)(t e s by_:Nat):Bool:=sliceB P t e s&&(match P.info? e with|some i=>(match i.zero with|some z=>z.cells.size==s|none=>false)&&i.bytes==by_|none=>false)&&decide (0<s)
theorem CX {t e s by_:Nat}(h:D2 P t e s by_=true):∃i z,P.underlying t=some (.slice e)∧P.info? e=some i∧i.zero=some z∧i.size=s∧i.bytes=by_∧z.cells.size=s∧0<s:=by
 unfold D2 at h
 rw [Bool.and_eq_true,Bool.and_eq_true,decide_eq_true_eq]at h
 obtain⟨⟨h1,h2⟩,h3⟩:=h
 obtain⟨h4,h5⟩:=DT h1
 cases hq:P.info? e with
 |none=>simp [hq]at h2
 |some i=>
  cases hz:i.zero with
  |none=>simp [hq,hz]at h2
  |some z=>simp [hq,hz]at h2 h5;exact⟨i,z,h4,rfl,hz,h5,h2.2,h2.1,h3⟩
end
theorem KV {w:World}{b:Nat}{e:TypeId}{s n:Nat}{v:Value}{xs:List Value}(h:w.ownsRow b e s v n xs):∀k,v.ownBlock=some k→b≤k∧k<w.heap.size:=by
 intro k hk
 rcases h.2 with⟨rfl,_⟩|⟨g,cap,cur,rfl,hb,hg,_⟩
 ·simp [Value.ownBlock]at hk
 ·simp [Value.ownBlock]at hk;subst hk;exact⟨hb,(Array.getElem?_eq_some_iff.1 hg).1⟩
def Ez (M:Nat→Option (Array Value))(hM:∀k,M k=none)(cs:Array Value)(e:TypeId):Cl (SM M):=
 ⟨fun v w=>∃g,v=.slice (some ⟨g,0,none⟩) 1 1∧DR w g cs e,fun _ _ _ hS ⟨g,h1,h2⟩=>⟨g,h1,h2.sm hS (hM g)⟩⟩
theorem QF {w w':World}{b:Nat}{e:TypeId}{s n:Nat}{v:Value}{xs:List Value}(h:w.ownsRow b e s v n xs)(hk:∀k,v.ownBlock=some k→w'.heap[k]?=w.heap[k]?):w'.ownsRow b e s v n xs:=by
 obtain⟨h1,h2⟩:=h
 refine⟨h1,?_⟩
 rcases h2 with h2|⟨g,cap,cur,hv,hb,wG,h3⟩
 ·exact .inl h2
 ·exact .inr ⟨g,cap,cur,hv,hb,by rw [hk g (by rw [hv];rfl)];exact wG,h3⟩
theorem HL {P:Program}{ops:Array Oper}{o:Oper}{a:Act}{w:World}{K K':Value→World→Prop}(h:BG P ops o a w K)(hK:∀v w,K v w→K' v w):BG P ops o a w K':=by
 rcases h with⟨h1,h2⟩|⟨h1,h2⟩
 ·refine .inl ⟨h1,fun Q=>Oper.wp_mono (fun a' w' hh=>?_) (h2 Q)⟩
  obtain⟨v,e,k⟩:=hh
  exact⟨v,e,hK v w' k⟩
 ·exact .inr ⟨h1,hK _ _ h2⟩
section
variable {P:Program}{l:List Oper}{Q:Exit→Act→World→Prop}{S:World→World→Prop}{n:Nat}{T:List (Nat×Value)}{w:World}
end
structure SZ (B0:Nat)(Z R:Array Value)(t:TypeId)(w w':World):Prop where
 os:w'.os=w.os
 tape:w'.tape=w.tape
 output:w'.output=w.output
 size:w.heap.size≤w'.heap.size
 block:∀k,k<w.heap.size→w'.heap[k]?=w.heap[k]?∨(B0≤k∧DR w k Z t∧DR w' k R t)
section
variable {B0:Nat}{Z R:Array Value}{t:TypeId}{w w':World}
theorem SZ.trans (a b c:World)(h:SZ B0 Z R t a b)(k:SZ B0 Z R t b c):SZ B0 Z R t a c:=
 ⟨k.os.trans h.os,k.tape.trans h.tape,k.output.trans h.output,Nat.le_trans h.size k.size,fun i hi=>by
  rcases h.block i hi with h1|⟨h1,h2,h3⟩<;>rcases k.block i (Nat.lt_of_lt_of_le hi h.size)with k1|⟨k1,k2,k3⟩
  ·exact .inl (k1.trans h1)
  ·refine .inr ⟨k1,?_,k3⟩;unfold DR at k2⊢;rw [←h1];exact k2
  ·refine .inr ⟨h1,h2,?_⟩;unfold DR at h3⊢;rw [k1];exact h3
  ·exact .inr ⟨h1,h2,k3⟩⟩
end
section
variable {P:Program}{ops:Array Oper}{a:Act}{w:World}{K:Value→World→Prop}{d:Option Tmp}{ty:TypeId}{pos:String}{af:Array Edge}{gd:Option (Nat×Bool)}{v:Value}
theorem V7 {t e s by_:Nat} (hw:Region.wanted {dst:=d,op:=.buildSlice t 0 #[],type:=ty,pos:=pos,after:=af,guard:=gd} (yielded ops a.tmps)=true) (ht:D2 P t e s by_=true)
  (h:∀g w',g=w.heap.size→BW w w'→DR w' g #[] e→K (.slice (some ⟨g,0,none⟩) 0 0) w'):BG P ops {dst:=d,op:=.buildSlice t 0 #[],type:=ty,pos:=pos,after:=af,guard:=gd} a w K:=by
 obtain⟨i,z,hu,hi,hz,j9,_,yN,h0⟩:=CX ht
 refine AR (w':=w.alloc (.cells #[] e)) hw ?_ (h _ _ rfl ((BW.refl _).alloc _) (heap_alloc_last w _))
 have:(Instr.buildSlice t 0 #[]).run P w=.ok (.slice (some ⟨w.heap.size,0,none⟩) 0 0) (w.alloc (.cells #[] e)):=by
  simp [Instr.buildSlice,run_underlying hu,sizeOf,typeInfo,hi,Instr.fill,newRow]
  congr 1
  congr 1
  apply Array.ext'
  simp
 unfold execOp
 simp only [Sem.run_bind,List.map_toArray,List.map_nil,this,Result.andThen_ok,Sem.run_pure]
end
section
variable {P:Program}{l ys:List Oper}{Q:Exit→Act→World→Prop}{S:World→World→Prop}{n fu:Nat}{T:List (Nat×Value)}{w:World}
end
end Go.Proofs.YtbbdanhpphlbpaaGreatDoor
namespace Go.Proofs.YtbbdanhpphlbpaaGreatDoor
open Go.RowKit
def S (l:List UInt8):ByteArray:=⟨l.toArray⟩
theorem Cf (l:List UInt8):(S l).size=l.length:=by unfold S;rfl
theorem dE (l:List UInt8)(i:Nat):(S l)[i]?=l[i]?:=by
 by_cases h:i<l.length
 ·rw [List.getElem?_eq_getElem h,getElem?_pos (S l) i (by rw [Cf];exact h)];rfl
 ·rw [List.getElem?_eq_none (by omega),getElem?_neg (S l) i (by rw [Cf];exact h)]
theorem Yj (s:ByteArray):S s.data.toList=s:=by unfold S;cases s;simp
theorem EC (l:List UInt8):(S l).data.toList=l:=by unfold S;simp
theorem Mb (l:List UInt8):(S l).toList=l:=Go.ByteArray.toList_mk l
theorem Md (l:List UInt8)(i j:Nat):(S l).extract i j=S ((l.take j).drop i):=by
 have:((S l).extract i j).data=(S ((l.take j).drop i)).data:=by rw [ByteArray.data_extract];unfold S;simp [List.drop_take]
 cases h:(S l).extract i j;cases h2:S ((l.take j).drop i);rw [h,h2]at this;simp at this;rw [this]
theorem V8 (l:List UInt8)(i:Nat):(S l).extract i l.length=S (l.drop i):=by rw [Md,List.take_length]
theorem V9 (l m:List UInt8):S l++S m=S (l++m):=Go.ByteArray.mk_append_mk l m
def Ja (P:Program)(t:TypeId):Bool:=match P.underlying t with|some .string=>true|_=>false
theorem FD {P:Program}{t:TypeId}(h:Ja P t=true):P.underlying t=some .string:=by
 unfold Ja at h;split at h
 ·assumption
 ·cases h
section
variable {P:Program}{ops:Array Oper}{a:Act}{w:World}{K:Value→World→Prop}{d:Option Tmp}{ty:TypeId}{pos:String}{af:Array Edge}{gd:Option (Nat×Bool)}{v:Value}
theorem WA {x:Operand} {t:Nat} {l:List UInt8} (hw:Region.wanted {dst:=d,op:=.call {callee:=.builtin .len,args:= #[x],argTypes:= #[t]},type:=ty,pos:=pos,after:=af,guard:=gd} (yielded ops a.tmps)=true) (hx:a.eval x=.string (S l)) (ht:Ja P t=true)
  (h:K (.int .i64 (l.length:Int)) w):BG P ops {dst:=d,op:=.call {callee:=.builtin .len,args:= #[x],argTypes:= #[t]},type:=ty,pos:=pos,after:=af,guard:=gd} a w K:=
 AR hw (by
  have hm:(#[x]:Array Operand).map a.eval= #[.string (S l)]:=by simp only [List.map_toArray,List.map_cons,List.map_nil];rw [hx]
  unfold execOp
  simp only [resolve,Sem.run_bind,Sem.run_pure,Result.andThen_ok,invoke,builtin,hm]
  simp [Builtin.len_,run_underlying (FD ht),goInt,Cf]) h
theorem Yk {x ix:Operand} {ik:IntKind} {t j:Nat} {l:List UInt8} {b:UInt8} (hw:Region.wanted {dst:=d,op:=.index t x ix,type:=ty,pos:=pos,after:=af,guard:=gd} (yielded ops a.tmps)=true) (hx:a.eval x=.string (S l)) (hi:a.eval ix=.int ik (j:Int)) (ht:Ja P t=true) (hb:l[j]?=some b)
  (h:K (.int .u8 (b.toNat:Int)) w):BG P ops {dst:=d,op:=.index t x ix,type:=ty,pos:=pos,after:=af,guard:=gd} a w K:=
 AR hw (by
  have h3:(Instr.index t (.string (S l)) (.int ik (j:Int))).run P w=.ok (.int .u8 (b.toNat:Int)) w:=by
   unfold Instr.index
   have h0:(0:Int)≤(j:Int):=by omega
   simp only [asIntOf,Sem.run_bind,Sem.run_pure,Result.andThen_ok,run_underlying (FD ht),if_pos h0,Int.toNat_natCast,dE,hb]
  unfold execOp
  simp only [hx,hi,Sem.run_bind,h3,Sem.run_pure,Result.andThen_ok]) h
theorem TA {x y:Operand} {t n:Nat} {l:List UInt8} (hw:Region.wanted {dst:=d,op:=.slice t x (some y) none none,type:=ty,pos:=pos,after:=af,guard:=gd} (yielded ops a.tmps)=true) (hx:a.eval x=.string (S l)) (hy:a.eval y=.int .i64 (n:Int)) (ht:Ja P t=true) (hn:n≤l.length)
  (h:K (.string (S (l.drop n))) w):BG P ops {dst:=d,op:=.slice t x (some y) none none,type:=ty,pos:=pos,after:=af,guard:=gd} a w K:=by
 refine AR hw ?_ h
 have nQ:(Instr.sliceBounds false l.length l.length (some (.int .i64 (n:Int))) none none).run P w=.ok (n,l.length,l.length) w:=by
  simp [Instr.sliceBounds,run_sliceBound (P:=P) w .i64 n l.length .sliceB (by omega) (by omega)]
 unfold execOp
 simp only [Option.map_some,Option.map_none,hx,hy,Instr.sliceAt,Instr.slice,run_underlying (FD ht),Sem.run_bind,Sem.run_pure,Result.andThen_ok,Cf,nQ,V8,Option.isSome_none,Bool.false_eq_true,if_false]
theorem TC {x y:Operand} {t n:Nat} {l:List UInt8} (hw:Region.wanted {dst:=d,op:=.slice t x none (some y) none,type:=ty,pos:=pos,after:=af,guard:=gd} (yielded ops a.tmps)=true) (hx:a.eval x=.string (S l)) (hy:a.eval y=.int .i64 (n:Int)) (ht:Ja P t=true) (hn:n≤l.length)
  (h:K (.string (S (l.take n))) w):BG P ops {dst:=d,op:=.slice t x none (some y) none,type:=ty,pos:=pos,after:=af,guard:=gd} a w K:=by
 refine AR hw ?_ h
 have nQ:(Instr.sliceBounds false l.length l.length none (some (.int .i64 (n:Int))) none).run P w=.ok (0,n,l.length) w:=by
  simp [Instr.sliceBounds,run_sliceBound (P:=P) w .i64 n l.length .sliceAlen (by omega) (by omega)]
 unfold execOp
 simp only [Option.map_some,Option.map_none,hx,hy,Instr.sliceAt,Instr.slice,run_underlying (FD ht),Sem.run_bind,Sem.run_pure,Result.andThen_ok,Cf,nQ,Md,List.drop_zero,Option.isSome_none,Bool.false_eq_true,if_false]
theorem TD {x y z:Operand} {t m n:Nat} {l:List UInt8} (hw:Region.wanted {dst:=d,op:=.slice t x (some y) (some z) none,type:=ty,pos:=pos,after:=af,guard:=gd} (yielded ops a.tmps)=true) (hx:a.eval x=.string (S l)) (hy:a.eval y=.int .i64 (m:Int)) (hz:a.eval z=.int .i64 (n:Int)) (ht:Ja P t=true) (hm:m≤n) (hn:n≤l.length)
  (h:K (.string (S ((l.take n).drop m))) w):BG P ops {dst:=d,op:=.slice t x (some y) (some z) none,type:=ty,pos:=pos,after:=af,guard:=gd} a w K:=by
 refine AR hw ?_ h
 have nQ:(Instr.sliceBounds false l.length l.length (some (.int .i64 (m:Int))) (some (.int .i64 (n:Int))) none).run P w=.ok (m,n,l.length) w:=by
  simp [Instr.sliceBounds,run_sliceBound (P:=P) w .i64 n l.length .sliceAlen (by omega) (by omega),run_sliceBound (P:=P) w .i64 m n .sliceB (by omega) (by omega)]
 unfold execOp
 simp only [Option.map_some,Option.map_none,hx,hy,hz,Instr.sliceAt,Instr.slice,run_underlying (FD ht),Sem.run_bind,Sem.run_pure,Result.andThen_ok,Cf,nQ,Md,Option.isSome_none,Bool.false_eq_true,if_false]
theorem Yl {l m:List UInt8}{t:TypeId}{x y:Operand}{r:Bool}(h:(l==m)=r):(eqGuard .eql t x y (.string (S l)) (.string (S m))).run P w=.ok () w∧(binOp .eql t (.string (S l)) (.string (S m))).run P w=.ok (.bool r) w:=by
 subst h;exact⟨by simp [eqGuard],by simp [binOp,Op.stringOp,Mb]⟩
theorem Ym {l m:List UInt8}{t:TypeId}{x y:Operand}{r:Bool}(h:(!(l==m))=r):(eqGuard .neq t x y (.string (S l)) (.string (S m))).run P w=.ok () w∧(binOp .neq t (.string (S l)) (.string (S m))).run P w=.ok (.bool r) w:=by
 subst h;exact⟨by simp [eqGuard],by simp [binOp,Op.stringOp,Mb]⟩
theorem WB {l m:List UInt8}{t:TypeId}{x y:Operand}(h:l.length+m.length≤9223372036854775807):(eqGuard .add t x y (.string (S l)) (.string (S m))).run P w=.ok () w∧(binOp .add t (.string (S l)) (.string (S m))).run P w=.ok (.string (S (l++m))) w:=by
 refine⟨by simp [eqGuard],?_⟩
 have:¬(((S l).size+(S m).size:Nat):Int)>IntKind.i64.max:=by rw [Cf,Cf];show¬_>(9223372036854775807:Int);omega
 simp only [binOp,Op.stringOp,if_neg this,V9,Sem.run_pure]
end
section
variable {P:Program}{a:Act}{w:World}{n:Nat}{T:List (Nat×Value)}
end
end Go.Proofs.YtbbdanhpphlbpaaGreatDoor
namespace Go.Proofs.YtbbdanhpphlbpaaGreatDoor
open Go.RowKit
def cellEq:Nat→Value→Value→Option Bool
 |0,.int k a,.int k' b=>if k=k' then some (a==b)else none
 |1,.bool a,.bool b=>some (a==b)
 |2,.string a,.string b=>some (ByteArray.toList a==ByteArray.toList b)
 |_,_,_=>none
def jI:List Nat→List Value→List Value→Option Bool
 | [],[],[]=>some true
 |q::qs,x::xs,y::ys=>match cellEq q x y,jI qs xs ys with
  |some a,some b=>some (a&&b)
  |_,_=>none
 |_,_,_=>none
theorem FE:∀{qs qs':List Nat} {xs xs' ys ys':List Value} {r:Bool},xs.length=qs.length→ys.length=qs.length→jI (qs++qs') (xs++xs') (ys++ys')=some r→∃a b,jI qs xs ys=some a∧jI qs' xs' ys'=some b∧r=(a&&b)
 | [],qs',[],xs',[],ys',r,_,_,h=>⟨true,r,rfl,h,by simp⟩
 | q::qs,qs',x::xs,xs',y::ys,ys',r,hl,hm,h=>by
  simp only [List.cons_append,jI]at h
  split at h
  ·next a b ha hb=>
   cases h
   obtain⟨c,d,h1,h2,h3⟩:=FE (by simpa using hl) (by simpa using hm) hb
   exact⟨a&&c,d,by simp [jI,ha,h1],h2,by rw [h3,Bool.and_assoc]⟩
  ·cases h
 | [],_,_::_,_,_,_,_,h,_,_=>by cases h
 | [],_,_,_,_::_,_,_,_,h,_=>by cases h
 |_::_,_,[],_,_,_,_,h,_,_=>by cases h
 |_::_,_,_,_,[],_,_,_,h,_=>by cases h
def KW (pt:TypeId→Option (List Nat)):List Field→Nat→Option (List Nat)
 | [],_=>some []
 | f::fs,o=>if f.name= "_" ∨f.offset≠o then none else match pt f.type with
  |some qs=>match KW pt fs (o+qs.length)with
   |some rs=>some (qs++rs)
   |none=>none
  |none=>none
def KX:Nat→List Nat→List Nat
 |0,_=>[]
 |n+1,l=>l++KX n l
def FF (P:Program):Nat→TypeId→Option (List Nat)
 |0,_=>none
 | d+1,t=>match P.underlying t with
  |some (.int _)=>if oneB P t then some [0]else none
  |some .bool=>if oneB P t then some [1]else none
  |some .string=>if oneB P t then some [2]else none
  |some (.struct fs)=>if P.stoodInHeld t then none else match KW (FF P d) fs.toList 0 with
   |some qs=>if ID P t qs.length then some qs else none
   |none=>none
  |some (.array n e)=>match FF P d e with
   |some qs=>if ID P t (KX n qs).length&&((P.info? e).map (·.size)==some qs.length)then some (KX n qs)else none
   |none=>none
  |_=>none
theorem LO:∀(n:Nat) (l:List Nat),(KX n l).length=n*l.length
 |0,l=>by simp [KX]
 |n+1,l=>by simp [KX,LO n l,Nat.add_mul];omega
section
variable {P:Program}{w:World}
theorem TE {t:TypeId}{m o:Nat}{cs:Array Value}(h:ID P t m=true)(ho:o+m≤cs.size):(part t cs o).run P w=.ok (.agg (cs.extract o (o+m))) w:=by
 obtain⟨⟨dd,h2,h3,wH⟩,h4⟩:=Dl h
 have ha:(isAgg t).run P w=.ok true w:=by
  unfold isAgg
  rw [Sem.run_bind,run_underlying h2]
  cases dd<;>simp_all
 cases hq:P.info? t with
 |none=>simp [hq]at h4
 |some i=>
  have hi:i.size=m:=by simpa [hq]using h4
  simp [part,ha,sizeOf,typeInfo,hq,hi,ho]
def dF (P:Program)(w:World)(d:Nat)(t:TypeId)(qs:List Nat):Prop:=∀(D:Nat) (xs ys:Array Value) (off:Nat) (r:Bool),off+qs.length≤xs.size→off+qs.length≤ys.size→jI qs ((xs.toList.drop off).take qs.length) ((ys.toList.drop off).take qs.length)=some r→
 ∃a b,(part t xs off).run P w=.ok a w∧(part t ys off).run P w=.ok b w∧(Op.equalIn (D+d) t a b).run P w=.ok r w
theorem take_split (zs:List Value)(o m n:Nat):(zs.drop o).take (m+n)=(zs.drop o).take m++(zs.drop (o+m)).take n:=by rw [List.take_add,List.drop_drop]
theorem FG {d:Nat}(ih:∀t qs,FF P d t=some qs→dF P w d t qs)(D:Nat)(xs ys:Array Value):∀(fs:List Field) (o:Nat) (qs:List Nat) (r:Bool),KW (FF P d) fs o=some qs→o+qs.length≤xs.size→o+qs.length≤ys.size→jI qs ((xs.toList.drop o).take qs.length) ((ys.toList.drop o).take qs.length)=some r→(Op.eqFields (D+d) xs ys fs).run P w=.ok r w
 | [],o,qs,r,h,_,_,hc=>by cases h;simp [jI]at hc;subst hc;simp [Op.eqFields]
 | f ::fs,o,qs,r,h,hx,hy,hc=>by
  unfold KW at h
  split at h
  ·cases h
  ·next hn=>
   simp only [not_or,Classical.not_not]at hn
   split at h
   ·next q1 hm=>
    split at h
    ·next q2 hr=>
     cases h
     simp only [List.length_append]at hx hy hc
     rw [take_split,take_split]at hc
     obtain⟨a1,b1,c1,c2,c3⟩:=FE (by simp;omega) (by simp;omega) hc
     obtain⟨a,b,e1,e2,e3⟩:=ih _ _ hm D xs ys o a1 (by omega) (by omega) c1
     rw [←hn.2]at e1 e2
     have ih2:=FG ih D xs ys fs (o+q1.length) q2 b1 hr (by omega) (by omega) c2
     unfold Op.eqFields
     simp only [ne_eq,hn.1,not_false_eq_true,if_true,Sem.run_bind,e1,e2,e3,Result.andThen_ok]
     rw [c3]
     cases a1
     ·simp
     ·simp [ih2]
    ·cases h
   ·cases h
theorem Ft {d e:Nat}{qs:List Nat}(ih:dF P w d e qs)(D:Nat)(xs ys:Array Value)(hs:P.cellsOf e=qs.length):∀(c k:Nat) (r:Bool),k*qs.length+c*qs.length≤xs.size→k*qs.length+c*qs.length≤ys.size→jI (KX c qs) ((xs.toList.drop (k*qs.length)).take (c*qs.length)) ((ys.toList.drop (k*qs.length)).take (c*qs.length))=some r→(Op.eqItems (D+d) e (P.cellsOf e) xs ys (List.range' k c)).run P w=.ok r w
 |0,k,r,_,_,hc=>by simp [jI,KX]at hc;subst hc;simp [Op.eqItems]
 |c+1,k,r,hx,hy,hc=>by
  have wI:(c+1)*qs.length=qs.length+c*qs.length:=by simp [Nat.add_mul];omega
  have wJ:(k+1)*qs.length=k*qs.length+qs.length:=by simp [Nat.add_mul]
  rw [wI,take_split,take_split,KX]at hc
  obtain⟨a1,b1,c1,c2,c3⟩:=FE (by simp;omega) (by simp;omega) hc
  obtain⟨a,b,e1,e2,e3⟩:=ih D xs ys (k*qs.length) a1 (by omega) (by omega) c1
  rw [←wJ]at c2
  have ih2:=Ft ih D xs ys hs c (k+1) b1 (by omega) (by omega) c2
  rw [List.range'_succ]
  unfold Op.eqItems
  rw [hs]
  rw [hs]at ih2
  simp only [Sem.run_bind,e1,e2,e3,Result.andThen_ok]
  rw [c3]
  cases a1
  ·simp
  ·simp [ih2]
theorem Ii:∀(d:Nat) (t:TypeId) (qs:List Nat),FF P d t=some qs→dF P w d t qs
 |0,t,s,h=>by cases h
 | d + 1,t,qs,h=>by
  intro D xs ys off r hx hy hc
  have one:∀q,oneB P t=true→qs=[q]→(∀a b,cellEq q a b=some r→(Op.equalIn (D+(d+1)) t a b).run P w=.ok r w)→∃a b,(part t xs off).run P w=.ok a w∧(part t ys off).run P w=.ok b w∧(Op.equalIn (D+(d+1)) t a b).run P w=.ok r w:=by
   intro q h1 h2 h3
   subst h2
   simp only [List.length_cons,List.length_nil,Nat.zero_add]at hx hy hc
   have pX:off<xs.size:=by omega
   have oW:off<ys.size:=by omega
   have ex:(xs.toList.drop off).take 1=[xs[off]]:=by rw [List.drop_eq_getElem_cons (by simpa using pX)];simp
   have ey:(ys.toList.drop off).take 1=[ys[off]]:=by rw [List.drop_eq_getElem_cons (by simpa using oW)];simp
   rw [ex,ey]at hc
   simp only [jI]at hc
   split at hc
   ·next a b ha hb=>
    cases hb
    simp only [Bool.and_true,Option.some.injEq]at hc
    subst hc
    exact⟨xs[off],ys[off],GR w (HK h1 w) (by simp [pX]),GR w (HK h1 w) (by simp [oW]),h3 _ _ ha⟩
   ·cases hc
  have row:ID P t qs.length=true→(∀(us vs:Array Value),us.size=qs.length→vs.size=qs.length→jI qs us.toList vs.toList=some r→(Op.equalIn (D+(d+1)) t (.agg us) (.agg vs)).run P w=.ok r w)→∃a b,(part t xs off).run P w=.ok a w∧(part t ys off).run P w=.ok b w∧(Op.equalIn (D+(d+1)) t a b).run P w=.ok r w:=by
   intro h1 h3
   refine⟨_,_,TE h1 hx,TE h1 hy,h3 _ _ (by simp;omega) (by simp;omega) ?_⟩
   simpa [List.extract_eq_take_drop]using hc
  unfold FF at h
  split at h
  ·next k hu=>
   split at h
   ·next h1=>
    cases h
    refine one 0 h1 rfl fun a b mS=>?_
    unfold cellEq at mS
    split at mS
    ·split at mS
     ·next hk=>subst hk;cases mS;exact run_equalIn_int w _ t _ _ _ _ hu
     ·cases mS
    ·next h=>cases h
    ·next h=>cases h
    ·cases mS
   ·cases h
  ·next hu=>
   split at h
   ·next h1=>
    cases h
    refine one 1 h1 rfl fun a b mS=>?_
    unfold cellEq at mS
    split at mS
    ·next h=>cases h
    ·cases mS;exact run_equalIn_bool w _ t _ _ hu
    ·next h=>cases h
    ·cases mS
   ·cases h
  ·next hu=>
   split at h
   ·next h1=>
    cases h
    refine one 2 h1 rfl fun a b mS=>?_
    unfold cellEq at mS
    split at mS
    ·next h=>cases h
    ·next h=>cases h
    ·cases mS;exact run_equalIn_string w _ t _ _ hu
    ·cases mS
   ·cases h
  ·next fs hu=>
   split at h
   ·cases h
   ·next lQ=>
    split at h
    ·next q2 hf=>
     split at h
     ·next jS=>
      cases h
      refine row jS fun us vs pY oP qQ=>?_
      have pZ:P.fieldsOf t=fs:=by unfold Program.fieldsOf;rw [hu]
      rw [show D+(d+1)=(D+d)+1 by omega,run_equalIn_struct w (D+d) t us vs (by rw [pZ];exact hu) (by simpa using lQ),pZ]
      refine FG (Ii d) D us vs fs.toList 0 qs r hf (by omega) (by omega) ?_
      rw [List.drop_zero,List.drop_zero,List.take_of_length_le (by simp;omega),List.take_of_length_le (by simp;omega)]
      exact qQ
     ·cases h
    ·cases h
  ·next m e hu=>
   split at h
   ·next q2 rA=>
    split at h
    ·next kE=>
     cases h
     rw [Bool.and_eq_true]at kE
     refine row kE.1 fun us vs pY oP qQ=>?_
     have j9:(P.info? e).map (·.size)=some q2.length:=by simpa using kE.2
     have wK:P.cellsOf e=q2.length:=by unfold Program.cellsOf;rw [j9];rfl
     cases hqi:P.info? e with
     |none=>rw [hqi]at j9;cases j9
     | some ie=>
      rw [show D+(d+1)=(D+d)+1 by omega,run_equalIn_array w (D+d) us vs hu hqi]
      rw [LO]at pY oP
      have:=Ft (Ii d e q2 rA) D us vs wK m 0 r (by omega) (by omega) (by
       rw [Nat.zero_mul,List.drop_zero,List.drop_zero,List.take_of_length_le (by simp;omega),List.take_of_length_le (by simp;omega)]
       exact qQ)
      rwa [List.range_eq_range']
    ·cases h
   ·cases h
  ·cases h
def QG (P:Program)(t:TypeId)(qs:List Nat):Bool:=(FF P 6 t==some qs)&&ID P t qs.length&& !P.eqGuardType P.depth t
theorem WC {t:TypeId}{qs:List Nat}{xs ys:Array Value}{r:Bool}(h:QG P t qs=true)(hx:xs.size=qs.length)(hy:ys.size=qs.length)(hc:jI qs xs.toList ys.toList=some r)(x y:Operand):
  ((eqGuard .eql t x y (.agg xs) (.agg ys)).run P w=.ok () w∧(binOp .eql t (.agg xs) (.agg ys)).run P w=.ok (.bool r) w)∧
  ((eqGuard .neq t x y (.agg xs) (.agg ys)).run P w=.ok () w∧(binOp .neq t (.agg xs) (.agg ys)).run P w=.ok (.bool (!r)) w):=by
 unfold QG at h
 rw [Bool.and_eq_true,Bool.and_eq_true]at h
 obtain⟨⟨h1,h2⟩,h3⟩:=h
 have h1:FF P 6 t=some qs:=by simpa using h1
 have h3:P.eqGuardType P.depth t=false:=by simpa using h3
 obtain⟨a,b,e1,e2,e3⟩:=Ii (P:=P) (w:=w) 6 t qs h1 9994 xs ys 0 r (by omega) (by omega) (by
  rw [List.drop_zero,List.drop_zero,List.take_of_length_le (by simp;omega),List.take_of_length_le (by simp;omega)]
  exact hc)
 have ex:(part t xs 0).run P w=.ok (.agg xs) w:=by rw [TE h2 (by omega)];simp [←hx]
 have ey:(part t ys 0).run P w=.ok (.agg ys) w:=by rw [TE h2 (by omega)];simp [←hy]
 rw [ex]at e1
 rw [ey]at e2
 cases e1;cases e2
 refine⟨⟨run_eqGuard_agg w _ t x y xs ys h3,?_⟩,run_eqGuard_agg w _ t x y xs ys h3,?_⟩
 ·rw [run_eql_struct,e3];rfl
 ·rw [run_neq_struct,e3];rfl
end
end Go.Proofs.YtbbdanhpphlbpaaGreatDoor
namespace Go.Proofs.YtbbdanhpphlbpaaGreatDoor
open Go.RowKit
inductive SV where
 |int (k:IntKind) (n:Int)
 |bool (b:Bool)
 |tt
 |ff
 |str (l:List UInt8)
 |ptr (i o:Nat)
 |el (i s:Nat) (j:Int) (o:Nat)
 |ix (p:SV) (s n:Nat) (j:Int) (k:Nat)
 |sl (i n c:Nat)
 |sla (ao:Option Addr) (n c:Nat)
 |sp (p:SV) (n c:Nat)
 |st (i s j n c:Nat)
 |agg (l:List SV)
 |tup (l:List SV)
 |fn (f:Nat) (l:List SV)
 |opt (b:Bool) (x:SV)
 |v (x:Value)
structure Loc where
 b:Nat
 pre:List Value
 post:List Value
 t:TypeId
abbrev Gr:=List (Option Loc)
def rm:Option Loc→Nat
 |some L=>L.post.length
 |none=>0
def Yn:Value→Option Addr
 | .pointer ao=>ao
 |_=>none
mutual
def den (G:Gr):SV→Option Value
 | .int k n=>some (.int k n)
 | .bool b=>some (.bool b)
 | .tt=>some (.bool true)
 | .ff=>some (.bool false)
 | .str l=>some (.string (S l))
 | .ptr i o=>match G[i]? with
  |some (some L)=>some (.pointer (some ⟨L.b,L.pre.length+o,none⟩))
  |_=>none
 | .el i s j o=>match G[i]? with
  |some p=>some (.pointer (p.map fun L=>⟨L.b,L.pre.length+j.toNat*s+o,none⟩))
  |none=>none
 | .ix p s _ j k=>match den G p with
  |some (.pointer (some ⟨b,o,none⟩))=>some (.pointer (some ⟨b,o+j.toNat*s+k,none⟩))
  |some _=>some (.pointer none)
  |none=>none
 | .sl i n c=>match G[i]? with
  |some p=>some (.slice (p.map fun L=>⟨L.b,L.pre.length,none⟩) n (c+rm p))
  |none=>none
 | .sla ao n c=>some (.slice ao n c)
 | .sp p n c=>match den G p with
  |some v=>some (.slice (Yn v) n c)
  |none=>none
 | .st i s j n c=>match G[i]? with
  |some p=>some (.slice (p.map fun L=>⟨L.b,L.pre.length+(if c+rm p=j then 0 else j*s),none⟩) n (c+rm p - j))
  |none=>none
 | .agg l=>(AE G l).map fun vs=>.agg vs.toArray
 | .tup l=>(AE G l).map fun vs=>.tuple vs.toArray
 | .fn f l=>(AE G l).map fun vs=>.func (.func f) #[] vs.toArray
 | .opt b x=>(den G x).map fun v=>bif b then v else undef
 | .v x=>some x
def AE (G:Gr):List SV→Option (List Value)
 | []=>some []
 | x::l=>match den G x with
  |some v=>match AE G l with
   |some vs=>some (v::vs)
   |none=>none
  |none=>none
end
theorem Au {G:Gr}{x:SV}{l:List SV}{vs:List Value}(h:AE G (x::l)=some vs):∃v ws,den G x=some v∧AE G l=some ws∧vs=v::ws:=by
 unfold AE at h
 split at h
 ·next v hv=>
  split at h
  ·next ws hw=>cases h;exact⟨v,ws,hv,hw,rfl⟩
  ·cases h
 ·cases h
theorem Az {G:Gr}{x:SV}{l:List SV}{v:Value}{vs:List Value}(h:den G x=some v)(k:AE G l=some vs):AE G (x::l)=some (v::vs):=by
 unfold AE;rw [h,k]
theorem Av {G:Gr}:∀{l:List SV} {vs:List Value},AE G l=some vs→vs.length=l.length
 | [],vs,h=>by cases h;rfl
 |x::l,vs,h=>by
  obtain⟨v,ws,_,h2,rfl⟩:=Au h
  simp [Av h2]
theorem CL {G:Gr}:∀{l:List SV} {vs:List Value} {k:Nat} {x:SV},AE G l=some vs→l[k]?=some x→∃v,vs[k]?=some v∧den G x=some v
 | [],_,_,_,_,h=>by cases h
 |y::l,vs,0,x,h,hx=>by
  obtain⟨v,ws,h1,_,rfl⟩:=Au h
  cases hx;exact⟨v,rfl,h1⟩
 |y::l,vs,k+1,x,h,hx=>by
  obtain⟨v,ws,_,h2,rfl⟩:=Au h
  obtain⟨u,h3,h4⟩:=CL h2 hx
  exact⟨u,h3,h4⟩
theorem B9 {G:Gr}:∀{l m:List SV} {vs ws:List Value},AE G l=some vs→AE G m=some ws→AE G (l++m)=some (vs++ws)
 | [],m,vs,ws,h,k=>by cases h;exact k
 |x::l,m,vs,ws,h,k=>by
  obtain⟨v,us,h1,h2,rfl⟩:=Au h
  exact Az h1 (B9 h2 k)
theorem Bo {G:Gr}:∀{l:List SV} {vs:List Value} (k:Nat),AE G l=some vs→AE G (l.take k)=some (vs.take k)
 | [],vs,k,h=>by cases h;simp [AE]
 |x::l,vs,0,h=>by simp [AE]
 |x::l,vs,k+1,h=>by
  obtain⟨v,ws,h1,h2,rfl⟩:=Au h
  exact Az h1 (Bo k h2)
theorem Bp {G:Gr}:∀{l:List SV} {vs:List Value} (k:Nat),AE G l=some vs→AE G (l.drop k)=some (vs.drop k)
 | [],vs,k,h=>by cases h;simp [AE]
 |x::l,vs,0,h=>by simpa using h
 |x::l,vs,k+1,h=>by
  obtain⟨v,ws,h1,h2,rfl⟩:=Au h
  exact Bp k h2
mutual
theorem AP {G:Gr}(F:Gr):∀(x:SV) {v:Value},den G x=some v→den (G++F) x=some v
 | .int _ _,_,h=>h
 | .bool _,_,h=>h
 | .tt,_,h=>h
 | .ff,_,h=>h
 | .str _,_,h=>h
 | .ptr i o,v,h=>by
  unfold den at h⊢
  split at h
  ·next L hL=>rw [List.getElem?_append_left (List.getElem?_eq_some_iff.1 hL).1,hL];exact h
  ·cases h
 | .el i s j o,v,h=>by
  unfold den at h⊢
  split at h
  ·next L hL=>rw [List.getElem?_append_left (List.getElem?_eq_some_iff.1 hL).1,hL];exact h
  ·cases h
 | .ix p s m j k,v,h=>by
  unfold den at h⊢
  cases hq:den G p with
  |none=>rw [hq]at h;cases h
  |some u=>rw [AP F p hq];rw [hq]at h;exact h
 | .sl i n c,v,h=>by
  unfold den at h⊢
  split at h
  ·next L hL=>rw [List.getElem?_append_left (List.getElem?_eq_some_iff.1 hL).1,hL];exact h
  ·cases h
 | .sla _ _ _,_,h=>h
 | .sp p m k,v,h=>by
  unfold den at h⊢
  cases hq:den G p with
  |none=>rw [hq]at h;cases h
  |some u=>rw [AP F p hq];rw [hq]at h;exact h
 | .st i s j n c,v,h=>by
  unfold den at h⊢
  split at h
  ·next L hL=>rw [List.getElem?_append_left (List.getElem?_eq_some_iff.1 hL).1,hL];exact h
  ·cases h
 | .agg l,v,h=>by
  unfold den at h⊢
  obtain⟨vs,h1,h2⟩:=Option.map_eq_some_iff.1 h
  rw [Al F l h1];exact congrArg some h2
 | .tup l,v,h=>by
  unfold den at h⊢
  obtain⟨vs,h1,h2⟩:=Option.map_eq_some_iff.1 h
  rw [Al F l h1];exact congrArg some h2
 | .fn f l,v,h=>by
  unfold den at h⊢
  obtain⟨vs,h1,h2⟩:=Option.map_eq_some_iff.1 h
  rw [Al F l h1];exact congrArg some h2
 | .opt b x,v,h=>by
  unfold den at h⊢
  obtain⟨u,h1,h2⟩:=Option.map_eq_some_iff.1 h
  rw [AP F x h1];exact congrArg some h2
 | .v _,_,h=>h
theorem Al {G:Gr}(F:Gr):∀(l:List SV) {vs:List Value},AE G l=some vs→AE (G++F) l=some vs
 | [],_,h=>h
 |x::l,vs,h=>by
  obtain⟨v,ws,h1,h2,rfl⟩:=Au h
  exact Az (AP F x h1) (Al F l h2)
end
def SV.oneB:SV→Option Bool
 | .int _ _| .bool _| .tt| .ff| .str _| .ptr _ _| .el _ _ _ _| .ix _ _ _ _ _| .sl _ _ _| .sla _ _ _| .sp _ _ _| .st _ _ _ _ _| .fn _ _=>some true
 | .v x=>some x.oneCell'
 |_=>none
theorem SV.one_spec {G:Gr}{x:SV}{v:Value}{b:Bool}(h:x.oneB=some b)(hb:b=true)(hv:den G x=some v):v.oneCell'=true:=by
 subst hb
 cases x with
 |agg l=>simp [SV.oneB]at h
 |tup l=>simp [SV.oneB]at h
 |opt b x=>simp [SV.oneB]at h
 |v x=>simp [SV.oneB]at h;simp [den]at hv;subst hv;exact h
 |ptr i o=>unfold den at hv;split at hv<;>cases hv;rfl
 |el i s j o=>unfold den at hv;split at hv<;>cases hv;rfl
 |ix p s m j k=>unfold den at hv;split at hv<;>cases hv<;>rfl
 |sl i n c=>unfold den at hv;split at hv<;>cases hv;rfl
 |st i s j n c=>unfold den at hv;split at hv<;>cases hv;rfl
 |sp p m k=>unfold den at hv;split at hv<;>cases hv<;>rfl
 |fn f l=>unfold den at hv;obtain⟨vs,_,h2⟩:=Option.map_eq_some_iff.1 hv;subst h2;rfl
 |_=>simp [den]at hv;subst hv;rfl
inductive A6 where
 |blk (cs:List SV)
 |lst (s n:Nat) (f:Nat→List SV)
 |fac (b:Nat) (o:Obj)
 |row (e s n c:Nat) (f:Nat→List SV)
def A6.mut:A6→Bool
 | .lst _ _ _=>false
 | .fac _ _=>false
 |_=>true
def A6.empty:A6→Prop
 | .lst _ n _=>n=0
 |_=>False
def Bt (f:Nat→List SV):Nat→Option (List Value)
 |0=>some []
 | n+1=>match Bt f n with
  |some l=>match AE [] (f n)with
   |some vs=>some (l++vs)
   |none=>none
  |none=>none
def Ae (G:Gr)(w:World)(p:Option Loc):A6→Prop
 | .blk cs=>∃L vs,p=some L∧AE G cs=some vs∧DR w L.b (L.pre++vs++L.post).toArray L.t
 | .lst s n f=>(∀k,∃vs,AE [] (f k)=some vs)∧(n=0∨∃L,p=some L∧L.b<w.heap.size∧∀k,k<n→∃vs,AE [] (f k)=some vs∧w.rangeAt L.b (L.pre.length+k*s) vs)
 | .fac b o=>∃L,p=some L∧L.b=b∧w.heap[b]?=some o
 | .row e s n c f=>(∀k,∃vs,AE [] (f k)=some vs∧vs.length=s)∧(∀L,p=some L→L.pre=[])∧∃xs,Bt f n=some xs∧w.ownsRow 0 e s (.slice (p.map fun L=>⟨L.b,L.pre.length,none⟩) n (c+rm p)) n xs
abbrev Hp:=List (Option A6)
structure Mem (H:Hp)(G:Gr)(w:World):Prop where
 len:H.length=G.length
 ent:∀(i:Nat) (e:A6),H[i]?=some (some e)→Ae G w ((G[i]?).getD none) e
 sep:∀(i j:Nat) (e f:A6) (L M:Loc),i≠j→H[i]?=some (some e)→H[j]?=some (some f)→e.mut=true→G[i]?=some (some L)→G[j]?=some (some M)→¬f.empty→L.b≠M.b
structure CR (ks:List Nat)(w w':World):Prop where
 os:w'.os=w.os
 tape:w'.tape=w.tape
 output:w'.output=w.output
 size:w.heap.size≤w'.heap.size
 block:∀k,k<w.heap.size→ks.contains k=false→w'.heap[k]?=w.heap[k]?
section
variable {ks ks':List Nat}{a w w':World}{B g:Nat}
theorem CR.refl (ks:List Nat)(w:World):CR ks w w:=⟨rfl,rfl,rfl,Nat.le_refl _,fun _ _ _=>rfl⟩
theorem CR.grow (h:CR ks a w)(hg:BW w w'):CR ks a w':=
 ⟨hg.os.trans h.os,hg.tape.trans h.tape,hg.output.trans h.output,Nat.le_trans h.size hg.size,fun k hk hc=>(hg.block k (Nat.lt_of_lt_of_le hk h.size)).trans (h.block k hk hc)⟩
theorem CR.upd (h:CR ks a w)(hu:S5 g w w')(hg:ks.contains g=true∨a.heap.size≤g):CR ks a w':=
 ⟨hu.os.trans h.os,hu.tape.trans h.tape,hu.output.trans h.output,Nat.le_trans h.size (Nat.le_of_eq hu.size.symm),fun k hk hc=>(hu.block k (fun e=>by
  subst e
  rcases hg with hg|hg
  ·rw [hg]at hc;cases hc
  ·omega)).trans (h.block k hk hc)⟩
theorem CR.mix (h:CR ks a w)(m:CR ks' w w')(hk:∀k,k<a.heap.size→ks.contains k=false→ks'.contains k=false):CR ks a w':=
 ⟨m.os.trans h.os,m.tape.trans h.tape,m.output.trans h.output,Nat.le_trans h.size m.size,fun k hl hc=>(m.block k (Nat.lt_of_lt_of_le hl h.size) (hk k hl hc)).trans (h.block k hl hc)⟩
theorem DR.mix {cs:Array Value}{t:TypeId}(h:DR w g cs t)(m:CR ks w w')(hk:ks.contains g=false):DR w' g cs t:=by
 unfold DR;rw [m.block g h.lt hk];exact h
theorem FY {b o:Nat}{cs:List Value}(hr:w.rangeAt b o cs)(m:CR ks w w')(hb:b<w.heap.size)(hk:ks.contains b=false):w'.rangeAt b o cs:=fun j x hx=>by
 rw [World.cell?_of_block (w:=w) (m.block b hb hk)];exact hr j x hx
theorem KY {b e s n:Nat}{v:Value}{xs:List Value}(h:w.ownsRow b e s v n xs)(m:CR ks w w')(hk:∀k,v.ownBlock=some k→ks.contains k=false):w'.ownsRow b e s v n xs:=
 QF h fun k hv=>m.block k (KV h k hv).2 (hk k hv)
theorem BW.mix (hg:BW w w'):CR [] w w':=(CR.refl [] w).grow hg
end
theorem Ae.lt {G:Gr}{w:World}{L:Loc}{e:A6}(h:Ae G w (some L) e)(hn:¬e.empty):L.b<w.heap.size:=by
 cases e with
 |blk cs=>obtain⟨M,vs,h1,_,h3⟩:=h;cases h1;exact h3.lt
 |lst s n f=>
  rcases h.2 with h|⟨M,h1,h2,_⟩
  ·exact absurd h hn
  ·cases h1;exact h2
 |row e s n c f=>obtain⟨_,_,xs,_,h⟩:=h;exact(KV h L.b (by simp [Value.ownBlock])).2
 |fac b o=>obtain⟨M,h1,h2,h3⟩:=h;cases h1;rw [h2];exact(Array.getElem?_eq_some_iff.1 h3).1
theorem Ae.mix {G:Gr}{ks:List Nat}{w w':World}{p:Option Loc}{e:A6}(h:Ae G w p e)(m:CR ks w w')(hk:¬e.empty→∀L,p=some L→ks.contains L.b=false):Ae G w' p e:=by
 cases e with
 |blk cs=>obtain⟨M,vs,h1,h2,h3⟩:=h;exact⟨M,vs,h1,h2,h3.mix m (hk (fun h=>h) M h1)⟩
 | lst s n f=>
  refine⟨h.1,?_⟩
  by_cases h0:n=0
  ·exact .inl h0
  ·rcases h.2 with h|⟨M,h1,h2,h3⟩
   ·exact .inl h
   ·exact .inr ⟨M,h1,Nat.lt_of_lt_of_le h2 m.size,fun k hl=>by obtain⟨vs,h4,h5⟩:=h3 k hl;exact⟨vs,h4,FY h5 m h2 (hk h0 M h1)⟩⟩
 |row e s n c f=>
  obtain⟨h1,h2,xs,h3,h4⟩:=h
  refine⟨h1,h2,xs,h3,KY h4 m fun k hv=>?_⟩
  cases p with
  |none=>simp [Value.ownBlock]at hv
  |some L=>simp [Value.ownBlock]at hv;subst hv;exact hk (fun h=>h) L rfl
 |fac b o=>
  obtain⟨M,h1,h2,h3⟩:=h
  refine⟨M,h1,h2,?_⟩
  have jQ:=hk (fun h=>h) M h1
  rw [h2]at jQ
  rw [m.block b (Array.getElem?_eq_some_iff.1 h3).1 jQ];exact h3
theorem Ae.more {G:Gr}(F:Gr){w:World}{p:Option Loc}{e:A6}(h:Ae G w p e):Ae (G++F) w p e:=by
 cases e with
 |blk cs=>obtain⟨M,vs,h1,h2,h3⟩:=h;exact⟨M,vs,h1,Al F cs h2,h3⟩
 |lst s n f=>exact h
 |row e s n c f=>exact h
 |fac b o=>exact h
theorem At {e:A6}(h:e.mut=true):¬e.empty:=by cases e<;>first|(cases h;done)|exact fun h=>h
theorem S5.mix {g:Nat}{w w':World}(hu:S5 g w w'):CR [g] w w':=(CR.refl [g] w).upd hu (.inl (by simp))
def look:List (Nat×SV)→Nat→Option SV
 | [],_=>none
 |(k,x)::l,t=>bif Nat.beq k t then some x else look l t
structure Sy (n:Nat)(T:List (Nat×SV))(H:Hp)(ks:List Nat)(G0:Gr)(w0:World)(G:Gr)(a:Act)(w:World):Prop where
 size:a.tmps.size=n
 defers:a.defers=[]
 get:∀t x,look T t=some x→den G x=some (a.tmps.getD t undef)
 mem:Mem H G w
 pre:∃F,G=G0++F
 own:∀(i:Nat) (e:A6) (L:Loc),H[i]?=some (some e)→e.mut=true→G[i]?=some (some L)→ks.contains L.b=true∨w0.heap.size≤L.b
 mix:CR ks w0 w
theorem C4 {f:Nat→List SV}{s:Nat}(hs:∀k,∃vs,AE [] (f k)=some vs∧vs.length=s):∀{n:Nat} {xs:List Value},Bt f n=some xs→xs.length=n*s
 |0,xs,h=>by cases h;simp
 | n+1,xs,h=>by
  unfold Bt at h
  obtain⟨vs,h1,h2⟩:=hs n
  split at h
  ·next l hl=>
   rw [h1]at h
   cases h
   simp [C4 hs hl,h2,Nat.add_mul]
  ·cases h
theorem IL {f:Nat→List SV}{s:Nat}(hs:∀k,∃vs,AE [] (f k)=some vs∧vs.length=s):∀n:Nat,∃xs,Bt f n=some xs
 |0=>⟨[],rfl⟩
 |n+1=>by
  obtain⟨l,hl⟩:=IL hs n
  obtain⟨vs,h1,_⟩:=hs n
  exact⟨l++vs,by unfold Bt;rw [hl,h1]⟩
theorem IM {f:Nat→List SV}{s:Nat}(hs:∀k,∃vs,AE [] (f k)=some vs∧vs.length=s):∀{n:Nat} {xs:List Value},Bt f n=some xs→∀k,k<n→∃vs,AE [] (f k)=some vs∧∀j v,vs[j]?=some v→xs[k*s+j]?=some v
 |0,xs,h,k,hk=>by omega
 | n+1,xs,h,k,hk=>by
  unfold Bt at h
  obtain⟨vs,h1,h2⟩:=hs n
  split at h
  ·next l hl=>
   rw [h1]at h
   cases h
   have oQ:=C4 hs hl
   by_cases lC:k<n
   ·obtain⟨us,h3,h4⟩:=IM hs hl k lC
    refine⟨us,h3,fun j v hj=>?_⟩
    have:=h4 j v hj
    rw [List.getElem?_append_left (List.getElem?_eq_some_iff.1 this).1];exact this
   ·have:k=n:=by omega
    subst this
    refine⟨vs,h1,fun j v hj=>?_⟩
    rw [List.getElem?_append_right (by omega),show k*s+j - l.length=j by omega];exact hj
  ·cases h
theorem DE {f g:Nat→List SV}:∀{n:Nat},(∀k,k<n→f k=g k)→Bt f n=Bt g n
 |0,_=>rfl
 |n+1,h=>by unfold Bt;rw [DE (fun k hk=>h k (by omega)),h n (by omega)]
theorem Cw {w:World}{e s n c:Nat}{p:Option Loc}{f:Nat→List SV}{G:Gr}(h:Ae G w p (.row e s n c f)){k:Nat}(hk:k<n):∃L vs,p=some L∧AE [] (f k)=some vs∧vs.length=s∧w.rangeAt L.b (L.pre.length+k*s) vs:=by
 obtain⟨h1,h2,xs,h3,h4,h5⟩:=h
 obtain⟨vs,v1,v2⟩:=h1 k
 obtain⟨us,u1,u2⟩:=IM h1 h3 k hk
 rw [v1]at u1;cases u1
 rcases h5 with⟨_,h5⟩|⟨g,cap,cur,q1,_,q3,q4,q5,q6,q7⟩
 ·omega
 ·cases p with
  |none=>cases q1
  |some L=>
   simp only [Option.map_some,Value.slice.injEq,Option.some.injEq,Addr.mk.injEq]at q1
   obtain⟨⟨q8,q9,_⟩,_,_⟩:=q1
   refine⟨L,vs,rfl,v1,v2,fun j v hj=>?_⟩
   have hx:=u2 j v hj
   rw [←q7]at hx
   have i7:=(List.getElem?_eq_some_iff.1 hx).1
   rw [List.getElem?_take_of_lt (by simp at i7;omega)]at hx
   rw [q9,Nat.zero_add,q8]
   rw [cell_of_row w g (k*s+j) cur e _ q3]
   simpa using hx
end Go.Proofs.YtbbdanhpphlbpaaGreatDoor
namespace Go.Proofs.YtbbdanhpphlbpaaGreatDoor
open Go.RowKit
structure TI where
 one:Bool
 row:Option Nat
 zero:Option (List SV)
 flds:List (Nat×Nat×Nat)
 knd:Option IntKind
 isS:Bool
 isB:Bool
 elm:Option (Nat×Nat×Nat)
 eqk:Option (List Nat)
 arr:Option (Nat×Nat×Nat)
inductive Tb where
 |e
 |n (k:Nat) (i:TI) (l r:Tb)
def Tb.get:Tb→Nat→Option TI
 | .e,_=>none
 | .n k i l r,t=>bif Nat.beq t k then some i else bif Nat.ble t k then l.get t else r.get t
def zB:Value→SV→Bool
 | .int k n,.int k' n'=>k==k'&&n==n'
 | .bool b,.ff=> !b
 | .string s,.str l=>s.data.toList.isEmpty&&l.isEmpty
 | .pointer none,.v (.pointer none)=>true
 | .slice none n c,.sla none n' c'=>Nat.beq n n'&&Nat.beq c c'
 | .nilIface,.v .nilIface=>true
 | .nilFunc,.v .nilFunc=>true
 | .map none,.v (.map none)=>true
 |_,_=>false
def cC:List Value→List SV→Bool
 | [],[]=>true
 |v::vs,x::xs=>zB v x&&cC vs xs
 |_,_=>false
theorem WD {G:Gr}{v:Value}{x:SV}(h:zB v x=true):den G x=some v:=by
 unfold zB at h
 split at h
 ·simp only [Bool.and_eq_true,beq_iff_eq]at h;obtain⟨rfl,rfl⟩:=h;rfl
 ·simp at h;subst h;rfl
 ·next s l=>
  simp only [Bool.and_eq_true,List.isEmpty_iff]at h
  obtain⟨h1,rfl⟩:=h
  have:=Yj s
  rw [h1]at this
  simp [den,this]
 ·rfl
 ·simp only [Bool.and_eq_true]at h
  have h1:=Nat.eq_of_beq_eq_true h.1
  have h2:=Nat.eq_of_beq_eq_true h.2
  subst h1;subst h2;rfl
 ·rfl
 ·rfl
 ·rfl
 ·cases h
theorem Ng {G:Gr}:∀{vs:List Value} {xs:List SV},cC vs xs=true→AE G xs=some vs
 | [],[],_=>rfl
 |v::vs,x::xs,h=>by
  simp only [cC,Bool.and_eq_true]at h
  exact Az (WD h.1) (Ng h.2)
 | [],_::_,h=>by cases h
 |_::_,[],h=>by cases h
def QH (P:Program)(t:TypeId):Bool:=match P.underlying t with|some .bool=>true|_=>false
def cD (P:Program)(t:TypeId)(k:IntKind):Bool:=match P.underlying t with|some (.int k')=>k'==k|_=>false
theorem TF {P:Program}{t:TypeId}{k:IntKind}(h:cD P t k=true):P.underlying t=some (.int k):=by
 unfold cD at h;split at h
 ·next k' hk=>rw [hk,eq_of_beq h]
 ·cases h
def Me (P:Program)(t:TypeId)(zs:List SV):Bool:=match P.info? t with
 |some i=>match i.zero with
  |some z=>cC z.cells.toList zs
  |none=>false
 |none=>false
def Jt (P:Program)(t:TypeId):Nat→List (Nat×Nat×Nat)→Bool
 |_,[]=>true
 |k,(ft,off,sz)::l=>(match fieldInfo P t k with|some (a,b)=>Nat.beq a ft&&Nat.beq b off|none=>false)&&(match C2 P t k with|some b=>Nat.beq b off|none=>sz==0)&&Jt P t (k+1) l
def dG (P:Program)(t:TypeId)(l:List (Nat×Nat×Nat)):Bool:=match placesOf P t with|some ps=>ps==l.map (·.2)|none=>false
def cE (P:Program)(t:TypeId)(i:TI):Bool:=
 (!i.one||oneB P t)&&(match i.row with|some m=>ID P t m|none=>true)&&(match i.zero with|some zs=>Me P t zs|none=>true)&&
 (match i.flds with| []=>true|l=>Jt P t 0 l&&dG P t l)&&(match i.knd with|some k=>cD P t k|none=>true)&&(!i.isS||Ja P t)&&(!i.isB||QH P t)&&
 (match i.elm with|some (e,s,b)=>D2 P t e s b|none=>true)&&(match i.eqk with|some qs=>QG P t qs|none=>true)&&(match i.arr with|some (n,e,s)=>LN P t n e s|none=>true)
def Tb.ok (P:Program):Tb→Bool
 | .e=>true
 | .n k i l r=>cE P k i&&l.ok P&&r.ok P
theorem Tb.at {P:Program}:∀{X:Tb} {t:Nat} {i:TI},X.ok P=true→X.get t=some i→cE P t i=true
 | .e,_,_,_,h=>by cases h
 | .n k j l r,t,i,hX,h=>by
  simp only [Tb.ok,Bool.and_eq_true]at hX
  unfold Tb.get at h
  cases hb:Nat.beq t k with
  |true=>rw [hb]at h;cases h;have:=Nat.eq_of_beq_eq_true hb;subst this;exact hX.1.1
  |false=>
   rw [hb]at h
   cases hc:Nat.ble t k with
   |true=>rw [hc]at h;exact Tb.at hX.1.2 h
   |false=>rw [hc]at h;exact Tb.at hX.2 h
structure Tx where
 tb:Tb
 nw:Bool
abbrev Tx.get (X:Tx)(t:Nat):Option TI:=X.tb.get t
abbrev Tx.ok (P:Program)(X:Tx):Bool:=X.tb.ok P
section
variable {P:Program}{t:TypeId}{i:TI}(h:cE P t i=true)
include h
theorem CY:(!i.one||oneB P t)=true∧(match i.row with|some m=>ID P t m|none=>true)=true∧(match i.zero with|some zs=>Me P t zs|none=>true)=true∧
 (match i.flds with| []=>true|l=>Jt P t 0 l&&dG P t l)=true∧(match i.knd with|some k=>cD P t k|none=>true)=true∧(!i.isS||Ja P t)=true∧(!i.isB||QH P t)=true∧
 (match i.elm with|some (e,s,b)=>D2 P t e s b|none=>true)=true∧(match i.eqk with|some qs=>QG P t qs|none=>true)=true∧(match i.arr with|some (n,e,s)=>LN P t n e s|none=>true)=true:=by
 unfold cE at h
 simp only [Bool.and_eq_true]at h
 obtain⟨⟨⟨⟨⟨⟨⟨⟨⟨h1,h2⟩,h3⟩,h4⟩,h5⟩,h6⟩,h7⟩,h8⟩,h9⟩,kH⟩:=h
 exact⟨h1,h2,h3,h4,h5,h6,h7,h8,h9,kH⟩
theorem HM (ho:i.one=true):oneB P t=true:=by have:=(CY h).1;rw [ho]at this;simpa using this
theorem HN {m:Nat}(ho:i.row=some m):ID P t m=true:=by have:=(CY h).2.1;rw [ho]at this;exact this
theorem KZ {zs:List SV}(ho:i.zero=some zs):∃z m,(P.info? t).map (fun i=>(i.zero,i.size))=some (some z,m)∧∀G,AE G zs=some z.cells.toList:=by
 have:=(CY h).2.2.1
 rw [ho]at this
 simp only [Me]at this
 split at this
 ·next f hf=>
  split at this
  ·next z hz=>exact⟨z,f.size,by rw [hf,←hz];rfl,fun G=>Ng this⟩
  ·cases this
 ·cases this
theorem Nh:∀(l:List (Nat×Nat×Nat)) (k:Nat),Jt P t k l=true→∀(f ft off sz:Nat),l[f]?=some (ft,off,sz)→fieldInfo P t (k+f)=some (ft,off)∧(sz≠0→C2 P t (k+f)=some off)
 | [],_,_,f,ft,off,sz,hf=>by cases hf
 | (a,b,c)::l,k,hb,0,ft,off,sz,hf=>by
  cases hf
  simp only [Jt,Bool.and_eq_true]at hb
  obtain⟨⟨h1,h2⟩,_⟩:=hb
  constructor
  ·split at h1
   ·next a' b' e=>simp only [Bool.and_eq_true]at h1;rw [Nat.add_zero,e,Nat.eq_of_beq_eq_true h1.1,Nat.eq_of_beq_eq_true h1.2]
   ·cases h1
  ·intro hz
   split at h2
   ·next b' e=>rw [Nat.add_zero,e,Nat.eq_of_beq_eq_true h2]
   ·simp at h2;exact absurd h2 hz
 |(a,b,c)::l,k,hb,f+1,ft,off,sz,hf=>by
  simp only [Jt,Bool.and_eq_true]at hb
  have:=Nh l (k+1) hb.2 f ft off sz hf
  rw [show k+(f+1)=k+1+f by omega];exact this
theorem QI {f ft off sz:Nat}(hf:i.flds[f]?=some (ft,off,sz)):fieldInfo P t f=some (ft,off)∧(sz≠0→C2 P t f=some off):=by
 have:=(CY h).2.2.2.1
 split at this
 ·next e=>rw [e]at hf;cases hf
 ·rw [Bool.and_eq_true]at this
  have:=Nh h i.flds 0 this.1 f ft off sz hf
  rwa [Nat.zero_add]at this
theorem Yo (hn:i.flds≠[]):placesOf P t=some (i.flds.map (·.2)):=by
 have:=(CY h).2.2.2.1
 split at this
 ·next e=>exact absurd e hn
 ·rw [Bool.and_eq_true]at this
  have:=this.2
  unfold dG at this
  split at this
  ·next ps e=>rw [e];simpa using this
  ·cases this
theorem QJ {k:IntKind}(ho:i.knd=some k):P.underlying t=some (.int k):=by have:=(CY h).2.2.2.2.1;rw [ho]at this;exact TF this
theorem Mf (ho:i.isS=true):Ja P t=true:=by have:=(CY h).2.2.2.2.2.1;rw [ho]at this;simpa using this
theorem Ni (ho:i.isB=true):P.underlying t=some .bool:=by
 have:=(CY h).2.2.2.2.2.2.1
 rw [ho]at this
 simp only [QH,Bool.not_true,Bool.false_or]at this
 split at this
 ·assumption
 ·cases this
theorem Ct {e s b:Nat}(ho:i.elm=some (e,s,b)):D2 P t e s b=true:=by have:=(CY h).2.2.2.2.2.2.2.1;rw [ho]at this;exact this
theorem WE {qs:List Nat}(ho:i.eqk=some qs):QG P t qs=true:=by have:=(CY h).2.2.2.2.2.2.2.2.1;rw [ho]at this;exact this
theorem Ka {n e s:Nat}(ho:i.arr=some (n,e,s)):LN P t n e s=true:=by have:=(CY h).2.2.2.2.2.2.2.2.2;rw [ho]at this;exact this
end
def lg {α:Type}:List α→Nat→Option α
 | [],_=>none
 |x::_,0=>some x
 |_::l,k+1=>lg l k
theorem Ah {α:Type}:∀(l:List α) (k:Nat),lg l k=l[k]?
 | [],_=>rfl
 |_::_,0=>rfl
 |_::l,k+1=>by rw [lg,Ah l k];rfl
def tk {α:Type}:Nat→List α→Option (List α)
 |0,_=>some []
 |_+1,[]=>none
 |m+1,x::l=>match tk m l with
  |some r=>some (x::r)
  |none=>none
theorem GS {α:Type}:∀{m:Nat} {l r:List α},tk m l=some r→r=l.take m∧m≤l.length
 |0,l,r,h=>by cases h;simp
 |m+1,[],r,h=>by cases h
 |m+1,x::l,r,h=>by
  unfold tk at h
  split at h
  ·next s hs=>cases h;obtain⟨rfl,h2⟩:=GS hs;simp;exact h2
  ·cases h
def dp {α:Type}:Nat→List α→List α
 |0,l=>l
 |_+1,[]=>[]
 |o+1,_::l=>dp o l
theorem Fu {α:Type}:∀(o:Nat) (l:List α),dp o l=l.drop o
 |0,l=>by simp [dp]
 |o+1,[]=>by simp [dp]
 |o+1,x::l=>by simp [dp,Fu o l]
def sp {α:Type}:Nat→List α→List α→Option (List α)
 |0,cs,[]=>some cs
 |0,[],_::_=>none
 |0,_::cs,x::xs=>match sp 0 cs xs with
  |some r=>some (x::r)
  |none=>none
 |_+1,[],_=>none
 |o+1,c::cs,xs=>match sp o cs xs with
  |some r=>some (c::r)
  |none=>none
theorem Ht {α:Type}:∀{o:Nat} {cs xs r:List α},sp o cs xs=some r→r=cs.take o++xs++cs.drop (o+xs.length)∧o+xs.length≤cs.length
 |0,cs,[],r,h=>by simp [sp]at h;subst h;simp
 |0,[],_::_,r,h=>by simp [sp]at h
 | 0,c::cs,x::xs,r,h=>by
  unfold sp at h
  split at h
  ·next s hs=>
   cases h
   obtain⟨h1,h2⟩:=Ht hs
   subst h1
   simp at h2⊢
   exact h2
  ·cases h
 |o+1,[],xs,r,h=>by simp [sp]at h
 | o+1,c::cs,xs,r,h=>by
  unfold sp at h
  split at h
  ·next s hs=>
   cases h
   obtain⟨h1,h2⟩:=Ht hs
   subst h1
   rw [show o+1+xs.length=o+xs.length+1 by omega]
   simp at h2⊢
   omega
  ·cases h
theorem HO {g:Nat}{t:TypeId}:∀(new old A B:List Value) (w:World),old.length=new.length→DR w g (A++old++B).toArray t→DR (w.setCells g A.length new) g (A++new++B).toArray t∧S5 g w (w.setCells g A.length new)
 | [],[],A,B,w,_,h=>⟨h,rfl,rfl,rfl,rfl,fun _ _=>rfl⟩
 | [],_::_,_,_,_,h,_=>by cases h
 |_::_,[],_,_,_,h,_=>by cases h
 | x::new,y::old,A,B,w,hl,h=>by
  have h1:DR (w.setCell ⟨g,A.length,none⟩ x) g ((A++[x])++old++B).toArray t:=by
   have:=h.set (k:=A.length) x
   simpa using this
  have wL:old.length=new.length:=by simpa using hl
  obtain⟨h2,h3⟩:=HO new old (A++[x]) B _ wL h1
  have e:w.setCells g A.length (x::new)=(w.setCell ⟨g,A.length,none⟩ x).setCells g (A++[x]).length new:=by
   rw [World.setCells];simp
  rw [e]
  refine⟨by simpa using h2,?_⟩
  have u:=LL w g A.length x
  exact⟨h3.os.trans u.os,h3.tape.trans u.tape,h3.output.trans u.output,h3.size.trans u.size,fun k hk=>(h3.block k hk).trans (u.block k hk)⟩
abbrev Ob:=List (Bool×Bool)
def Cz (E:Ob):Prop:=E.map (·.1)=E.map (·.2)
theorem iT:Cz []:=rfl
theorem AQ {E F:Ob}(h:Cz (E++F)):Cz E∧Cz F:=by
 unfold Cz at*
 simp only [List.map_append]at h
 exact List.append_inj h (by simp)
theorem GT {x:Bool×Bool}{F:Ob}(h:Cz (x::F)):x.1=x.2∧Cz F:=by
 unfold Cz at*
 simp only [List.map_cons,List.cons.injEq]at h
 exact h
def dH:Value→SV
 | .bool true=>.tt
 | .bool false=>.ff
 | .int k n=>.int k n
 | .string s=>.str s.data.toList
 | .slice ao n c=>.sla ao n c
 |x=>.v x
theorem TG {G:Gr}(x:Value):den G (dH x)=some x:=by
 unfold dH
 split<;>first|rfl|simp [den,Yj]
def jR (T:List (Nat×SV)):Operand→Option SV
 | .tmp t=>look T t
 | .const v=>some (dH v)
 | .global g=>some (.v (.pointer (some ⟨g,0,none⟩)))
 | .func f=>some (.fn f [])
def FZ (gc:Option Bool)(T:List (Nat×SV))(x:Operand):Option (SV×Ob):=match jR T x with
 |some (.opt b y)=>match gc with
  |some g=>some (y,[(b,g)])
  |none=>none
 |some y=>some (y,[])
 |none=>none
def IE (gc:Option Bool):Prop:=∀g,gc=some g→g=true
section
variable {n:Nat}{T:List (Nat×SV)}{H:Hp}{ks:List Nat}{G0:Gr}{w0:World}{G:Gr}{a:Act}{w:World}
theorem Sy.ev (A:Sy n T H ks G0 w0 G a w){x:Operand}{y:SV}(h:jR T x=some y):den G y=some (a.eval x):=by
 cases x with
 |tmp t=>exact A.get t y h
 |const v=>cases h;exact TG v
 |global g=>cases h;rfl
 |func f=>cases h;rfl
theorem Sy.evg (A:Sy n T H ks G0 w0 G a w){gc:Option Bool}(hg:IE gc){x:Operand}{y:SV}{E:Ob}(h:FZ gc T x=some (y,E))(hE:Cz E):den G y=some (a.eval x):=by
 unfold FZ at h
 split at h
 ·next b z hz=>
  split at h
  ·next g=>
   cases h
   have e:=(GT hE).1
   have hg:=hg g rfl
   simp only at e
   rw [hg]at e
   subst e
   have:=A.ev hz
   unfold den at this
   obtain⟨v,h1,h2⟩:=Option.map_eq_some_iff.1 this
   rw [h1];exact congrArg some h2
  ·cases h
 ·next z _ hz=>cases h;exact A.ev hz
 ·cases h
end
inductive Out where
 |val (x:SV) (E:Ob)
 |new (t:TypeId) (e:A6) (x:SV)
 |upd (i:Nat) (cs:List SV) (E:Ob)
def SV.toB:SV→Option Bool
 | .tt=>some true
 | .ff=>some false
 | .bool b=>some b
 |_=>none
theorem SV.toB_den {G:Gr}{x:SV}{b:Bool}(h:x.toB=some b):den G x=some (.bool b):=by
 cases x<;>simp [SV.toB]at h<;>subst h<;>rfl
def Yp (op:BinOp)(a b:Int):Option Bool:=match op with
 | .eql=>some (a==b)
 | .neq=>some (!(a==b))
 | .lss=>some (decide (a<b))
 | .leq=>some (decide (a≤b))
 | .gtr=>some (decide (a>b))
 | .geq=>some (decide (a≥b))
 |_=>none
def Yq (op:BinOp)(a b:Int):Option Int:=match op with
 | .add=>some (a+b)
 | .sub=>some (a - b)
 | .mul=>some (a*b)
 |_=>none
def LP:Nat→SV→SV→Option Bool
 |0,.int k a,.int k' b=>bif k==k' then some (a==b)else none
 |1,x,y=>match x.toB,y.toB with
  |some p,some q=>some (p==q)
  |_,_=>none
 |2,.str l,.str m=>some (l==m)
 |_,_,_=>none
def TH:List Nat→List SV→List SV→Option Bool
 | [],[],[]=>some true
 | [q],[x],[y]=>LP q x y
 |q::qs,x::xs,y::ys=>match LP q x y,TH qs xs ys with
  |some a,some b=>some (a&&b)
  |_,_=>none
 |_,_,_=>none
theorem Ow {G:Gr}{q:Nat}{x y:SV}{u v:Value}{r:Bool}(h:LP q x y=some r)(hx:den G x=some u)(hy:den G y=some v):cellEq q u v=some r:=by
 unfold LP at h
 split at h
 ·next k a k' b=>
  cases hk:k==k' with
  |false=>rw [hk]at h;cases h
  |true=>rw [hk]at h;cases h;cases hx;cases hy;have:=eq_of_beq hk;subst this;simp [cellEq]
 ·split at h
  ·next p q hp hq=>
   cases h
   have e1:=SV.toB_den (G:=G) hp
   have e2:=SV.toB_den (G:=G) hq
   rw [hx]at e1;rw [hy]at e2
   cases e1;cases e2;rfl
  ·cases h
 ·cases h;cases hx;cases hy;simp [cellEq,Mb]
 ·cases h
theorem TJ {G:Gr}:∀{qs:List Nat} {xs ys:List SV} {us vs:List Value} {r:Bool},TH qs xs ys=some r→AE G xs=some us→AE G ys=some vs→jI qs us vs=some r∧us.length=qs.length∧vs.length=qs.length:=by
 intro qs
 induction qs with
 | nil=>
  intro xs ys us vs r h hx hy
  cases xs with
  |nil=>
   cases ys with
   |nil=>cases h;cases hx;cases hy;exact⟨rfl,rfl,rfl⟩
   |cons y ys=>simp [TH]at h
  |cons x xs=>simp [TH]at h
 | cons q qs ih=>
  intro xs ys us vs r h hx hy
  cases xs with
  |nil=>cases qs<;>simp [TH]at h
  | cons x xs=>
   cases ys with
   |nil=>cases qs<;>cases xs<;>simp [TH]at h
   | cons y ys=>
    obtain⟨u,us',h1,h2,rfl⟩:=Au hx
    obtain⟨v,vs',h3,h4,rfl⟩:=Au hy
    have key:∀a b,LP q x y=some a→TH qs xs ys=some b→r=(a&&b)→jI (q::qs) (u::us') (v::vs')=some r∧(u::us').length=(q::qs).length∧(v::vs').length=(q::qs).length:=by
     intro a b ha hb hr
     obtain⟨i1,i2,i3⟩:=ih hb h2 h4
     refine⟨?_,by simp [i2],by simp [i3]⟩
     simp [jI,Ow ha h1 h3,i1,hr]
    unfold TH at h
    split at h
    ·next e=>cases e
    ·next e1 e2 e3=>cases e1;cases e2;cases e3;exact key r true h rfl (by simp)
    ·next e1 e2 e3=>
     cases e1;cases e2;cases e3
     split at h
     ·next a b ha hb=>cases h;exact key a b ha hb rfl
     ·cases h
    ·cases h
def gA (op:BinOp)(k:IntKind)(a b:Int):Option Int:=match op with
 | .shl=>some (k.wrap (a*2^min b.toNat k.bits))
 | .shr=>some (a.fdiv (2^min b.toNat k.bits))
 |_=>none
def Yr (op:BinOp)(k:IntKind)(a b:Int):Option Int:=match op with
 | .quo=>some (k.wrap (a.tdiv b))
 | .rem=>some (a.tmod b)
 |_=>none
def Ys (op:BinOp)(k:IntKind)(a b:Int):Option Int:=match op with
 | .and=>some (k.wrap ((BitVec.ofInt k.bits a&&&BitVec.ofInt k.bits b).toNat))
 | .or=>some (k.wrap ((BitVec.ofInt k.bits a|||BitVec.ofInt k.bits b).toNat))
 | .xor=>some (k.wrap ((BitVec.ofInt k.bits a^^^BitVec.ofInt k.bits b).toNat))
 | .andNot=>some (k.wrap ((BitVec.ofInt k.bits a&&& ~~~ (BitVec.ofInt k.bits b)).toNat))
 |_=>none
def WG (X:Tx) (op:BinOp) (t:TypeId) (x y:SV):Option (SV×List Bool):=match x,y with
  | .int k a,.int k' b=>match gA op k a b with
   |some m=>some (.int k m,[decide (0≤b)])
   | none=>bif k==k' then(match Yp op a b with
    |some r=>some (.bool r,[])
    | none=>match Yr op k a b with
     |some m=>some (.int k m,[decide (b≠0)])
     |none=>match Ys op k a b with
     |some m=>some (.int k m,[])
     |none=>match Yq op a b with
      | some m=>bif X.nw then(match k with
        | .i64=>some (.int .i64 m,[decide (-9223372036854775808≤m∧m≤9223372036854775807)])
        |_=>some (.int k (k.wrap m),[]))else some (.int k (k.wrap m),[])
      |none=>none)else none
  | .str l,.str m=>match op with
    | .eql=>some (.bool (l==m),[])
    | .neq=>some (.bool (!(l==m)),[])
    | .add=>some (.str (l++m),[decide (l.length+m.length≤9223372036854775807)])
    |_=>none
  | .agg xs,.agg ys=>match X.get t with
    | some i=>match i.eqk with
      | some qs=>match TH qs xs ys with
        | some r=>match op with
          | .eql=>some (.bool r,[])
          | .neq=>some (.bool (!r),[])
          |_=>none
        |none=>none
      |none=>none
    |none=>none
  | x,y=>match x.toB,y.toB with
    | some p,some q=>match X.get t with
      | some i=>bif i.isB then(match op with
        | .eql=>some (.bool (p==q),[])
        | .neq=>some (.bool (!(p==q)),[])
        |_=>none)else none
      |none=>none
    |_,_=>none
theorem GU {m:Int}(h: -9223372036854775808≤m∧m≤9223372036854775807):IntKind.wrap .i64 m=m:=by simp only [IntKind.wrap,IntKind.signed,IntKind.bits];simp;omega
theorem Yt {P:Program}{t:TypeId}(x y:Operand)(a b:Bool)(w:World)(ht:P.underlying t=some .bool):(eqGuard .eql t x y (.bool a) (.bool b)).run P w=.ok () w∧(binOp .eql t (.bool a) (.bool b)).run P w=.ok (.bool (a==b)) w:=by
 exact⟨by simp [eqGuard],run_eql_bool w t a b ht⟩
theorem Yu {P:Program}{t:TypeId}(x y:Operand)(a b:Bool)(w:World)(ht:P.underlying t=some .bool):(eqGuard .neq t x y (.bool a) (.bool b)).run P w=.ok () w∧(binOp .neq t (.bool a) (.bool b)).run P w=.ok (.bool (!(a==b))) w:=by
 exact⟨by simp [eqGuard],run_neq_bool w t a b ht⟩
theorem QK {P:Program} {X:Tx} (hX:X.ok P=true) {G:Gr} {op:BinOp} {t:TypeId} {x y r:SV} {q:List Bool} {u v:Value} (h:WG X op t x y=some (r,q)) (hx:den G x=some u) (hy:den G y=some v) (ox oy:Operand) (w:World):
    ∃z,den G r=some z∧((∀p∈q,p=true)→(eqGuard op t ox oy u v).run P w=.ok () w∧(binOp op t u v).run P w=.ok z w):=by
  unfold WG at h
  split at h
  · next k a k' b =>
   split at h
   · next m hm=>
     cases h;cases hx;cases hy
     refine⟨_,rfl,fun hq=>?_⟩
     have h0:0≤b:=of_decide_eq_true (hq _ (by simp))
     have h1:¬b<0:=by omega
     cases op<;>simp only [gA]at hm<;>first|(cases hm;done)|skip
     all_goals cases hm
     all_goals exact⟨by simp [eqGuard],by simp [binOp,Op.shift,h1]⟩
   · cases hk : k ==k' with
    |false=>rw [hk]at h;cases h
    | true=>
      rw [hk]at h
      have:=eq_of_beq hk
      subst this
      cases hx;cases hy
      simp only [cond_true]at h
      split at h
      · next r' hr=>
        cases h
        refine⟨_,rfl,fun _=>?_⟩
        cases op<;>simp only [Yp]at hr<;>first|(cases hr;done)|skip
        all_goals cases hr
        ·exact cY ox oy a b _ w rfl
        ·exact cZ ox oy a b _ w rfl
        ·exact dA ox oy a b _ w rfl
        ·exact dB ox oy a b _ w rfl
        ·exact dC ox oy a b _ w rfl
        ·exact dD ox oy a b _ w rfl
      · split at h
        · next m hm=>
          cases h
          refine⟨_,rfl,fun hq=>?_⟩
          have h0:b≠0:=of_decide_eq_true (hq _ (by simp))
          cases op<;>simp only [Yr]at hm<;>first|(cases hm;done)|skip
          all_goals cases hm
          all_goals exact⟨by simp [eqGuard],by simp [binOp,Op.intDiv,h0]⟩
        · split at h
          · next m hm=>
            cases h
            refine⟨_,rfl,fun hq=>?_⟩
            cases op<;>simp only [Ys]at hm<;>first|(cases hm;done)|skip
            all_goals cases hm
            all_goals exact⟨by simp [eqGuard],by simp [binOp,Op.intBits]⟩
          · split at h
            · next m hm=>
              have key:(eqGuard op t ox oy (.int k a) (.int k b)).run P w=.ok () w∧(binOp op t (.int k a) (.int k b)).run P w=.ok (.int k (k.wrap m)) w:=by
                cases op<;>simp only [Yq]at hm<;>first|(cases hm;done)|skip
                all_goals cases hm
                all_goals exact⟨by simp [eqGuard],by simp [binOp,Op.intArith]⟩
              cases hn:X.nw with
              |false=>rw [hn]at h;cases h;exact⟨_,rfl,fun _=>key⟩
              | true=>
                rw [hn]at h
                simp only [cond_true]at h
                split at h
                · cases h
                  refine⟨_,rfl,fun hq=>?_⟩
                  have:=GU (m:=m) (of_decide_eq_true (hq _ (by simp)))
                  rw [this]at key
                  exact key
                ·cases h;exact⟨_,rfl,fun _=>key⟩
            ·cases h
  · next l m=>
    cases hx;cases hy
    split at h
    ·cases h;exact⟨_,rfl,fun _=>Yl rfl⟩
    ·cases h;exact⟨_,rfl,fun _=>Ym rfl⟩
    ·cases h;exact⟨_,rfl,fun hq=>WB (of_decide_eq_true (hq _ (by simp)))⟩
    ·cases h
  · next xs ys=>
    split at h
    · next i hi=>
      split at h
      · next qs wM=>
        split at h
        · next r' hr=>
          unfold den at hx hy
          obtain⟨us,u1,u2⟩:=Option.map_eq_some_iff.1 hx
          obtain⟨vs,v1,v2⟩:=Option.map_eq_some_iff.1 hy
          subst u2;subst v2
          obtain⟨c1,c2,c3⟩:=TJ hr u1 v1
          have key:=WC (P:=P) (w:=w) (WE (Tb.at hX hi) wM) (xs:=us.toArray) (ys:=vs.toArray) (by simpa using c2) (by simpa using c3) (by simpa using c1) ox oy
          split at h
          ·cases h;exact⟨_,rfl,fun _=>key.1⟩
          ·cases h;exact⟨_,rfl,fun _=>key.2⟩
          ·cases h
        ·cases h
      ·cases h
    ·cases h
  · split at h
    · next p q hp hq=>
      split at h
      · next i hi=>
        have ht:=Tb.at hX hi
        cases hb:i.isB with
        |false=>rw [hb]at h;cases h
        | true=>
          rw [hb]at h
          simp only [cond_true]at h
          have e1:=SV.toB_den (G:=G) hp
          have e2:=SV.toB_den (G:=G) hq
          rw [hx]at e1
          rw [hy]at e2
          cases e1;cases e2
          split at h
          ·cases h;exact⟨_,rfl,fun _=>Yt ox oy p q w (Ni ht hb)⟩
          ·cases h;exact⟨_,rfl,fun _=>Yu ox oy p q w (Ni ht hb)⟩
          ·cases h
      ·cases h
    ·cases h
section
variable {n:Nat}{T:List (Nat×SV)}{H:Hp}{ks:List Nat}{G0:Gr}{w0:World}{G:Gr}{a:Act}{w:World}
theorem Sy.evx (A:Sy n T H ks G0 w0 G a w){gc:Option Bool}{x:Operand}{y:SV}{E:Ob}(h:FZ gc T x=some (y,E)):∃v,den G y=some v∧(Cz E→IE gc→a.eval x=v):=by
 have key:∃v,den G y=some v:=by
  unfold FZ at h
  split at h
  ·next b z hz=>
   split at h
   ·cases h
    have:=A.ev hz
    unfold den at this
    obtain⟨v,h1,_⟩:=Option.map_eq_some_iff.1 this
    exact⟨v,h1⟩
   ·cases h
  ·next z _ hz=>cases h;exact⟨_,A.ev hz⟩
  ·cases h
 obtain⟨v,hv⟩:=key
 exact⟨v,hv,fun hE hg=>by have:=A.evg hg h hE;rw [hv]at this;exact(Option.some.inj this).symm⟩
end
def CZ (X:Tx)(t:TypeId)(cs:List SV)(o:Nat):Option SV:=match X.get t with
 | some f=>match f.row with
  |some 0=>none
  |some (m+1)=>match tk (m+1) (dp o cs)with
   |some r=>some (.agg r)
   |none=>none
  |none=>bif f.one then lg cs o else none
 |none=>none
def partsOf:Option (Option A6)→Option (Nat×Nat×(Nat→List SV))
 |some (some (.lst s n f))=>some (s,n,f)
 |some (some (.row _ s n _ f))=>some (s,n,f)
 |_=>none
def Nj (k:IntKind):List SV→Option (List Int)
 | []=>some []
 | .int k' n::l=>match k==k',Nj k l with
  |true,some r=>some (n::r)
  |_,_=>none
 |_::_=>none
def Nk:List SV→Option (List (List UInt8))
 | []=>some []
 | .str s::l=>match Nk l with
  |some r=>some (s::r)
  |none=>none
 |_::_=>none
def Nl:List SV→Option (List Bool)
 | []=>some []
 |x::l=>match x.toB,Nl l with
  |some b,some r=>some (b::r)
  |_,_=>none
def WH (rs:List SV)(j:Int):Option SV:=match rs with
 | .int k _::_=>match Nj k rs with
  |some l=>some (.int k (l.getD j.toNat 0))
  |none=>none
 | .str _::_=>match Nk rs with
  |some l=>some (.str (l.getD j.toNat []))
  |none=>none
 |_=>match Nl rs with
  |some l=>some (.bool (l.getD j.toNat false))
  |none=>none
theorem LQ {k:IntKind}:∀{l:List SV} {r:List Int},Nj k l=some r→∀(i:Nat) (x:SV),l[i]?=some x→x=.int k (r.getD i 0)
 | [],r,h,i,x,hx=>by cases hx
 | y::l,r,h,i,x,hx=>by
  unfold Nj at h
  split at h
  ·next e=>cases e
  ·next k' n l' e=>
   cases e
   split at h
   ·next r' hk hr=>
    cases h
    cases i with
    |zero=>cases hx;have:=eq_of_beq hk;subst this;rfl
    |succ i=>exact LQ hr i x hx
   ·cases h
  ·cases h
theorem LR:∀{l:List SV} {r:List (List UInt8)},Nk l=some r→∀(i:Nat) (x:SV),l[i]?=some x→x=.str (r.getD i [])
 | [],r,h,i,x,hx=>by cases hx
 | y::l,r,h,i,x,hx=>by
  unfold Nk at h
  split at h
  ·next e=>cases e
  ·next s l' e=>
   cases e
   split at h
   ·next r' hr=>
    cases h
    cases i with
    |zero=>cases hx;rfl
    |succ i=>exact LR hr i x hx
   ·cases h
  ·cases h
theorem LS {G:Gr}:∀{l:List SV} {r:List Bool},Nl l=some r→∀(i:Nat) (x:SV),l[i]?=some x→den G x=some (.bool (r.getD i false))
 | [],r,h,i,x,hx=>by cases hx
 | y::l,r,h,i,x,hx=>by
  unfold Nl at h
  split at h
  ·next b r' hb hr=>
   cases h
   cases i with
   |zero=>cases hx;exact SV.toB_den hb
   |succ i=>exact LS hr i x hx
  ·cases h
theorem QL {G:Gr}{rs:List SV}{j:Int}{r:SV}(h:WH rs j=some r):(∃v,den G r=some v)∧∀x,rs[j.toNat]?=some x→den G r=den G x:=by
 unfold WH at h
 split at h
 ·next k n l=>
  split at h
  ·next q hq=>cases h;exact⟨⟨_,rfl⟩,fun x hx=>by rw [LQ hq _ x hx]⟩
  ·cases h
 ·next s l=>
  split at h
  ·next q hq=>cases h;exact⟨⟨_,rfl⟩,fun x hx=>by rw [LR hq _ x hx]⟩
  ·cases h
 ·split at h
  ·next q hq=>cases h;exact⟨⟨_,rfl⟩,fun x hx=>by rw [LS hq _ x hx];rfl⟩
  ·cases h
def TK (g:Nat→Option SV):Nat→Nat→Option (List SV)
 |_,0=>some []
 |k,n+1=>match g k,TK g (k+1) n with
  |some x,some r=>some (x::r)
  |_,_=>none
theorem Nm {g:Nat→Option SV}:∀{n k:Nat} {r:List SV},TK g k n=some r→∀i,i<n→∃x,r[i]?=some x∧g (k+i)=some x
 |0,_,_,_,i,hi=>by omega
 | n+1,k,r,h,i,hi=>by
  unfold TK at h
  split at h
  ·next x r' hx hr=>
   cases h
   cases i with
   |zero=>exact⟨x,rfl,hx⟩
   |succ i=>
    obtain⟨y,h1,h2⟩:=Nm hr i (by omega)
    exact⟨y,h1,by rw [show k+(i+1)=k+1+i by omega];exact h2⟩
  ·cases h
def Jb (X:Tx)(t:TypeId)(cs:List SV):List (Nat×Nat×Int)→Nat→Option SV
 | [],off=>CZ X t cs off
 |(s,n,j)::js,off=>match TK (fun c=>Jb X t cs js (off+c*s)) 0 n with
  |some rs=>WH rs j
  |none=>none
def lY:List (Nat×Nat×Int)→Nat
 | []=>0
 |(s,_,j)::js=>j.toNat*s+lY js
def Yv:List (Nat×Nat×Int)→Prop
 | []=>True
 |(_,n,j)::js=>j.toNat<n∧Yv js
def FH (H:Hp):SV→Option (List SV×Nat×List (Nat×Nat×Int)×List Bool)
 | .ptr i o=>match lg H i with
  |some (some (.blk cs))=>some (cs,o,[],[])
  |_=>none
 | .el i s j o=>match partsOf (lg H i)with
  |some (s',n,f)=>match Nat.beq s s' with
   |true=>some (f j.toNat,o,[],[decide (j.toNat<n)])
   |false=>none
  |none=>none
 | .ix p s n j k=>match FH H p with
  |some (cs,o,js,q)=>some (cs,o+k,js++[(s,n,j)],q++[decide (j.toNat<n)])
  |none=>none
 |_=>none
def Do (X:Tx)(H:Hp)(t:TypeId)(x:SV):Option (SV×List Bool):=match FH H x with
 |some (cs,o,js,q)=>match Jb X t cs js o with
  |some r=>some (r,q)
  |none=>none
 |none=>none
def Uv (H:Hp):SV→Option (List Bool)
 | .ptr _ _=>some []
 | .el i _ j _=>match partsOf (lg H i)with
  |some (_,n,_)=>some [decide (j.toNat<n)]
  |none=>none
 | .ix p _ _ _ _=>Uv H p
 |_=>none
def Uw (gc:Option Bool)(p:Bool):Bool×Bool:=match gc with
 |none=>(p,true)
 |some b=>(!b||p,true)
theorem Cg {gc:Option Bool}(hg:IE gc){l:List Bool}(h:Cz (l.map (Uw gc))):∀p∈l,p=true:=by
 induction l with
 |nil=>intro p hp;cases hp
 | cons x l ih=>
  obtain⟨h1,h2⟩:=GT h
  intro p hp
  rcases List.mem_cons.1 hp with rfl|hp
  ·unfold Uw at h1
   cases gc with
   |none=>exact h1
   |some b=>have:=hg b rfl;subst this;simpa using h1
  ·exact ih h2 p hp
def gB (X:Tx)(H:Hp)(t:TypeId)(x i:SV):Option (SV×List Bool):=match x,i with
 | .sl k n _,.int .i64 j=>match X.get t,partsOf (lg H k)with
  |some f,some (_,m,_)=>match f.elm with
   |some (_,s,_)=>some (.el k s j 0,[decide (0≤j∧j<(n:Int)∧j.toNat<m)])
   |none=>none
  |some f,none=>match f.elm,lg H k with
   |some (_,s,_),some (some (.blk _))=>some (.ix (.ptr k 0) s n j 0,[decide (0≤j∧j<(n:Int))])
   |_,_=>none
  |_,_=>none
 | .sp p n _,.int .i64 j=>match X.get t with
  |some f=>match f.elm,Uv H p with
   |some (_,s,_),some q=>some (.ix p s n j 0,q++[decide (0≤j∧j<(n:Int))])
   |_,_=>none
  |none=>none
 | .st k s' b n c,.int .i64 j=>match X.get t,lg H k with
  |some f,some (some (.row _ _ m c' _))=>match f.elm with
   |some (_,s,_)=>bif Nat.beq s s'&&Nat.beq c c' then some (.el k s ((b:Int)+j) 0,[decide (0≤j∧j<(n:Int)∧((b:Int)+j).toNat<m)])else none
   |none=>none
  |_,_=>none
 | x,.int .i64 j=>match X.get t with
  |some f=>match f.arr,Uv H x with
   |some (m,_,s),some q=>some (.ix x s m j 0,q++[decide (0≤j∧j<(m:Int))])
   |_,_=>none
  |none=>none
 |_,_=>none
def gC (X:Tx) (t:TypeId) (x i:SV):Option (SV×List Bool):=match x,i with
 | .agg l,.int .i64 j=>match X.get t with
  | some f=>match f.arr with
   |some (m,e,s)=>match Jb X e l [(s,m,j)] 0 with
    |some r=>some (r,[decide (0≤j∧j<(m:Int))])
    |none=>none
   |none=>none
  |none=>none
 | .str l,.int _ j=>match X.get t with
  |some f=>bif f.isS then some (.int .u8 (((l.getD j.toNat 0).toNat:Nat):Int),[decide (0≤j∧j<(l.length:Int))])else none
  |none=>none
 |_,_=>none
def TL:Option (Option A6)→Nat→Nat
 |some (some (.row _ _ m _ _)),_=>m
 |_,c=>c
def gD:Option (Option A6)→Nat→Bool
 |some (some (.row _ _ _ c' _)),c=>Nat.beq c c'
 |_,_=>true
def Ux (X:Tx) (H:Hp) (t:TypeId) (x:SV) (lo hi:Option SV):Option (SV×List Bool):=match x with
 | .sl i n c=>match X.get t with
  | some f=>match f.elm with
   |some (_,s,_)=>match lo,hi with
    |some (.int .i64 a),none=>some (.st i s a.toNat (n - a.toNat) c,[decide (0≤a∧a≤(n:Int))])
    |none,some (.int .i64 b)=>bif gD (lg H i) c then some (.sl i b.toNat c,[decide (0≤b∧b≤(TL (lg H i) c:Int))])else none
    |_,_=>none
   |none=>none
  |none=>none
 | .str l=>match X.get t with
  |some f=>bif f.isS then(match lo,hi with
   |some (.int .i64 a),none=>some (.str (l.drop a.toNat),[decide (0≤a∧a≤(l.length:Int))])
   |none,some (.int .i64 b)=>some (.str (l.take b.toNat),[decide (0≤b∧b≤(l.length:Int))])
   |some (.int .i64 a),some (.int .i64 b)=>some (.str ((l.take b.toNat).drop a.toNat),[decide (0≤a∧a≤b∧b≤(l.length:Int))])
   |_,_=>none)else none
  |none=>none
 | x=>match X.get t,lo,hi with
  | some f,none,none=>match f.arr,Uv H x with
   |some (m,_,_),some q=>match m with
    |0=>none
    |m+1=>some (.sp x (m+1) (m+1),q)
   |_,_=>none
  |_,_,_=>none
def Mg (X:Tx)(t:TypeId)(f:Nat):SV→Option SV
 | .agg l=>match X.get t with
  |some i=>match lg i.flds f with
   |some (ft,off,_)=>CZ X ft l off
   |none=>none
  |none=>none
 |_=>none
def QM (X:Tx)(t:TypeId)(f:Nat):Option Nat:=match X.get t with
 | some j=>match lg j.flds f with
  |some (_,off,sz)=>match sz with
   |0=>none
   |_+1=>some off
  |none=>none
 |none=>none
def WJ (X:Tx)(H:Hp)(t:TypeId)(f:Nat):SV→Option (SV×List Bool)
 | .ptr i o=>match QM X t f with
  |some off=>some (.ptr i (o+off),[])
  |none=>none
 | .el i s j o=>match QM X t f,partsOf (lg H i)with
  |some off,some (_,n,_)=>some (.el i s j (o+off),[decide (j.toNat<n)])
  |_,_=>none
 | .ix p s n j k=>match QM X t f,Uv H p with
  |some off,some q=>some (.ix p s n j (k+off),q)
  |_,_=>none
 |_=>none
def Fv:List SV→Option Ob
 | []=>some []
 |x::l=>match x.oneB,Fv l with
  |some true,some E=>some E
  |some b,some E=>some ((b,true)::E)
  |_,_=>none
def Cu (X:Tx) (H:Hp) (t:TypeId) (x y:SV):Option (Nat×List SV×Ob):=match x with
 | .ptr i o=>match lg H i with
  | some (some (.blk cs))=>match X.get t with
   | some f=>match f.row with
    | some m=>match y with
     | .agg l=>bif Nat.beq l.length m then(match sp o cs l,Fv l with
      |some r,some E=>some (i,r,E)
      |_,_=>none)else none
     |_=>none
    |none=>bif f.one then(match sp o cs [y],Fv [y]with
     |some r,some E=>some (i,r,E)
     |_,_=>none)else none
   |none=>none
  |_=>none
 |_=>none
def HP (b:Bool):SV→SV×Ob
 | .opt c x=>(x,[(c,b)])
 |x=>(x,[])
def Nn (b:Bool):SV→SV→Option SV
 | .bool p,.ff=>some (.bool (b&&p))
 | .tt,.bool q=>some (.bool (b||q))
 | .int k n,.int k' m=>bif k==k' then some (.int k (bif b then n else m))else none
 | .str l,.str m=>some (.str (bif b then l else m))
 |x,y=>match x.toB,y.toB with
  |some p,some q=>some (.bool (bif b then p else q))
  |_,_=>none
def Kb (gc:Option Bool)(T:List (Nat×SV)):List (Nat×Operand)→Option (List (Nat×SV)×Ob)
 | []=>some ([],[])
 |(i,x)::l=>match FZ gc T x,Kb gc T l with
  |some (y,E),some (r,F)=>some ((i,y)::r,E++F)
  |_,_=>none
def HQ:SV→Option (List SV)
 | .agg l=>some l
 | .tup _=>none
 | .opt _ _=>none
 | .v _=>none
 |x=>some [x]
def No (pl:List (Nat×Nat×Nat)):List SV→List (Nat×SV)→Option (List SV)
 |cs,[]=>some cs
 | cs,(i,x)::r=>match lg pl i,HQ x with
  |some (_,off,sz),some l=>bif Nat.beq l.length sz then(match sp off cs l with
   |some cs'=>No pl cs' r
   |none=>none)else none
  |_,_=>none
def Np (s:Nat):List SV→List (Nat×SV)→Option (List SV)
 |cs,[]=>some cs
 | cs,(i,x)::r=>match HQ x with
  |some l=>bif Nat.beq l.length s then(match sp (i*s) cs l with
   |some cs'=>Np s cs' r
   |none=>none)else none
  |none=>none
def Ox (gc:Option Bool)(T:List (Nat×SV)):List Operand→Option (List SV×Ob)
 | []=>some ([],[])
 |x::l=>match FZ gc T x,Ox gc T l with
  |some (y,E),some (r,F)=>some (y::r,E++F)
  |_,_=>none
def Yw (X:Tx)(t:TypeId):SV→Option SV
 | .str l=>match X.get t with
  |some i=>bif i.isS then some (.int .i64 (l.length:Int))else none
  |none=>none
 | .sla _ n _=>match X.get t with
  |some i=>match i.elm with
   |some _=>some (.int .i64 (n:Int))
   |none=>none
  |none=>none
 | .sl _ n _=>match X.get t with
  |some i=>match i.elm with
   |some _=>some (.int .i64 (n:Int))
   |none=>none
  |none=>none
 | .st _ _ _ n _=>match X.get t with
  |some i=>match i.elm with
   |some _=>some (.int .i64 (n:Int))
   |none=>none
  |none=>none
 | .sp _ n _=>match X.get t with
  |some i=>match i.elm with
   |some _=>some (.int .i64 (n:Int))
   |none=>none
  |none=>none
 |_=>none
def Uy (X:Tx)(s t:TypeId):SV→Option SV
 | .int k n=>match X.get s,X.get t with
  |some i,some j=>match i.knd,j.knd with
   |some k1,some k2=>bif k==k1 then some (.int k2 (k2.wrap n))else none
   |_,_=>none
  |_,_=>none
 |_=>none
def LK (gc:Option Bool)(T:List (Nat×SV)):Option Operand→Option (Option SV×Ob)
 |none=>some (none,[])
 |some x=>match FZ gc T x with
  |some (y,E)=>some (some y,E)
  |none=>none
def gb (gc:Option Bool)(b:Bool):Bool:=match gc with
 |none=>b
 |some g=>g&&b
theorem Uz {gc:Option Bool}(h:IE gc)(b:Bool):gb gc b=b:=by
 cases gc with
 |none=>rfl
 |some g=>have:=h g rfl;subst this;rfl
def QN:List SV→Bool
 | []=>true
 | .int _ _::l=>QN l
 | .bool _::l=>QN l
 | .tt::l=>QN l
 | .ff::l=>QN l
 | .str _::l=>QN l
 | .sla _ _ _::l=>QN l
 | .v _::l=>QN l
 |_::_=>false
theorem Nq:∀{l:List SV},QN l=true→∃vs,AE [] l=some vs∧vs.length=l.length
 | [],_=>⟨[],rfl,rfl⟩
 | x::l,h=>by
  have key:∀v,den [] x=some v→QN l=true→∃vs,AE [] (x::l)=some vs∧vs.length=(x::l).length:=fun v hv hl=>by
   obtain⟨vs,h1,h2⟩:=Nq hl
   exact⟨v::vs,Az hv h1,by simp [h2]⟩
  cases x<;>simp only [QN]at h<;>first|(cases h;done)|exact key _ rfl h
def TM (T:List (Nat×SV))(s:Nat):List (Nat×Operand)→Nat→Option (List SV)
 | [],_=>some []
 | (i,x)::l,k=>bif Nat.beq i k then(match FZ none T x,TM T s l (k+1)with
  |some (y,[]),some r=>match HQ y with
   |some c=>bif Nat.beq c.length s then some (c++r)else none
   |none=>none
  |_,_=>none)else none
def QO (X:Tx) (T:List (Nat×SV)) (H:Hp) (gc:Option Bool):Op→Option Out
 | .move x=>match FZ gc T x with
  |some (y,E)=>some (.val y E)
  |none=>none
 | .assign x=>match FZ gc T x with
  |some (y,E)=>some (.val y E)
  |none=>none
 | .extract x k=>match FZ gc T x with
  |some (.tup l,E)=>match lg l k with
   |some y=>some (.val y E)
   |none=>none
  |_=>none
 | .unOp .not _ x=>match FZ gc T x with
  |some (.tt,E)=>some (.val .ff E)
  |some (.ff,E)=>some (.val .tt E)
  |some (.bool b,E)=>some (.val (.bool !b) E)
  |_=>none
 | .unOp .neg _ x=>match FZ gc T x with
  |some (.int k n,E)=>some (.val (.int k (k.wrap (0 - n))) E)
  |_=>none
 | .nilCheck x=>match FZ gc T x with
  |some (.ptr i o,E)=>some (.val (.ptr i o) E)
  |_=>none
 | .fieldAddr t x f=>match FZ gc T x with
  |some (y,E)=>match WJ X H t f y with
   |some (r,q)=>some (.val r (E++q.map (Uw gc)))
   |none=>none
  |none=>none
 | .field t x f=>match FZ gc T x with
  |some (y,E)=>match Mg X t f y with
   |some r=>some (.val r E)
   |none=>none
  |none=>none
 | .load t x=>match FZ gc T x with
  |some (y,E)=>match Do X H t y with
   |some (r,q)=>some (.val r (E++q.map (Uw gc)))
   |none=>none
  |none=>none
 | .indexAddr t x i=>match FZ gc T x,FZ gc T i with
  |some (y,E),some (z,F)=>match gB X H t y z with
   |some (r,q)=>some (.val r (E++(F++q.map (Uw gc))))
   |none=>none
  |_,_=>none
 | .index t x i=>match FZ gc T x,FZ gc T i with
  |some (y,E),some (z,F)=>match gC X t y z with
   |some (r,q)=>some (.val r (E++(F++q.map (Uw gc))))
   |none=>none
  |_,_=>none
 | .slice t x lo hi mx=>match mx with
  | none=>match FZ gc T x,LK gc T lo,LK gc T hi with
   |some (y,E),some (a,F),some (b,D)=>match Ux X H t y a b with
    |some (r,q)=>some (.val r (E++(F++(D++q.map (Uw gc)))))
    |none=>none
   |_,_,_=>none
  |some _=>none
 | .binOp op t x y _=>match FZ gc T x,FZ gc T y with
  |some (u,E),some (v,F)=>match WG X op t u v with
   |some (r,q)=>some (.val r (E++(F++q.map (Uw gc))))
   |none=>none
  |_,_=>none
 | .convert s t x=>match FZ gc T x with
  |some (y,E)=>match Uy X s t y with
   |some r=>some (.val r E)
   |none=>none
  |none=>none
 | .pick c x y=>match FZ gc T c with
  |some (.tt,E)=>match FZ gc T x with
   |some (u,F)=>some (.val u (E++F))
   |none=>none
  |some (.ff,E)=>match FZ gc T y with
   |some (u,F)=>some (.val u (E++F))
   |none=>none
  | some (.bool b,E)=>match jR T x,jR T y with
   | some p,some q=>match HP (gb gc b) p,HP (gb gc (!b)) q with
    |(u,F),(v,D)=>match Nn b u v with
     |some r=>some (.val r (E++(F++D)))
     |none=>none
   |_,_=>none
  |_=>none
 | .build t parts=>match X.get t,Kb gc T parts.toList with
  | some i,some (ps,E)=>match i.zero,i.flds with
   |some z,_::_=>match No i.flds z ps with
    |some cs=>some (.val (.agg cs) E)
    |none=>none
   | some z,[]=>match i.arr with
    |some (_,_,s)=>match Np s z ps with
     |some cs=>some (.val (.agg cs) E)
     |none=>none
    |none=>none
   |_,_=>none
  |_,_=>none
 | .makeFunc fn first cap=>match fn,first.toList,Ox gc T cap.toList with
  | .func f,[],some (l,E)=>some (.val (.fn f l) E)
  |_,_,_=>none
 | .call c=>match c.callee,c.args.toList,c.argTypes.toList with
  | .builtin .len,[x],[t]=>match FZ gc T x with
   |some (y,E)=>match Yw X t y with
    |some r=>some (.val r E)
    |none=>none
   |none=>none
  |_,_,_=>none
 | .alloc t=>match gc with
  | none=>match X.get t with
   |some i=>match i.zero with
    |some z=>some (.new t (.blk z) (.ptr H.length 0))
    |none=>none
   |none=>none
  |some _=>none
 | .box t x=>match gc with
  | none=>match FZ none T x with
   |some (y,[])=>match HQ y with
    |some l=>some (.new t (.blk l) (.ptr H.length 0))
    |none=>none
   |_=>none
  |some _=>none
 | .buildSlice t m parts=>match gc with
  | none=>match X.get t,TM T ((X.get t).elim 0 fun i=>(i.elm.elim 0 fun e=>e.2.1)) parts.toList 0 with
   | some i,some cs=>match i.elm with
    | some (e,s,_)=>match Nat.beq parts.toList.length m&&Nat.ble (m*s) 4000 with
     | true=>match m,X.get e with
      | 0,some ie=>match ie.zero with
       |some z=>match Nat.beq z.length s&&QN z with
        |true=>some (.new e (.row e s 0 0 fun _=>z) (.sl H.length 0 0))
        |false=>none
       |none=>none
      |0,none=>none
      |m+1,_=>some (.new e (.blk cs) (.sl H.length (m+1) (m+1)))
     |false=>none
    |none=>none
   |_,_=>none
  |some _=>none
 | .store t x y=>match gc with
  | none=>match FZ none T x,FZ none T y with
   |some (u,E),some (v,F)=>match Cu X H t u v with
    |some (i,cs,D)=>some (.upd i cs (E++(F++D)))
    |none=>none
   |_,_=>none
  |some _=>none
 |_=>none
theorem CI {G:Gr}:∀{l:List SV} {E:Ob} {vs:List Value},Fv l=some E→Cz E→AE G l=some vs→vs.all (·.oneCell')=true
 | [],E,vs,h,hE,hv=>by cases hv;rfl
 |x::l,E,vs,h,hE,hv=>by
  obtain⟨v,ws,h1,h2,rfl⟩:=Au hv
  unfold Fv at h
  split at h
  ·next E' hx hl=>cases h;simp [SV.one_spec hx rfl h1,CI hl hE h2]
  ·next b E' _ hx hl=>cases h;obtain⟨e1,e2⟩:=GT hE;simp only at e1;simp [SV.one_spec hx e1 h1,CI hl e2 h2]
  ·cases h
theorem Ae.range {G:Gr}{w:World}{p:Option Loc}{cs:List SV}(h:Ae G w p (.blk cs)):∃L vs,p=some L∧AE G cs=some vs∧w.rangeAt L.b L.pre.length vs:=by
 obtain⟨L,vs,h1,h2,h3⟩:=h
 refine⟨L,vs,h1,h2,fun j x hx=>?_⟩
 refine h3.cell ?_
 have hj:=(List.getElem?_eq_some_iff.1 hx).1
 simp only [List.getElem?_toArray]
 rw [List.append_assoc,List.getElem?_append_right (by omega),List.getElem?_append_left (by omega)]
 simpa using hx
theorem Jc {G:Gr}{l:List SV}{vs:List Value}(h:AE [] l=some vs):AE G l=some vs:=by
 have:=Al (G:=[]) G l h
 simpa using this
theorem Cc {G:Gr}{i:Nat}{L:Loc}(h:(G[i]?).getD none=some L):G[i]?=some (some L):=by
 cases hq:G[i]? with
 |none=>rw [hq]at h;cases h
 |some p=>rw [hq]at h;simp at h;rw [h]
theorem EO {H:Hp}{G:Gr}{w:World}(h:Mem H G w){i s n:Nat}{f:Nat→List SV}(hp:partsOf (lg H i)=some (s,n,f)):(∀k,∃vs,AE [] (f k)=some vs)∧∀k,k<n→∃L vs,(G[i]?).getD none=some L∧AE [] (f k)=some vs∧w.rangeAt L.b (L.pre.length+k*s) vs:=by
 unfold partsOf at hp
 split at hp
 ·next s' n' f' hi=>
  cases hp
  rw [Ah]at hi
  have he:=h.ent i _ hi
  refine⟨he.1,fun k hk=>?_⟩
  rcases he.2 with h0|⟨L,e1,_,e3⟩
  ·omega
  ·obtain⟨vs,e4,e5⟩:=e3 k hk;exact⟨L,vs,e1,e4,e5⟩
 ·next e' s' n' c' f' hi=>
  cases hp
  rw [Ah]at hi
  have he:=h.ent i _ hi
  refine⟨fun k=>by obtain⟨vs,h1,_⟩:=he.1 k;exact⟨vs,h1⟩,fun k hk=>?_⟩
  obtain⟨L,vs,e1,e2,_,e4⟩:=Cw he hk
  exact⟨L,vs,e1,e2,e4⟩
 ·cases hp
section
variable {P:Program}{X:Tx}{ops:Array Oper}{n:Nat}{T:List (Nat×SV)}{H:Hp}{ks:List Nat}{G0:Gr}{w0:World}{G:Gr}{a:Act}{w:World}{K:Value→World→Prop}
variable {d:Option Tmp}{ty:TypeId}{pos:String}{af:Array Edge}{gd:Option (Nat×Bool)}
theorem Ju {t:TypeId}{cs:List SV}{vs:List Value}{o:Nat}{r:SV}(h:CZ X t cs o=some r)(hv:AE G cs=some vs):∃z,den G r=some z:=by
 unfold CZ at h
 split at h
 ·next f hf=>
  split at h
  ·cases h
  ·next m hm=>
   split at h
   ·next r' hr=>
    cases h
    have h2:=(GS hr).1
    subst h2
    rw [Fu]
    have:=Bo (m+1) (Bp o hv)
    refine⟨.agg ((vs.drop o).take (m+1)).toArray,?_⟩
    simp [den,this]
   ·cases h
  ·next hr=>
   cases jD:f.one with
   |false=>rw [jD]at h;cases h
   |true=>
    rw [jD]at h
    simp only [cond_true,Ah]at h
    obtain⟨v,_,h2⟩:=CL hv h
    exact⟨v,h2⟩
 ·cases h
theorem Eg (hX:X.ok P=true) {t:TypeId} {cs:List SV} {vs:List Value} {o b q:Nat} {r:SV} {z:Value} {x:Operand} (h:CZ X t cs o=some r) (hv:AE G cs=some vs) (hz:den G r=some z) (hr:w.rangeAt b q vs)
  (hw:Region.wanted {dst:=d,op:=.load t x,type:=ty,pos:=pos,after:=af,guard:=gd} (yielded ops a.tmps)=true) (hx:a.eval x=.pointer (some ⟨b,q+o,none⟩)) (hK:K z w):
  BG P ops {dst:=d,op:=.load t x,type:=ty,pos:=pos,after:=af,guard:=gd} a w K:=by
 unfold CZ at h
 split at h
 ·next f hf=>
  have ht:=Tb.at hX hf
  split at h
  ·cases h
  ·next m hm=>
   split at h
   ·next r' l5=>
    cases h
    obtain⟨h2,h3⟩:=GS l5
    subst h2
    rw [Fu]at hz h3
    have e:=Bo (m+1) (Bp o hv)
    simp only [den,e,Option.map_some,Option.some.injEq]at hz
    subst hz
    have hl:=Av hv
    refine Ov hw hx ?_ ?_ hK
    ·rw [List.length_drop]at h3
     have:((vs.drop o).take (m+1)).toArray.size=m+1:=by simp;omega
     rw [this];exact HN ht hm
    ·intro j y hy
     have hj:=(List.getElem?_eq_some_iff.1 hy).1
     simp only [List.length_take,List.length_drop]at hj
     rw [List.getElem?_take_of_lt (by omega),List.getElem?_drop]at hy
     have:=hr (o+j) y hy
     rwa [show q+(o+j)=q+o+j by omega]at this
   ·cases h
  ·next hm=>
   cases jD:f.one with
   |false=>rw [jD]at h;cases h
   |true=>
    rw [jD]at h
    simp only [cond_true,Ah]at h
    obtain⟨v,h1,h2⟩:=CL hv h
    rw [hz]at h2
    cases h2
    exact V2 hw hx (HM ht jD) (hr o z h1) hK
 ·cases h
theorem Ij {t:TypeId}{cs:List SV}{vs:List Value}(hv:AE G cs=some vs):∀{js:List (Nat×Nat×Int)} {off:Nat} {r:SV},Jb X t cs js off=some r→∃z,den G r=some z∧(Yv js→∃r',CZ X t cs (off+lY js)=some r'∧den G r'=some z)
 | [],off,r,h=>by
  obtain⟨z,hz⟩:=Ju h hv
  exact⟨z,hz,fun _=>⟨r,h,hz⟩⟩
 | (s,n,j)::js,off,r,h=>by
  unfold Jb at h
  split at h
  ·next rs nE=>
   obtain⟨⟨z,hz⟩,nZ⟩:=QL (G:=G) h
   refine⟨z,hz,fun⟨h1,h2⟩=>?_⟩
   obtain⟨x,a1,a2⟩:=Nm nE j.toNat h1
   rw [Nat.zero_add]at a2
   obtain⟨z',b1,b2⟩:=Ij hv a2
   obtain⟨r',c1,c2⟩:=b2 h2
   rw [nZ x a1,b1]at hz
   cases hz
   exact⟨r',by simp only [lY];rw [←Nat.add_assoc];exact c1,c2⟩
  ·cases h
theorem mE:∀(js:List (Nat×Nat×Int)) (s n:Nat) (j:Int),lY (js++[(s,n,j)])=lY js+j.toNat*s
 | [],s,n,j=>by simp [lY]
 |(a,b,c)::js,s,n,j=>by simp only [List.cons_append,lY,mE js];omega
theorem Nr:∀{js:List (Nat×Nat×Int)} {s n:Nat} {j:Int},Yv js→j.toNat<n→Yv (js++[(s,n,j)])
 | [],_,_,_,_,h=>⟨h,trivial⟩
 |_::_,_,_,_,h1,h=>⟨h1.1,Nr h1.2 h⟩
theorem Ns (A:Sy n T H ks G0 w0 G a w):∀{x:SV} {v:Value} {cs:List SV} {o:Nat} {js:List (Nat×Nat×Int)} {q:List Bool},FH H x=some (cs,o,js,q)→den G x=some v→∃vs,AE G cs=some vs∧((∀p∈q,p=true)→Yv js∧∃b k,v=.pointer (some ⟨b,k+(o+lY js),none⟩)∧w.rangeAt b k vs)
 | .ptr i o',v,cs,o,js,q,h,hy=>by
  simp only [FH]at h
  split at h
  ·next cs' hi=>
   cases h
   rw [Ah]at hi
   obtain⟨L,vs,h1,h2,h3⟩:=(A.mem.ent i _ hi).range
   refine⟨vs,h2,fun _=>⟨trivial,L.b,L.pre.length,?_,h3⟩⟩
   unfold den at hy
   rw [Cc h1]at hy
   exact(Option.some.inj hy).symm
  ·cases h
 | .el i s j o',v,cs,o,js,q,h,hy=>by
  simp only [FH]at h
  split at h
  ·next s' m f hi=>
   split at h
   ·next hb=>
    cases h
    have:=Nat.eq_of_beq_eq_true hb
    subst this
    obtain⟨g1,g2⟩:=EO A.mem hi
    obtain⟨vs,h1⟩:=g1 j.toNat
    refine⟨vs,Jc h1,fun hq=>⟨trivial,?_⟩⟩
    have i7:j.toNat<m:=of_decide_eq_true (hq _ (by simp))
    obtain⟨L,vs',e1,e4,e5⟩:=g2 _ i7
    rw [h1]at e4;cases e4
    refine⟨L.b,L.pre.length+j.toNat*s,?_,e5⟩
    unfold den at hy
    rw [Cc e1]at hy
    exact(Option.some.inj hy).symm
   ·cases h
  ·cases h
 | .ix p s m j k,v,cs,o,js,q,h,hy=>by
  simp only [FH]at h
  split at h
  ·next cs' o' js' q' hp=>
   cases h
   cases hu:den G p with
   |none=>unfold den at hy;rw [hu]at hy;cases hy
   |some u=>
    obtain⟨vs,h1,h2⟩:=Ns A hp hu
    refine⟨vs,h1,fun hq=>?_⟩
    obtain⟨h3,b,kk,h4,h5⟩:=h2 (fun p hp=>hq p (by simp [hp]))
    have i7:j.toNat<m:=of_decide_eq_true (hq _ (by simp))
    refine⟨Nr h3 i7,b,kk,?_,h5⟩
    unfold den at hy
    rw [hu,h4]at hy
    rw [←Option.some.inj hy,mE]
    simp only [Value.pointer.injEq,Option.some.injEq,Addr.mk.injEq,true_and,and_true]
    omega
  ·cases h
theorem LU (A:Sy n T H ks G0 w0 G a w){t:TypeId}{y r:SV}{q:List Bool}{v:Value}(h:Do X H t y=some (r,q))(hy:den G y=some v):∃z,den G r=some z∧((∀p∈q,p=true)→∃(cs:List SV) (o:Nat) (vs:List Value) (r':SV) (b k:Nat),CZ X t cs o=some r'∧den G r'=some z∧AE G cs=some vs∧v=.pointer (some ⟨b,k+o,none⟩)∧w.rangeAt b k vs):=by
 unfold Do at h
 split at h
 ·next cs o js q' hb=>
  split at h
  ·next r' hs=>
   cases h
   obtain⟨vs,h1,h2⟩:=Ns A hb hy
   obtain⟨z,hz,nZ⟩:=Ij h1 hs
   refine⟨z,hz,fun hq=>?_⟩
   obtain⟨h3,b,k,h4,h5⟩:=h2 hq
   obtain⟨r'',c1,c2⟩:=nZ h3
   exact⟨cs,_,vs,r'',b,k,c1,c2,h1,h4,h5⟩
  ·cases h
 ·cases h
theorem EP (hX:X.ok P=true)(A:Sy n T H ks G0 w0 G a w){t:TypeId}{x:Operand}{y r:SV}{q:List Bool}{v:Value}(h:Do X H t y=some (r,q))(hy:den G y=some v):∃z,den G r=some z∧
  ((∀p∈q,p=true)→a.eval x=v→Region.wanted {dst:=d,op:=.load t x,type:=ty,pos:=pos,after:=af,guard:=gd} (yielded ops a.tmps)=true→∀K:Value→World→Prop,K z w→BG P ops {dst:=d,op:=.load t x,type:=ty,pos:=pos,after:=af,guard:=gd} a w K):=by
 obtain⟨z,hz,h3⟩:=LU A h hy
 refine⟨z,hz,fun hq hx hw K hK=>?_⟩
 obtain⟨cs,o,vs,r',b,k,e1,e2,e3,e4,e5⟩:=h3 hq
 exact Eg hX e1 e3 e2 e5 hw (by rw [hx,e4]) hK
theorem Ik (A:Sy n T H ks G0 w0 G a w):∀{x:SV} {v:Value} {q:List Bool},Uv H x=some q→den G x=some v→(∀p∈q,p=true)→∃b o,v=.pointer (some ⟨b,o,none⟩)
 | .ptr i o,v,q,h,hy,_=>by
  unfold den at hy
  split at hy
  ·cases hy;exact⟨_,_,rfl⟩
  ·cases hy
 | .el i s j o,v,q,h,hy,hq=>by
  simp only [Uv]at h
  split at h
  ·next s' m f hi=>
   cases h
   have i7:j.toNat<m:=of_decide_eq_true (hq _ (by simp))
   obtain⟨L,vs',e1,_⟩:=(EO A.mem hi).2 _ i7
   unfold den at hy
   rw [Cc e1]at hy
   exact⟨_,_,(Option.some.inj hy).symm⟩
  ·cases h
 | .ix p s m j k,v,q,h,hy,hq=>by
  simp only [Uv]at h
  cases hu:den G p with
  |none=>unfold den at hy;rw [hu]at hy;cases hy
  |some u=>
   obtain⟨b,o,rfl⟩:=Ik A h hu hq
   unfold den at hy
   rw [hu]at hy
   exact⟨_,_,(Option.some.inj hy).symm⟩
theorem LV {t:TypeId}{m o:Nat}{cs:Array Value}(h:ID P t m=true)(ho:o+m≤cs.size):(part t cs o).run P w=.ok (.agg (cs.extract o (o+m))) w:=by
 obtain⟨⟨dd,h2,h3,wH⟩,h4⟩:=Dl h
 have ha:(isAgg t).run P w=.ok true w:=by
  unfold isAgg
  rw [Sem.run_bind,run_underlying h2]
  cases dd<;>simp_all
 cases hq:P.info? t with
 |none=>simp [hq]at h4
 |some i=>
  have hi:i.size=m:=by simpa [hq]using h4
  simp [part,ha,sizeOf,typeInfo,hq,hi,ho]
theorem Oy {s f ft off:Nat}{cs:Array Value}{v:Value}(hf:fieldInfo P s f=some (ft,off))(hp:(part ft cs off).run P w=.ok v w):(Instr.field s (.agg cs) f).run P w=.ok v w:=by
 unfold fieldInfo at hf
 split at hf
 ·rename_i fs hu
  cases hq:fs[f]? with
  |none=>simp [hq]at hf
  |some fd=>
   simp [hq]at hf
   obtain⟨rfl,rfl⟩:=hf
   simp only [Sem.run_bind,Instr.field,run_underlying hu,Result.andThen_ok,hq,asAgg,Sem.run_pure,hp]
 ·cases hf
theorem Mh (hX:X.ok P=true){t:TypeId}{cs:List SV}{vs:List Value}{o:Nat}{r:SV}{z:Value}(h:CZ X t cs o=some r)(hv:AE G cs=some vs)(hz:den G r=some z):(part t vs.toArray o).run P w=.ok z w:=by
 unfold CZ at h
 split at h
 ·next g hg=>
  have nF:=Tb.at hX hg
  split at h
  ·cases h
  ·next m hm=>
   split at h
   ·next r' l5=>
    cases h
    obtain⟨e1,e2⟩:=GS l5
    subst e1
    rw [Fu]at hz e2
    have e:=Bo (m+1) (Bp o hv)
    simp only [den,e,Option.map_some,Option.some.injEq]at hz
    subst hz
    have hl:=Av hv
    rw [List.length_drop]at e2
    rw [LV (HN nF hm) (by simp;omega)]
    simp [List.extract_eq_take_drop]
   ·cases h
  ·next hm=>
   cases jD:g.one with
   |false=>rw [jD]at h;cases h
   |true=>
    rw [jD]at h
    simp only [cond_true,Ah]at h
    obtain⟨u,h3,h4⟩:=CL hv h
    rw [hz]at h4
    cases h4
    exact GR w (HK (HM nF jD) w) (by simpa using h3)
 ·cases h
theorem Oz (hX:X.ok P=true) {t f:Nat} {x:Operand} {y r:SV} {v:Value} (h:Mg X t f y=some r) (hy:den G y=some v):∃z,den G r=some z∧
  (a.eval x=v→Region.wanted {dst:=d,op:=.field t x f,type:=ty,pos:=pos,after:=af,guard:=gd} (yielded ops a.tmps)=true→∀K:Value→World→Prop,K z w→BG P ops {dst:=d,op:=.field t x f,type:=ty,pos:=pos,after:=af,guard:=gd} a w K):=by
 unfold Mg at h
 split at h
 ·next l=>
  split at h
  ·next i hi=>
   split at h
   ·next ft off sz hf=>
    have ht:=Tb.at hX hi
    rw [Ah]at hf
    have rB:=(QI ht hf).1
    unfold den at hy
    obtain⟨vs,h1,h2⟩:=Option.map_eq_some_iff.1 hy
    obtain⟨z,hz⟩:=Ju h h1
    refine⟨z,hz,fun hx hw K hK=>AR hw ?_ hK⟩
    have hp:(part ft vs.toArray off).run P w=.ok z w:=by
     unfold CZ at h
     split at h
     ·next g hg=>
      have nF:=Tb.at hX hg
      split at h
      ·cases h
      ·next m hm=>
       split at h
       ·next r' l5=>
        cases h
        obtain⟨e1,e2⟩:=GS l5
        subst e1
        rw [Fu]at hz e2
        have e:=Bo (m+1) (Bp off h1)
        simp only [den,e,Option.map_some,Option.some.injEq]at hz
        subst hz
        have hl:=Av h1
        rw [List.length_drop]at e2
        rw [LV (HN nF hm) (by simp;omega)]
        simp [List.extract_eq_take_drop]
       ·cases h
      ·next hm=>
       cases jD:g.one with
       |false=>rw [jD]at h;cases h
       |true=>
        rw [jD]at h
        simp only [cond_true,Ah]at h
        obtain⟨u,h3,h4⟩:=CL h1 h
        rw [hz]at h4
        cases h4
        exact GR w (HK (HM nF jD) w) (by simpa using h3)
     ·cases h
    rw [←h2]at hx
    unfold execOp
    simp only [hx,Sem.run_bind,Oy rB hp,Result.andThen_ok,Sem.run_pure]
   ·cases h
  ·cases h
 ·cases h
end
theorem GV (off:Nat):∀(c:List Value) (k:Nat) (Z:Array Value),off+k+c.length≤Z.size→((c.zipIdx k).foldl (fun cs (x:Value×Nat)=>cs.setIfInBounds (off+x.2) x.1) Z).toList=Z.toList.take (off+k)++c++Z.toList.drop (off+k+c.length)
 | [],k,Z,h=>by simp
 |u::c,k,Z,h=>by
  simp only [List.length_cons]at h
  rw [List.zipIdx_cons,List.foldl_cons,GV off c (k+1) _ (by simp;omega)]
  simp only [Array.toList_setIfInBounds]
  have jQ:off+k<Z.toList.length:=by simp;omega
  rw [show off+(k+1)=off+k+1 by omega,List.take_add_one,List.getElem?_set_self jQ]
  simp only [List.take_set_of_le (Nat.le_refl _),Option.toList_some,List.append_assoc,List.cons_append,List.nil_append,List.length_cons]
  rw [List.drop_set_of_lt (by omega)]
  rw [show off+k+1+c.length=off+k+(c.length+1) by omega]
theorem Dp {G:Gr}{x:SV}{l:List SV}{v:Value}(h:HQ x=some l)(hv:den G x=some v):AE G l=some v.cells.toList:=by
 cases x with
 |agg m=>cases h;unfold den at hv;obtain⟨vs,h1,h2⟩:=Option.map_eq_some_iff.1 hv;subst h2;simpa [Value.cells]using h1
 |tup m=>cases h
 |opt b y=>cases h
 |v y=>cases h
 |ptr i o=>cases h;have:=hv;unfold den at this;split at this<;>cases this;exact Az hv rfl
 |sl i o c=>cases h;have:=hv;unfold den at this;split at this<;>cases this;exact Az hv rfl
 |el i s j o=>cases h;have:=hv;unfold den at this;split at this<;>cases this;exact Az hv rfl
 |st i s j n c=>cases h;have:=hv;unfold den at this;split at this<;>cases this;exact Az hv rfl
 |sp p n c=>cases h;have:=hv;unfold den at this;split at this<;>cases this;exact Az hv rfl
 |ix p s m j k=>cases h;have:=hv;unfold den at this;split at this<;>cases this<;>exact Az hv rfl
 |fn f m=>cases h;have:=hv;unfold den at this;obtain⟨vs,_,h2⟩:=Option.map_eq_some_iff.1 this;subst h2;exact Az hv rfl
 |_=>cases h;have:=hv;simp only [den,Option.some.injEq]at this;subst this;exact Az hv rfl
theorem Il {G:Gr}{pl:List (Nat×Nat×Nat)}:∀{ps:List (Nat×SV)} {cs r:List SV} {vs:List Value} {us:List (Nat×Value)},No pl cs ps=some r→AE G cs=some vs→us.map (·.1)=ps.map (·.1)→AE G (ps.map (·.2))=some (us.map (·.2))→
  ∃zs,AE G r=some zs∧Instr.fill (fun i=>(pl.map (·.2))[i]?) vs.toArray us=some zs.toArray
 | [],cs,r,vs,us,h,hv,h1,h2=>by
  cases h
  have:us=[]:=by cases us<;>simp at h1⊢
  subst this
  exact⟨vs,hv,rfl⟩
 |(i,x)::ps,cs,r,vs,[],h,hv,h1,h2=>by cases h1
 | (i,x)::ps,cs,r,vs,(j,u)::us,h,hv,h1,h2=>by
  simp only [List.map_cons,List.cons.injEq]at h1
  obtain⟨rfl,h1⟩:=h1
  obtain⟨v,ws,h3,h4,h5⟩:=Au h2
  simp only [List.map_cons,List.cons.injEq]at h5
  obtain⟨rfl,rfl⟩:=h5
  unfold No at h
  split at h
  ·next off sz l hp hl=>
   cases hb:Nat.beq l.length sz with
   |false=>rw [hb]at h;cases h
   | true=>
    rw [hb]at h
    simp only [cond_true]at h
    have j9:=Nat.eq_of_beq_eq_true hb
    split at h
    ·next cs' hs=>
     obtain⟨e1,e2⟩:=Ht hs
     have hc:=Dp hl h3
     have hlen:=Av hc
     have rC:=Av hv
     have n0:AE G cs'=some (vs.take off++u.cells.toList++vs.drop (off+l.length)):=by
      rw [e1];exact B9 (B9 (Bo off hv) hc) (Bp _ hv)
     obtain⟨zs,h6,h7⟩:=Il h n0 h1 h4
     refine⟨zs,h6,?_⟩
     rw [Ah]at hp
     unfold Instr.fill
     have lB:(pl.map (·.2))[j]?=some (off,sz):=by simp [hp]
     simp only [lB]
     have hu:u.cells.size=l.length:=by simpa using hlen
     rw [if_neg (by simp [hu,j9];omega)]
     rw [←h7]
     congr 1
     have f:=GV off u.cells.toList 0 vs.toArray (by simp;omega)
     apply Array.ext'
     rw [←Array.foldl_toList,Array.toList_zipIdx]
     simpa [hu]using f
    ·cases h
  ·cases h
theorem Im {G:Gr}{s:Nat}:∀{ps:List (Nat×SV)} {cs r:List SV} {vs:List Value} {us:List (Nat×Value)},Np s cs ps=some r→AE G cs=some vs→us.map (·.1)=ps.map (·.1)→AE G (ps.map (·.2))=some (us.map (·.2))→
  ∃zs,AE G r=some zs∧Instr.fill (fun i=>some (i*s,s)) vs.toArray us=some zs.toArray
 | [],cs,r,vs,us,h,hv,h1,h2=>by
  cases h
  have:us=[]:=by cases us<;>simp at h1⊢
  subst this
  exact⟨vs,hv,rfl⟩
 |(i,x)::ps,cs,r,vs,[],h,hv,h1,h2=>by cases h1
 | (i,x)::ps,cs,r,vs,(j,u)::us,h,hv,h1,h2=>by
  simp only [List.map_cons,List.cons.injEq]at h1
  obtain⟨rfl,h1⟩:=h1
  obtain⟨v,ws,h3,h4,h5⟩:=Au h2
  simp only [List.map_cons,List.cons.injEq]at h5
  obtain⟨rfl,rfl⟩:=h5
  unfold Np at h
  split at h
  ·next l hl=>
   cases hb:Nat.beq l.length s with
   |false=>rw [hb]at h;cases h
   | true=>
    rw [hb]at h
    simp only [cond_true]at h
    have j9:=Nat.eq_of_beq_eq_true hb
    split at h
    ·next cs' hs=>
     obtain⟨e1,e2⟩:=Ht hs
     have hc:=Dp hl h3
     have hlen:=Av hc
     have rC:=Av hv
     have n0:AE G cs'=some (vs.take (j*s)++u.cells.toList++vs.drop (j*s+l.length)):=by
      rw [e1];exact B9 (B9 (Bo _ hv) hc) (Bp _ hv)
     obtain⟨zs,h6,h7⟩:=Im h n0 h1 h4
     refine⟨zs,h6,?_⟩
     unfold Instr.fill
     simp only
     have hu:u.cells.size=l.length:=by simpa using hlen
     rw [if_neg (by simp [hu,j9];omega)]
     rw [←h7]
     congr 1
     have f:=GV (j*s) u.cells.toList 0 vs.toArray (by simp;omega)
     apply Array.ext'
     rw [←Array.foldl_toList,Array.toList_zipIdx]
     simpa [hu]using f
    ·cases h
  ·cases h
theorem O0 {G:Gr}{b:Bool}{x y r:SV}{u v:Value}(h:Nn b x y=some r)(hx:den G x=some u)(hy:den G y=some v):den G r=some (bif b then u else v):=by
 unfold Nn at h
 split at h
 ·cases h;simp only [den,Option.some.injEq]at hx hy⊢;subst hx;subst hy;cases b<;>rfl
 ·cases h;simp only [den,Option.some.injEq]at hx hy⊢;subst hx;subst hy;cases b<;>rfl
 ·next k n k' m=>
  cases hk:k==k' with
  |false=>rw [hk]at h;cases h
  |true=>rw [hk]at h;cases h;have:=eq_of_beq hk;subst this;simp only [den,Option.some.injEq]at hx hy⊢;subst hx;subst hy;cases b<;>rfl
 ·cases h;simp only [den,Option.some.injEq]at hx hy⊢;subst hx;subst hy;cases b<;>rfl
 ·split at h
  ·next p q hp hq=>
   cases h
   have e1:=SV.toB_den (G:=G) hp
   have e2:=SV.toB_den (G:=G) hq
   rw [hx]at e1;rw [hy]at e2
   cases e1;cases e2
   simp only [den]
   cases b<;>rfl
  ·cases h
theorem Io {G:Gr}{b:Bool}{x u:SV}{E:Ob}{v:Value}(h:HP b x=(u,E))(hx:den G x=some v):∃z,den G u=some z∧(Cz E→b=true→z=v):=by
 unfold HP at h
 split at h
 ·next c y=>
  cases h
  unfold den at hx
  obtain⟨z,h1,h2⟩:=Option.map_eq_some_iff.1 hx
  refine⟨z,h1,fun hE hb=>?_⟩
  have:=(GT hE).1
  simp only at this
  rw [this,hb]at h2
  exact h2
 ·cases h;exact⟨v,hx,fun _ _=>rfl⟩
section
variable {P:Program}{X:Tx}{ops:Array Oper}{n:Nat}{T:List (Nat×SV)}{H:Hp}{ks:List Nat}{G0:Gr}{w0:World}{G:Gr}{a:Act}{w:World}
theorem HR (A:Sy n T H ks G0 w0 G a w){gc:Option Bool}:∀{l:List (Nat×Operand)} {r:List (Nat×SV)} {E:Ob},Kb gc T l=some (r,E)→∃vs,r.map (·.1)=l.map (·.1)∧AE G (r.map (·.2))=some vs∧vs.length=l.length∧(Cz E→IE gc→l.map (fun x=>a.eval x.2)=vs)
 | [],r,E,h=>by cases h;exact⟨[],rfl,rfl,rfl,fun _ _=>rfl⟩
 | (i,x)::l,r,E,h=>by
  unfold Kb at h
  split at h
  ·next y E1 r1 F hy hr=>
   cases h
   obtain⟨v,h1,h2⟩:=A.evx hy
   obtain⟨vs,h3,h4,h5,h6⟩:=HR A hr
   refine⟨v::vs,by simp [h3],Az h1 h4,by simp [h5],fun hE hg=>?_⟩
   obtain⟨e1,e2⟩:=AQ hE
   simp [h2 e1 hg,h6 e2 hg]
  ·cases h
theorem IN (A:Sy n T H ks G0 w0 G a w){gc:Option Bool}:∀{l:List Operand} {r:List SV} {E:Ob},Ox gc T l=some (r,E)→∃vs,AE G r=some vs∧(Cz E→IE gc→l.map a.eval=vs)
 | [],r,E,h=>by cases h;exact⟨[],rfl,fun _ _=>rfl⟩
 | x::l,r,E,h=>by
  unfold Ox at h
  split at h
  ·next y E1 r1 F hy hr=>
   cases h
   obtain⟨v,h1,h2⟩:=A.evx hy
   obtain⟨vs,h4,h6⟩:=IN A hr
   refine⟨v::vs,Az h1 h4,fun hE hg=>?_⟩
   obtain⟨e1,e2⟩:=AQ hE
   simp [h2 e1 hg,h6 e2 hg]
  ·cases h
theorem Hu:∀(l:List (Nat×Operand)) (vs:List Value),vs.length=l.length→((l.map (·.1)).zip vs).map (·.1)=l.map (·.1)∧((l.map (·.1)).zip vs).map (·.2)=vs:=by
 intro l
 induction l with
 |nil=>intro vs h;cases vs<;>simp_all
 |cons x l ih=>intro vs h;cases vs with|nil=>simp at h|cons v vs=>simp at h⊢;exact ih vs h
theorem Eh (f:Operand→Value):∀l:List (Nat×Operand),l.map (fun x=>(x.1,f x.2))=(l.map (·.1)).zip (l.map fun x=>f x.2)
 | []=>rfl
 |x::l=>by simp [Eh f l]
def Yields (P:Program)(ops:Array Oper)(o:Oper)(a:Act)(w:World)(z:Value):Prop:=Region.wanted o (yielded ops a.tmps)=true→∀K:Value→World→Prop,K z w→BG P ops o a w K
theorem QP (A:Sy n T H ks G0 w0 G a w) {gc:Option Bool} {c x y:Operand} {b:Bool} {p q u v r:SV} {E F D:Ob} {d:Option Tmp} {ty:TypeId} {pos:String} {af:Array Edge} {gd:Option (Nat×Bool)} (hc:FZ gc T c=some (.bool b,E)) (hp:jR T x=some p) (hq:jR T y=some q)
  (h1:HP (gb gc b) p=(u,F)) (h2:HP (gb gc (!b)) q=(v,D)) (h3:Nn b u v=some r):∃z,den G r=some z∧(Cz (E++(F++D))→IE gc→Yields P ops {dst:=d,op:=.pick c x y,type:=ty,pos:=pos,after:=af,guard:=gd} a w z):=by
 obtain⟨k,hk,lE⟩:=A.evx hc
 obtain⟨z1,e1,e2⟩:=Io h1 (A.ev hp)
 obtain⟨z2,e3,e4⟩:=Io h2 (A.ev hq)
 refine⟨_,O0 h3 e1 e3,fun hE hg hw K hK=>?_⟩
 obtain⟨o1,o2⟩:=AQ hE
 obtain⟨o3,o4⟩:=AQ o2
 have wN:=lE o1 hg
 cases hk
 refine MY hw wN ?_ hK
 cases b with
 |true=>simpa using (e2 o3 (by rw [Uz hg])).symm
 |false=>simpa using (e4 o4 (by rw [Uz hg];rfl)).symm
theorem Yx {f:FuncId} {first cap:Array Operand} {lb:List Value} {d:Option Tmp} {ty:TypeId} {pos:String} {af:Array Edge} {gd:Option (Nat×Bool)} {K:Value→World→Prop} (hw:Region.wanted {dst:=d,op:=.makeFunc (.func f) first cap,type:=ty,pos:=pos,after:=af,guard:=gd} (yielded ops a.tmps)=true)
  (h1:first.toList=[]) (hx:cap.toList.map a.eval=lb) (h:K (.func (.func f) #[] lb.toArray) w):BG P ops {dst:=d,op:=.makeFunc (.func f) first cap,type:=ty,pos:=pos,after:=af,guard:=gd} a w K:=by
 have:first= #[]:=by have:=congrArg List.toArray h1;simpa using this
 subst this
 have hc:cap.map a.eval=lb.toArray:=by rw [←hx];apply Array.ext';simp
 exact AR hw (by unfold execOp;simp only [Instr.makeFunc,Sem.run_bind,Sem.run_pure,Result.andThen_ok,List.map_toArray,List.map_nil,hc]) h
theorem ER (A:Sy n T H ks G0 w0 G a w){gc:Option Bool}{lo:Option Operand}{k:Int}{E:Ob}(h:LK gc T lo=some (some (.int .i64 k),E)):∃x,lo=some x∧(Cz E→IE gc→a.eval x=.int .i64 k):=by
 unfold LK at h
 split at h
 ·cases h
 ·next x=>
  split at h
  ·next y F hy=>cases h;obtain⟨v,h1,h2⟩:=A.evx hy;cases h1;exact⟨x,rfl,h2⟩
  ·cases h
theorem ES {gc:Option Bool}{lo:Option Operand}{E:Ob}(h:LK gc T lo=some (none,E)):lo=none:=by
 unfold LK at h
 split at h
 ·rfl
 ·split at h<;>cases h
theorem HS (hX:X.ok P=true){t f off:Nat}(h:QM X t f=some off):C2 P t f=some off:=by
 unfold QM at h
 split at h
 ·next j hj=>
  split at h
  ·next ft o sz hf=>
   split at h
   ·cases h
   ·next m=>cases h;rw [Ah]at hf;exact(QI (Tb.at hX hj) hf).2 (by omega)
  ·cases h
 ·cases h
theorem TN (hX:X.ok P=true)(A:Sy n T H ks G0 w0 G a w){t f:Nat}{x:Operand}{y r:SV}{q:List Bool}{v:Value}{d:Option Tmp}{ty:TypeId}{pos:String}{af:Array Edge}{gd:Option (Nat×Bool)}(h:WJ X H t f y=some (r,q))(hy:den G y=some v):∃z,den G r=some z∧
  ((∀p∈q,p=true)→a.eval x=v→Region.wanted {dst:=d,op:=.fieldAddr t x f,type:=ty,pos:=pos,after:=af,guard:=gd} (yielded ops a.tmps)=true→∀K:Value→World→Prop,K z w→BG P ops {dst:=d,op:=.fieldAddr t x f,type:=ty,pos:=pos,after:=af,guard:=gd} a w K):=by
 unfold WJ at h
 split at h
 ·next i o=>
  split at h
  ·next off ho=>
   cases h
   unfold den at hy
   split at hy
   ·next L hL=>
    cases hy
    exact⟨.pointer (some ⟨L.b,L.pre.length+o+off,none⟩),by unfold den;rw [hL];simp [Nat.add_assoc],fun _ hx hw K hK=>DS hw hx (HS hX ho) hK⟩
   ·cases hy
  ·cases h
 ·next i s j o=>
  split at h
  ·next off s' m g ho hi=>
   cases h
   unfold den at hy
   split at hy
   ·next p hp=>
    cases hy
    refine⟨.pointer (p.map fun L=>⟨L.b,L.pre.length+j.toNat*s+(o+off),none⟩),by unfold den;rw [hp],fun hq hx hw K hK=>?_⟩
    have i7:j.toNat<m:=of_decide_eq_true (hq _ (by simp))
    obtain⟨L,_,e1,_⟩:=(EO A.mem hi).2 _ i7
    rw [hp]at e1
    simp only [Option.getD_some]at e1
    subst e1
    exact DS hw hx (HS hX ho) (by simpa [Nat.add_assoc]using hK)
   ·cases hy
  ·cases h
 ·next p s m j k=>
  split at h
  ·next off q' ho oX=>
   cases h
   cases hu:den G p with
   |none=>unfold den at hy;rw [hu]at hy;cases hy
   | some u=>
    have hex:∃z,den G (.ix p s m j (k+off))=some z:=by
     unfold den
     rw [hu]
     split
     ·exact⟨_,rfl⟩
     ·exact⟨_,rfl⟩
     ·next h=>cases h
    obtain⟨z,hz⟩:=hex
    refine⟨z,hz,fun hq hx hw K hK=>?_⟩
    obtain⟨b,o,rfl⟩:=Ik A oX hu hq
    unfold den at hy hz
    rw [hu]at hy hz
    simp only [Option.some.injEq]at hy hz
    subst hy;subst hz
    exact DS hw hx (HS hX ho) (by simpa [Nat.add_assoc]using hK)
  ·cases h
 ·cases h
theorem IP (hX:X.ok P=true) (A:Sy n T H ks G0 w0 G a w) {gc:Option Bool} {o:Oper} {x:SV} {E:Ob} (h:QO X T H gc o.op=some (.val x E)):∃z,den G x=some z∧(Cz E→IE gc→Yields P ops o a w z):=by
 obtain⟨d,i,ty,pos,af,gd⟩:=o
 simp only at h
 unfold QO at h
 split at h
 ·split at h
  ·next y F hy=>cases h;obtain⟨v,h1,h2⟩:=A.evx hy;exact⟨v,h1,fun hE hg hw K hK=>V1 hw (h2 hE hg) hK⟩
  ·cases h
 ·split at h
  ·next y F hy=>cases h;obtain⟨v,h1,h2⟩:=A.evx hy;exact⟨v,h1,fun hE hg hw K hK=>QB hw (h2 hE hg) hK⟩
  ·cases h
 ·split at h
  ·next k l F hy=>
   split at h
   ·next y hl=>
    cases h
    obtain⟨v,h1,h2⟩:=A.evx hy
    unfold den at h1
    obtain⟨vs,h3,rfl⟩:=Option.map_eq_some_iff.1 h1
    rw [Ah]at hl
    obtain⟨u,h4,h5⟩:=CL h3 hl
    exact⟨u,h5,fun hE hg hw K hK=>Ou hw (h2 hE hg) (by simpa using h4) hK⟩
   ·cases h
  ·cases h
 ·split at h
  ·next F hy=>cases h;obtain⟨v,h1,h2⟩:=A.evx hy;cases h1;exact⟨_,rfl,fun hE hg hw K hK=>QC hw (h2 hE hg) hK⟩
  ·next F hy=>cases h;obtain⟨v,h1,h2⟩:=A.evx hy;cases h1;exact⟨_,rfl,fun hE hg hw K hK=>QC hw (h2 hE hg) hK⟩
  ·next b F hy=>cases h;obtain⟨v,h1,h2⟩:=A.evx hy;cases h1;exact⟨_,rfl,fun hE hg hw K hK=>QC hw (h2 hE hg) hK⟩
  ·cases h
 ·split at h
  ·next k m F hy=>
   cases h
   obtain⟨v,h1,h2⟩:=A.evx hy
   cases h1
   refine⟨_,rfl,fun hE hg hw K hK=>AR hw ?_ hK⟩
   have h3:=h2 hE hg
   unfold execOp
   simp only [h3,Op.unary,Op.intArith,Sem.run_bind,Sem.run_pure,Result.andThen_ok]
  ·cases h
 ·split at h
  ·next i o F hy=>
   cases h
   obtain⟨v,h1,h2⟩:=A.evx hy
   refine⟨v,h1,fun hE hg hw K hK=>?_⟩
   have h3:=h2 hE hg
   unfold den at h1
   split at h1
   ·cases h1;exact Ef hw h3 hK
   ·cases h1
  ·cases h
 ·split at h
  ·next t x f y F hy=>
   split at h
   ·next r q hr=>
    cases h
    obtain⟨v,h1,h2⟩:=A.evx hy
    obtain⟨z,hz,k⟩:=TN (P:=P) (ops:=ops) hX A (d:=d) (ty:=ty) (pos:=pos) (af:=af) (gd:=gd) hr h1
    exact⟨z,hz,fun hE hg hw K hK=>k (Cg hg (AQ hE).2) (h2 (AQ hE).1 hg) hw K hK⟩
   ·cases h
  ·cases h
 ·split at h
  ·next t x f y F hy=>
   split at h
   ·next r hr=>
    cases h
    obtain⟨v,h1,h2⟩:=A.evx hy
    obtain⟨z,hz,k⟩:=Oz (P:=P) (ops:=ops) (a:=a) (w:=w) hX hr h1
    exact⟨z,hz,fun hE hg hw K hK=>k (h2 hE hg) hw K hK⟩
   ·cases h
  ·cases h
 ·split at h
  ·next t x y F hy=>
   split at h
   ·next r q hr=>
    cases h
    obtain⟨v,h1,h2⟩:=A.evx hy
    obtain⟨z,hz,k⟩:=EP (P:=P) (ops:=ops) hX A hr h1
    exact⟨z,hz,fun hE hg hw K hK=>k (Cg hg (AQ hE).2) (h2 (AQ hE).1 hg) hw K hK⟩
   ·cases h
  ·cases h
 ·next t x i=>
  split at h
  ·next y F z D hy hz=>
   split at h
   ·next r q hr=>
    cases h
    obtain⟨v,h1,h2⟩:=A.evx hy
    obtain⟨u,h3,h4⟩:=A.evx hz
    unfold gB at hr
    split at hr
    ·next k m c j=>
     split at hr
     ·next f s' m' g hf mW=>
      split at hr
      ·next e s bb he=>
       cases hr
       have hs:sliceB P t e s=true:=by have:=Ct (Tb.at hX hf) he;unfold D2 at this;rw [Bool.and_eq_true,Bool.and_eq_true]at this;exact this.1.1
       unfold den at h1
       split at h1
       ·next p hp=>
        cases h1;cases h3
        refine⟨.pointer (p.map fun L=>⟨L.b,L.pre.length+j.toNat*s+0,none⟩),by unfold den;rw [hp],fun hE hg hw K hK=>?_⟩
        obtain⟨e1,e2⟩:=AQ hE
        obtain⟨e3,e4⟩:=AQ e2
        have hq:0≤j∧j<(m:Int)∧j.toNat<m':=of_decide_eq_true (Cg hg e4 _ (by simp))
        have hj:j=((j.toNat:Nat):Int):=by omega
        have h5:=h2 e1 hg
        have h6:=h4 e3 hg
        rw [hj]at h6
        obtain⟨L,_,f1,_⟩:=(EO A.mem mW).2 _ hq.2.2
        rw [hp]at f1
        simp only [Option.getD_some]at f1
        subst f1
        exact EN (n:=m) hw h5 h6 hs ⟨L.pre.length,_,rfl,rfl⟩ (by omega) (by simpa using hK)
       ·cases h1
      ·cases hr
     ·next f hf mW=>
      split at hr
      ·next e s bb cs' he lJ=>
       cases hr
       have hs:sliceB P t e s=true:=by have:=Ct (Tb.at hX hf) he;unfold D2 at this;rw [Bool.and_eq_true,Bool.and_eq_true]at this;exact this.1.1
       rw [Ah]at lJ
       obtain⟨L,vs,g1,_,_⟩:=A.mem.ent k _ lJ
       unfold den at h1
       rw [Cc g1]at h1
       cases h1;cases h3
       refine⟨.pointer (some ⟨L.b,L.pre.length+0+j.toNat*s+0,none⟩),by unfold den;simp only [den,Cc g1],fun hE hg hw K hK=>?_⟩
       obtain⟨e1,e2⟩:=AQ hE
       obtain⟨e3,e4⟩:=AQ e2
       have hq:0≤j∧j<(m:Int):=of_decide_eq_true (Cg hg e4 _ (by simp))
       have hj:j=((j.toNat:Nat):Int):=by omega
       have h5:=h2 e1 hg
       have h6:=h4 e3 hg
       rw [hj]at h6
       exact EN (n:=m) hw h5 h6 hs ⟨L.pre.length,_,rfl,rfl⟩ (by omega) (by simpa using hK)
      ·cases hr
     ·cases hr
    ·next p m c j=>
     split at hr
     ·next f hf=>
      split at hr
      ·next e s bb q' he oX=>
       cases hr
       have hs:sliceB P t e s=true:=by have:=Ct (Tb.at hX hf) he;unfold D2 at this;rw [Bool.and_eq_true,Bool.and_eq_true]at this;exact this.1.1
       unfold den at h1
       split at h1
       ·next pv tB=>
        cases h1;cases h3
        have hex:∃z,den G (.ix p s m j 0)=some z:=by
         unfold den
         rw [tB]
         split
         ·exact⟨_,rfl⟩
         ·exact⟨_,rfl⟩
         ·next h=>cases h
        obtain⟨z,hz⟩:=hex
        refine⟨z,hz,fun hE hg hw K hK=>?_⟩
        obtain⟨e1,e2⟩:=AQ hE
        obtain⟨e3,e4⟩:=AQ e2
        have j8:=Cg hg e4
        have hq:0≤j∧j<(m:Int):=of_decide_eq_true (j8 _ (by simp))
        obtain⟨b,o,rfl⟩:=Ik A oX tB (fun p hp=>j8 p (by simp [hp]))
        have hj:j=((j.toNat:Nat):Int):=by omega
        have h5:=h2 e1 hg
        have h6:=h4 e3 hg
        rw [hj]at h6
        unfold den at hz
        rw [tB]at hz
        simp only [Option.some.injEq]at hz
        subst hz
        exact EN (n:=m) hw h5 h6 hs ⟨o,_,rfl,rfl⟩ (by omega) (by simpa using hK)
       ·cases h1
      ·cases hr
     ·cases hr
    ·next k s' b m c j=>
     split at hr
     ·next f er sr mr cr fr hf mW=>
      split at hr
      ·next e s bb he=>
       cases lH:Nat.beq s s'&&Nat.beq c cr with
       |false=>rw [lH]at hr;cases hr
       | true=>
        rw [lH]at hr
        cases hr
        rw [Bool.and_eq_true]at lH
        have q1:=Nat.eq_of_beq_eq_true lH.1
        have q2:=Nat.eq_of_beq_eq_true lH.2
        subst q1;subst q2
        have hs:sliceB P t e s=true:=by have:=Ct (Tb.at hX hf) he;unfold D2 at this;rw [Bool.and_eq_true,Bool.and_eq_true]at this;exact this.1.1
        unfold den at h1
        split at h1
        ·next p hp=>
         cases h1;cases h3
         refine⟨.pointer (p.map fun L=>⟨L.b,L.pre.length+((b:Int)+j).toNat*s+0,none⟩),by unfold den;rw [hp],fun hE hg hw K hK=>?_⟩
         obtain⟨e1,e2⟩:=AQ hE
         obtain⟨e3,e4⟩:=AQ e2
         have hq:0≤j∧j<(m:Int)∧((b:Int)+j).toNat<mr:=of_decide_eq_true (Cg hg e4 _ (by simp))
         have hj:j=((j.toNat:Nat):Int):=by omega
         have h5:=h2 e1 hg
         have h6:=h4 e3 hg
         rw [hj]at h6
         rw [Ah]at mW
         obtain⟨_,_,xs,_,_,g5⟩:=A.mem.ent k _ mW
         rw [hp]at g5
         simp only [Option.getD_some]at g5
         rcases g5 with⟨_,g5⟩|⟨g,cap,cur,c1,_,_,c4,_⟩
         ·omega
         ·cases p with
          |none=>cases c1
          |some L=>
           simp only [Option.map_some,Value.slice.injEq]at c1
           have jF:¬(c+rm (some L)=b):=by omega
           simp only [Option.map_some,if_neg jF]at h5
           have hmul:((b:Int)+j).toNat*s=b*s+j.toNat*s:=by rw [show((b:Int)+j).toNat=b+j.toNat by omega,Nat.add_mul]
           refine EN (n:=m) (o:=L.pre.length+b*s+j.toNat*s) hw h5 h6 hs ⟨_,_,rfl,rfl⟩ (by omega) ?_
           simpa [hmul,Nat.add_assoc]using hK
        ·cases h1
      ·cases hr
     ·cases hr
    ·next j _ _ _=>
     split at hr
     ·next f hf=>
      split at hr
      ·next m e s q' mX oX=>
       cases hr
       have hex:∃z,den G (.ix y s m j 0)=some z:=by
        unfold den
        rw [h1]
        split
        ·exact⟨_,rfl⟩
        ·exact⟨_,rfl⟩
        ·next h=>cases h
       obtain⟨z,hz⟩:=hex
       cases h3
       refine⟨z,hz,fun hE hg hw K hK=>?_⟩
       obtain⟨e1,e2⟩:=AQ hE
       obtain⟨e3,e4⟩:=AQ e2
       have j8:=Cg hg e4
       have hq:0≤j∧j<(m:Int):=of_decide_eq_true (j8 _ (by simp))
       obtain⟨b,o,rfl⟩:=Ik A oX h1 (fun p hp=>j8 p (by simp [hp]))
       have hj:j=((j.toNat:Nat):Int):=by omega
       have h5:=h2 e1 hg
       have h6:=h4 e3 hg
       rw [hj]at h6
       unfold den at hz
       rw [h1]at hz
       simp only [Option.some.injEq]at hz
       subst hz
       exact Ma hw h5 h6 (Ka (Tb.at hX hf) mX) (by omega) (by simpa using hK)
      ·cases hr
     ·cases hr
    ·cases hr
   ·cases h
  ·cases h
 ·next t x i=>
  split at h
  ·next y F z D hy hz=>
   split at h
   ·next r q hr=>
    cases h
    obtain⟨v,h1,h2⟩:=A.evx hy
    obtain⟨u,h3,h4⟩:=A.evx hz
    unfold gC at hr
    split at hr
    ·next l j=>
     split at hr
     ·next f hf=>
      split at hr
      ·next m e s mX=>
       split at hr
       ·next r' nZ=>
        cases hr
        unfold den at h1
        obtain⟨vs,v1,v2⟩:=Option.map_eq_some_iff.1 h1
        obtain⟨zz,sM,mD⟩:=Ij v1 nZ
        cases h3
        refine⟨zz,sM,fun hE hg hw K hK=>AR hw ?_ hK⟩
        obtain⟨e1,e2⟩:=AQ hE
        obtain⟨e3,e4⟩:=AQ e2
        have hq:0≤j∧j<(m:Int):=of_decide_eq_true (Cg hg e4 _ (by simp))
        obtain⟨r'',c1,c2⟩:=mD ⟨by omega,trivial⟩
        obtain⟨hu,j9⟩:=Cv (Ka (Tb.at hX hf) mX)
        have hp:=Mh (P:=P) (w:=w) hX c1 v1 c2
        simp only [lY,Nat.add_zero,Nat.zero_add]at hp
        have h5:=h2 e1 hg
        have h6:=h4 e3 hg
        rw [←v2]at h5
        have mF:(Instr.index t (.agg vs.toArray) (.int .i64 j)).run P w=.ok zz w:=by
         unfold Instr.index
         simp only [asIntOf,Sem.run_bind,Sem.run_pure,Result.andThen_ok,run_underlying hu,if_pos hq,C3 j9,hp]
        unfold execOp
        simp only [h5,h6,Sem.run_bind,mF,Result.andThen_ok,Sem.run_pure]
       ·cases hr
      ·cases hr
     ·cases hr
    ·next l ik j=>
     split at hr
     ·next f hf=>
      cases hb:f.isS with
      |false=>rw [hb]at hr;cases hr
      | true=>
       rw [hb]at hr
       cases hr
       cases h1;cases h3
       refine⟨_,rfl,fun hE hg hw K hK=>?_⟩
       obtain⟨e1,e2⟩:=AQ hE
       obtain⟨e3,e4⟩:=AQ e2
       have hq:0≤j∧j<(l.length:Int):=of_decide_eq_true (Cg hg e4 _ (by simp))
       have hj:j=((j.toNat:Nat):Int):=by omega
       have h5:=h2 e1 hg
       have h6:=h4 e3 hg
       rw [hj]at h6
       exact Yk hw h5 h6 (Mf (Tb.at hX hf) hb) (b:=l.getD j.toNat 0) (by
        have i7:j.toNat<l.length:=by omega
        simp [List.getD,i7]) hK
     ·cases hr
    ·cases hr
   ·cases h
  ·cases h
 ·next t x lo hi mx=>
  split at h
  ·split at h
   ·next y F aa F1 bb D hy ha pH=>
    split at h
    ·next r q hr=>
     cases h
     obtain⟨v,h1,h2⟩:=A.evx hy
     unfold Ux at hr
     split at hr
     ·next i m c=>
      split at hr
      ·next f hf=>
       split at hr
       ·next e s bb he=>
        obtain⟨ie,z,f1,f2,f3,f4,f5,f6,f7⟩:=CX (Ct (Tb.at hX hf) he)
        have j9:(P.info? e).map (·.size)=some s:=by rw [f2];simp [f4]
        unfold den at h1
        split at h1
        ·next p hp=>
         cases h1
         split at hr
         ·next k1=>
          cases hr
          obtain⟨x1,rfl,oY⟩:=ER A ha
          have:=ES pH
          subst this
          refine⟨_,by unfold den;rw [hp],fun hE hg hw K hK=>AR hw ?_ hK⟩
          obtain⟨e1,e2⟩:=AQ hE
          obtain⟨e3,e4⟩:=AQ e2
          obtain⟨e5,e6⟩:=AQ e4
          have hq:0≤k1∧k1≤(m:Int):=of_decide_eq_true (Cg hg e6 _ (by simp))
          have h5:=h2 e1 hg
          have h6:=oY e3 hg
          have nQ:(Instr.sliceBounds true m (c+rm p) (some (.int .i64 k1)) none none).run P w=.ok (k1.toNat,m,c+rm p) w:=by
           simp [Instr.sliceBounds,run_sliceBound (P:=P) w .i64 k1 m _ (by omega) (by omega)]
          unfold execOp
          simp only [h5,h6,Option.map_some,Option.map_none,Instr.sliceAt,Instr.slice,Sem.run_bind,run_underlying f1,nQ,Result.andThen_ok,C3 j9,Sem.run_pure]
          cases p with
          |none=>simp
          |some L=>by_cases hc:c+rm (some L)=k1.toNat<;>simp [hc,Addr.add_mid]
         ·next k1=>
          cases jJ:gD (lg H i) c with
          |false=>rw [jJ]at hr;cases hr
          |true=>
          rw [jJ]at hr
          cases hr
          obtain⟨x1,rfl,oY⟩:=ER A pH
          have:=ES ha
          subst this
          refine⟨_,by unfold den;rw [hp],fun hE hg hw K hK=>AR hw ?_ hK⟩
          obtain⟨e1,e2⟩:=AQ hE
          obtain⟨e3,e4⟩:=AQ e2
          obtain⟨e5,e6⟩:=AQ e4
          have hq:0≤k1∧k1≤(TL (lg H i) c:Int):=of_decide_eq_true (Cg hg e6 _ (by simp))
          have wO:TL (lg H i) c≤c+rm p:=by
           unfold TL
           split
           ·next er sr mr cr fr mW=>
            rw [mW]at jJ
            have q2:=Nat.eq_of_beq_eq_true jJ
            rw [Ah]at mW
            obtain⟨_,_,xs,_,_,g5⟩:=A.mem.ent i _ mW
            rw [hp]at g5
            simp only [Option.getD_some]at g5
            rcases g5 with⟨_,g5⟩|⟨g,cap,cur,c1,_,_,c4,_⟩
            ·omega
            ·cases p with
             |none=>cases c1
             |some L=>simp only [Option.map_some,Value.slice.injEq]at c1;omega
           ·omega
          have nQ:(Instr.sliceBounds true m (c+rm p) none (some (.int .i64 k1)) none).run P w=.ok (0,k1.toNat,c+rm p) w:=by
           simp [Instr.sliceBounds,run_sliceBound (P:=P) w .i64 k1 (c+rm p) _ (by omega) (by omega)]
          have h5:=h2 e1 hg
          have h6:=oY e5 hg
          unfold execOp
          simp only [h5,h6,Option.map_some,Option.map_none,Instr.sliceAt,Instr.slice,Sem.run_bind,run_underlying f1,nQ,Result.andThen_ok,C3 j9,Sem.run_pure]
          cases p with
          |none=>simp
          |some L=>simp [Addr.add_mid]
         ·cases hr
        ·cases h1
       ·cases hr
      ·cases hr
     ·next l=>
      split at hr
      ·next f hf=>
       cases hb:f.isS with
       |false=>rw [hb]at hr;cases hr
       | true=>
        rw [hb]at hr
        simp only [cond_true]at hr
        have p4:=Mf (Tb.at hX hf) hb
        cases h1
        split at hr
        ·next k1=>
         cases hr
         obtain⟨x1,rfl,oY⟩:=ER A ha
         have:=ES pH
         subst this
         refine⟨_,rfl,fun hE hg hw K hK=>?_⟩
         obtain⟨e1,e2⟩:=AQ hE
         obtain⟨e3,e4⟩:=AQ e2
         obtain⟨e5,e6⟩:=AQ e4
         have hq:0≤k1∧k1≤(l.length:Int):=of_decide_eq_true (Cg hg e6 _ (by simp))
         have hj:k1=((k1.toNat:Nat):Int):=by omega
         have h6:=oY e3 hg
         rw [hj]at h6
         exact TA hw (h2 e1 hg) h6 p4 (by omega) hK
        ·next k1=>
         cases hr
         obtain⟨x1,rfl,oY⟩:=ER A pH
         have:=ES ha
         subst this
         refine⟨_,rfl,fun hE hg hw K hK=>?_⟩
         obtain⟨e1,e2⟩:=AQ hE
         obtain⟨e3,e4⟩:=AQ e2
         obtain⟨e5,e6⟩:=AQ e4
         have hq:0≤k1∧k1≤(l.length:Int):=of_decide_eq_true (Cg hg e6 _ (by simp))
         have hj:k1=((k1.toNat:Nat):Int):=by omega
         have h6:=oY e5 hg
         rw [hj]at h6
         exact TC hw (h2 e1 hg) h6 p4 (by omega) hK
        ·next k1 k2=>
         cases hr
         obtain⟨x1,rfl,oY⟩:=ER A ha
         obtain⟨x2,rfl,wP⟩:=ER A pH
         refine⟨_,rfl,fun hE hg hw K hK=>?_⟩
         obtain⟨e1,e2⟩:=AQ hE
         obtain⟨e3,e4⟩:=AQ e2
         obtain⟨e5,e6⟩:=AQ e4
         have hq:0≤k1∧k1≤k2∧k2≤(l.length:Int):=of_decide_eq_true (Cg hg e6 _ (by simp))
         have l6:k1=((k1.toNat:Nat):Int):=by omega
         have mG:k2=((k2.toNat:Nat):Int):=by omega
         have h6:=oY e3 hg
         have h7:=wP e5 hg
         rw [l6]at h6
         rw [mG]at h7
         exact TD hw (h2 e1 hg) h6 h7 p4 (by omega) (by omega) hK
        ·cases hr
      ·cases hr
     ·split at hr
      ·next f hf=>
       split at hr
       ·next m e s q' mX oX=>
        split at hr
        ·cases hr
        ·next m0=>
        cases hr
        have:=ES ha
        subst this
        have:=ES pH
        subst this
        refine⟨_,by unfold den;rw [h1],fun hE hg hw K hK=>AR hw ?_ hK⟩
        obtain⟨e1,e2⟩:=AQ hE
        obtain⟨e3,e4⟩:=AQ e2
        obtain⟨e5,e6⟩:=AQ e4
        obtain⟨b,o,rfl⟩:=Ik A oX h1 (Cg hg e6)
        obtain⟨hu,j9⟩:=Cv (Ka (Tb.at hX hf) mX)
        have h5:=h2 e1 hg
        have nQ:(Instr.sliceBounds false (m0+1) (m0+1) none none none).run P w=.ok (0,m0+1,m0+1) w:=by simp [Instr.sliceBounds]
        unfold execOp
        simp only [h5,Option.map_none,Instr.sliceAt,Sem.run_bind,run_underlying hu,Instr.sureAddr,Sem.run_pure,nQ,Result.andThen_ok,C3 j9]
        simp [Yn,Addr.add_mid]
       ·cases hr
      ·cases hr
    ·cases h
   ·cases h
  ·cases h
 ·next op t x y t2=>
  split at h
  ·next u E1 v E2 hx hy=>
   split at h
   ·next r D hr=>
    cases h
    obtain⟨u',h1,h2⟩:=A.evx hx
    obtain⟨v',h3,h4⟩:=A.evx hy
    obtain⟨z,hz,k⟩:=QK hX hr h1 h3 x y w
    refine⟨z,hz,fun hE hg hw K hK=>?_⟩
    obtain⟨e1,e2⟩:=AQ hE
    obtain⟨e3,e4⟩:=AQ e2
    exact Jr hw (h2 e1 hg) (h4 e3 hg) (k (Cg hg e4)) hK
   ·cases h
  ·cases h
 ·split at h
  ·next s t x y F hy=>
   split at h
   ·next r hr=>
    cases h
    obtain⟨v,h1,h2⟩:=A.evx hy
    unfold Uy at hr
    split at hr
    ·next k m=>
     split at hr
     ·next i j hi hj=>
      split at hr
      ·next k1 k2 mT lE=>
       cases hb:k==k1 with
       |false=>rw [hb]at hr;cases hr
       |true=>
        rw [hb]at hr
        cases hr
        have:=eq_of_beq hb
        subst this
        cases h1
        refine⟨_,rfl,fun hE hg hw K hK=>AR hw ?_ hK⟩
        have h3:=h2 hE hg
        unfold execOp
        simp only [h3,Sem.run_bind]
        simp [convert,run_underlying (QJ (Tb.at hX hi) mT),run_underlying (QJ (Tb.at hX hj) lE),Conv.intToInt]
      ·cases hr
     ·cases hr
    ·cases hr
   ·cases h
  ·cases h
 ·split at h
  ·next c x y F hc=>
   split at h
   ·next u D hx=>
    cases h
    obtain⟨k,h1,h2⟩:=A.evx hc
    obtain⟨v,h3,h4⟩:=A.evx hx
    cases h1
    exact⟨v,h3,fun hE hg hw K hK=>S8 hw (h2 (AQ hE).1 hg) (h4 (AQ hE).2 hg) hK⟩
   ·cases h
  ·next c x y F hc=>
   split at h
   ·next u D hx=>
    cases h
    obtain⟨k,h1,h2⟩:=A.evx hc
    obtain⟨v,h3,h4⟩:=A.evx hx
    cases h1
    exact⟨v,h3,fun hE hg hw K hK=>S9 hw (h2 (AQ hE).1 hg) (h4 (AQ hE).2 hg) hK⟩
   ·cases h
  ·next c x y b F hc=>
   split at h
   ·next p q hp hq=>
    split at h
    next u F1 v D h1 h2=>
    split at h
    ·next r hr=>cases h;exact QP A hc hp hq h1 h2 hr
    ·cases h
   ·cases h
  ·cases h
 ·next t parts=>
  split at h
  ·next i ps F hi hp=>
   split at h
   ·next z f fs hz hf=>
    split at h
    ·next cs hc=>
     cases h
     have ht:=Tb.at hX hi
     obtain⟨zv,m,h1,h2⟩:=KZ ht hz
     obtain⟨vs,h3,h4,h5,h6⟩:=HR A hp
     have tC:AE G z=some zv.cells.toList:=h2 G
     obtain⟨e1,e2⟩:=Hu parts.toList vs h5
     obtain⟨zs,h7,h8⟩:=Il (us:=(parts.toList.map (·.1)).zip vs) hc tC (by rw [e1,h3]) (by rw [e2];exact h4)
     refine⟨.agg zs.toArray,by simp [den,h7],fun hE hg hw K hK=>?_⟩
     have h9:=h6 hE hg
     refine S7 (vs:=(parts.toList.map (·.1)).zip vs) hw ?_ h1 (Yo ht (by rw [hf];simp)) (by simpa using h8) hK
     rw [←h9]
     simp only [Array.toList_map]
     exact Eh a.eval parts.toList
    ·cases h
   ·next z hz hf=>
    split at h
    ·next m e s mX=>
     split at h
     ·next cs hc=>
      cases h
      have ht:=Tb.at hX hi
      obtain⟨zv,m',h1,h2⟩:=KZ ht hz
      obtain⟨vs,h3,h4,h5,h6⟩:=HR A hp
      have tC:AE G z=some zv.cells.toList:=h2 G
      obtain⟨e1,e2⟩:=Hu parts.toList vs h5
      obtain⟨zs,h7,h8⟩:=Im (us:=(parts.toList.map (·.1)).zip vs) hc tC (by rw [e1,h3]) (by rw [e2];exact h4)
      refine⟨.agg zs.toArray,by simp [den,h7],fun hE hg hw K hK=>AR hw ?_ hK⟩
      have h9:=h6 hE hg
      have wQ:=(zero_of_info h1).1 w
      have j6:(parts.map fun x=>(x.1,a.eval x.2)).toList=(parts.toList.map (·.1)).zip vs:=by
       rw [←h9]
       simp only [Array.toList_map]
       exact Eh a.eval parts.toList
      obtain⟨hu,j9⟩:=Cv (Ka ht mX)
      unfold execOp
      simp only [Sem.run_bind,Instr.build,wQ,Result.andThen_ok,run_underlying hu,C3 j9]
      erw [j6]
      simp at h8
      simp only [h8,Sem.run_pure,Result.andThen_ok]
     ·cases h
    ·cases h
   ·cases h
  ·cases h
 ·split at h
  ·next first cap f l F hf hl=>
   cases h
   obtain⟨vs,h1,h2⟩:=IN A hl
   exact⟨.func (.func f) #[] vs.toArray,by simp [den,h1],fun hE hg hw K hK=>Yx hw hf (h2 hE hg) hK⟩
  ·cases h
 ·next c=>
  obtain⟨callee,args,ats⟩:=c
  simp only at h
  split at h
  ·next x t ha ht=>
   have e1:args= #[x]:=by have:=congrArg List.toArray ha;simpa using this
   have e2:ats= #[t]:=by have:=congrArg List.toArray ht;simpa using this
   subst e1;subst e2
   split at h
   ·next y F hy=>
    split at h
    ·next r hr=>
     cases h
     obtain⟨v,h1,h2⟩:=A.evx hy
     unfold Yw at hr
     split at hr
     ·split at hr
      ·next i hi=>
       cases hb:i.isS with
       |false=>rw [hb]at hr;cases hr
       |true=>rw [hb]at hr;cases hr;cases h1;exact⟨_,rfl,fun hE hg hw K hK=>WA hw (h2 hE hg) (Mf (Tb.at hX hi) hb) hK⟩
      ·cases hr
     ·split at hr
      ·next i hi=>
       split at hr
       ·next q hq=>
        obtain⟨e,s,bb⟩:=q
        cases hr;cases h1
        have hs:sliceB P t e s=true:=by have:=Ct (Tb.at hX hi) hq;unfold D2 at this;rw [Bool.and_eq_true,Bool.and_eq_true]at this;exact this.1.1
        exact⟨_,rfl,fun hE hg hw K hK=>Nf hw (h2 hE hg) hs ⟨_,_,rfl⟩ hK⟩
       ·cases hr
      ·cases hr
     ·split at hr
      ·next i hi=>
       split at hr
       ·next q hq=>
        obtain⟨e,s,bb⟩:=q
        cases hr
        have hs:sliceB P t e s=true:=by have:=Ct (Tb.at hX hi) hq;unfold D2 at this;rw [Bool.and_eq_true,Bool.and_eq_true]at this;exact this.1.1
        unfold den at h1
        split at h1
        ·cases h1;exact⟨_,rfl,fun hE hg hw K hK=>Nf hw (h2 hE hg) hs ⟨_,_,rfl⟩ hK⟩
        ·cases h1
       ·cases hr
      ·cases hr
     ·split at hr
      ·next i hi=>
       split at hr
       ·next q hq=>
        obtain⟨e,s,bb⟩:=q
        cases hr
        have hs:sliceB P t e s=true:=by have:=Ct (Tb.at hX hi) hq;unfold D2 at this;rw [Bool.and_eq_true,Bool.and_eq_true]at this;exact this.1.1
        unfold den at h1
        split at h1
        ·cases h1;exact⟨_,rfl,fun hE hg hw K hK=>Nf hw (h2 hE hg) hs ⟨_,_,rfl⟩ hK⟩
        ·cases h1
       ·cases hr
      ·cases hr
     ·split at hr
      ·next i hi=>
       split at hr
       ·next q hq=>
        obtain⟨e,s,bb⟩:=q
        cases hr
        have hs:sliceB P t e s=true:=by have:=Ct (Tb.at hX hi) hq;unfold D2 at this;rw [Bool.and_eq_true,Bool.and_eq_true]at this;exact this.1.1
        unfold den at h1
        split at h1
        ·cases h1;exact⟨_,rfl,fun hE hg hw K hK=>Nf hw (h2 hE hg) hs ⟨_,_,rfl⟩ hK⟩
        ·cases h1
       ·cases hr
      ·cases hr
     ·cases hr
    ·cases h
   ·cases h
  ·cases h
 ·split at h
  ·split at h
   ·split at h<;>cases h
   ·cases h
  ·cases h
 ·split at h
  ·split at h
   ·split at h<;>cases h
   ·cases h
  ·cases h
 ·(repeat' (split at h))<;>(cases h;done)
 ·(repeat' (split at h))<;>(cases h;done)
 ·cases h
end
inductive Gd where
 |run
 |skip
 |sym (b:Bool)
def iY (ops:Array Oper) (T:List (Nat×SV)):Option (Nat×Bool)→Option Gd
 |none=>some .run
 | some (j,c)=>match Hs ops j with
  | some t=>match look T t with
   |some .tt=>bif c then some .run else some .skip
   |some .ff=>bif c then some .skip else some .run
   |some (.bool b)=>some (.sym (bif c then b else !b))
   |some (.opt g x)=>match x with
    | .tt=>bif c then some (.sym g)else some .skip
    | .ff=>bif c then some .skip else some (.sym g)
    | .bool p=>some (.sym (g&&(bif c then p else !p)))
    |_=>none
   |some (.tup [])=>some .skip
   |_=>none
  |none=>none
def Cj (X:Tx)(n:Nat)(ops:Array Oper)(T:List (Nat×SV))(H:Hp)(o:Oper):Option Out:=match Ci n o.dst with
 | true=>match iY ops T o.guard with
  |some .run=>QO X T H none o.op
  |some .skip=>some (.val (.tup []) [])
  |some (.sym b)=>match QO X T H (some b) o.op with
   |some (.val x E)=>some (.val (.opt b x) E)
   |_=>none
  |none=>none
 |false=>none
def Ay (T:List (Nat×SV)):Option Nat→SV→List (Nat×SV)
 |some d,x=>(d,x)::T
 |none,_=>T
def Br {α:Type}:List α→Nat→α→List α
 | [],_,_=>[]
 |_::l,0,x=>x::l
 |y::l,k+1,x=>y::Br l k x
theorem Ag {α:Type}:∀(l:List α) (k:Nat) (x:α),Br l k x=l.set k x
 | [],_,_=>rfl
 |_::_,0,_=>rfl
 |y::l,k+1,x=>by simp [Br,Ag l k x]
def O1 (T:List (Nat×SV))(H:Hp)(d:Option Nat):Out→List (Nat×SV)
 | .val x _=>Ay T d x
 | .new _ _ x=>Ay T d x
 | .upd _ _ _=>Ay T d (.tup [])
def Jd (H:Hp):Out→Hp
 | .val _ _=>H
 | .new _ e _=>H++[some e]
 | .upd i cs _=>Br H i (some (.blk cs))
def LW:Out→Ob
 | .val _ E=>E
 | .new _ _ _=>[]
 | .upd _ _ E=>E
section
variable {P:Program}{X:Tx}{ops:Array Oper}{n:Nat}{T:List (Nat×SV)}{H:Hp}{ks:List Nat}{G0:Gr}{w0:World}{G:Gr}{a:Act}{w w':World}{Q:Exit→Act→World→Prop}{o:Oper}{rest:List Oper}
theorem CJ (h:BG P ops o a w fun v w'=>wpList P ops Q rest (a.put o.dst v) w'):wpList P ops Q (o::rest) a w:=by
 refine wpList_step fun K hK=>?_
 rcases h with⟨hw,h⟩|⟨hw,h⟩
 ·rw [if_pos hw]
  refine Oper.wp_mono (fun a' w' h=>?_) (h Q)
  obtain⟨v,rfl,hk⟩:=h
  exact hK _ _ hk
 ·rw [if_neg (by rw [hw];simp)]
  exact hK _ _ h
theorem Sy.put (A:Sy n T H ks G0 w0 G a w){d:Option Nat}(hd:Ci n d=true){x:SV}{v:Value}(hx:den G x=some v):Sy n (Ay T d x) H ks G0 w0 G (a.put d v) w:=by
 cases d with
 |none=>exact A
 | some d=>
  have wR:d<n:=by simpa [Ci]using hd
  refine⟨by simp [Act.put,A.size],by simp [Act.put,A.defers],fun t y hy=>?_,A.mem,A.pre,A.own,A.mix⟩
  have hs:d<a.tmps.size:=by rw [A.size];exact wR
  simp only [Ay,look]at hy
  cases hb:Nat.beq d t with
  |true=>
   rw [hb]at hy
   cases hy
   have:=Nat.eq_of_beq_eq_true hb
   subst this
   simp [Act.put,hs,hx]
  |false=>
   rw [hb]at hy
   have jF:d≠t:=fun e=>by subst e;simp at hb
   simp only [Act.put,Array.getD_eq_getD_getElem?]
   rw [Array.getElem?_setIfInBounds_ne jF,←Array.getD_eq_getD_getElem?]
   exact A.get t y hy
theorem Sy.newBlk (A:Sy n T H ks G0 w0 G a w){g:Nat}{t:TypeId}{en:A6}(hg:g=w.heap.size)(nR:BW w w')(nG:Ae G w' (some ⟨g,[],[],t⟩) en)(pI:en.mut=true):
  Sy n T (H++[some en]) ks G0 w0 (G++[some ⟨g,[],[],t⟩]) a w':=by
 have hlen:=A.mem.len
 have hold:∀(i:Nat) (e:A6),(H++[some en])[i]?=some (some e)→(H[i]?=some (some e)∧i<H.length)∨(i=H.length∧e=en):=by
  intro i e h
  by_cases hi:i<H.length
  ·rw [List.getElem?_append_left hi]at h;exact .inl ⟨h,hi⟩
  ·rw [List.getElem?_append_right (by omega)]at h
   have:i - H.length=0:=by
    cases hq:i - H.length with
    |zero=>rfl
    |succ k=>rw [hq]at h;simp at h
   rw [this]at h
   simp at h
   exact .inr ⟨by omega,h.symm⟩
 have hG:∀i,i<H.length→(G++[some (⟨g,[],[],t⟩:Loc)])[i]?=G[i]?:=fun i hi=>List.getElem?_append_left (by omega)
 have kA:(G++[some (⟨g,[],[],t⟩:Loc)])[H.length]?=some (some ⟨g,[],[],t⟩):=by rw [List.getElem?_append_right (by omega),hlen];simp
 have rD:∀(i:Nat) (e:A6) (L:Loc),H[i]?=some (some e)→G[i]?=some (some L)→¬e.empty→L.b<g:=by
  intro i e L h1 h2 h3
  have:=A.mem.ent i e h1
  rw [h2]at this
  rw [hg];exact Ae.lt this h3
 refine⟨A.size,A.defers,fun s x hx=>AP _ x (A.get s x hx),⟨by simp [hlen],?_,?_⟩,?_,?_,A.mix.grow nR⟩
 ·intro i e h
  rcases hold i e h with⟨h1,h2⟩|⟨rfl,rfl⟩
  ·rw [hG i h2]
   exact((A.mem.ent i e h1).mix nR.mix (fun _ L _=>rfl)).more _
  ·rw [kA]
   exact nG.more _
 ·intro i j e f L M jV h1 h2 h3 h4 h5 h6
  rcases hold i e h1 with⟨k1,k2⟩|⟨rfl,rfl⟩
  ·rw [hG i k2]at h4
   rcases hold j f h2 with⟨k3,k4⟩|⟨rfl,rfl⟩
   ·rw [hG j k4]at h5;exact A.mem.sep i j e f L M jV k1 k3 h3 h4 h5 h6
   ·rw [kA]at h5;cases h5;have:=rD i e L k1 h4 (At h3);simp only;omega
  ·rw [kA]at h4;cases h4
   rcases hold j f h2 with⟨k3,k4⟩|⟨rfl,rfl⟩
   ·rw [hG j k4]at h5;have:=rD j f M k3 h5 h6;simp only;omega
   ·exact absurd rfl jV
 ·obtain⟨F,hF⟩:=A.pre;exact⟨F++[some ⟨g,[],[],t⟩],by rw [hF,List.append_assoc]⟩
 ·intro i e L h1 h2 h3
  rcases hold i e h1 with⟨k1,k2⟩|⟨rfl,rfl⟩
  ·rw [hG i k2]at h3;exact A.own i e L k1 h2 h3
  ·rw [kA]at h3;cases h3;right;simp only;rw [hg];exact A.mix.size
theorem Sy.turn (A:Sy n T H ks G0 w0 G a w){i:Nat}{cs cs':List SV}{L:Loc}{vs':List Value}(hi:H[i]?=some (some (.blk cs)))(hL:G[i]?=some (some L))(hu:S5 L.b w w')(hv:AE G cs'=some vs')(hb:DR w' L.b (L.pre++vs'++L.post).toArray L.t):
  Sy n T (Br H i (some (.blk cs'))) ks G0 w0 G a w':=by
 have kW:i<H.length:=(List.getElem?_eq_some_iff.1 hi).1
 have hold:∀(j:Nat) (e:A6),(Br H i (some (.blk cs')))[j]?=some (some e)→(j≠i∧H[j]?=some (some e))∨(j=i∧e=.blk cs'):=by
  intro j e h
  rw [Ag]at h
  by_cases hj:j=i
  ·subst hj;rw [List.getElem?_set_self kW]at h;cases h;exact .inr ⟨rfl,rfl⟩
  ·rw [List.getElem?_set_ne (Ne.symm hj)]at h;exact .inl ⟨hj,h⟩
 refine⟨A.size,A.defers,A.get,⟨by rw [Ag];simpa using A.mem.len,?_,?_⟩,A.pre,?_,A.mix.upd hu (A.own i _ L hi rfl hL)⟩
 ·intro j e h
  rcases hold j e h with⟨k1,k2⟩|⟨rfl,rfl⟩
  ·refine(A.mem.ent j e k2).mix hu.mix fun jF M hM=>?_
   have tD:G[j]?=some (some M):=by
    cases hq:G[j]? with
    |none=>rw [hq]at hM;cases hM
    |some p=>rw [hq]at hM;simp at hM;rw [hM]
   have:=A.mem.sep i j _ e L M (Ne.symm k1) hi k2 rfl hL tD jF
   simp;exact fun e=>this e.symm
  ·rw [hL];exact⟨L,vs',rfl,hv,hb⟩
 ·intro j k e f M N kQ h1 h2 h3 h4 h5 h6
  have a1:∃e',H[j]?=some (some e')∧e'.mut=e.mut:=by
   rcases hold j e h1 with⟨_,k2⟩|⟨rfl,rfl⟩
   ·exact⟨e,k2,rfl⟩
   ·exact⟨_,hi,rfl⟩
  have a2:∃e',H[k]?=some (some e')∧¬e'.empty:=by
   rcases hold k f h2 with⟨_,k2⟩|⟨rfl,rfl⟩
   ·exact⟨f,k2,h6⟩
   ·exact⟨_,hi,fun h=>h⟩
  obtain⟨e',b1,b2⟩:=a1
  obtain⟨f',b3,b4⟩:=a2
  exact A.mem.sep j k e' f' M N kQ b1 b3 (by rw [b2];exact h3) h4 h5 b4
 ·intro j e M h1 h2 h3
  rcases hold j e h1 with⟨_,k2⟩|⟨rfl,rfl⟩
  ·exact A.own j e M k2 h2 h3
  ·exact A.own j _ M hi rfl h3
theorem An {gd:Option (Nat×Bool)}(A:Sy n T H ks G0 w0 G a w)(h:iY ops T o.guard=some .run):Region.wanted o (yielded ops a.tmps)=true:=by
 unfold iY at h
 split at h
 ·next hg=>exact wn hg
 ·next j c hg=>
  split at h
  ·next t ht=>
   split at h
   ·next hx=>cases c with
    |true=>have:=A.get t _ hx;simp only [den,Option.some.injEq]at this;exact wy hg ht this.symm
    |false=>cases h
   ·next hx=>cases c with
    |true=>cases h
    |false=>have:=A.get t _ hx;simp only [den,Option.some.injEq]at this;exact wy hg ht this.symm
   ·cases h
   ·split at h<;>(cases c<;>cases h)
   ·cases h
   ·cases h
  ·cases h
theorem GW (A:Sy n T H ks G0 w0 G a w){t:Nat}{g:Bool}{x:SV}{v:Value}(h:look T t=some (.opt g x))(hx:∀G,den G x=some v):a.tmps.getD t undef=bif g then v else undef:=by
 have:=A.get t _ h
 unfold den at this
 rw [hx G]at this
 exact(Option.some.inj this).symm
theorem Nt (A:Sy n T H ks G0 w0 G a w)(h:iY ops T o.guard=some .skip):Region.wanted o (yielded ops a.tmps)=false:=by
 unfold iY at h
 split at h
 ·cases h
 ·next j c hg=>
  split at h
  ·next t ht=>
   split at h
   ·next hx=>cases c with
    |true=>cases h
    |false=>have:=A.get t _ hx;simp only [den,Option.some.injEq]at this;exact P7 hg ht (.inl this.symm)
   ·next hx=>cases c with
    |true=>have:=A.get t _ hx;simp only [den,Option.some.injEq]at this;exact P7 hg ht (.inl this.symm)
    |false=>cases h
   ·cases h
   ·next g x hx=>
    split at h
    ·cases c with
     |true=>cases h
     |false=>
      have:=GW A hx (v:=.bool true) (fun _=>rfl)
      cases g with
      |true=>exact P7 hg ht (.inl this)
      |false=>exact P7 hg ht (.inr this)
    ·cases c with
     |true=>
      have:=GW A hx (v:=.bool false) (fun _=>rfl)
      cases g with
      |true=>exact P7 hg ht (.inl this)
      |false=>exact P7 hg ht (.inr this)
     |false=>cases h
    ·cases h
    ·cases h
   ·next hx=>have:=A.get t _ hx;simp [den,AE]at this;exact P7 hg ht (.inr (by rw [Array.getD_eq_getD_getElem?,←this];rfl))
   ·cases h
  ·cases h
theorem Mi {b:Bool}(A:Sy n T H ks G0 w0 G a w)(h:iY ops T o.guard=some (.sym b)):Region.wanted o (yielded ops a.tmps)=b:=by
 unfold iY at h
 split at h
 ·cases h
 ·next j c hg=>
  split at h
  ·next t ht=>
   split at h
   ·cases c<;>cases h
   ·cases c<;>cases h
   ·next p hx=>
    cases h
    have:=A.get t _ hx
    simp only [den,Option.some.injEq]at this
    cases p<;>cases c<;>first|exact wy hg ht this.symm|exact P7 hg ht (.inl this.symm)
   ·next g x hx=>
    split at h
    ·cases c with
     |true=>
      cases h
      have:=GW A hx (v:=.bool true) (fun _=>rfl)
      cases b with
      |true=>exact wy hg ht this
      |false=>exact P7 hg ht (.inr this)
     |false=>cases h
    ·cases c with
     |true=>cases h
     |false=>
      cases h
      have:=GW A hx (v:=.bool false) (fun _=>rfl)
      cases b with
      |true=>exact wy hg ht this
      |false=>exact P7 hg ht (.inr this)
    ·next p=>
     cases h
     have:=GW A hx (v:=.bool p) (fun _=>rfl)
     cases g with
     |true=>cases p<;>cases c<;>first|exact wy hg ht this|exact P7 hg ht (.inl this)
     |false=>exact P7 hg ht (.inr this)
    ·cases h
   ·cases h
   ·cases h
  ·cases h
theorem LX {s:Nat}:∀(ps:List (Nat×Value)) (k:Nat) (Z:Array Value),(∀j x,ps[j]?=some x→x.1=k+j∧x.2.cells.size=s)→Z.size=(k+ps.length)*s→
  Instr.fill (fun j=>some (j*s,s)) Z ps=some (Z.toList.take (k*s)++(ps.map (·.2.cells.toList)).flatten).toArray
 | [],k,Z,_,hZ=>by
  simp only [Instr.fill,List.map_nil,List.flatten_nil,List.append_nil]
  congr 1
  rw [List.take_of_length_le (by simp at hZ⊢;omega)]
 | (i,v)::ps,k,Z,h,hZ=>by
  obtain⟨h1,h2⟩:=h 0 (i,v) rfl
  simp only [Nat.add_zero]at h1
  subst h1
  have h2:v.cells.size=s:=h2
  simp only [List.length_cons]at hZ
  have yO:Z.size=(i+1+ps.length)*s:=by rw [hZ];congr 1;omega
  have hmul:(i+1+ps.length)*s=i*s+s+ps.length*s:=by simp [Nat.add_mul]
  rw [Instr.fill]
  simp only
  have hf:=GV (i*s) v.cells.toList 0 Z (by simp;omega)
  rw [if_neg (by simp [h2];omega)]
  have hs:(v.cells.zipIdx.foldl (fun cs (x:Value×Nat)=>cs.setIfInBounds (i*s+x.2) x.1) Z)=(Z.toList.take (i*s)++v.cells.toList++Z.toList.drop (i*s+s)).toArray:=by
   apply Array.ext'
   rw [←Array.foldl_toList,Array.toList_zipIdx]
   simpa [h2]using hf
  erw [hs]
  rw [LX ps (i+1) _ (fun j x hj=>by
   have:=h (j+1) x hj
   exact⟨by omega,this.2⟩) (by simp [h2];omega)]
  congr 2
  simp only [List.map_cons,List.flatten_cons,Nat.add_mul,Nat.one_mul]
  have hl:(Z.toList.take (i*s)++v.cells.toList).length=i*s+s:=by simp [h2];omega
  rw [List.take_append_of_le_length (by omega),List.take_of_length_le (by omega)]
  simp
theorem LY (A:Sy n T H ks G0 w0 G a w){s:Nat}:∀{l:List (Nat×Operand)} {k:Nat} {cs:List SV},TM T s l k=some cs→∃vs:List (Nat×Value),l.map (fun x=>(x.1,a.eval x.2))=vs∧(∀j x,vs[j]?=some x→x.1=k+j∧x.2.cells.size=s)∧AE G cs=some ((vs.map (·.2.cells.toList)).flatten)
 | [],k,cs,h=>by cases h;exact⟨[],rfl,fun j x h=>(by cases h),rfl⟩
 | (i, x)::l,k,cs,h=>by
  unfold TM at h
  cases hb:Nat.beq i k with
  |false=>rw [hb]at h;cases h
  | true=>
   rw [hb]at h
   simp only [cond_true]at h
   have:=Nat.eq_of_beq_eq_true hb
   subst this
   split at h
   ·next y r hy hr=>
    split at h
    ·next c hc=>
     cases n5:Nat.beq c.length s with
     |false=>rw [n5]at h;cases h
     | true=>
      rw [n5]at h
      cases h
      obtain⟨v,h1,h2⟩:=A.evx hy
      have hv:=h2 iT (fun g hg=>by cases hg)
      obtain⟨vs,e1,e2,e3⟩:=LY A hr
      have jP:=Dp hc h1
      have n6:=Av jP
      refine⟨(i,v)::vs,by simp [hv,e1],fun j x hj=>?_,?_⟩
      ·cases j with
       |zero=>cases hj;exact⟨by simp,by simpa [Nat.eq_of_beq_eq_true n5]using n6⟩
       |succ j=>have:=e2 j x hj;exact⟨by omega,this.2⟩
      ·simpa using B9 jP e3
    ·cases h
   ·cases h
theorem IQ (hX:X.ok P=true) (A:Sy n T H ks G0 w0 G a w) {gc:Option Bool} {t:TypeId} {en:A6} {x:SV} (h:QO X T H gc o.op=some (.new t en x)) (sN:Region.wanted o (yielded ops a.tmps)=true) {K:Value→World→Prop}
  (hK:∀g w' v,g=w.heap.size→BW w w'→Ae G w' (some ⟨g,[],[],t⟩) en→en.mut=true→den (G++[some ⟨g,[],[],t⟩]) x=some v→K v w'):BG P ops o a w K:=by
 have mH:∀g,(G++[some (⟨g,[],[],t⟩:Loc)])[H.length]?=some (some ⟨g,[],[],t⟩):=fun g=>by rw [List.getElem?_append_right (by rw [A.mem.len];exact Nat.le_refl _),A.mem.len];simp
 have rE:∀g,den (G++[some ⟨g,[],[],t⟩]) (.ptr H.length 0)=some (.pointer (some ⟨g,0,none⟩)):=fun g=>by unfold den;rw [mH g];simp [rm]
 have lJ:∀{g w' cs} {vs:List Value},AE G cs=some vs→DR w' g vs.toArray t→Ae G w' (some ⟨g,[],[],t⟩) (.blk cs):=fun hv hb=>⟨_,_,rfl,hv,by simpa using hb⟩
 obtain⟨d,i,ty,pos,af,gd⟩:=o
 simp only at h
 unfold QO at h
 split at h
 all_goals first|((repeat' (split at h))<;>(cases h;done))|skip
 ·next e=>
  split at h
  ·split at h
   ·next j hj=>
    split at h
    ·next z hz=>
     cases h
     obtain⟨zv,m,h1,h2⟩:=KZ (Tb.at hX hj) hz
     exact S6 sN h1 fun g w' a1 a2 a3=>hK g w' _ a1 a2 (lJ (h2 G) (by simpa using a3)) rfl (rE g)
    ·cases h
   ·cases h
  ·cases h
 ·next e x=>
  split at h
  ·split at h
   ·next y hy=>
    split at h
    ·next l hl=>
     cases h
     obtain⟨v,h1,h2⟩:=A.evx hy
     exact Yg sN (h2 iT (fun g hg=>by cases hg)) fun g w' a1 a2 a3=>hK g w' _ a1 a2 (lJ (Dp hl h1) (by simpa using a3)) rfl (rE g)
    ·cases h
   ·cases h
  ·cases h
 ·next ts m parts=>
  split at h
  ·split at h
   ·next i cs' hi lT=>
    split at h
    ·next e s bb he=>
     split at h
     ·next hb=>
      rw [Bool.and_eq_true]at hb
      have hm:=Nat.eq_of_beq_eq_true hb.1
      have pJ:=Nat.le_of_ble_eq_true hb.2
      simp only [hi,he,Option.elim_some]at lT
      obtain⟨vs,e1,e2,e3⟩:=LY A lT
      have mI:=Ct (Tb.at hX hi) he
      obtain⟨ie,z,f1,f2,f3,f4,f5,f6,f7⟩:=CX mI
      split at h
      ·next ie' vC=>
       split at h
       ·next zz yP=>
        split at h
        ·next mD=>
         cases h
         rw [Bool.and_eq_true]at mD
         have hp:parts= #[]:=by
          have:parts.toList=[]:=List.eq_nil_of_length_eq_zero hm
          have:=congrArg List.toArray this
          simpa using this
         subst hp
         obtain⟨us,u1,u2⟩:=Nq mD.2
         have yQ:=Nat.eq_of_beq_eq_true mD.1
         refine V7 sN mI fun g w' a1 a2 a3=>hK g w' _ a1 a2 ⟨fun _=>⟨us,u1,by omega⟩,fun L hL=>(by cases hL;rfl),[],rfl,by simp,.inr ⟨g,0, #[],rfl,Nat.zero_le _,a3,Nat.le_refl _,by simp [maxLen],by simp,by simp⟩⟩ rfl ?_
         unfold den;rw [mH g];simp [rm]
        ·cases h
       ·cases h
      ·cases h
      ·next m'=>
       cases h
       have nT:∀g,den (G++[some ⟨g,[],[],t⟩]) (.sl H.length (m'+1) (m'+1))=some (.slice (some ⟨g,0,none⟩) (m'+1) (m'+1)):=fun g=>by unfold den;rw [mH g];simp [rm]
       refine AR (w':=w.alloc (.cells ((vs.map fun x:Nat×Value=>x.2.cells.toList).flatten).toArray t)) sN ?_ (hK _ _ _ rfl ((BW.refl _).alloc _) (lJ e3 (heap_alloc_last w _)) rfl (nT _))
       have rC:vs.length=m'+1:=by rw [←e1];simpa using hm
       have pJ:(m'+1)*s≤4000:=pJ
       have rF:=LX (s:=s) vs 0 ((Array.range ((m'+1)*s)).map (z.cells[· % z.cells.size]!)) e2 (by simp [rC])
       have hr:=run_buildSlice (P:=P) w ts t (m'+1) vs.toArray ((vs.map (·.2.cells.toList)).flatten).toArray ie z f1 f2 f3 (by rw [f4];omega) (by rw [f4];simp only [Nat.mul_eq_zero];omega) (by rw [f4];simpa using rF)
       have j6:(parts.map fun x=>(x.1,a.eval x.2))=vs.toArray:=by
        apply Array.ext'
        simpa using e1
       unfold execOp
       simp only [Sem.run_bind]
       erw [j6,hr]
       simp only [Result.andThen_ok,Sem.run_pure]
     ·cases h
    ·cases h
   ·cases h
  ·cases h
theorem DF (hX:X.ok P=true) (A:Sy n T H ks G0 w0 G a w) {t:TypeId} {x y:Operand} {u v:SV} {p q:Value} {i:Nat} {cs':List SV} {D:Ob} {d:Option Tmp} {ty:TypeId} {pos:String} {af:Array Edge} {gd:Option (Nat×Bool)}
  (h:Cu X H t u v=some (i,cs',D)) (hD:Cz D) (hu:den G u=some p) (hv:den G v=some q) (hx:a.eval x=p) (hy:a.eval y=q) (hw:Region.wanted {dst:=d,op:=.store t x y,type:=ty,pos:=pos,after:=af,guard:=gd} (yielded ops a.tmps)=true) {K:Value→World→Prop}
  (hK:∀cs L vs' w',H[i]?=some (some (.blk cs))→G[i]?=some (some L)→S5 L.b w w'→AE G cs'=some vs'→DR w' L.b (L.pre++vs'++L.post).toArray L.t→K undef w'):BG P ops {dst:=d,op:=.store t x y,type:=ty,pos:=pos,after:=af,guard:=gd} a w K:=by
 unfold Cu at h
 split at h
 ·next i' o=>
  split at h
  ·next cs hi=>
   rw [Ah]at hi
   obtain⟨L,vs,e1,e2,e3⟩:=A.mem.ent i' _ hi
   have hG:G[i']?=some (some L):=by
    cases hq:G[i']? with
    |none=>rw [hq]at e1;cases e1
    |some r=>rw [hq]at e1;simp at e1;rw [e1]
   have hp:p=.pointer (some ⟨L.b,L.pre.length+o,none⟩):=by
    unfold den at hu;rw [hG]at hu;exact(Option.some.inj hu).symm
   have rC:=Av e2
   have key:∀(l:List SV) (us:List Value),sp o cs l=some cs'→AE G l=some us→us.all (·.oneCell')=true→i'=i→
     (∀w',(w'=w.setCells L.b (L.pre.length+o) us)→(Instr.storeAt t p q).run P w=.ok () w')→BG P ops {dst:=d,op:=.store t x y,type:=ty,pos:=pos,after:=af,guard:=gd} a w K:=by
    intro l us hs hl jD he mF
    subst he
    obtain⟨f1,f2⟩:=Ht hs
    have oQ:=Av hl
    have n0:AE G cs'=some (vs.take o++us++vs.drop (o+l.length)):=by
     rw [f1];exact B9 (B9 (Bo o e2) hl) (Bp _ e2)
    have kI:L.pre++vs++L.post=(L.pre++vs.take o)++((vs.drop o).take l.length)++(vs.drop (o+l.length)++L.post):=by
     have:vs=vs.take o++((vs.drop o).take l.length++vs.drop (o+l.length)):=by
      rw [←List.drop_drop,List.take_append_drop,List.take_append_drop]
     conv=>lhs;rw [this]
     simp [List.append_assoc]
    rw [kI]at e3
    have rG:(L.pre++vs.take o).length=L.pre.length+o:=by simp;omega
    obtain⟨g1,g2⟩:=HO us ((vs.drop o).take l.length) (L.pre++vs.take o) (vs.drop (o+l.length)++L.post) w (by simp;omega) e3
    rw [rG]at g1 g2
    refine Jq (w':=w.setCells L.b (L.pre.length+o) us) hw ?_ (hK cs L _ _ hi hG g2 n0 (by simpa [List.append_assoc]using g1))
    unfold execOp
    simp only [hx,hy,Sem.run_bind,mF _ rfl,Result.andThen_ok,Sem.run_pure]
   have j7:∀j,j<vs.length→(w.cell? ⟨L.b,L.pre.length+j,none⟩).isSome=true∧w.frozen? ⟨L.b,L.pre.length+j,none⟩=false:=by
    intro j hj
    refine⟨?_,e3.frozen _⟩
    have:(L.pre++vs++L.post).toArray[L.pre.length+j]?=some vs[j]:=by
     simp only [List.getElem?_toArray]
     rw [List.append_assoc,List.getElem?_append_right (by omega),List.getElem?_append_left (by omega)]
     simp [hj]
    rw [e3.cell this];rfl
   split at h
   ·next f hf=>
    have ht:=Tb.at hX hf
    split at h
    ·next m hm=>
     split at h
     ·next l=>
      cases hb:Nat.beq l.length m with
      |false=>rw [hb]at h;cases h
      | true=>
       rw [hb]at h
       simp only [cond_true]at h
       have vD:=Nat.eq_of_beq_eq_true hb
       split at h
       ·next r E hs ho=>
        cases h
        unfold den at hv
        obtain⟨us,k1,k2⟩:=Option.map_eq_some_iff.1 hv
        have jD:=CI ho hD k1
        have vE:=Av k1
        obtain⟨f1,f2⟩:=Ht hs
        refine key l us hs k1 jD rfl fun w' rH=>?_
        rw [hp,←k2,rH]
        have:=run_storeAt_mid (P:=P) w L.b (L.pre.length+o) t us.toArray (fun j hj=>by
         have:=j7 (o+j) (by simp at hj;omega)
         rwa [←Nat.add_assoc]at this) (by simp;rw [vE,vD];simpa using (Dl (HN ht hm)).2) (by simpa using jD)
        simpa using this
       ·cases h
     ·cases h
    ·next hm=>
     cases jD:f.one with
     |false=>rw [jD]at h;cases h
     | true=>
      rw [jD]at h
      simp only [cond_true]at h
      split at h
      ·next r E hs ho=>
       cases h
       have k1:AE G [v]=some [q]:=Az hv rfl
       have qR:=CI ho hD k1
       obtain⟨f1,f2⟩:=Ht hs
       refine key [v] [q] hs k1 qR rfl fun w' rH=>?_
       rw [hp,rH]
       have:=MZ (P:=P) (v:=q) (k:=L.pre.length+o) (HM ht jD) (by simpa using qR) e3 (by simp at f2⊢;omega)
       simpa [World.setCells]using this
      ·cases h
   ·cases h
  ·cases h
 ·cases h
theorem Nu (hX:X.ok P=true) (A:Sy n T H ks G0 w0 G a w) {gc:Option Bool} {i:Nat} {cs':List SV} {E:Ob} (h:QO X T H gc o.op=some (.upd i cs' E)) (hE:Cz E) (hw:Region.wanted o (yielded ops a.tmps)=true) {K:Value→World→Prop}
  (hK:∀cs L vs' w',H[i]?=some (some (.blk cs))→G[i]?=some (some L)→S5 L.b w w'→AE G cs'=some vs'→DR w' L.b (L.pre++vs'++L.post).toArray L.t→K undef w'):BG P ops o a w K:=by
 obtain⟨d,j,ty,pos,af,gd⟩:=o
 simp only at h
 unfold QO at h
 split at h
 all_goals first|((repeat' (split at h))<;>(cases h;done))|skip
 next t x y=>
 split at h
 ·split at h
  ·next u E1 v E2 hx hy=>
   split at h
   ·next i2 cs2 D hs=>
    cases h
    obtain⟨e1,e2⟩:=AQ hE
    obtain⟨e3,e4⟩:=AQ e2
    have vF:IE none:=fun g hg=>by cases hg
    obtain⟨p,h1,h2⟩:=A.evx hx
    obtain⟨q,h3,h4⟩:=A.evx hy
    exact DF hX A hs e4 h1 h3 (h2 e1 vF) (h4 e3 vF) hw hK
   ·cases h
  ·cases h
 ·cases h
theorem QR (hX:X.ok P=true) (A:Sy n T H ks G0 w0 G a w) {out:Out} (h:Cj X n ops T H o=some out) (hE:Cz (LW out))
  (hk:∀G' a' w',Sy n (O1 T H o.dst out) (Jd H out) ks G0 w0 G' a' w'→wpList P ops Q rest a' w'):wpList P ops Q (o::rest) a w:=by
 unfold Cj at h
 have tE:IE none:=fun g hg=>by cases hg
 split at h
 ·next hd=>
  split at h
  ·next hg=>
   have hw:=An (gd:=none) A hg
   cases out with
   |val x E=>
    obtain⟨z,hz,k⟩:=IP (P:=P) (ops:=ops) hX A h
    exact CJ (k hE tE hw _ (hk _ _ _ (A.put hd hz)))
   |new t en x=>
    exact CJ (IQ (P:=P) (ops:=ops) hX A h hw fun g w' v a1 a2 a3 a4 a5=>hk (G++[some (⟨g,[],[],t⟩:Loc)]) _ _ (Sy.put (A.newBlk a1 a2 a3 a4) hd a5))
   |upd i cs E=>
    refine CJ (Nu hX A h hE hw fun cs0 L vs' w' a1 a2 a3 a4 a5=>hk _ _ _ (Sy.put (A.turn a1 a2 a3 a4 a5) hd rfl))
  ·next hg=>
   cases h
   exact CJ (EL (Nt A hg) (hk _ _ _ (A.put hd rfl)))
  ·next b hg=>
   split at h
   ·next x E hx=>
    cases h
    have hw:=Mi A hg
    obtain⟨z,hz,k⟩:=IP (P:=P) (ops:=ops) hX A hx
    cases b with
    |true=>exact CJ (k hE (fun g hg=>by cases hg;rfl) hw _ (hk _ _ _ (A.put hd (x:=.opt true x) (by simp [den,hz]))))
    |false=>exact CJ (EL hw (hk _ _ _ (A.put hd (x:=.opt false x) (by simp [den,hz]))))
   ·cases h
  ·cases h
 ·cases h
end
inductive Fr where
 |thn (c:Code)
 |blk (id:Nat)
 |lp (I:Act→World→Prop)
def Fa (P:Program)(Q:Exit→Act→World→Prop):List Fr→Exit→Act→World→Prop
 | []=>Q
 | .thn c::K=>Exit.then (c.wp P (Fa P Q K)) (Fa P Q K)
 | .blk id::K=>Exit.inBlock id (Fa P Q K)
 | .lp I::K=>Exit.then I (Fa P Q K)
inductive Pos where
 |ops (all:Array Oper) (l:List Oper)
 |code (c:Code)
 |norm
 |ret
def Goal (P:Program)(Q:Exit→Act→World→Prop)(K:List Fr):Pos→Act→World→Prop
 | .ops all l=>wpList P all (Fa P Q K) l
 | .code c=>c.wp P (Fa P Q K)
 | .norm=>Fa P Q K .normal
 | .ret=>Q .ret
def Ip (id:Nat):List Fr→Option (List Fr)
 | []=>none
 | .blk j::K=>bif Nat.beq id j then some K else Ip id K
 | .thn _::K=>Ip id K
 | .lp _::K=>Ip id K
theorem GX {P:Program}{Q:Exit→Act→World→Prop}{id:Nat}{a:Act}{w:World}:∀{K K':List Fr},Ip id K=some K'→Fa P Q K' .normal a w→Fa P Q K (.exit id) a w
 | [],K',h,_=>by cases h
 | .blk j::K,K',h,hk=>by
  unfold Ip at h
  cases hb:Nat.beq id j with
  |true=>
   rw [hb]at h;cases h
   have:=Nat.eq_of_beq_eq_true hb
   subst this
   exact V5 hk
  |false=>
   rw [hb]at h
   exact V6 (fun e=>by subst e;simp at hb) (GX h hk)
 | .thn c::K,K',h,hk=>QD (GX (K:=K) h hk)
 | .lp I::K,K',h,hk=>QD (GX (K:=K) h hk)
theorem GY {P:Program}{Q:Exit→Act→World→Prop}{a:Act}{w:World}:∀{K:List Fr},Q .ret a w→Fa P Q K .ret a w
 | [],h=>h
 | .blk j::K,h=>Yh (GY (K:=K) h)
 | .thn c::K,h=>Uu (GY (K:=K) h)
 | .lp I::K,h=>Uu (GY (K:=K) h)
structure TO where
 T:List (Nat×SV)
 H:Hp
 K:List Fr
 pos:Pos
 E:Ob
def TO.more (E:Ob):TO→TO
 |⟨T,H,K,pos,F⟩=>⟨T,H,K,pos,E++F⟩
def go (X:Tx)(n:Nat):Nat→List (Nat×SV)→Hp→List Fr→Pos→TO
 |0,T,H,K,pos=>⟨T,H,K,pos,[]⟩
 |f+1,T,H,K,.ops all []=>go X n f T H K .norm
 | f+1,T,H,K,.ops all (o::l)=>match Cj X n all T H o with
  |some out=>match LW out with
   | []=>go X n f (O1 T H o.dst out) (Jd H out) K (.ops all l)
   |E=>(go X n f (O1 T H o.dst out) (Jd H out) K (.ops all l)).more E
  |none=>⟨T,H,K,.ops all (o::l),[]⟩
 |f+1,T,H,[],.norm=>⟨T,H,[],.norm,[]⟩
 |f+1,T,H,.thn c::K,.norm=>go X n f T H K (.code c)
 |f+1,T,H,.blk _::K,.norm=>go X n f T H K .norm
 |f+1,T,H,.lp I::K,.norm=>⟨T,H,.lp I::K,.norm,[]⟩
 |f+1,T,H,K,.ret=>⟨T,H,K,.ret,[]⟩
 | f+1,T,H,K,.code c=>match c with
  | .skip=>go X n f T H K .norm
  | .label _=>go X n f T H K .norm
  | .seq a b=>go X n f T H (.thn b::K) (.code a)
  | .region _ ops false=>go X n f T H K (.ops ops ops.toList)
  | .cond x a b=>match jR T x with
   |some .tt=>go X n f T H K (.code a)
   |some .ff=>go X n f T H K (.code b)
   |_=>⟨T,H,K,.code c,[]⟩
  | .block id b=>go X n f T H (.blk id::K) (.code b)
  | .exit id=>match Ip id K with
   |some K'=>go X n f T H K' .norm
   |none=>⟨T,H,K,.code c,[]⟩
  | .ret=>⟨T,H,K,.ret,[]⟩
  |_=>⟨T,H,K,.code c,[]⟩
section
variable {P:Program}{X:Tx}{n:Nat}{ks:List Nat}{G0:Gr}{w0:World}{Q:Exit→Act→World→Prop}
def gE (P:Program)(Q:Exit→Act→World→Prop)(n:Nat)(ks:List Nat)(G0:Gr)(w0:World)(T:List (Nat×SV))(H:Hp)(K:List Fr)(pos:Pos):Prop:=∀G a w,Sy n T H ks G0 w0 G a w→Goal P Q K pos a w
theorem C5 (hX:X.ok P=true):∀(f:Nat) (T:List (Nat×SV)) (H:Hp) (K:List Fr) (pos:Pos),Cz (go X n f T H K pos).E→gE P Q n ks G0 w0 (go X n f T H K pos).T (go X n f T H K pos).H (go X n f T H K pos).K (go X n f T H K pos).pos→gE P Q n ks G0 w0 T H K pos
 |0,T,H,K,pos,_,h=>h
 |f+1,T,H,K,.ops all [],hE,h=>by
  unfold go at hE h
  have:=C5 hX f T H K .norm hE h
  exact fun G a w A=>Yf (P:=P) (ops:=all) (this G a w A)
 | f+1,T,H,K,.ops all (o::l),hE,h=>by
  unfold go at hE h
  cases hs:Cj X n all T H o with
  |none=>rw [hs]at h;exact h
  | some out=>
   simp only [hs]at hE h
   cases ho:LW out with
   |nil=>
    simp only [ho]at hE h
    have:=C5 hX f _ _ K (.ops all l) hE h
    exact fun G a w A=>QR hX A hs (by rw [ho];rfl) fun G' a' w' A'=>this G' a' w' A'
   |cons e E=>
    simp only [ho,TO.more]at hE h
    have vG:=AQ hE
    have:=C5 hX f _ _ K (.ops all l) vG.2 h
    exact fun G a w A=>QR hX A hs (by rw [ho];exact vG.1) fun G' a' w' A'=>this G' a' w' A'
 |f+1,T,H,[],.norm,_,h=>h
 |f+1,T,H,.thn c::K,.norm,hE,h=>by
  unfold go at hE h
  exact fun G a w A=>V3 (Q:=Fa P Q K) (C5 hX f T H K (.code c) hE h G a w A)
 |f+1,T,H,.blk id::K,.norm,hE,h=>by
  unfold go at hE h
  exact fun G a w A=>V4 (id:=id) (Q:=Fa P Q K) (C5 hX f T H K .norm hE h G a w A)
 |f+1,T,H,.lp I::K,.norm,_,h=>h
 |f+1,T,H,K,.ret,_,h=>by cases K<;>exact h
 | f+1,T,H,K,.code c,hE,h=>by
  unfold go at hE h
  cases c with
  |skip=>exact fun G a w A=>wp_skip (C5 hX f T H K .norm hE h G a w A)
  |label l=>exact fun G a w A=>wp_label (C5 hX f T H K .norm hE h G a w A)
  |seq x y=>exact fun G a w A=>wp_seq (C5 hX f T H (.thn y::K) (.code x) hE h G a w A)
  |region id ops dr=>
   cases dr with
   |false=>exact fun G a w A=>wp_region_list (C5 hX f T H K (.ops ops ops.toList) hE h G a w A)
   |true=>exact h
  |cond x y z=>
   simp only at hE h
   split at h
   ·next hx=>rw [hx]at hE;exact fun G a w A=>wp_cond_true (by have:=A.ev hx;simp only [den,Option.some.injEq]at this;exact this.symm) (C5 hX f T H K (.code y) hE h G a w A)
   ·next hx=>rw [hx]at hE;exact fun G a w A=>wp_cond_false (by have:=A.ev hx;simp only [den,Option.some.injEq]at this;exact this.symm) (C5 hX f T H K (.code z) hE h G a w A)
   ·exact h
  |block id b=>exact fun G a w A=>wp_block (C5 hX f T H (.blk id::K) (.code b) hE h G a w A)
  |exit id=>
   simp only at hE h
   split at h
   ·next K' hK=>rw [hK]at hE;exact fun G a w A=>wp_exit (GX hK (C5 hX f T H K' .norm hE h G a w A))
   ·exact h
  |ret=>exact fun G a w A=>wp_ret (GY (h G a w A))
  |_=>exact h
end
def li {α:Type}(n i:Nat)(k:Nat→α)(e:α):α:=bif Nat.beq n i then k i else e
theorem Yy {α:Type}(n i:Nat)(k:Nat→α):li n i k (k n)=k n:=by
 unfold li
 cases h:Nat.beq n i with
 |true=>rw [Nat.eq_of_beq_eq_true h];rfl
 |false=>rfl
def lit {α:Type}(n:Nat)(k:Nat→α):α:=li n 0 k (li n 1 k (li n 2 k (li n 3 k (li n 4 k (li n 5 k (li n 6 k (li n 7 k (li n 8 k (li n 9 k (li n 10 k (li n 11 k (li n 12 k (li n 13 k (li n 14 k (li n 15 k (li n 16 k (li n 17 k (li n 18 k (li n 19 k (li n 20 k (li n 21 k (li n 22 k (li n 23 k (li n 24 k (li n 25 k (li n 26 k (li n 27 k (k n))))))))))))))))))))))))))))
theorem Kc {α:Type}(n:Nat)(k:Nat→α):lit n k=k n:=by simp only [lit,Yy]
mutual
def LZ {α:Type}:SV→(SV→α)→α
 | .agg l,k=>TP l fun l=>k (.agg l)
 | .tup l,k=>TP l fun l=>k (.tup l)
 | .fn f l,k=>TP l fun l=>k (.fn f l)
 | .opt b x,k=>LZ x fun x=>k (.opt b x)
 | .ptr i o,k=>lit i fun i=>k (.ptr i o)
 | .sl i n c,k=>lit i fun i=>k (.sl i n c)
 | .el i s j o,k=>lit i fun i=>k (.el i s j o)
 | .ix p s n j o,k=>LZ p fun p=>k (.ix p s n j o)
 | .sla a n c,k=>k (.sla a n c)
 | .sp p n c,k=>LZ p fun p=>k (.sp p n c)
 | .st i s j n c,k=>lit i fun i=>k (.st i s j n c)
 | .int i n,k=>k (.int i n)
 | .bool b,k=>k (.bool b)
 | .tt,k=>k .tt
 | .ff,k=>k .ff
 | .str l,k=>k (.str l)
 | .v x,k=>k (.v x)
def TP {α:Type}:List SV→(List SV→α)→α
 | [],k=>k []
 |x::l,k=>LZ x fun x=>TP l fun l=>k (x::l)
end
mutual
theorem HT {α:Type}:∀(x:SV) (k:SV→α),LZ x k=k x
 | .agg l,k=>by rw [LZ,F8 l]
 | .tup l,k=>by rw [LZ,F8 l]
 | .fn f l,k=>by rw [LZ,F8 l]
 | .opt b x,k=>by rw [LZ,HT x]
 | .ptr _ _,_=>by rw [LZ,Kc]
 | .sl _ _ _,_=>by rw [LZ,Kc]
 | .el _ _ _ _,_=>by rw [LZ,Kc]
 | .ix p _ _ _ _,_=>by rw [LZ,HT p]
 | .sla _ _ _,_=>rfl
 | .sp p _ _,_=>by rw [LZ,HT p]
 | .st _ _ _ _ _,_=>by rw [LZ,Kc]
 | .int _ _,_=>rfl
 | .bool _,_=>rfl
 | .tt,_=>rfl
 | .ff,_=>rfl
 | .str _,_=>rfl
 | .v _,_=>rfl
theorem F8 {α:Type}:∀(l:List SV) (k:List SV→α),TP l k=k l
 | [],_=>rfl
 |x::l,k=>by rw [TP,HT x,F8 l]
end
def O2 {α:Type}:Hp→(Hp→α)→α
 | [],k=>k []
 |none::l,k=>O2 l fun l=>k (none::l)
 |some (.blk cs)::l,k=>TP cs fun cs=>O2 l fun l=>k (some (.blk cs)::l)
 |some (.lst s n f)::l,k=>O2 l fun l=>k (some (.lst s n f)::l)
 |some (.fac b o)::l,k=>O2 l fun l=>k (some (.fac b o)::l)
 |some (.row e s n c xs)::l,k=>O2 l fun l=>k (some (.row e s n c xs)::l)
theorem F9 {α:Type}:∀(l:Hp) (k:Hp→α),O2 l k=k l
 | [],_=>rfl
 |none::l,k=>by rw [O2,F9 l]
 |some (.blk cs)::l,k=>by rw [O2,F8 cs,F9 l]
 |some (.lst s n f)::l,k=>by rw [O2,F9 l]
 |some (.fac b o)::l,k=>by rw [O2,F9 l]
 |some (.row e s n c xs)::l,k=>by rw [O2,F9 l]
def cF {α:Type}:Hp→Option A6→(Hp→α)→α
 | [],e,k=>k [e]
 |x::l,e,k=>cF l e fun l=>k (x::l)
theorem QS {α:Type}(e:Option A6):∀(l:Hp) (k:Hp→α),cF l e k=k (l++[e])
 | [],k=>rfl
 |x::l,k=>by rw [cF,QS e l];rfl
def cG {α:Type}:Hp→Nat→Option A6→(Hp→α)→α
 | [],_,_,k=>k []
 |_::l,0,e,k=>k (e::l)
 |y::l,i+1,e,k=>cG l i e fun l=>k (y::l)
theorem QT {α:Type}(e:Option A6):∀(l:Hp) (i:Nat) (k:Hp→α),cG l i e k=k (Br l i e)
 | [],_,k=>rfl
 |_::_,0,k=>rfl
 |y::l,i+1,k=>by rw [cG,QT e l];rfl
def dI {α:Type}:A6→(A6→α)→α
 | .blk cs,k=>TP cs fun cs=>k (.blk cs)
 | .lst s n f,k=>k (.lst s n f)
 | .fac b o,k=>k (.fac b o)
 | .row e s n c xs,k=>k (.row e s n c xs)
theorem WK {α:Type}:∀(e:A6) (k:A6→α),dI e k=k e
 | .blk cs,k=>by rw [dI,F8]
 | .lst _ _ _,_=>rfl
 | .fac _ _,_=>rfl
 | .row _ _ _ _ _,_=>rfl
def TQ {α:Type}(T:List (Nat×SV)):Option Nat→SV→(List (Nat×SV)→α)→α
 |some d,x,k=>k ((d,x)::T)
 |none,_,k=>k T
theorem Kd {α:Type}(T:List (Nat×SV))(d:Option Nat)(x:SV)(k:List (Nat×SV)→α):TQ T d x k=k (Ay T d x):=by cases d<;>rfl
def gF (E:Ob)(r:TO):TO:=match E with
 | []=>r
 |E=>r.more E
def JW (X:Tx)(n:Nat):Nat→List (Nat×SV)→Hp→List Fr→Pos→TO
 |0,T,H,K,pos=>⟨T,H,K,pos,[]⟩
 |f+1,T,H,K,.ops all []=>JW X n f T H K .norm
 |f+1,T,H,K,.ops all (o::l)=>match Cj X n all T H o with
  |some (.val x E)=>LZ x fun x=>TQ T o.dst x fun T=>gF E (JW X n f T H K (.ops all l))
  |some (.new t e x)=>LZ x fun x=>dI e fun e=>TQ T o.dst x fun T=>cF H (some e) fun H=>JW X n f T H K (.ops all l)
  |some (.upd i cs E)=>TP cs fun cs=>TQ T o.dst (.tup []) fun T=>cG H i (some (.blk cs)) fun H=>gF E (JW X n f T H K (.ops all l))
  |none=>⟨T,H,K,.ops all (o::l),[]⟩
 |f+1,T,H,[],.norm=>⟨T,H,[],.norm,[]⟩
 |f+1,T,H,.thn c::K,.norm=>JW X n f T H K (.code c)
 |f+1,T,H,.blk _::K,.norm=>JW X n f T H K .norm
 |f+1,T,H,.lp I::K,.norm=>⟨T,H,.lp I::K,.norm,[]⟩
 |f+1,T,H,K,.ret=>⟨T,H,K,.ret,[]⟩
 | f+1,T,H,K,.code c=>match c with
  | .skip=>JW X n f T H K .norm
  | .label _=>JW X n f T H K .norm
  | .seq a b=>JW X n f T H (.thn b::K) (.code a)
  | .region _ ops false=>JW X n f T H K (.ops ops ops.toList)
  | .cond x a b=>match jR T x with
   |some .tt=>JW X n f T H K (.code a)
   |some .ff=>JW X n f T H K (.code b)
   |_=>⟨T,H,K,.code c,[]⟩
  | .block id b=>JW X n f T H (.blk id::K) (.code b)
  | .exit id=>match Ip id K with
   |some K'=>JW X n f T H K' .norm
   |none=>⟨T,H,K,.code c,[]⟩
  | .ret=>⟨T,H,K,.ret,[]⟩
  |_=>⟨T,H,K,.code c,[]⟩
theorem C6 (X:Tx)(n:Nat):∀(f:Nat) (T:List (Nat×SV)) (H:Hp) (K:List Fr) (pos:Pos),JW X n f T H K pos=go X n f T H K pos
 |0,T,H,K,pos=>rfl
 |f+1,T,H,K,.ops all []=>by unfold JW go;exact C6 X n f _ _ _ _
 | f+1,T,H,K,.ops all (o::l)=>by
  unfold JW go
  cases Cj X n all T H o with
  |none=>rfl
  | some out=>
   cases out with
   |val x E=>
    simp only [HT,Kd,C6 X n f,O1,Jd,LW]
    cases E<;>rfl
   |new t e x=>
    simp only [HT,WK,Kd,QS,C6 X n f,O1,Jd,LW]
   |upd i cs E=>
    simp only [F8,Kd,QT,C6 X n f,O1,Jd,LW]
    cases E<;>rfl
 |f+1,T,H,[],.norm=>rfl
 |f+1,T,H,.thn c::K,.norm=>by unfold JW go;exact C6 X n f _ _ _ _
 |f+1,T,H,.blk _::K,.norm=>by unfold JW go;exact C6 X n f _ _ _ _
 |f+1,T,H,.lp I::K,.norm=>rfl
 |f+1,T,H,K,.ret=>by unfold JW go;rfl
 |f+1,T,H,K,.code c=>by
  unfold JW go
  cases c with
  |skip=>exact C6 X n f _ _ _ _
  |label _=>exact C6 X n f _ _ _ _
  |seq a b=>exact C6 X n f _ _ _ _
  |region id ops dr=>cases dr<;>first|rfl|exact C6 X n f _ _ _ _
  |cond x a b=>simp only [C6 X n f];try rfl
  |block id b=>exact C6 X n f _ _ _ _
  |exit id=>simp only [C6 X n f];try rfl
  |ret=>rfl
  |_=>rfl
def cH {α:Type}:List (Nat×SV)→(List (Nat×SV)→α)→α
 | [],k=>k []
 |x::l,k=>cH l fun l=>k (x::l)
theorem QU {α:Type}:∀(l:List (Nat×SV)) (k:List (Nat×SV)→α),cH l k=k l
 | [],_=>rfl
 |x::l,k=>by rw [cH,QU l]
def cI {α:Type}:Hp→(Hp→α)→α
 | [],k=>k []
 |x::l,k=>cI l fun l=>k (x::l)
theorem QV {α:Type}:∀(l:Hp) (k:Hp→α),cI l k=k l
 | [],_=>rfl
 |x::l,k=>by rw [cI,QV l]
def WL (X:Tx)(n f:Nat)(T:List (Nat×SV))(H:Hp)(K:List Fr)(pos:Pos):TO:=cH T fun T=>cI H fun H=>JW X n f T H K pos
theorem WM (X:Tx)(n f:Nat)(T:List (Nat×SV))(H:Hp)(K:List Fr)(pos:Pos):WL X n f T H K pos=go X n f T H K pos:=by
 unfold WL
 rw [QU,QV,C6]
section
variable {P:Program}{X:Tx}{n:Nat}{ks:List Nat}{G0:Gr}{w0:World}{Q:Exit→Act→World→Prop}{T T':List (Nat×SV)}{H H':Hp}{K K':List Fr}{pos pos':Pos}{E:Ob}{G:Gr}{a:Act}{w:World}
theorem M0 (hX:X.ok P=true)(f:Nat)(A:Sy n T H ks G0 w0 G a w)(h:WL X n f T H K pos=⟨T',H',K',pos',E⟩)(hE:Cz E)(hk:∀{G a w},Sy n T' H' ks G0 w0 G a w→Goal P Q K' pos' a w):Goal P Q K pos a w:=by
 rw [WM]at h
 have:=C5 (P:=P) (Q:=Q) (n:=n) (ks:=ks) (G0:=G0) (w0:=w0) hX f T H K pos
 rw [h]at this
 exact this hE (fun G a w A=>hk A) G a w A
theorem N {Y:Tb}(hX:Y.ok P=true)(f:Nat)(A:Sy n T H ks G0 w0 G a w)(h:WL ⟨Y,true⟩ n f T H K pos=⟨T',H',K',pos',E⟩)(hE:Cz E)(hk:∀{G a w},Sy n T' H' ks G0 w0 G a w→Goal P Q K' pos' a w):Goal P Q K pos a w:=M0 (X:=⟨Y,true⟩) hX f A h hE hk
theorem M {Y:Tb}(hX:Y.ok P=true)(f:Nat)(A:Sy n T H ks G0 w0 G a w)(h:WL ⟨Y,false⟩ n f T H K pos=⟨T',H',K',pos',E⟩)(hE:Cz E)(hk:∀{G a w},Sy n T' H' ks G0 w0 G a w→Goal P Q K' pos' a w):Goal P Q K pos a w:=M0 (X:=⟨Y,false⟩) hX f A h hE hk
theorem Sy.isT (A:Sy n T H ks G0 w0 G a w)(t:Nat){b:Bool}(h:look T t=some (.bool b))(hb:b=true):Sy n ((t,.tt)::T) H ks G0 w0 G a w:=
 ⟨A.size,A.defers,fun s x hx=>by
  simp only [look]at hx
  cases hc:Nat.beq t s with
  |true=>rw [hc]at hx;cases hx;have:=Nat.eq_of_beq_eq_true hc;subst this;have:=A.get t _ h;rw [hb]at this;exact this
  |false=>rw [hc]at hx;exact A.get s x hx,A.mem,A.pre,A.own,A.mix⟩
theorem Sy.isF (A:Sy n T H ks G0 w0 G a w)(t:Nat){b:Bool}(h:look T t=some (.bool b))(hb:b=false):Sy n ((t,.ff)::T) H ks G0 w0 G a w:=
 ⟨A.size,A.defers,fun s x hx=>by
  simp only [look]at hx
  cases hc:Nat.beq t s with
  |true=>rw [hc]at hx;cases hx;have:=Nat.eq_of_beq_eq_true hc;subst this;have:=A.get t _ h;rw [hb]at this;exact this
  |false=>rw [hc]at hx;exact A.get s x hx,A.mem,A.pre,A.own,A.mix⟩
theorem AL (t:Nat){p:Prop}[Decidable p]{R:Prop}(A:Sy n T H ks G0 w0 G a w)(h:look T t=some (.bool (decide p)))(h1:p→Sy n ((t,.tt)::T) H ks G0 w0 G a w→R)(h2:¬p→Sy n ((t,.ff)::T) H ks G0 w0 G a w→R):R:=by
 by_cases hp:p
 ·exact h1 hp (A.isT t h (by simp [hp]))
 ·exact h2 hp (A.isF t h (by simp [hp]))
theorem AN (t:Nat){α:Type}[BEq α][LawfulBEq α]{x y:α}{R:Prop}(A:Sy n T H ks G0 w0 G a w)(h:look T t=some (.bool (x==y)))(h1:x=y→Sy n ((t,.tt)::T) H ks G0 w0 G a w→R)(h2:x≠y→Sy n ((t,.ff)::T) H ks G0 w0 G a w→R):R:=by
 cases hb:x==y with
 |true=>exact h1 (eq_of_beq hb) (A.isT t h hb)
 |false=>exact h2 (fun e=>by subst e;simp at hb) (A.isF t h hb)
theorem Dc (t:Nat){α:Type}[BEq α][LawfulBEq α]{x y:α}{R:Prop}(A:Sy n T H ks G0 w0 G a w)(h:look T t=some (.bool (!(x==y))))(h1:x≠y→Sy n ((t,.tt)::T) H ks G0 w0 G a w→R)(h2:x=y→Sy n ((t,.ff)::T) H ks G0 w0 G a w→R):R:=by
 cases hb:x==y with
 |true=>exact h2 (eq_of_beq hb) (A.isF t h (by rw [hb];rfl))
 |false=>exact h1 (fun e=>by subst e;simp at hb) (A.isT t h (by rw [hb];rfl))
theorem fork (t:Nat){b:Bool}{R:Prop}(A:Sy n T H ks G0 w0 G a w)(h:look T t=some (.bool b))(h1:b=true→Sy n ((t,.tt)::T) H ks G0 w0 G a w→R)(h2:b=false→Sy n ((t,.ff)::T) H ks G0 w0 G a w→R):R:=by
 cases hb:b with
 |true=>exact h1 hb (A.isT t h hb)
 |false=>exact h2 hb (A.isF t h hb)
end
mutual
def JX (k:Nat):SV→Bool
 | .ptr i _=>Nat.blt i k
 | .el i _ _ _=>Nat.blt i k
 | .sl i _ _=>Nat.blt i k
 | .agg l=>Fw k l
 | .tup l=>Fw k l
 | .fn _ l=>Fw k l
 | .opt _ x=>JX k x
 | .ix p _ _ _ _=>JX k p
 | .sp p _ _=>JX k p
 | .st i _ _ _ _=>Nat.blt i k
 |_=>true
def Fw (k:Nat):List SV→Bool
 | []=>true
 |x::l=>JX k x&&Fw k l
end
mutual
theorem C7 {G:Gr}{k:Nat}:∀(x:SV),JX k x=true→den (G.take k) x=den G x
 | .ptr i _,h=>by unfold den;rw [List.getElem?_take_of_lt (by simpa [JX,Nat.blt_eq]using h)]
 | .el i _ _ _,h=>by unfold den;rw [List.getElem?_take_of_lt (by simpa [JX,Nat.blt_eq]using h)]
 | .sl i _ _,h=>by unfold den;rw [List.getElem?_take_of_lt (by simpa [JX,Nat.blt_eq]using h)]
 | .agg l,h=>by unfold den;rw [BH l (by simpa [JX]using h)]
 | .tup l,h=>by unfold den;rw [BH l (by simpa [JX]using h)]
 | .fn _ l,h=>by unfold den;rw [BH l (by simpa [JX]using h)]
 | .opt _ x,h=>by unfold den;rw [C7 x (by simpa [JX]using h)]
 | .ix p _ _ _ _,h=>by unfold den;rw [C7 p (by simpa [JX]using h)]
 | .sp p _ _,h=>by unfold den;rw [C7 p (by simpa [JX]using h)]
 | .st i _ _ _ _,h=>by unfold den;rw [List.getElem?_take_of_lt (by simpa [JX,Nat.blt_eq]using h)]
 | .int _ _,_=>rfl
 | .bool _,_=>rfl
 | .tt,_=>rfl
 | .ff,_=>rfl
 | .str _,_=>rfl
 | .sla _ _ _,_=>rfl
 | .v _,_=>rfl
theorem BH {G:Gr}{k:Nat}:∀(l:List SV),Fw k l=true→AE (G.take k) l=AE G l
 | [],_=>rfl
 |x::l,h=>by
  simp only [Fw,Bool.and_eq_true]at h
  unfold AE
  rw [C7 x h.1,BH l h.2]
end
mutual
def DG (m:List Nat):SV→Option SV
 | .ptr i o=>match lg m i with
  |some j=>some (.ptr j o)
  |none=>none
 | .el i s k o=>match lg m i with
  |some j=>some (.el j s k o)
  |none=>none
 | .sl i n c=>match lg m i with
  |some j=>some (.sl j n c)
  |none=>none
 | .agg l=>match DU m l with
  |some l=>some (.agg l)
  |none=>none
 | .tup l=>match DU m l with
  |some l=>some (.tup l)
  |none=>none
 | .fn f l=>match DU m l with
  |some l=>some (.fn f l)
  |none=>none
 | .opt b x=>none
 | .ix p s n j k=>match DG m p with
  |some q=>some (.ix q s n j k)
  |none=>none
 | .sp p n c=>match DG m p with
  |some q=>some (.sp q n c)
  |none=>none
 | .st i s j n c=>match lg m i with
  |some i=>some (.st i s j n c)
  |none=>none
 | .sla a n c=>some (.sla a n c)
 | .int i n=>some (.int i n)
 | .bool b=>some (.bool b)
 | .tt=>some .tt
 | .ff=>some .ff
 | .str l=>some (.str l)
 | .v x=>some (.v x)
def DU (m:List Nat):List SV→Option (List SV)
 | []=>some []
 | x::l=>match DG m x with
  |some x=>match DU m l with
   |some l=>some (x::l)
   |none=>none
  |none=>none
end
def AY (m:List Nat)(G:Gr):Gr:=m.map fun j=>(G[j]?).getD none
theorem BD {m:List Nat}{G:Gr}(hm:∀j∈m,j<G.length){i j:Nat}(h:m[i]?=some j):(AY m G)[i]?=G[j]?:=by
 have hj:j<G.length:=hm j (List.mem_of_getElem? h)
 simp [AY,h,hj]
mutual
theorem De {m:List Nat}{G:Gr}(hm:∀j∈m,j<G.length):∀(x:SV) {y:SV},DG m x=some y→den (AY m G) x=den G y
 | .ptr i o,y,h=>by
  unfold DG at h
  split at h
  ·next j hj=>cases h;rw [Ah]at hj;unfold den;rw [BD hm hj]
  ·cases h
 | .el i s k o,y,h=>by
  unfold DG at h
  split at h
  ·next j hj=>cases h;rw [Ah]at hj;unfold den;rw [BD hm hj]
  ·cases h
 | .sl i n c,y,h=>by
  unfold DG at h
  split at h
  ·next j hj=>cases h;rw [Ah]at hj;unfold den;rw [BD hm hj]
  ·cases h
 | .agg l,y,h=>by
  unfold DG at h
  split at h
  ·next l' hl=>cases h;unfold den;rw [Ck hm l hl]
  ·cases h
 | .tup l,y,h=>by
  unfold DG at h
  split at h
  ·next l' hl=>cases h;unfold den;rw [Ck hm l hl]
  ·cases h
 | .fn f l,y,h=>by
  unfold DG at h
  split at h
  ·next l' hl=>cases h;unfold den;rw [Ck hm l hl]
  ·cases h
 | .opt b x,y,h=>by cases h
 | .ix p s n j k,y,h=>by
  unfold DG at h
  split at h
  ·next q hq=>cases h;unfold den;rw [De hm p hq]
  ·cases h
 | .sp p n c,y,h=>by
  unfold DG at h
  split at h
  ·next q hq=>cases h;unfold den;rw [De hm p hq]
  ·cases h
 | .st i s k n c,y,h=>by
  unfold DG at h
  split at h
  ·next j hj=>cases h;rw [Ah]at hj;unfold den;rw [BD hm hj]
  ·cases h
 | .sla _ _ _,y,h=>by cases h;rfl
 | .int _ _,y,h=>by cases h;rfl
 | .bool _,y,h=>by cases h;rfl
 | .tt,y,h=>by cases h;rfl
 | .ff,y,h=>by cases h;rfl
 | .str _,y,h=>by cases h;rfl
 | .v _,y,h=>by cases h;rfl
theorem Ck {m:List Nat}{G:Gr}(hm:∀j∈m,j<G.length):∀(l:List SV) {r:List SV},DU m l=some r→AE (AY m G) l=AE G r
 | [],r,h=>by cases h;rfl
 | x::l,r,h=>by
  unfold DU at h
  split at h
  ·next y hy=>
   split at h
   ·next l' hl=>cases h;unfold AE;rw [De hm x hy,Ck hm l hl]
   ·cases h
  ·cases h
end
def FJ (m:List Nat):Option A6→Option (Option A6)
 |none=>some none
 |some (.blk cs)=>match DU m cs with
  |some l=>some (some (.blk l))
  |none=>none
 |some (.row e s n c xs)=>some (some (.row e s n c xs))
 |some (.lst s n f)=>some (some (.lst s n f))
 |some (.fac b o)=>some (some (.fac b o))
def Cm (m:List Nat):Hp→Option Hp
 | []=>some []
 | e::l=>match FJ m e with
  |some e=>match Cm m l with
   |some l=>some (e::l)
   |none=>none
  |none=>none
def Ca (H:Hp):List Nat→Option Hp
 | []=>some []
 | j::m=>match lg H j with
  |some e=>match Ca H m with
   |some l=>some (e::l)
   |none=>none
  |none=>none
theorem Cr {m:List Nat}:∀{H:Hp} {l:Hp},Cm m H=some l→l.length=H.length∧∀(i:Nat) (e:Option A6),H[i]?=some e→∃f,l[i]?=some f∧FJ m e=some f
 | [],l,h=>by cases h;exact⟨rfl,fun i e h=>by cases h⟩
 | x::H,l,h=>by
  unfold Cm at h
  split at h
  ·next y hy=>
   split at h
   ·next r hr=>
    cases h
    obtain⟨h1,h2⟩:=Cr hr
    refine⟨by simp [h1],fun i e he=>?_⟩
    cases i with
    |zero=>cases he;exact⟨y,rfl,hy⟩
    |succ i=>exact h2 i e he
   ·cases h
  ·cases h
theorem Co {H:Hp}:∀{m:List Nat} {l:Hp},Ca H m=some l→l.length=m.length∧(∀j∈m,j<H.length)∧∀(i j:Nat),m[i]?=some j→l[i]?=H[j]?
 | [],l,h=>by cases h;exact⟨rfl,by simp,fun i j h=>by cases h⟩
 | k ::m,l,h=>by
  unfold Ca at h
  split at h
  ·next e he=>
   rw [Ah]at he
   split at h
   ·next r hr=>
    cases h
    obtain⟨h1,h2,h3⟩:=Co hr
    refine⟨by simp [h1],fun j hj=>?_,fun i j hj=>?_⟩
    ·rcases List.mem_cons.1 hj with rfl|hj
     ·exact(List.getElem?_eq_some_iff.1 he).1
     ·exact h2 j hj
    ·cases i with
     |zero=>cases hj;exact he.symm
     |succ i=>exact h3 i j hj
   ·cases h
  ·cases h
theorem BE {m:List Nat}{e f:A6}(h:FJ m (some e)=some (some f)):f.mut=e.mut∧(f.empty↔e.empty):=by
 cases e with
 |blk cs=>simp only [FJ]at h;split at h<;>cases h;exact⟨rfl,Iff.rfl⟩
 |row=>cases h;exact⟨rfl,Iff.rfl⟩
 |lst=>cases h;exact⟨rfl,Iff.rfl⟩
 |fac=>cases h;exact⟨rfl,Iff.rfl⟩
theorem CS {m:List Nat}{e:A6}{f:Option A6}(h:FJ m (some e)=some f):∃f',f=some f':=by
 cases e with
 |blk cs=>simp only [FJ]at h;split at h<;>cases h;exact⟨_,rfl⟩
 |row=>cases h;exact⟨_,rfl⟩
 |lst=>cases h;exact⟨_,rfl⟩
 |fac=>cases h;exact⟨_,rfl⟩
theorem Ke {m:List Nat}{G:Gr}{w:World}(hm:∀j∈m,j<G.length){i j:Nat}(hj:m[i]?=some j){e f:A6}(h:FJ m (some e)=some (some f)):Ae (AY m G) w (((AY m G)[i]?).getD none) e↔Ae G w ((G[j]?).getD none) f:=by
 rw [BD hm hj]
 cases e with
 |blk cs=>
  simp only [FJ]at h
  split at h
  ·next l hl=>cases h;simp only [Ae,Ck hm cs hl]
  ·cases h
 |row=>cases h;exact Iff.rfl
 |lst=>cases h;exact Iff.rfl
 |fac=>cases h;exact Iff.rfl
def JY:List Nat→Bool
 | []=>true
 |x::l=> !(l.elem x)&&JY l
theorem Nv:∀{m:List Nat},JY m=true→∀(i k j:Nat),m[i]?=some j→m[k]?=some j→i=k
 | [],_,i,k,j,h,_=>by cases h
 | x::m,hb,i,k,j,h1,h2=>by
  simp only [JY,Bool.and_eq_true,Bool.not_eq_true',List.elem_eq_mem,decide_eq_false_iff_not]at hb
  cases i with
  |zero=>
   cases k with
   |zero=>rfl
   |succ k=>cases h1;exact absurd (List.mem_of_getElem? (l:=m) (i:=k) h2) hb.1
  |succ i=>
   cases k with
   |zero=>cases h2;exact absurd (List.mem_of_getElem? (l:=m) (i:=i) h1) hb.1
   |succ k=>rw [Nv hb.2 i k j h1 h2]
theorem Mem.sub {H H' l:Hp}{G:Gr}{w:World}{m:List Nat}(h:Mem H G w)(h1:Ca H m=some l)(h2:Cm m H'=some l)(hn:JY m=true):Mem H' (AY m G) w:=by
 obtain⟨p1,p2,p3⟩:=Co h1
 obtain⟨r1,r2⟩:=Cr h2
 have hm:∀j∈m,j<G.length:=fun j hj=>by rw [←h.len];exact p2 j hj
 have at_:∀(i:Nat) (e:A6),H'[i]?=some (some e)→∃j f,m[i]?=some j∧H[j]?=some (some f)∧FJ m (some e)=some (some f):=by
  intro i e he
  obtain⟨f,h3,h4⟩:=r2 i _ he
  have hi:i<m.length:=by rw [←p1];exact(List.getElem?_eq_some_iff.1 h3).1
  obtain⟨f',rfl⟩:=CS h4
  refine⟨m[i],f',by simp [hi],?_,h4⟩
  rw [←p3 i m[i] (by simp [hi])];exact h3
 refine⟨by simp [AY];omega,fun i e he=>?_,fun i k e f L M oZ he hf kJ hL hM jF=>?_⟩
 ·obtain⟨j,f,a1,a2,a3⟩:=at_ i e he
  exact(Ke hm a1 a3).2 (h.ent j f a2)
 ·obtain⟨j,e',a1,a2,a3⟩:=at_ i e he
  obtain⟨j',f',b1,b2,b3⟩:=at_ k f hf
  rw [BD hm a1]at hL
  rw [BD hm b1]at hM
  refine h.sep j j' e' f' L M (fun e=>oZ ?_) a2 b2 (by rw [(BE a3).1];exact kJ) hL hM (fun h=>jF ((BE b3).2.1 h))
  subst e
  exact Nv hn i k j a1 b1
def keys (H:Hp)(G:Gr):List Nat:=(H.zip G).filterMap fun x=>match x.1,x.2 with
 |some e,some L=>bif e.mut then some L.b else none
 |_,_=>none
theorem mem_keys {H:Hp}{G:Gr}{b:Nat}:(keys H G).contains b=true↔∃(i:Nat) (e:A6) (L:Loc),H[i]?=some (some e)∧e.mut=true∧G[i]?=some (some L)∧L.b=b:=by
 simp only [List.contains_iff_mem,keys,List.mem_filterMap]
 constructor
 ·rintro ⟨⟨e,p⟩,h1,h2⟩
  obtain⟨i,hi⟩:=List.mem_iff_getElem?.1 h1
  rw [List.getElem?_zip_eq_some]at hi
  split at h2
  ·next e' L h3 h4=>
   simp only at h3 h4;subst h3;subst h4
   cases hm:e'.mut with
   |false=>rw [hm]at h2;cases h2
   |true=>rw [hm]at h2;cases h2;exact⟨i,e',L,hi.1,hm,hi.2,rfl⟩
  ·cases h2
 ·rintro ⟨i,e,L,h1,hm,h2,h3⟩
  exact⟨(some e,some L),List.mem_iff_getElem?.2 ⟨i,List.getElem?_zip_eq_some.2 ⟨h1,h2⟩⟩,by simp [h3,hm]⟩
def U0:Hp→Hp→Prop
 |H,H'=>∀(i:Nat) (e:A6),H'[i]?=some (some e)→e.mut=false→H[i]?=some (some e)
def QW:Hp→List (Option A6)
 | []=>[]
 |some (.lst s n f)::l=>some (.lst s n f)::QW l
 |some (.fac b o)::l=>some (.fac b o)::QW l
 |_::l=>QW l
def Nw:Hp→Hp→List (Option A6)
 |_,[]=>[]
 | [],some (.lst s n f)::l=>none::Nw [] l
 |x::H,some (.lst s n f)::l=>x::Nw H l
 | [],some (.fac b o)::l=>none::Nw [] l
 |x::H,some (.fac b o)::l=>x::Nw H l
 | [],_::l=>Nw [] l
 |_::H,_::l=>Nw H l
theorem D3:∀{H' H:Hp},Nw H H'=QW H'→U0 H H'
 | [],H,_,i,e,h,_=>by cases h
 | x ::H',H,hk,i,e,h,hm=>by
  cases x with
  | none=>
   cases i with
   |zero=>cases h
   |succ i=>
    cases H with
    |nil=>have:=D3 (H':=H') (H:=[]) hk i e h hm;simp at this
    |cons y H=>exact D3 (H':=H') (H:=H) hk i e h hm
  | some q=>
   cases q with
   | lst s n f=>
    cases H with
    |nil=>simp [QW,Nw]at hk
    |cons y H=>
     simp only [QW,Nw,List.cons.injEq]at hk
     cases i with
     |zero=>cases h;exact congrArg some hk.1
     |succ i=>exact D3 (H':=H') (H:=H) hk.2 i e h hm
   | fac b o=>
    cases H with
    |nil=>simp [QW,Nw]at hk
    |cons y H=>
     simp only [QW,Nw,List.cons.injEq]at hk
     cases i with
     |zero=>cases h;exact congrArg some hk.1
     |succ i=>exact D3 (H':=H') (H:=H) hk.2 i e h hm
   | _=>
    cases i with
    |zero=>cases h;cases hm
    |succ i=>
     cases H with
     |nil=>have:=D3 (H':=H') (H:=[]) hk i e h hm;simp at this
     |cons y H=>exact D3 (H':=H') (H:=H) hk i e h hm
def Kf (R:SV→Hp→Prop)(H:Hp)(G:Gr)(w:World)(e:Ending)(w':World):Prop:=
 ∃x H' F v,R x H'∧den (G++F) x=some v∧e=.returned v∧Mem H' (G++F) w'∧CR (keys H G) w w'∧G.length≤H'.length∧
  U0 H H'∧∀(i:Nat) (e:A6),H'[i]?=some (some e)→e.mut=true→∀L:Loc,(G++F)[i]?=some (some L)→(keys H G).contains L.b=true∨w.heap.size≤L.b
abbrev Fo (P:Program)(f:Nat):Option (Bool×Bool):=(P.funcs[f]?).map fun fn=>(fn.name== "runtime.NumGoroutine",fn.body.isNone)
def Fn (P:Program)(f:Nat)(args:List SV)(H:Hp)(R:SV→Hp→Prop):Prop:=
 Fo P f=some (false,false)∧∀G w vs,Mem H G w→AE G args=some vs→Calls P f vs.toArray w (Kf R H G w)
def La:List SV→Nat→List (Nat×SV)
 | [],_=>[]
 |v::vs,k=>(k,v)::La vs (k+1)
theorem Dm {t:Nat}{x:SV}:∀{xs:List SV} {k:Nat},look (La xs k) t=some x→k≤t∧xs[t - k]?=some x
 | [],_,h=>by cases h
 | u::vs,k,h=>by
  unfold La look at h
  cases hb:Nat.beq k t with
  |true=>rw [hb]at h;cases h;have:=Nat.eq_of_beq_eq_true hb;subst this;simp
  |false=>
   rw [hb]at h
   obtain⟨h1,h2⟩:=Dm h
   refine⟨by omega,?_⟩
   rw [show t - k=(t - (k+1))+1 by omega];simpa using h2
section
variable {P:Program}{X:Tx}{n f:Nat}{ks:List Nat}{G0:Gr}{w0:World}{T:List (Nat×SV)}{H:Hp}{G:Gr}{a:Act}{w:World}{K:List Fr}
theorem AG {fn:Func} {c:Code} {args:List SV} {R:SV→Hp→Prop} (jH:Fo P f=some (false,false)) (hf:P.funcs[f]?=some fn) (hb:fn.body=some c) (hn:fn.ntmps=n) (hl:Nat.ble args.length n=true)
  (h:∀G w a,H.length=G.length→Sy n (La args 0) H (keys H G) G w G a w→Goal P (bodyPost P fn (Kf R H G w)) [] (.code c) a w):Fn P f args H R:=by
 refine⟨jH,fun G w vs hM hv=>calls_of_wp hf hb (h G w _ hM.len ⟨?_,rfl,fun t x hx=>?_,hM,⟨[],by simp⟩,fun i e L h1 h2 h3=>.inl (mem_keys.2 ⟨i,e,L,h1,h2,h3,rfl⟩),CR.refl _ _⟩)⟩
 ·have:=Av hv
  have:=Nat.le_of_ble_eq_true hl
  simp [hn];omega
 ·obtain⟨_,h2⟩:=Dm hx
  simp only [Nat.sub_zero]at h2
  obtain⟨v,h3,h4⟩:=CL hv h2
  have i7:t<vs.length:=(List.getElem?_eq_some_iff.1 h3).1
  rw [h4]
  simp [Array.getD_eq_getD_getElem?,Array.getElem?_append,i7]at h3⊢
  exact h3.symm
theorem O3 (hX:X.ok P=true){t:TypeId}{cs:List SV}{vs:List Value}{o b q:Nat}{r:SV}{z:Value}(h:CZ X t cs o=some r)(hv:AE G cs=some vs)(hz:den G r=some z)(hr:w.rangeAt b q vs):(loadVar t ⟨b,q+o,none⟩).run P w=.ok z w:=by
 unfold CZ at h
 split at h
 ·next f hf=>
  have ht:=Tb.at hX hf
  split at h
  ·cases h
  ·next m hm=>
   split at h
   ·next r' l5=>
    cases h
    obtain⟨h2,h3⟩:=GS l5
    subst h2
    rw [Fu]at hz h3
    have e:=Bo (m+1) (Bp o hv)
    simp only [den,e,Option.map_some,Option.some.injEq]at hz
    subst hz
    have hl:=Av hv
    obtain⟨⟨dd,f2,f3,_⟩,f4⟩:=Dl (HN ht hm)
    rw [List.length_drop]at h3
    refine run_loadVar_mid w b (q+o) t _ dd (fun j y hy=>?_) f2 f3 (by rw [f4];simp;omega)
    have hj:=(List.getElem?_eq_some_iff.1 hy).1
    simp only [List.length_take,List.length_drop]at hj
    rw [List.getElem?_take_of_lt (by omega),List.getElem?_drop]at hy
    have:=hr (o+j) y hy
    rwa [show q+(o+j)=q+o+j by omega]at this
   ·cases h
  ·next hm=>
   cases jD:f.one with
   |false=>rw [jD]at h;cases h
   |true=>
    rw [jD]at h
    simp only [cond_true,Ah]at h
    obtain⟨v,h1,h2⟩:=CL hv h
    rw [hz]at h2
    cases h2
    have hc:=hr o z h1
    simp [loadVar,HK (HM ht jD),hc,go_sem]
 ·cases h
def IF (X:Tx) (T:List (Nat×SV)) (H:Hp):List ResultVar→Option (List SV)
 | []=>some []
 | .tmp t::l=>match look T t with
  |some x=>match IF X T H l with
   |some r=>some (x::r)
   |none=>none
  |none=>none
 | .cell p t::l=>match look T p with
  | some y=>match Do X H t y with
   |some (x,[])=>match IF X T H l with
    |some r=>some (x::r)
    |none=>none
   |_=>none
  |none=>none
def AX:List SV→SV
 | [x]=>x
 |l=>.tup l
theorem Iq (hX:X.ok P=true)(A:Sy n T H ks G0 w0 G a w):∀{l:List ResultVar} {r:List SV},IF X T H l=some r→∃vs,AE G r=some vs∧(l.mapM (m:=Sem) fun
  | .tmp t=>pure (a.tmps.getD t undef)
  | .cell p t=>do loadVar t (←asAddr (a.tmps.getD p undef))).run P w=.ok vs w
 | [],r,h=>by cases h;exact⟨[],rfl,by simp⟩
 | .tmp t::l,r,h=>by
  unfold IF at h
  split at h
  ·next x hx=>
   split at h
   ·next r' hr=>
    cases h
    obtain⟨vs,h1,h2⟩:=Iq hX A hr
    refine⟨_,Az (A.get t x hx) h1,?_⟩
    rw [List.mapM_cons]
    simp only [Sem.run_bind,Sem.run_pure,Result.andThen_ok,h2]
   ·cases h
  ·cases h
 | .cell p t::l,r,h=>by
  unfold IF at h
  split at h
  ·next y hy=>
   split at h
   ·next x hx=>
    split at h
    ·next r' hr=>
     cases h
     obtain⟨vs,h1,h2⟩:=Iq hX A hr
     have hp:=A.get p y hy
     obtain⟨z,hz,k3⟩:=LU A hx hp
     obtain⟨cs,o,us,r0,b,k,k1,k6,k2,k4,k5⟩:=k3 (fun _ h=>by cases h)
     have mF:((do loadVar t (←asAddr (a.tmps.getD p undef))):Sem Value).run P w=.ok z w:=by
      rw [k4]
      simp only [asAddr,Sem.run_bind,Sem.run_pure,Result.andThen_ok]
      exact O3 hX k1 k2 k6 k5
     refine⟨_,Az hz h1,?_⟩
     rw [List.mapM_cons]
     simp only [Sem.run_bind,Sem.run_pure,Result.andThen_ok,h2]at mF⊢
     rw [mF]
     simp only [Result.andThen_ok,h2]
    ·cases h
   ·cases h
  ·cases h
def Ap:Nat→Nat→List Nat
 |_,0=>[]
 |k,c+1=>k::Ap (k+1) c
theorem Cd:∀(c k i:Nat),i<c→(Ap k c)[i]?=some (k+i)
 |0,_,_,h=>by omega
 |c+1,k,0,_=>rfl
 |c+1,k,i+1,h=>by
  have:=Cd c (k+1) i (by omega)
  simp only [Ap,List.getElem?_cons_succ,this]
  congr 1;omega
theorem CA:∀(c k:Nat),(Ap k c).length=c
 |0,_=>rfl
 |c+1,k=>by simp [Ap,CA c (k+1)]
theorem Lb {G0 F:Gr}:AY (Ap 0 G0.length) (G0++F)=G0:=by
 apply List.ext_getElem?
 intro i
 by_cases hi:i<G0.length
 ·rw [BD (fun j hj=>by
   obtain⟨k,hk⟩:=List.mem_iff_getElem?.1 hj
   have jQ:k<G0.length:=by have:=(List.getElem?_eq_some_iff.1 hk).1;rwa [CA]at this
   rw [Cd _ _ _ jQ]at hk
   cases hk
   simp;omega) (Cd _ 0 i hi)]
  rw [Nat.zero_add,List.getElem?_append_left hi]
 ·rw [List.getElem?_eq_none (by simp [AY,CA];omega),List.getElem?_eq_none (by omega)]
theorem GZ {fn:Func}(hX:X.ok P=true){y:SV}{r:List SV}{rv:List ResultVar}(A:Sy n T H ks G0 w0 G a w)(hr:fn.results.toList=rv)(hv:IF X T H rv=some r)(hy:AX r=y):∃v,den G y=some v∧(results fn a.tmps).run P w=.ok v w:=by
 obtain⟨vs,e1,e2⟩:=Iq hX A hv
 have mF:(fn.results.mapM (m:=Sem) fun
   | .tmp t=>pure (a.tmps.getD t undef)
   | .cell p t=>do loadVar t (←asAddr (a.tmps.getD p undef))).run P w=.ok vs.toArray w:=by
  rw [←Array.toArray_toList (xs:=fn.results),List.mapM_toArray,hr]
  simp only [Sem.run_map,e2,Result.andThen_ok]
 have rI:(results fn a.tmps).run P w=.ok (if h:vs.toArray.size=1 then vs.toArray[0]else .tuple vs.toArray) w:=by
  unfold results
  rw [Sem.run_bind]
  erw [mF]
  simp only [Result.andThen_ok,Sem.run_pure]
 rw [rI]
 have hlen:=Av e1
 cases r with
 |nil=>cases e1;subst hy;exact⟨_,rfl,rfl⟩
 | cons z r=>
  obtain⟨v,ws,k1,k2,rfl⟩:=Au e1
  cases r with
  |nil=>cases k2;subst hy;exact⟨v,k1,rfl⟩
  |cons z2 r=>
   subst hy
   obtain⟨v2,ws2,_,_,rfl⟩:=Au k2
   refine⟨.tuple (v::v2::ws2).toArray,by simp only [AX,den,e1,Option.map_some],?_⟩
   simp
theorem Mj {Y:Tb} {fn:Func} {R:SV→Hp→Prop} {H0:Hp} (hX:Y.ok P=true) (m:List Nat) {x y:SV} {H' l:Hp} {r:List SV} {rv:List ResultVar} (A:Sy n T H (keys H0 G0) G0 w0 G a w) (hR:R x H') (hr:fn.results.toList=rv) (hv:IF ⟨Y,false⟩ T H rv=some r) (hy:AX r=y)
  (hx:DG (Ap 0 H0.length++m) x=some y) (hl:Cm (Ap 0 H0.length++m) H'=some l) (hp:Ca H (Ap 0 H0.length++m)=some l) (hn:JY (Ap 0 H0.length++m)=true) (o6:Nw H0 H'=QW H') (h0:H0.length=G0.length):bodyPost P fn (Kf R H0 G0 w0) .ret a w:=by
 obtain⟨F,hF⟩:=A.pre
 obtain⟨p1,p2,p3⟩:=Co hp
 have hm:∀j∈Ap 0 H0.length++m,j<G.length:=fun j hj=>by rw [←A.mem.len];exact p2 j hj
 have tF:=GZ (X:=⟨Y,false⟩) (fn:=fn) hX A hr hv hy
 obtain⟨v,sZ,sO⟩:=tF
 have kI:AY (Ap 0 H0.length++m) G=G0++AY m G:=by
  rw [show AY (Ap 0 H0.length++m) G=AY (Ap 0 H0.length) G++AY m G by simp [AY],h0,hF,Lb]
 have o7:=A.mem.sub hp hl hn
 rw [kI]at o7
 refine⟨A.defers,v,sO,x,H',AY m G,v,hR,?_,rfl,o7,A.mix,?_,D3 o6,fun i e he wS=>?_⟩
 ·rw [←kI,De hm x hx];exact sZ
 ·have:=(Cr hl).1
  rw [p1]at this
  simp [CA]at this
  omega
 ·obtain⟨f,h3,h4⟩:=(Cr hl).2 i _ he
  obtain⟨f',rfl⟩:=CS h4
  obtain⟨q1,q2⟩:=BE h4
  intro L hL
  have hi:i<(Ap 0 H0.length++m).length:=by rw [←p1];exact(List.getElem?_eq_some_iff.1 h3).1
  have hj:(Ap 0 H0.length++m)[i]?=some (Ap 0 H0.length++m)[i]:=by simp [hi]
  rw [←kI,BD hm hj]at hL
  rw [p3 i _ hj]at h3
  exact A.own _ f' L h3 (by rw [q1];exact wS) hL
end
def Bn:Hp→List Nat→Hp→Hp
 |H,[],l=>H++l
 |H,j::m,e::l=>Bn (Br H j e) m l
 |H,_::_,[]=>H
theorem GA:∀{m:List Nat} {H l:Hp},m.length≤l.length→(Bn H m l).length=H.length+(l.length - m.length)
 | [],H,l,_=>by simp [Bn]
 |j::m,H,[],h=>by simp at h
 |j::m,H,e::l,h=>by
  simp only [List.length_cons]at h⊢
  rw [Bn,GA (by omega),Ag]
  simp
theorem HU:∀{m:List Nat} {H l:Hp},m.length≤l.length→JY m=true→(∀j∈m,j<H.length)→∀i:Nat,
  (∃k:Nat,m[k]?=some i∧(Bn H m l)[i]?=l[k]?)∨(i∉m∧i<H.length∧(Bn H m l)[i]?=H[i]?)∨(H.length≤i∧(Bn H m l)[i]?=l[m.length+(i - H.length)]?)
 | [],H,l,_,_,_,i=>by
  by_cases hi:i<H.length
  ·exact .inr (.inl ⟨by simp,hi,by simp [Bn,List.getElem?_append_left hi]⟩)
  ·exact .inr (.inr ⟨by omega,by simp [Bn,List.getElem?_append_right (Nat.le_of_not_lt hi)]⟩)
 |j::m,H,[],h,_,_,i=>by simp at h
 | j::m,H,e::l,h,hn,hm,i=>by
  simp only [List.length_cons]at h
  simp only [JY,Bool.and_eq_true,Bool.not_eq_true',List.elem_eq_mem,decide_eq_false_iff_not]at hn
  have hlen:(Br H j e).length=H.length:=by rw [Ag];simp
  have hj:j<H.length:=hm j (by simp)
  rw [Bn]
  rcases HU (H:=Br H j e) (l:=l) (by omega) hn.2 (fun k hk=>by rw [hlen];exact hm k (by simp [hk])) i with⟨k,h1,h2⟩|⟨h1,h2,h3⟩|⟨h1,h2⟩
  ·exact .inl ⟨k+1,by simpa using h1,by simpa using h2⟩
  ·by_cases jV:i=j
   ·subst jV
    exact .inl ⟨0,by simp,by rw [h3,Ag,List.getElem?_set_self hj];rfl⟩
   ·exact .inr (.inl ⟨by simp [jV,h1],by rwa [hlen]at h2,by rw [h3,Ag,List.getElem?_set_ne (Ne.symm jV)]⟩)
  ·rw [hlen]at h1 h2
   exact .inr (.inr ⟨h1,by rw [h2,show(j::m).length+(i - H.length)=(m.length+(i - H.length))+1 by simp;omega];simp⟩)
def BS (n:Nat) (ops:Array Oper) (T:List (Nat×SV)) (o:Oper):Option (Nat×List SV):=match Ci n o.dst with
 | true=>match iY ops T o.guard with
  | some .run=>match o.op with
   | .call c=>match c.callee with
    | .value x=>match jR T x with
     |some (.fn f l)=>match Ox none T c.args.toList with
      |some (az,[])=>some (f,az++l)
      |_=>none
     |_=>none
    |_=>none
   |_=>none
  |_=>none
 |false=>none
section
variable {P:Program}{X:Tx}{n:Nat}{ks:List Nat}{G0:Gr}{w0:World}{T:List (Nat×SV)}{H:Hp}{G:Gr}{a:Act}{w:World}{ops:Array Oper}{o:Oper}{rest:List Oper}{Q:Exit→Act→World→Prop}{K:List Fr}
theorem Nx {x:Operand} {f:FuncId} {lb:Array Value} {args:Array Operand} {ats:Array TypeId} {vs us:Array Value} {R:Ending→World→Prop} {K:Value→World→Prop} {d:Option Tmp} {ty:TypeId} {pos:String} {af:Array Edge} {gd:Option (Nat×Bool)} (hw:Region.wanted {dst:=d,op:=.call {callee:=.value x,args:=args,argTypes:=ats},type:=ty,pos:=pos,after:=af,guard:=gd} (yielded ops a.tmps)=true)
  (hf:a.eval x=.func (.func f) #[] lb) (jH:Fo P f=some (false,false)) (hx:args.map a.eval=vs) (hu:vs++lb=us) (hc:Calls P f us w R) (h:∀e w',R e w'→∃v,e=.returned v∧K v w'):
  BG P ops {dst:=d,op:=.call {callee:=.value x,args:=args,argTypes:=ats},type:=ty,pos:=pos,after:=af,guard:=gd} a w K:=
 MX hw (by
  subst hx;subst hu
  unfold execOp
  simp only [resolve,hf,Sem.run_bind,Deferred.ofValue,Sem.run_pure,Result.andThen_ok,invoke,Array.empty_append,enters jH]) hc h
theorem Cb (A:Sy n T H ks G0 w0 G a w){f:Nat}{az:List SV}(h:BS n ops T o=some (f,az))(jH:Fo P f=some (false,false)):Ci n o.dst=true∧∃vs,AE G az=some vs∧∀{R:Ending→World→Prop} {K:Value→World→Prop},Calls P f vs.toArray w R→(∀e w',R e w'→∃v,e=.returned v∧K v w')→BG P ops o a w K:=by
 obtain⟨d,i,ty,pos,af,gd⟩:=o
 unfold BS at h
 split at h
 ·next hd=>
  refine⟨hd,?_⟩
  split at h
  ·next hg=>
   have hw:=An (gd:=none) A hg
   split at h
   ·next c hc=>
    simp only at hc
    subst hc
    obtain⟨callee,args,ats⟩:=c
    simp only at h
    split at h
    ·next x=>
     split at h
     ·next f' l hx=>
      split at h
      ·next az' hs=>
       cases h
       have h1:=A.ev hx
       unfold den at h1
       obtain⟨ls,h2,h3⟩:=Option.map_eq_some_iff.1 h1
       obtain⟨us,h4,h5⟩:=IN A hs
       have h6:=h5 iT (fun g hg=>by cases hg)
       refine⟨us++ls,B9 h4 h2,fun hc hk=>?_⟩
       refine Nx (lb:=ls.toArray) (vs:=us.toArray) (us:=(us++ls).toArray) hw h3.symm jH ?_ (by simp) hc hk
       rw [←h6];apply Array.ext';simp
      ·cases h
     ·cases h
    ·cases h
   ·cases h
  ·cases h
 ·cases h
theorem Ny {f:Nat} {args az:List SV} {H' l:Hp} {R R2:SV→Hp→Prop} (m:List Nat) (hf:Fn P f args H' R) (A:Sy n T H ks G0 w0 G a w) (h1:BS n ops T o=some (f,az)) (h2:DU m args=some az) (h3:Cm m H'=some l) (h4:Ca H m=some l) (h5:JY m=true)
  (hk:∀x H2,R x H2→∃y l2,DG (m++Ap H.length (H2.length - m.length)) x=some y∧Cm (m++Ap H.length (H2.length - m.length)) H2=some l2∧R2 y (Bn H m l2)):BG P ops o a w fun v w'=>∃y H3 F,R2 y H3∧den (G++F) y=some v∧Sy n T H3 ks G0 w0 (G++F) a w':=by
 obtain⟨jH,hf⟩:=hf
 obtain⟨hd,vs,hv,lK⟩:=Cb (P:=P) (ops:=ops) A h1 jH
 obtain⟨p1,p2,p3⟩:=Co h4
 obtain⟨r1,r2⟩:=Cr h3
 have hlen:=A.mem.len
 have hm:∀j∈m,j<G.length:=fun j hj=>by rw [←hlen];exact p2 j hj
 have hM:=A.mem.sub h4 h3 h5
 have mJ:AE (AY m G) args=some vs:=by rw [Ck hm args h2];exact hv
 have qS:H'.length=m.length:=by rw [←r1,p1]
 have lB:(AY m G).length=m.length:=by simp [AY]
 have kX:∀b,(keys H' (AY m G)).contains b=true→∃i e L,i∈m∧H[i]?=some (some e)∧e.mut=true∧G[i]?=some (some L)∧L.b=b:=by
  intro b hb
  obtain⟨i,e,L,k1,km,k2,k3⟩:=mem_keys.1 hb
  obtain⟨f,q1,q2⟩:=r2 i _ k1
  obtain⟨f',rfl⟩:=CS q2
  have hi:i<m.length:=by rw [←p1];exact(List.getElem?_eq_some_iff.1 q1).1
  have hj:m[i]?=some m[i]:=by simp [hi]
  rw [BD hm hj]at k2
  rw [p3 i _ hj]at q1
  exact⟨m[i],f',L,List.getElem_mem hi,q1,by rw [(BE q2).1];exact km,k2,k3⟩
 have jX:∀b,(keys H' (AY m G)).contains b=true→ks.contains b=true∨w0.heap.size≤b:=by
  intro b hb
  obtain⟨i,e,L,_,k1,k2,k3,k4⟩:=kX b hb
  subst k4
  exact A.own i e L k1 k2 k3
 refine lK (hf _ w vs hM mJ) ?_
 rintro e w' ⟨x,H2,F,v,hR,hx,rfl,l7,jL,oQ,n7,l9⟩
 refine⟨v,rfl,?_⟩
 obtain⟨y,l2,e1,e2,e3⟩:=hk x H2 hR
 obtain⟨s1,s2⟩:=Cr e2
 have pK:H2.length=m.length+F.length:=by have:=l7.len;simp [lB]at this;exact this
 have n8:m.length≤l2.length:=by rw [s1,pK];omega
 have p5:H2.length - m.length=F.length:=by omega
 rw [p5]at e1 e2 s2
 have lM:(Ap H.length F.length).length=F.length:=CA _ _
 have nY:AY (m++Ap H.length F.length) (G++F)=AY m G++F:=by
  have a1:AY m (G++F)=AY m G:=by
   unfold AY
   refine List.map_congr_left fun j hj=>?_
   rw [List.getElem?_append_left (hm j hj)]
  have a2:AY (Ap H.length F.length) (G++F)=F:=by
   apply List.ext_getElem?
   intro i
   by_cases hi:i<F.length
   ·unfold AY
    rw [List.getElem?_map,Cd _ _ _ hi]
    simp only [Option.map_some]
    rw [List.getElem?_append_right (by omega),show H.length+i - G.length=i by omega]
    simp [hi]
   ·rw [List.getElem?_eq_none (by simp [AY,lM];omega),List.getElem?_eq_none (by omega)]
  rw [show AY (m++Ap H.length F.length) (G++F)=AY m (G++F)++AY (Ap H.length F.length) (G++F) by simp [AY],a1,a2]
 have oR:∀j∈m++Ap H.length F.length,j<(G++F).length:=by
  intro j hj
  rcases List.mem_append.1 hj with hj|hj
  ·have:=hm j hj;simp;omega
  ·obtain⟨k,hk⟩:=List.mem_iff_getElem?.1 hj
   have jQ:k<F.length:=by have:=(List.getElem?_eq_some_iff.1 hk).1;rwa [lM]at this
   rw [Cd _ _ _ jQ]at hk
   cases hk
   simp;omega
 have cases3:∀(i:Nat) (e:A6),(Bn H m l2)[i]?=some (some e)→
   (∃(k:Nat) (e':A6),(m++Ap H.length F.length)[k]?=some i∧H2[k]?=some (some e')∧FJ (m++Ap H.length F.length) (some e')=some (some e))∨(i∉m∧H[i]?=some (some e)∧i<H.length):=by
  intro i e he
  have back:∀k:Nat,l2[k]?=some (some e)→∃e',H2[k]?=some (some e')∧FJ (m++Ap H.length F.length) (some e')=some (some e):=by
   intro k hk
   have n9:k<H2.length:=by rw [←s1];exact(List.getElem?_eq_some_iff.1 hk).1
   obtain⟨f,t1,t2⟩:=s2 k H2[k] (by simp [n9])
   rw [hk]at t1
   cases t1
   cases hq:H2[k]with
   |none=>rw [hq]at t2;cases t2
   |some e'=>rw [hq]at t2;exact⟨e',by simp [n9,hq],t2⟩
  rcases HU (H:=H) (l:=l2) n8 h5 p2 i with⟨k,q1,q2⟩|⟨q1,q2,q3⟩|⟨q1,q2⟩
  ·rw [q2]at he
   obtain⟨e',b1,b2⟩:=back k he
   exact .inl ⟨k,e',by rw [List.getElem?_append_left (List.getElem?_eq_some_iff.1 q1).1];exact q1,b1,b2⟩
  ·rw [q3]at he;exact .inr ⟨q1,he,q2⟩
  ·rw [q2]at he
   obtain⟨e',b1,b2⟩:=back _ he
   have i7:i - H.length<F.length:=by have:=(List.getElem?_eq_some_iff.1 b1).1;omega
   refine .inl ⟨_,e',?_,b1,b2⟩
   rw [List.getElem?_append_right (by omega),show m.length+(i - H.length) - m.length=i - H.length by omega,Cd _ _ _ i7]
   congr 1;omega
 have j0:∀(i k:Nat),(m++Ap H.length F.length)[k]?=some i→(AY m G++F)[k]?=(G++F)[i]?:=fun i k hk=>by rw [←nY,BD oR hk]
 have kB:∀i:Nat,i<H.length→(G++F)[i]?=G[i]?:=fun i hi=>List.getElem?_append_left (by omega)
 have jM:∀(i:Nat) (e:A6) (L:Loc),(i∉m∨e.mut=false)→H[i]?=some (some e)→G[i]?=some (some L)→¬e.empty→(keys H' (AY m G)).contains L.b=false:=by
  intro i e L hi he hL jF
  cases hc:(keys H' (AY m G)).contains L.b with
  |false=>rfl
  |true=>
   obtain⟨j,e',L',k0,k1,k2,k3,k4⟩:=kX _ hc
   refine absurd k4 (A.mem.sep j i e' e L' L (fun h=>?_) k1 he k2 k3 hL jF)
   subst h
   rcases hi with hi|hi
   ·exact hi k0
   ·rw [k1]at he;cases he;rw [k2]at hi;cases hi
 have oA:∀(i:Nat) (e:A6) (L:Loc),H[i]?=some (some e)→G[i]?=some (some L)→¬e.empty→L.b<w.heap.size:=by
  intro i e L he hL jF
  have:=A.mem.ent i e he
  rw [hL]at this
  exact Ae.lt this jF
 have oB:∀(i k:Nat) (e e':A6),(m++Ap H.length F.length)[k]?=some i→H2[k]?=some (some e')→FJ (m++Ap H.length F.length) (some e')=some (some e)→e.mut=false→H[i]?=some (some e)∧i<H.length:=by
  intro i k e e' t1 t2 t3 t4
  have h6:e'.mut=false:=by rw [←(BE t3).1];exact t4
  have h7:=n7 k e' t2 h6
  obtain⟨f,q1,q2⟩:=r2 k _ h7
  obtain⟨f',rfl⟩:=CS q2
  have jQ:k<m.length:=by rw [←p1];exact(List.getElem?_eq_some_iff.1 q1).1
  rw [List.getElem?_append_left jQ]at t1
  rw [p3 k i t1]at q1
  have:e=f':=by
   cases e' with
   |lst s n g=>cases q2;cases t3;rfl
   |fac b o=>cases q2;cases t3;rfl
   |blk=>cases h6
   |row=>cases h6
  subst this
  exact⟨q1,(List.getElem?_eq_some_iff.1 q1).1⟩
 refine⟨y,_,F,e3,?_,⟨A.size,A.defers,fun t z hz=>AP F z (A.get t z hz),⟨?_,?_,?_⟩,?_,?_,?_⟩⟩
 ·rw [←De oR x e1,nY];exact hx
 ·rw [GA n8,s1,pK];simp;omega
 ·intro i e he
  rcases cases3 i e he with⟨k,e',t1,t2,t3⟩|⟨t1,t2,t3⟩
  ·have:=l7.ent k e' t2
   rw [←nY]at this
   exact(Ke oR t1 t3).1 this
  ·rw [kB i t3]
   refine((A.mem.ent i e t2).mix jL fun jF L hL=>?_).more F
   refine jM i e L (.inl t1) t2 ?_ jF
   cases hq:G[i]? with
   |none=>rw [hq]at hL;cases hL
   |some p=>rw [hq]at hL;simp at hL;rw [hL]
 ·intro i j e f L M jV he pW kJ hL lN jF
  have still:∀(i':Nat) (e':A6),(Bn H m l2)[i']?=some (some e')→(∃(k:Nat) (e'':A6),(m++Ap H.length F.length)[k]?=some i'∧H2[k]?=some (some e'')∧FJ (m++Ap H.length F.length) (some e'')=some (some e')∧e'.mut=true)∨((i'∉m∨e'.mut=false)∧H[i']?=some (some e')∧i'<H.length):=by
   intro i' e' oC
   rcases cases3 i' e' oC with⟨k,e'',t1,t2,t3⟩|⟨t1,t2,t3⟩
   ·cases mY:e'.mut with
    |true=>exact .inl ⟨k,e'',t1,t2,t3,rfl⟩
    |false=>obtain⟨g1,g2⟩:=oB i' k e' e'' t1 t2 t3 mY;exact .inr ⟨.inr rfl,g1,g2⟩
   ·exact .inr ⟨.inl t1,t2,t3⟩
  rcases still i e he with⟨k,e',t1,t2,t3,t4⟩|⟨t1,t2,t3⟩
  ·rcases still j f pW with⟨k',f',u1,u2,u3,u4⟩|⟨u1,u2,u3⟩
   ·rw [←j0 i k t1]at hL
    rw [←j0 j k' u1]at lN
    refine l7.sep k k' e' f' L M (fun h=>jV ?_) t2 u2 (by rw [←(BE t3).1];exact t4) hL lN (fun h=>jF ((BE u3).2.2 h))
    subst h
    rw [t1]at u1
    exact Option.some.inj u1
   ·rw [←j0 i k t1]at hL
    rw [kB j u3]at lN
    have h6:=l9 k e' t2 (by rw [←(BE t3).1];exact t4) L hL
    intro lX
    rcases h6 with h6|h6
    ·rw [lX,jM j f M u1 u2 lN jF]at h6;cases h6
    ·have:=oA j f M u2 lN jF;omega
  ·rcases still j f pW with⟨k',f',u1,u2,u3,u4⟩|⟨u1,u2,u3⟩
   ·rw [←j0 j k' u1]at lN
    rw [kB i t3]at hL
    have h6:=l9 k' f' u2 (by rw [←(BE u3).1];exact u4) M lN
    intro lX
    rcases h6 with h6|h6
    ·rw [←lX,jM i e L t1 t2 hL (At kJ)]at h6;cases h6
    ·have:=oA i e L t2 hL (At kJ);omega
   ·rw [kB i t3]at hL
    rw [kB j u3]at lN
    exact A.mem.sep i j e f L M jV t2 u2 kJ hL lN jF
 ·obtain⟨F0,rJ⟩:=A.pre
  exact⟨F0++F,by rw [rJ,List.append_assoc]⟩
 ·intro i e L he kJ hL
  rcases cases3 i e he with⟨k,e',t1,t2,t3⟩|⟨t1,t2,t3⟩
  ·rw [←j0 i k t1]at hL
   rcases l9 k e' t2 (by rw [←(BE t3).1];exact kJ) L hL with h6|h6
   ·exact jX _ h6
   ·right;exact Nat.le_trans A.mix.size h6
  ·rw [kB i t3]at hL;exact A.own i e L t2 kJ hL
 ·refine A.mix.mix jL fun k rK rL=>?_
  cases hc:(keys H' (AY m G)).contains k with
  |false=>rfl
  |true=>
   rcases jX k hc with h6|h6
   ·rw [h6]at rL;cases rL
   ·omega
theorem dJ {f:Nat} {args az:List SV} {H' l:Hp} {R:SV→Hp→Prop} (m:List Nat) (hf:Fn P f args H' R) (A:Sy n T H ks G0 w0 G a w) (h1:BS n ops T o=some (f,az)) (h2:DU m args=some az) (h3:Cm m H'=some l) (h4:Ca H m=some l) (h5:JY m=true)
  (hk:∀x H2,R x H2→∃y l2,DG (m++Ap H.length (H2.length - m.length)) x=some y∧Cm (m++Ap H.length (H2.length - m.length)) H2=some l2∧∀{G a w},Sy n (Ay T o.dst y) (Bn H m l2) ks G0 w0 G a w→Goal P Q K (.ops ops rest) a w):Goal P Q K (.ops ops (o::rest)) a w:=by
 have hd:=(Cb (P:=P) (ops:=ops) A h1 hf.1).1
 refine CJ (Q:=Fa P Q K) ?_
 rcases Ny (R2:=fun y H3=>∀{G a w},Sy n (Ay T o.dst y) H3 ks G0 w0 G a w→Goal P Q K (.ops ops rest) a w) m hf A h1 h2 h3 h4 h5 hk with⟨hw,h⟩|⟨hw,y,H3,F,g1,g2,g3⟩
 ·refine .inl ⟨hw,fun Q'=>?_⟩
  refine Oper.wp_mono (fun a' w' hh=>?_) (h Q')
  obtain⟨v,rfl,y,H3,F,g1,g2,g3⟩:=hh
  exact⟨v,rfl,g1 (Sy.put g3 hd g2)⟩
 ·exact .inr ⟨hw,g1 (Sy.put g3 hd g2)⟩
abbrev Rt (x:SV)(H:Hp):SV→Hp→Prop:=fun y H'=>y=x∧H'=H
theorem Yz {f:Nat} {args az:List SV} {H' H2 l l2:Hp} {x y:SV} (m:List Nat) (hf:Fn P f args H' (Rt x H2)) (A:Sy n T H ks G0 w0 G a w) (h1:BS n ops T o=some (f,az)) (h2:DU m args=some az) (h3:Cm m H'=some l) (h4:Ca H m=some l) (h5:JY m=true)
  (h6:DG (m++Ap H.length (H2.length - m.length)) x=some y) (h7:Cm (m++Ap H.length (H2.length - m.length)) H2=some l2) (hk:∀{G a w},Sy n (Ay T o.dst y) (Bn H m l2) ks G0 w0 G a w→Goal P Q K (.ops ops rest) a w):Goal P Q K (.ops ops (o::rest)) a w:=
 dJ m hf A h1 h2 h3 h4 h5 fun x' H' ⟨e1,e2⟩=>by subst e1;subst e2;exact⟨y,l2,h6,h7,hk⟩
end
end Go.Proofs.YtbbdanhpphlbpaaGreatDoor
