/- TsoPlays returns true at every input, and leaves what was there as it was: a thread that writes puts the write into its buffer, the first of a buffer goes into memory when it drains, and a thread that reads sees memory with its own buffer over it. The card ties the listed variables to the program's text; no condition but the statement's own. -/
import Derived.Test.YtbbdanhpphlbpaaGreatDoorRows
import Derived.Test.YtbbdanhpphlbpaaGreatDoorCards
import Derived.Test.YtbbdanhpphlbpaaGreatDoorTie
import Derived.ProofKit
import Derived.Deep.Cut
import Derived.LaidMore
import Derived.LaidLaws
import Derived.LaidHandle
import Derived.Lay
import Derived.SizedLaws
import Derived.Handed
import Derived.Lib.LaidTab
import Derived.Stop.LaidErr
import Derived.Stop.Joined
import Derived.HandedShaped
import Derived.Shelf.Vars
import Derived.SevenTiedAt
import Derived.ChangeMaps5
import Derived.OpenShut
import Derived.Test.YtbbdanhpphlbpaaGreatDoorTsoPlaysP7
set_option linter.unusedVariables false
namespace Go.Proofs.YtbbdanhpphlbpaaGreatDoor.tsoPlays
open Go.ChangeShapes Go.WideShapes Go.ChangeAt Go.RowKit
theorem own:ownKnob Tryz.prog.godebug=none:=by kernel_rfl
theorem laidOut:laidOutB Tryz.prog=true:=by kernel_rfl
theorem uR:Tryz.prog.globalNamed "strconv.ErrSyntax" =some 4:=by kernel_rfl
theorem uS:(Tryz.prog.globals[4]?).map (·.type)=some 215:=by kernel_rfl
theorem uT:Tryz.prog.underlying 215=some (.interface (Tryz.prog.methodsAt 215)):=by kernel_rfl
theorem wrap {H:Type} {enc:TypeId×Value→H} {a:Assume} {C:Checked} {os:Os} {f:FuncId} {fn:Func} {s:ChangeSpec} {conds:List PathCond} {apart fresh handsOn again:Bool} {X:World→Array Value→Prop}
    (hX:∀(w w':World) (args:Array Value),w.heap=w'.heap→X w args→X w' args)
    (own:ownKnob C.prog.godebug=none) (started:os.Started) (noInit:C.prog.inits.idxOf? f=none) (xG:C.prog.funcs[f]?=some fn)
    (witness:∃(w:World) (tape:Tape) (i:Input),w.os=os∧(w.forCall tape i).Shaped C.prog∧i.vars=[]∧Input.okWide C.prog (w.forCall tape i) .any w.heap.size f i∧
      ((s.pre enc C.prog fn conds apart (w.forCall tape i).memory i.args∧X (w.forCall tape i).memory i.args)∧sizedMet enc C.prog fn (OpenSpec.ofChange s) apart (w.forCall tape i).memory i.args)∧a.holds C.prog (lone (Frame.enter C.prog f i.args .normal) [] (w.forCall tape i)))
    (contract:∀(W:World) (base:Nat) (args:Array Value) (ds gs:List (DataW H)) (before:List MemPlace),
      (∀(j:Nat) t v,fn.params[j]?=some t→args[j]?=some v→Value.okWide C.prog W .any base t v)→
      DataW.Whole enc C.prog fn.params.toList s.vars apart W args.toList ds gs before→X W args→W.ShapedOpen C.prog→sizedMet enc C.prog fn (OpenSpec.ofChange s) apart W args→
      Calls C.prog f args W fun e W'=>∃v,e=.returned v∧s.post enc C.prog fn apart fresh handsOn again W args v W'):
    ReturnsInHanded a C os f .any (fun w args=>(s.pre enc C.prog fn conds apart w args∧X w args)∧sizedMet enc C.prog fn (OpenSpec.ofChange s) apart w args) (s.post enc C.prog fn apart fresh handsOn again):=by
  refine returnsInHanded_of_calls own started noInit witness ?_
  intro w tape i _ xH _ CJ D0 xI
  obtain⟨_,_,_,fn',xJ,_,_,_,_,XJ⟩:=CJ
  have e:fn'=fn:=β6 (xJ.symm.trans xG)
  subst e
  obtain⟨⟨⟨ds,gs,before,hw,hc⟩,hx⟩,hz⟩:=D0
  have pH:=DataW.Whole.of_heap (w':=w.forCall tape i) (by rfl) hw
  refine(contract (w.forCall tape i) w.heap.size i.args ds gs before XJ pH (hX _ _ _ (by rfl) hx) xH (hz.of_heap (by rfl))).mono fun e W' ⟨v,he,hp⟩=>?_
  subst he
  exact ChangeSpec.post_blind hp
theorem hQ {W:World}(h:laidMetH Tryz.prog Rows.tsoPlaysRow.laid W):∃ev,W.cell? ⟨4,0,none⟩=some ev∧(ev=.nilIface∨∃te pe,ev=.iface te pe):=by
  rw [MakeChecks.laidMetH_plain _ _ _ (by kernel_rfl)]at h
  have h4:=h.tail.tail.tail.tail.tail
  obtain⟨ps,⟨g0,t0,cs0,f0,p0,q0,zD,ht0,iJ,hd0,_,e0⟩,_,_⟩:=h4
  obtain rfl:=β6 (uR.symm.trans zD)
  obtain rfl:=β6 (uS.symm.trans ht0)
  obtain⟨f1,u,v,Ld,_,_⟩:=iface_of_trod uT hd0
  refine⟨.iface u v,?_,.inr ⟨u,v,rfl⟩⟩
  have:=World.var?_cell zD iJ 0
  rw [Array.eq_one_of_toList Ld]at this
  simpa using this
theorem hU {W:World}(h:laidMetH Tryz.prog Rows.tsoPlaysRow.laid W):Lib.TabIs Tryz.prog W "internal/strconv.uint64pow10" .u64 Lib.pow10Tab:=by
  rw [MakeChecks.laidMetH_plain _ _ _ (by kernel_rfl)]at h
  exact Lib.tabIs_of_head (g:=1) (t:=260) (e:=185) (n:=20) (by kernel_rfl) (by kernel_rfl) (by kernel_rfl) (by kernel_rfl) (by kernel_rfl) (by kernel_rfl) h.tail.tail
theorem pB {W:World}(h:laidMetH Tryz.prog Rows.tsoPlaysRow.laid W):∀i:Nat,i<64→W.cell? ⟨3,i,none⟩=some (.int .u8 (Mc.U7.getD i 0)):=by
  rw [MakeChecks.laidMetH_plain _ _ _ (by kernel_rfl)]at h
  have h2:Lib.TabIs Tryz.prog W "math/bits.deBruijn64tab" .u8 Mc.U7:=Lib.tabIs_of_head (g:=3) (t:=263) (e:=5) (n:=64) (by kernel_rfl) (by kernel_rfl) (by kernel_rfl) (by kernel_rfl) (by kernel_rfl) (by kernel_rfl) h.tail
  exact fun i hi=>h2.cell (by kernel_rfl) i hi
theorem iA {W:World}(h:W.ShapedOpen Tryz.prog):∃m,W.cell? ⟨0,0,none⟩=some (.int .i64 m):=
  cell_of_shapedOpen_int (t:=3) (zero:= #[.int .i64 0]) h (by decide+kernel) (by kernel_rfl) rfl (by kernel_rfl) (by kernel_rfl) (by kernel_rfl)
theorem law (y:Ts)(g1:List Int)(W:World)(hO:PM W y){bo1:BO}{cap1:Nat}(S1:Sl Mc.nY 1 W.heap.size W (.slice (Jo bo1) g1.length cap1) g1)(l1:g1.length≤140737488355328)(hT:Lib.TabIs Tryz.prog W "internal/strconv.uint64pow10" .u64 Lib.pow10Tab)(m0:Int)(hm:W.cell? ⟨0,0,none⟩=some (.int .i64 m0))(ev:Value)(he:W.cell? ⟨4,0,none⟩=some ev)(p6:ev=.nilIface∨∃te pe,ev=.iface te pe)(wN:∀i:Nat,i<64→W.cell? ⟨3,i,none⟩=some (.int .u8 (Mc.U7.getD i 0))):Calls Tryz.prog 5 #[.agg (aA y).toArray,.slice (Jo bo1) g1.length cap1] W fun e W'=>e=.returned (.bool true)∧By W W':=by
  obtain⟨_,c1⟩:=Mc.Yr S1
  exact Mc.Tn (x:=.tt) (v:=.bool true) (ex:=[.sl 2 g1.length cap1]) (Hx:=[some (.lst 1 g1.length (fun j=>[.int .i64 (g1.getD j 0)]))]) (Gx:=[Ep bo1]) (vx:=[.slice (Jo bo1) g1.length cap1]) (fun _=>rfl) hO hT m0 hm ev he p6 wN rfl (fun i e h=>by
    match i,h with
    |0,h=>cases h;exact⟨_,_,_,rfl,(c1 [] []).2⟩
    |i+1,h=>simp at h) (BK (c1 (PN y) []).1 (rfl)) (fun os hM hT hE hD=>Mc.Ts.plays_ y.ar y.nm y.mi y.r y.cs y.cx y.qu y.kd y.ck g1 cap1 os hM hT hE (fun c hc=>(hO.code c hc).le) (fun c hc=>(hO.code c hc).ok) hO.le hD hO.mi)
set_option maxRecDepth 100000 in
theorem lifted (os:Os)(started:os.Started)(H:Type)(enc:TypeId×Value→H):
    ReturnsInHanded {} Tryz.checked os 5 .any (fun w args=>(Rows.tsoPlaysSpec.pre enc Tryz.prog Tryz.f5 [] false w args∧laidMetH Tryz.prog Rows.tsoPlaysRow.laid w)∧sizedMet enc Tryz.prog Tryz.f5 (OpenSpec.ofChange Rows.tsoPlaysSpec) false w args) (Rows.tsoPlaysSpec.post enc Tryz.prog Tryz.f5 false true false false):=by
  refine wrap (C:=Tryz.checked) (X:=fun w _=>laidMetH Tryz.prog Rows.tsoPlaysRow.laid w) (fun _ _ _ hh h=>h.of_heap hh) own started (by kernel_rfl) Tryz.func5
    (ChangeSpec.witness_shaped (enc:=enc) (C:=Tryz.checked) (os:=os) (X:=fun w _=>laidMetH Tryz.prog Rows.tsoPlaysRow.laid w) false (World.laidAll Tryz.prog os Rows.tsoPlaysRow.laid) #[.agg #[.int .i64 0,.string ⟨#[]⟩,.int .i64 0,.int .i64 0,.int .i64 0,.int .i64 0,.int .i64 0,.int .i64 0,.int .i64 0,.int .i64 0,.int .i64 0,.int .i64 0,.int .i64 0,.int .i64 0,.int .i64 0,.int .i64 0,.int .i64 0,.int .i64 0,.int .i64 0,.int .i64 0,.int .i64 0,.int .i64 0,.int .i64 0,.int .i64 0,.int .i64 0,.int .i64 0,.int .i64 0,.int .i64 0,.int .i64 0,.slice none 0 0,.int .i64 0,.slice none 0 0],.slice none 0 0] 8 (World.laidAll_os _ _ _)
      (World.shaped_of_ZipB (by kernel_rfl) (by kernel_rfl)) (by kernel_rfl) (by kernel_rfl) (by kernel_rfl)
      (by rw [MakeChecks.laidMetH_plain _ _ _ (by kernel_rfl)];exact laidMet_laidAll _ (by kernel_rfl) (by kernel_rfl))) ?_
  intro W base args ds gs before aQ hW hL xH hz
  have XJ:∀(j:Nat) t v,Tryz.f5.params[j]?=some t→args[j]?=some v→Value.okWide Tryz.prog W .any base t v:=aQ
  have hW':=hW
  have Hr:=hz.weights hW
  obtain⟨p,q,zE,hV,rfl,wP,hnd⟩:=hW
  have hA:DataW.TrodAll enc Tryz.prog W 0 (fun _=>true) true Tryz.f5.params.toList args.toList ds p:=zE
  rw [Tryz.params5]at hA XJ
  obtain⟨v0,vs0,d0,ds0,p0,z0,FD,rfl,rfl,h0,y0⟩:=trodAll_cons hA
  obtain⟨v1,vs1,d1,ds1,p1,z1,rfl,rfl,rfl,h1,y1⟩:=trodAll_cons y0
  obtain⟨rfl,rfl,rfl⟩:=trodAll_nil y1
  obtain rfl:args= #[v0,v1]:=by cases args;simp_all
  obtain⟨rfl,rfl⟩:=trodVars_none hV
  have k0:=h0
  have lt0:∀x∈p0,x.block<W.heap.size:=by obtain⟨m,hm⟩:=k0;exact DataW.trod_lt m _ _ _ hm
  have k1:=h1
  have lt1:∀x∈p1,x.block<W.heap.size:=by obtain⟨m,hm⟩:=k1;exact DataW.trod_lt m _ _ _ hm
  obtain⟨y,rfl,hO⟩:=Tj (XJ 0 28 v0 rfl rfl) h0 (Kf (i:=0) (by kernel_rfl) rfl Hr)
  obtain⟨bo1,g1,cap1,rfl,l1,S1⟩:=Mc.Tm (XJ 1 29 v1 rfl rfl) h1 (Kf (i:=1) (by kernel_rfl) rfl Hr)
  have hR:=reachBytes_lt
  clear zE aQ
  obtain⟨ev,xK,xL⟩:=hQ hL
  obtain⟨m0,hm⟩:=iA xH
  have hc:=law y g1 W hO S1 (by omega) (hU hL) m0 hm ev xK xL (pB hL)
  refine hc.mono fun e W' ⟨he,bel⟩=>?_
  subst he
  exact⟨_,rfl,_,_,_,[],_,[],hW',trodAll_mk1 (shut_bool Tryz.underlying4 _),(trodAll_cons_mk (Below.trod laidOut (by kernel_rfl) (δ5 (by kernel_rfl)) k0 bel lt0) (trodAll_cons_mk (Below.trod laidOut (by kernel_rfl) (δ5 (by kernel_rfl)) k1 bel lt1) trodAll_mk0)),rfl,bel.frame _,fun h=>by cases h⟩
theorem row:Rows.TsoPlaysSaid:=
  OpenClaim.holds_of_wide 5 Tryz.f5 rfl rfl rfl rfl rfl rfl rfl ⟨rfl,rfl,rfl,rfl,rfl⟩ rfl rfl rfl rfl rfl (by kernel_rfl) Tryz.func5 (by kernel_rfl)
    (δ5 (by kernel_rfl)) (by unfold Func.isWrapper;first|(rw [if_pos (by decide+kernel)];kernel_rfl)|(rw [if_neg (by decide+kernel)];exact⟨rfl,rfl⟩))
    (fun os started H enc _=>lifted os started H enc)
theorem uU:Rows.TsoPlaysCardSaid:=
  Claim7.holds_tied_plain_at .later [] [.data,.data,.data,.data,.sentinel,.sentinel,.pinned] true (true,Rows.tsoPlaysCard.stood.harness.2) true
    row (fun _ h=>by cases h) (by kernel_rfl) (fun _ h=>by cases h) tsoPlays_row_tie rfl ⟨rfl,rfl⟩ (by kernel_rfl) rfl
    (fun f fn hf xG=>by
      obtain rfl:f=5:=β6 ((show Tryz.prog.funcNamed Rows.tsoPlaysRow.func=some 5 by kernel_rfl).symm.trans hf) |>.symm
      obtain rfl:fn=Tryz.f5:=(β6 (Tryz.func5.symm.trans xG)).symm
      exact⟨by kernel_rfl,fun j t ht=>by
        rw [Tryz.params5]at ht
        have hm:t∈[28,29]:=by simpa using Array.mem_of_getElem? ht
        have GZ:([28,29].all fun u=> !Tryz.prog.wantsStandIn u)=true:=by kernel_rfl
        exact(show Tryz.prog.wantsStandIn t=false by simpa using δ3.1 GZ t hm)⟩)
    (by kernel_rfl)
end Go.Proofs.YtbbdanhpphlbpaaGreatDoor.tsoPlays
namespace Go.Proofs.YtbbdanhpphlbpaaGreatDoor
theorem tsoPlays_holds:Rows.TsoPlaysCardSaid:=tsoPlays.uU
end Go.Proofs.YtbbdanhpphlbpaaGreatDoor
#print axioms Go.Proofs.YtbbdanhpphlbpaaGreatDoor.tsoPlays_holds
