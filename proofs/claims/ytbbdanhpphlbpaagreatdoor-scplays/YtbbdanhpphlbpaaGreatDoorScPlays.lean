/- ScPlays returns true at every input, and leaves what was there as it was: each thread runs its instructions in their order; each step touches one memory. The card ties the listed variables to the program's text; no condition but the statement's own. -/
import Derived.Test.YtbbdanhpphlbpaaGreatDoorRows
import Derived.Test.YtbbdanhpphlbpaaGreatDoorCards
import Derived.Test.YtbbdanhpphlbpaaGreatDoorTie
import Derived.ProofKit
import Derived.Deep.Cut
import Derived.LaidMore
import Derived.LaidLaws
import Derived.LaidHandle
import Derived.Lay
import Derived.SizedLaws
import Derived.Handed
import Derived.Lib.LaidTab
import Derived.Stop.LaidErr
import Derived.Stop.Joined
import Derived.HandedShaped
import Derived.Shelf.Vars
import Derived.SevenTiedAt
import Derived.ChangeMaps5
import Derived.OpenShut
import Derived.Test.YtbbdanhpphlbpaaGreatDoorScPlaysP6
set_option linter.unusedVariables false
namespace Go.Proofs.YtbbdanhpphlbpaaGreatDoor.scPlays
open Go.ChangeShapes Go.WideShapes Go.ChangeAt Go.RowKit
theorem own:ownKnob Tryz.prog.godebug=none:=by kernel_rfl
theorem laidOut:laidOutB Tryz.prog=true:=by kernel_rfl
theorem fW:Tryz.prog.globalNamed "strconv.ErrSyntax" =some 4:=by kernel_rfl
theorem fX:(Tryz.prog.globals[4]?).map (·.type)=some 215:=by kernel_rfl
theorem fY:Tryz.prog.underlying 215=some (.interface (Tryz.prog.methodsAt 215)):=by kernel_rfl
theorem wrap {H:Type} {enc:TypeId×Value→H} {a:Assume} {C:Checked} {os:Os} {f:FuncId} {fn:Func} {s:ChangeSpec} {conds:List PathCond} {apart fresh handsOn again:Bool} {X:World→Array Value→Prop}
    (hX:∀(w w':World) (args:Array Value),w.heap=w'.heap→X w args→X w' args)
    (own:ownKnob C.prog.godebug=none) (started:os.Started) (noInit:C.prog.inits.idxOf? f=none) (uZ:C.prog.funcs[f]?=some fn)
    (witness:∃(w:World) (tape:Tape) (i:Input),w.os=os∧(w.forCall tape i).Shaped C.prog∧i.vars=[]∧Input.okWide C.prog (w.forCall tape i) .any w.heap.size f i∧
      ((s.pre enc C.prog fn conds apart (w.forCall tape i).memory i.args∧X (w.forCall tape i).memory i.args)∧sizedMet enc C.prog fn (OpenSpec.ofChange s) apart (w.forCall tape i).memory i.args)∧a.holds C.prog (lone (Frame.enter C.prog f i.args .normal) [] (w.forCall tape i)))
    (contract:∀(W:World) (base:Nat) (args:Array Value) (ds gs:List (DataW H)) (before:List MemPlace),
      (∀(j:Nat) t v,fn.params[j]?=some t→args[j]?=some v→Value.okWide C.prog W .any base t v)→
      DataW.Whole enc C.prog fn.params.toList s.vars apart W args.toList ds gs before→X W args→W.ShapedOpen C.prog→sizedMet enc C.prog fn (OpenSpec.ofChange s) apart W args→
      Calls C.prog f args W fun e W'=>∃v,e=.returned v∧s.post enc C.prog fn apart fresh handsOn again W args v W'):
    ReturnsInHanded a C os f .any (fun w args=>(s.pre enc C.prog fn conds apart w args∧X w args)∧sizedMet enc C.prog fn (OpenSpec.ofChange s) apart w args) (s.post enc C.prog fn apart fresh handsOn again):=by
  refine returnsInHanded_of_calls own started noInit witness ?_
  intro w tape i _ u5 _ jJ jT u6
  obtain⟨_,_,_,fn',u7,_,_,_,_,oO⟩:=jJ
  have e:fn'=fn:=Option.some.inj (u7.symm.trans uZ)
  subst e
  obtain⟨⟨⟨ds,gs,before,hw,hc⟩,hx⟩,hz⟩:=jT
  have rH:=DataW.Whole.of_heap (w':=w.forCall tape i) (by rfl) hw
  refine(contract (w.forCall tape i) w.heap.size i.args ds gs before oO rH (hX _ _ _ (by rfl) hx) u5 (hz.of_heap (by rfl))).mono fun e W' ⟨v,he,hp⟩=>?_
  subst he
  exact ChangeSpec.post_blind hp
theorem YR {W:World}(h:laidMetH Tryz.prog Rows.scPlaysRow.laid W):∃ev,W.cell? ⟨4,0,none⟩=some ev∧(ev=.nilIface∨∃te pe,ev=.iface te pe):=by
  rw [MakeChecks.laidMetH_plain _ _ _ (by kernel_rfl)]at h
  have h4:=h.tail.tail.tail.tail.tail
  obtain⟨ps,⟨g0,t0,cs0,f0,p0,q0,wA,yK,p7,yL,_,e0⟩,_,_⟩:=h4
  obtain rfl:=Option.some.inj (fW.symm.trans wA)
  obtain rfl:=Option.some.inj (fX.symm.trans yK)
  obtain⟨f1,u,v,lT,_,_⟩:=iface_of_trod fY yL
  refine⟨.iface u v,?_,.inr ⟨u,v,rfl⟩⟩
  have:=World.var?_cell wA p7 0
  rw [Array.eq_one_of_toList lT]at this
  simpa using this
theorem YS {W:World}(h:laidMetH Tryz.prog Rows.scPlaysRow.laid W):Lib.TabIs Tryz.prog W "internal/strconv.uint64pow10" .u64 Lib.pow10Tab:=by
  rw [MakeChecks.laidMetH_plain _ _ _ (by kernel_rfl)]at h
  exact Lib.tabIs_of_head (g:=1) (t:=260) (e:=185) (n:=20) (by kernel_rfl) (by kernel_rfl) (by kernel_rfl) (by kernel_rfl) (by kernel_rfl) (by kernel_rfl) h.tail.tail
theorem cB {W:World}(h:laidMetH Tryz.prog Rows.scPlaysRow.laid W):∀i:Nat,i<64→W.cell? ⟨3,i,none⟩=some (.int .u8 (Mc.Q5.getD i 0)):=by
  rw [MakeChecks.laidMetH_plain _ _ _ (by kernel_rfl)]at h
  have h2:Lib.TabIs Tryz.prog W "math/bits.deBruijn64tab" .u8 Mc.Q5:=Lib.tabIs_of_head (g:=3) (t:=263) (e:=5) (n:=64) (by kernel_rfl) (by kernel_rfl) (by kernel_rfl) (by kernel_rfl) (by kernel_rfl) (by kernel_rfl) h.tail
  exact fun i hi=>h2.cell (by kernel_rfl) i hi
theorem YT {W:World}(h:W.ShapedOpen Tryz.prog):∃m,W.cell? ⟨0,0,none⟩=some (.int .i64 m):=
  cell_of_shapedOpen_int (t:=3) (zero:= #[.int .i64 0]) h (by decide+kernel) (by kernel_rfl) rfl (by kernel_rfl) (by kernel_rfl) (by kernel_rfl)
theorem law (y:Ts)(g1:List Int)(W:World)(hO:MQ W y){bo1:BO}{cap1:Nat}(S1:Sl Mc.cA 1 W.heap.size W (.slice (Hw bo1) g1.length cap1) g1)(l1:g1.length≤140737488355328)(hT:Lib.TabIs Tryz.prog W "internal/strconv.uint64pow10" .u64 Lib.pow10Tab)(m0:Int)(hm:W.cell? ⟨0,0,none⟩=some (.int .i64 m0))(ev:Value)(he:W.cell? ⟨4,0,none⟩=some ev)(sC:ev=.nilIface∨∃te pe,ev=.iface te pe)(uX:∀i:Nat,i<64→W.cell? ⟨3,i,none⟩=some (.int .u8 (Mc.Q5.getD i 0))):Calls Tryz.prog 3 #[.agg (Vw y).toArray,.slice (Hw bo1) g1.length cap1] W fun e W'=>e=.returned (.bool true)∧BW W W':=by
  obtain⟨_,c1⟩:=Mc.Us S1
  exact Mc.P6 (x:=.tt) (v:=.bool true) (ex:=[.sl 2 g1.length cap1]) (Hx:=[some (.lst 1 g1.length (fun j=>[.int .i64 (g1.getD j 0)]))]) (Gx:=[DZ bo1]) (vx:=[.slice (Hw bo1) g1.length cap1]) (fun _=>rfl) hO hT m0 hm ev he sC uX rfl (fun i e h=>by
    match i,h with
    |0,h=>cases h;exact⟨_,_,_,rfl,(c1 [] []).2⟩
    |i+1,h=>simp at h) (Az (c1 (MR y) []).1 (rfl)) (fun os hM hT hE hD=>Mc.YQ y.ar y.nm y.mi y.r y.cs y.cx y.qu y.kd y.ck g1 cap1 os hM hT hE (fun c hc=>(hO.code c hc).le) (fun c hc=>(hO.code c hc).ok) hO.le hD hO.mi)
set_option maxRecDepth 100000 in
theorem lifted (os:Os)(started:os.Started)(H:Type)(enc:TypeId×Value→H):
    ReturnsInHanded {} Tryz.checked os 3 .any (fun w args=>(Rows.scPlaysSpec.pre enc Tryz.prog Tryz.f3 [] false w args∧laidMetH Tryz.prog Rows.scPlaysRow.laid w)∧sizedMet enc Tryz.prog Tryz.f3 (OpenSpec.ofChange Rows.scPlaysSpec) false w args) (Rows.scPlaysSpec.post enc Tryz.prog Tryz.f3 false true false false):=by
  refine wrap (C:=Tryz.checked) (X:=fun w _=>laidMetH Tryz.prog Rows.scPlaysRow.laid w) (fun _ _ _ hh h=>h.of_heap hh) own started (by kernel_rfl) Tryz.func3
    (ChangeSpec.witness_shaped (enc:=enc) (C:=Tryz.checked) (os:=os) (X:=fun w _=>laidMetH Tryz.prog Rows.scPlaysRow.laid w) false (World.laidAll Tryz.prog os Rows.scPlaysRow.laid) #[.agg #[.int .i64 0,.string ⟨#[]⟩,.int .i64 0,.int .i64 0,.int .i64 0,.int .i64 0,.int .i64 0,.int .i64 0,.int .i64 0,.int .i64 0,.int .i64 0,.int .i64 0,.int .i64 0,.int .i64 0,.int .i64 0,.int .i64 0,.int .i64 0,.int .i64 0,.int .i64 0,.int .i64 0,.int .i64 0,.int .i64 0,.int .i64 0,.int .i64 0,.int .i64 0,.int .i64 0,.int .i64 0,.int .i64 0,.int .i64 0,.slice none 0 0,.int .i64 0,.slice none 0 0],.slice none 0 0] 8 (World.laidAll_os _ _ _)
      (World.shaped_of_ZipB (by kernel_rfl) (by kernel_rfl)) (by kernel_rfl) (by kernel_rfl) (by kernel_rfl)
      (by rw [MakeChecks.laidMetH_plain _ _ _ (by kernel_rfl)];exact laidMet_laidAll _ (by kernel_rfl) (by kernel_rfl))) ?_
  intro W base args ds gs before pU hW hL u5 hz
  have oO:∀(j:Nat) t v,Tryz.f3.params[j]?=some t→args[j]?=some v→Value.okWide Tryz.prog W .any base t v:=pU
  have yM:=hW
  have kN:=hz.weights hW
  obtain⟨p,q,wB,hV,rfl,y6,y7⟩:=hW
  have hA:DataW.TrodAll enc Tryz.prog W 0 (fun _=>true) true Tryz.f3.params.toList args.toList ds p:=wB
  rw [Tryz.params3]at hA oO
  obtain⟨v0,vs0,d0,ds0,p0,z0,j6,rfl,rfl,h0,y0⟩:=trodAll_cons hA
  obtain⟨v1,vs1,d1,ds1,p1,z1,rfl,rfl,rfl,h1,y1⟩:=trodAll_cons y0
  obtain⟨rfl,rfl,rfl⟩:=trodAll_nil y1
  obtain rfl:args= #[v0,v1]:=by cases args;simp_all
  obtain⟨rfl,rfl⟩:=trodVars_none hV
  have k0:=h0
  have lt0:∀x∈p0,x.block<W.heap.size:=by obtain⟨m,hm⟩:=k0;exact DataW.trod_lt m _ _ _ hm
  have k1:=h1
  have lt1:∀x∈p1,x.block<W.heap.size:=by obtain⟨m,hm⟩:=k1;exact DataW.trod_lt m _ _ _ hm
  obtain⟨y,rfl,hO⟩:=P3 (oO 0 28 v0 rfl rfl) h0 (Ig (i:=0) (by kernel_rfl) rfl kN)
  obtain⟨bo1,g1,cap1,rfl,l1,S1⟩:=Mc.P5 (oO 1 29 v1 rfl rfl) h1 (Ig (i:=1) (by kernel_rfl) rfl kN)
  have hR:=reachBytes_lt
  clear wB pU
  obtain⟨ev,u9,vA⟩:=YR hL
  obtain⟨m0,hm⟩:=YT u5
  have hc:=law y g1 W hO S1 (by omega) (YS hL) m0 hm ev u9 vA (cB hL)
  refine hc.mono fun e W' ⟨he,bel⟩=>?_
  subst he
  exact⟨_,rfl,_,_,_,[],_,[],yM,trodAll_mk1 (shut_bool Tryz.underlying4 _),(trodAll_cons_mk (Below.trod laidOut (by kernel_rfl) (of_decide_eq_true (by kernel_rfl)) k0 bel lt0) (trodAll_cons_mk (Below.trod laidOut (by kernel_rfl) (of_decide_eq_true (by kernel_rfl)) k1 bel lt1) trodAll_mk0)),rfl,bel.frame _,fun h=>by cases h⟩
theorem row:Rows.ScPlaysSaid:=
  OpenClaim.holds_of_wide 3 Tryz.f3 rfl rfl rfl rfl rfl rfl rfl ⟨rfl,rfl,rfl,rfl,rfl⟩ rfl rfl rfl rfl rfl (by kernel_rfl) Tryz.func3 (by kernel_rfl)
    (of_decide_eq_true (by kernel_rfl)) (by unfold Func.isWrapper;first|(rw [if_pos (by decide+kernel)];kernel_rfl)|(rw [if_neg (by decide+kernel)];exact⟨rfl,rfl⟩))
    (fun os started H enc _=>lifted os started H enc)
theorem fZ:Rows.ScPlaysCardSaid:=
  Claim7.holds_tied_plain_at .later [] [.data,.data,.data,.data,.sentinel,.sentinel,.pinned] true (true,Rows.scPlaysCard.stood.harness.2) true
    row (fun _ h=>by cases h) (by kernel_rfl) (fun _ h=>by cases h) scPlays_row_tie rfl ⟨rfl,rfl⟩ (by kernel_rfl) rfl
    (fun f fn hf uZ=>by
      obtain rfl:f=3:=Option.some.inj ((show Tryz.prog.funcNamed Rows.scPlaysRow.func=some 3 by kernel_rfl).symm.trans hf) |>.symm
      obtain rfl:fn=Tryz.f3:=(Option.some.inj (Tryz.func3.symm.trans uZ)).symm
      exact⟨by kernel_rfl,fun j t ht=>by
        rw [Tryz.params3]at ht
        have hm:t∈[28,29]:=by simpa using Array.mem_of_getElem? ht
        have j8:([28,29].all fun u=> !Tryz.prog.wantsStandIn u)=true:=by kernel_rfl
        exact(show Tryz.prog.wantsStandIn t=false by simpa using List.all_eq_true.1 j8 t hm)⟩)
    (by kernel_rfl)
end Go.Proofs.YtbbdanhpphlbpaaGreatDoor.scPlays
namespace Go.Proofs.YtbbdanhpphlbpaaGreatDoor
theorem scPlays_holds:Rows.ScPlaysCardSaid:=scPlays.fZ
end Go.Proofs.YtbbdanhpphlbpaaGreatDoor
#print axioms Go.Proofs.YtbbdanhpphlbpaaGreatDoor.scPlays_holds
