/- ScTwins returns true at every input, and leaves what was there as it was: a copy of a machine goes by itself, and machines with one key do alike. The card ties the listed variables to the program's text; no condition but the statement's own. -/
import Derived.Test.YtbbdanhpphlbpaaGreatDoorRows
import Derived.Test.YtbbdanhpphlbpaaGreatDoorCards
import Derived.Test.YtbbdanhpphlbpaaGreatDoorTie
import Derived.ProofKit
import Derived.Deep.Cut
import Derived.LaidMore
import Derived.LaidLaws
import Derived.LaidHandle
import Derived.Lay
import Derived.SizedLaws
import Derived.Handed
import Derived.Lib.LaidTab
import Derived.Stop.LaidErr
import Derived.Stop.Joined
import Derived.HandedShaped
import Derived.Shelf.Vars
import Derived.SevenTiedAt
import Derived.ChangeMaps5
import Derived.OpenShut
import Derived.Test.YtbbdanhpphlbpaaGreatDoorScTwinsP7
set_option linter.unusedVariables false
namespace Go.Proofs.YtbbdanhpphlbpaaGreatDoor.scTwins
open Go.ChangeShapes Go.WideShapes Go.ChangeAt Go.RowKit
theorem own:ownKnob Tryz.prog.godebug=none:=by kernel_rfl
theorem laidOut:laidOutB Tryz.prog=true:=by kernel_rfl
theorem AG:Tryz.prog.globalNamed "strconv.ErrSyntax" =some 4:=by kernel_rfl
theorem AH:(Tryz.prog.globals[4]?).map (·.type)=some 215:=by kernel_rfl
theorem vW:Tryz.prog.underlying 215=some (.interface (Tryz.prog.methodsAt 215)):=by kernel_rfl
theorem wrap {H:Type} {enc:TypeId×Value→H} {a:Assume} {C:Checked} {os:Os} {f:FuncId} {fn:Func} {s:ChangeSpec} {conds:List PathCond} {apart fresh handsOn again:Bool} {X:World→Array Value→Prop}
    (hX:∀(w w':World) (args:Array Value),w.heap=w'.heap→X w args→X w' args)
    (own:ownKnob C.prog.godebug=none) (started:os.Started) (noInit:C.prog.inits.idxOf? f=none) (AK:C.prog.funcs[f]?=some fn)
    (witness:∃(w:World) (tape:Tape) (i:Input),w.os=os∧(w.forCall tape i).Shaped C.prog∧i.vars=[]∧Input.okWide C.prog (w.forCall tape i) .any w.heap.size f i∧
      ((s.pre enc C.prog fn conds apart (w.forCall tape i).memory i.args∧X (w.forCall tape i).memory i.args)∧sizedMet enc C.prog fn (OpenSpec.ofChange s) apart (w.forCall tape i).memory i.args)∧a.holds C.prog (lone (Frame.enter C.prog f i.args .normal) [] (w.forCall tape i)))
    (contract:∀(W:World) (base:Nat) (args:Array Value) (ds gs:List (DataW H)) (before:List MemPlace),
      (∀(j:Nat) t v,fn.params[j]?=some t→args[j]?=some v→Value.okWide C.prog W .any base t v)→
      DataW.Whole enc C.prog fn.params.toList s.vars apart W args.toList ds gs before→X W args→W.ShapedOpen C.prog→sizedMet enc C.prog fn (OpenSpec.ofChange s) apart W args→
      Calls C.prog f args W fun e W'=>∃v,e=.returned v∧s.post enc C.prog fn apart fresh handsOn again W args v W'):
    ReturnsInHanded a C os f .any (fun w args=>(s.pre enc C.prog fn conds apart w args∧X w args)∧sizedMet enc C.prog fn (OpenSpec.ofChange s) apart w args) (s.post enc C.prog fn apart fresh handsOn again):=by
  refine returnsInHanded_of_calls own started noInit witness ?_
  intro w tape i _ AL _ AW AM AN
  obtain⟨_,_,_,fn',AO,_,_,_,_,Tt⟩:=AW
  have e:fn'=fn:=β6 (AO.symm.trans AK)
  subst e
  obtain⟨⟨⟨ds,gs,before,hw,hc⟩,hx⟩,hz⟩:=AM
  have AX:=DataW.Whole.of_heap (w':=w.forCall tape i) (by rfl) hw
  refine(contract (w.forCall tape i) w.heap.size i.args ds gs before Tt AX (hX _ _ _ (by rfl) hx) AL (hz.of_heap (by rfl))).mono fun e W' ⟨v,he,hp⟩=>?_
  subst he
  exact ChangeSpec.post_blind hp
theorem iM {W:World}(h:laidMetH Tryz.prog Rows.scTwinsRow.laid W):∃ev,W.cell? ⟨4,0,none⟩=some ev∧(ev=.nilIface∨∃te pe,ev=.iface te pe):=by
  rw [MakeChecks.laidMetH_plain _ _ _ (by kernel_rfl)]at h
  have h4:=h.tail.tail.tail.tail.tail
  obtain⟨ps,⟨g0,t0,cs0,f0,p0,q0,AT,AY,AZ,Aa,_,e0⟩,_,_⟩:=h4
  obtain rfl:=β6 (AG.symm.trans AT)
  obtain rfl:=β6 (AH.symm.trans AY)
  obtain⟨f1,u,v,Ab,_,_⟩:=iface_of_trod vW Aa
  refine⟨.iface u v,?_,.inr ⟨u,v,rfl⟩⟩
  have:=World.var?_cell AT AZ 0
  rw [Array.eq_one_of_toList Ab]at this
  simpa using this
theorem AD {W:World}(h:laidMetH Tryz.prog Rows.scTwinsRow.laid W):Lib.TabIs Tryz.prog W "internal/strconv.uint64pow10" .u64 Lib.pow10Tab:=by
  rw [MakeChecks.laidMetH_plain _ _ _ (by kernel_rfl)]at h
  exact Lib.tabIs_of_head (g:=1) (t:=260) (e:=185) (n:=20) (by kernel_rfl) (by kernel_rfl) (by kernel_rfl) (by kernel_rfl) (by kernel_rfl) (by kernel_rfl) h.tail.tail
theorem pT {W:World}(h:laidMetH Tryz.prog Rows.scTwinsRow.laid W):∀i:Nat,i<64→W.cell? ⟨3,i,none⟩=some (.int .u8 (Mc.U0.getD i 0)):=by
  rw [MakeChecks.laidMetH_plain _ _ _ (by kernel_rfl)]at h
  have h2:Lib.TabIs Tryz.prog W "math/bits.deBruijn64tab" .u8 Mc.U0:=Lib.tabIs_of_head (g:=3) (t:=263) (e:=5) (n:=64) (by kernel_rfl) (by kernel_rfl) (by kernel_rfl) (by kernel_rfl) (by kernel_rfl) (by kernel_rfl) h.tail
  exact fun i hi=>h2.cell (by kernel_rfl) i hi
theorem AE {W:World}(h:W.ShapedOpen Tryz.prog):∃m,W.cell? ⟨0,0,none⟩=some (.int .i64 m):=
  cell_of_shapedOpen_int (t:=3) (zero:= #[.int .i64 0]) h (by decide+kernel) (by kernel_rfl) rfl (by kernel_rfl) (by kernel_rfl) (by kernel_rfl)
theorem law (y:Ts)(g1:List Int)(g2:List Int)(W:World)(hO:O7 W y){bo1:BO}{cap1:Nat}(S1:Sl Mc.j8 1 W.heap.size W (.slice (IW bo1) g1.length cap1) g1)(l1:g1.length≤140737488355328){bo2:BO}{cap2:Nat}(S2:Sl Mc.j8 1 W.heap.size W (.slice (IW bo2) g2.length cap2) g2)(l2:g2.length≤140737488355328)(hT:Lib.TabIs Tryz.prog W "internal/strconv.uint64pow10" .u64 Lib.pow10Tab)(m0:Int)(hm:W.cell? ⟨0,0,none⟩=some (.int .i64 m0))(ev:Value)(he:W.cell? ⟨4,0,none⟩=some ev)(Ac:ev=.nilIface∨∃te pe,ev=.iface te pe)(Ad:∀i:Nat,i<64→W.cell? ⟨3,i,none⟩=some (.int .u8 (Mc.U0.getD i 0))):Calls Tryz.prog 4 #[.agg (aQ y).toArray,.slice (IW bo1) g1.length cap1,.slice (IW bo2) g2.length cap2] W fun e W'=>e=.returned (.bool true)∧CI W W':=by
  obtain⟨_,c1⟩:=Mc.R4 S1
  obtain⟨_,c2⟩:=Mc.R4 S2
  exact Mc.Tj (x:=.tt) (v:=.bool true) (ex:=[.sl 2 g1.length cap1,.sl 3 g2.length cap2]) (Hx:=[some (.lst 1 g1.length (fun j=>[.int .i64 (g1.getD j 0)])),some (.lst 1 g2.length (fun j=>[.int .i64 (g2.getD j 0)]))]) (Gx:=[Eg bo1,Eg bo2]) (vx:=[.slice (IW bo1) g1.length cap1,.slice (IW bo2) g2.length cap2]) (fun _=>rfl) hO hT m0 hm ev he Ac Ad rfl (fun i e h=>by
    match i,h with
    |0,h=>cases h;exact⟨_,_,_,rfl,(c1 [] []).2⟩
    |1,h=>cases h;exact⟨_,_,_,rfl,(c2 [] []).2⟩
    |i+2,h=>simp at h) (Bb (c1 (Nt y) [Eg bo2]).1 (Bb (c2 (Nt y++[Eg bo1]) []).1 (rfl))) (fun os hM hT hE hD=>Mc.iL y.ar y.nm y.mi y.r y.cs y.cx y.qu y.kd y.ck g1 cap1 g2 cap2 os hM hT hE (fun c hc=>(hO.code c hc).le) (fun c hc=>(hO.code c hc).ok) hO.le hD hO.mi hO.r (by omega) (by omega))
set_option maxRecDepth 100000 in
theorem lifted (os:Os)(started:os.Started)(H:Type)(enc:TypeId×Value→H):
    ReturnsInHanded {} Tryz.checked os 4 .any (fun w args=>(Rows.scTwinsSpec.pre enc Tryz.prog Tryz.f4 [] false w args∧laidMetH Tryz.prog Rows.scTwinsRow.laid w)∧sizedMet enc Tryz.prog Tryz.f4 (OpenSpec.ofChange Rows.scTwinsSpec) false w args) (Rows.scTwinsSpec.post enc Tryz.prog Tryz.f4 false true false false):=by
  refine wrap (C:=Tryz.checked) (X:=fun w _=>laidMetH Tryz.prog Rows.scTwinsRow.laid w) (fun _ _ _ hh h=>h.of_heap hh) own started (by kernel_rfl) Tryz.func4
    (ChangeSpec.witness_shaped (enc:=enc) (C:=Tryz.checked) (os:=os) (X:=fun w _=>laidMetH Tryz.prog Rows.scTwinsRow.laid w) false (World.laidAll Tryz.prog os Rows.scTwinsRow.laid) #[.agg #[.int .i64 0,.string ⟨#[]⟩,.int .i64 0,.int .i64 0,.int .i64 0,.int .i64 0,.int .i64 0,.int .i64 0,.int .i64 0,.int .i64 0,.int .i64 0,.int .i64 0,.int .i64 0,.int .i64 0,.int .i64 0,.int .i64 0,.int .i64 0,.int .i64 0,.int .i64 0,.int .i64 0,.int .i64 0,.int .i64 0,.int .i64 0,.int .i64 0,.int .i64 0,.int .i64 0,.int .i64 0,.int .i64 0,.int .i64 0,.slice none 0 0,.int .i64 0,.slice none 0 0],.slice none 0 0,.slice none 0 0] 8 (World.laidAll_os _ _ _)
      (World.shaped_of_ZipB (by kernel_rfl) (by kernel_rfl)) (by kernel_rfl) (by kernel_rfl) (by kernel_rfl)
      (by rw [MakeChecks.laidMetH_plain _ _ _ (by kernel_rfl)];exact laidMet_laidAll _ (by kernel_rfl) (by kernel_rfl))) ?_
  intro W base args ds gs before AB hW hL AL hz
  have Tt:∀(j:Nat) t v,Tryz.f4.params[j]?=some t→args[j]?=some v→Value.okWide Tryz.prog W .any base t v:=AB
  have Ae:=hW
  have AP:=hz.weights hW
  obtain⟨p,q,AU,hV,rfl,Af,Ag⟩:=hW
  have hA:DataW.TrodAll enc Tryz.prog W 0 (fun _=>true) true Tryz.f4.params.toList args.toList ds p:=AU
  rw [Tryz.params4]at hA Tt
  obtain⟨v0,vs0,d0,ds0,p0,z0,AV,rfl,rfl,h0,y0⟩:=trodAll_cons hA
  obtain⟨v1,vs1,d1,ds1,p1,z1,rfl,rfl,rfl,h1,y1⟩:=trodAll_cons y0
  obtain⟨v2,vs2,d2,ds2,p2,z2,rfl,rfl,rfl,h2,y2⟩:=trodAll_cons y1
  obtain⟨rfl,rfl,rfl⟩:=trodAll_nil y2
  obtain rfl:args= #[v0,v1,v2]:=by cases args;simp_all
  obtain⟨rfl,rfl⟩:=trodVars_none hV
  have k0:=h0
  have lt0:∀x∈p0,x.block<W.heap.size:=by obtain⟨m,hm⟩:=k0;exact DataW.trod_lt m _ _ _ hm
  have k1:=h1
  have lt1:∀x∈p1,x.block<W.heap.size:=by obtain⟨m,hm⟩:=k1;exact DataW.trod_lt m _ _ _ hm
  have k2:=h2
  have lt2:∀x∈p2,x.block<W.heap.size:=by obtain⟨m,hm⟩:=k2;exact DataW.trod_lt m _ _ _ hm
  obtain⟨y,rfl,hO⟩:=Tg (Tt 0 28 v0 rfl rfl) h0 (It (i:=0) (by kernel_rfl) rfl AP)
  obtain⟨bo1,g1,cap1,rfl,l1,S1⟩:=Mc.MW (Tt 1 29 v1 rfl rfl) h1 (It (i:=1) (by kernel_rfl) rfl AP)
  obtain⟨bo2,g2,cap2,rfl,l2,S2⟩:=Mc.MW (Tt 2 29 v2 rfl rfl) h2 (It (i:=2) (by kernel_rfl) rfl AP)
  have hR:=reachBytes_lt
  clear AU AB
  obtain⟨ev,AQ,AR⟩:=iM hL
  obtain⟨m0,hm⟩:=AE AL
  have hc:=law y g1 g2 W hO S1 (by omega) S2 (by omega) (AD hL) m0 hm ev AQ AR (pT hL)
  refine hc.mono fun e W' ⟨he,bel⟩=>?_
  subst he
  exact⟨_,rfl,_,_,_,[],_,[],Ae,trodAll_mk1 (shut_bool Tryz.underlying4 _),(trodAll_cons_mk (Below.trod laidOut (by kernel_rfl) (δ0 (by kernel_rfl)) k0 bel lt0) (trodAll_cons_mk (Below.trod laidOut (by kernel_rfl) (δ0 (by kernel_rfl)) k1 bel lt1) (trodAll_cons_mk (Below.trod laidOut (by kernel_rfl) (δ0 (by kernel_rfl)) k2 bel lt2) trodAll_mk0))),rfl,bel.frame _,fun h=>by cases h⟩
theorem row:Rows.ScTwinsSaid:=
  OpenClaim.holds_of_wide 4 Tryz.f4 rfl rfl rfl rfl rfl rfl rfl ⟨rfl,rfl,rfl,rfl,rfl⟩ rfl rfl rfl rfl rfl (by kernel_rfl) Tryz.func4 (by kernel_rfl)
    (δ0 (by kernel_rfl)) (by unfold Func.isWrapper;first|(rw [if_pos (by decide+kernel)];kernel_rfl)|(rw [if_neg (by decide+kernel)];exact⟨rfl,rfl⟩))
    (fun os started H enc _=>lifted os started H enc)
theorem AJ:Rows.ScTwinsCardSaid:=
  Claim7.holds_tied_plain_at .later [] [.data,.data,.data,.data,.sentinel,.sentinel,.pinned] true (true,Rows.scTwinsCard.stood.harness.2) true
    row (fun _ h=>by cases h) (by kernel_rfl) (fun _ h=>by cases h) scTwins_row_tie rfl ⟨rfl,rfl⟩ (by kernel_rfl) rfl
    (fun f fn hf AK=>by
      obtain rfl:f=4:=β6 ((show Tryz.prog.funcNamed Rows.scTwinsRow.func=some 4 by kernel_rfl).symm.trans hf) |>.symm
      obtain rfl:fn=Tryz.f4:=(β6 (Tryz.func4.symm.trans AK)).symm
      exact⟨by kernel_rfl,fun j t ht=>by
        rw [Tryz.params4]at ht
        have hm:t∈[28,29,29]:=by simpa using Array.mem_of_getElem? ht
        have AS:([28,29,29].all fun u=> !Tryz.prog.wantsStandIn u)=true:=by kernel_rfl
        exact(show Tryz.prog.wantsStandIn t=false by simpa using δ7.1 AS t hm)⟩)
    (by kernel_rfl)
end Go.Proofs.YtbbdanhpphlbpaaGreatDoor.scTwins
namespace Go.Proofs.YtbbdanhpphlbpaaGreatDoor
theorem scTwins_holds:Rows.ScTwinsCardSaid:=scTwins.AJ
end Go.Proofs.YtbbdanhpphlbpaaGreatDoor
#print axioms Go.Proofs.YtbbdanhpphlbpaaGreatDoor.scTwins_holds
