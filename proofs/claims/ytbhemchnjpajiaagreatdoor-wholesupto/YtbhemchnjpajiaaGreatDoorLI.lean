/- Several texts in one: QSk2, QAs. -/
import Derived.Test.YtbhemchnjpajiaaGreatDoorLF
set_option linter.unusedVariables false
set_option maxRecDepth 100000
set_option maxHeartbeats 4000000
namespace Go.Proofs.YtbhemchnjpajiaaGreatDoor
open Go.RowKit Go.Proofs.Tryz RD
structure sJ(x:Fx)(G:Nat->Prop)(c:aC)(fed out:aj)(given R:Nat)(w:World)(S:Nat)(m:MS)(a:RD.St)(G1:Nat->Prop)(ss:List Value)(v6 vr:Value):Prop where
 blk:aB w R 94 [.pointer (some ⟨S,0,none⟩),vr,.nilIface,.bool false]
 row:aT 0 w vr (out.drop given)
 le:given<=out.length
 lk:Lk c fed m [] out a
 wants:RD.step c a=.wants
 len:m.bg.length<=bQ m.nx m.bg m.kd m.nm
 str:bF x G1 c m S ss v6 w
 own:∀k,G1 k->G k/\k<w.heap.size
 nr:¬G1 R
 nv:∀k,vr.ownBlock=some k->¬G1 k/\G k/\S<k
 sr:S<R
 bW:G R
 base:∀k,G k->x.base<=k
 rows:jE x w
 few:gX w S+3*lC m []<=3*fed.length
structure lD(x:Fx)(G:Nat->Prop)(text:aj)(n:Nat)(place:Nat×Nat)(closed:Bool)(given R:Nat)(w:World)(F:Nat)(vr:Value):Prop where
 blk:aB w R 94 [.pointer none,vr,.iface 106 (.pointer (some ⟨F,0,none⟩)),.bool closed]
 row:aT 0 w vr (text.drop given)
 le:given<=text.length
 flt:aB w F 111 [.int .i64 (place.1:Nat),.int .i64 (place.2:Nat),aW (eF x n)]
 num:n=2\/n=4\/n=5\/n=6\/n=7\/n=8
 bW:G R
 nv:∀k,vr.ownBlock=some k->G k
 base:∀k,G k->x.base<=k
 vars:bI x w
 rows:jE x w
theorem Uk{c:aC}{a:RD.St}{n:Nat}(h:RD.step c a=.err n):n=4\/n=5\/n=6\/n=8:=by
 obtain⟨fr,ph,f,left,text⟩:=a
 unfold RD.step at h
 cases ph with
 | letters =>
  simp only[]at h
  repeat' split at h
  all_goals first|(cases h;done)|(cases h;omega)
 | skip =>
  simp only[]at h
  repeat' split at h
  all_goals first|(cases h;done)|(cases h;omega)
 | header =>
  simp only[]at h
  cases hx:RD.header c left with
  | wants=>rw[hx]at h;cases h
  | ok r=>rw[hx]at h;cases h
  | err e =>
   rw[hx]at h
   cases h
   unfold RD.header at hx
   repeat' (first|split at hx|(simp only[]at hx))
   all_goals first|(cases hx;done)|(cases hx;omega)
 | blocks =>
  simp only[]at h
  cases hx:RD.block f left with
  | wants=>rw[hx]at h;cases h
  | ok r =>
   rw[hx]at h
   simp only[]at h
   repeat' split at h
   all_goals cases h
  | err e =>
   rw[hx]at h
   cases h
   unfold RD.block at hx
   repeat' (first|split at hx|(simp only[]at hx))
   all_goals first|(cases hx;done)|(cases hx;omega)
 | sum =>
  simp only[]at h
  repeat' split at h
  all_goals first|(cases h;done)|(cases h;omega)
theorem QZ(R:Nat)(v0 v1 v2 v3:Value)(F:Nat)(w:World)(h:aB w R 94 [v0,v1,v2,v3]) :
  Calls prog 42 #[.pointer (some ⟨R,0,none⟩),.iface 106 (.pointer (some ⟨F,0,none⟩))] w fun e w'=>e=.returned (.tuple #[])/\aB w' R 94 [.pointer none,v1,.iface 106 (.pointer (some ⟨F,0,none⟩)),v3]/\Only (·=R) w w':=by
 have c0:=h.cell (j:=0) rfl
 have c2:=h.cell (j:=2) rfl
 have fz:=h.free
 go_enter func42,ntmps42
 go_wp2_with fail
 go_end0
 exact⟨rfl,(h.put 2 _).put 0 _,((Only.refl (·=R) w).setCell ⟨R,2,none⟩ _ (fun _=>rfl)).setCell ⟨R,0,none⟩ _ (fun _=>rfl)⟩
def Q5(x:Fx)(G:Nat->Prop)(c:aC)(fed text:aj)(given R:Nat)(w:World)(e:Ending)(w':World):Prop :=
 e=.returned (.int .i64 0)/\Only G w w'/\∃(a:RD.St)(G':Nat->Prop),(∀k,G' k->G k\/w.heap.size<=k)/\RD.Reach c (RD.St.start (fed++text)) a /\
  ((RD.step c a=.wants/\∃S m G1 ss v6 vr,sJ x G' c (fed++text) a.text given R w' S m a G1 ss v6 vr) \/
   ∃n F vr,RD.step c a=.err n/\lD x G' a.text n (a.frames,a.f.blocks) false given R w' F vr)
theorem Ul(x:Fx)(G:Nat->Prop)(c:aC)(hc:nU c)(fed text out:aj)(given R S:Nat)(m:MS)(a:RD.St)(G1:Nat->Prop)(ss:List Value)(v6 vr:Value)(w:World)(h:sJ x G c fed out given R w S m a G1 ss v6 vr)(hlen:(fed++text).length<=268435456) :
  Calls prog 23 #[.pointer (some ⟨R,0,none⟩),.string (ah text)] w (Q5 x G c fed text given R w):=by
 have c0:=h.blk.cell (j:=0) rfl
 have c1:=h.blk.cell (j:=1) rfl
 have c2:=h.blk.cell (j:=2) rfl
 have c3:=h.blk.cell (j:=3) rfl
 have hfd:=acM x G1 c hc fed text out m a S ss v6 w h.str (fun k hk=>(h.own k hk).2) h.lk h.len hlen (3*fed.length) h.few (by rw[List.length_append]at hlen;omega)
 have Js:=h.blk.lt
 replace hlen:=aA hlen
 go_enter func23,ntmps23
 go_wp2_with fail
 refine hfd.mono ?_
 rintro e w1 ⟨aF,hV1,a1,p,hr1,ht1,hcase⟩
 have hB1:=h.blk.only aF h.nr
 have hR1:=h.row.only aF (fun k hk=>(h.nv k hk).1)
 have hsm:p.length<=274877906944/\(out.drop given).length<=274877906944:=by
  have h4:=(Ov hr1).2.2.2
  have h5:=congrArg List.length ht1
  rw[List.length_append]at h5
  have h6:=hlen.out
  refine⟨by omega,?_⟩
  rw[List.length_drop]
  omega
 have hdr:Hid ((out++p).drop given=out.drop given++p):=by rw[Hid,List.drop_append_of_le_length h.le]
 obtain⟨T,hT⟩:∃T,T=out.drop given:=⟨_,rfl⟩
 rw[<- hT]at hR1 hsm hdr
 replace hT:=aA hT
 obtain⟨v2,w2,hrun,hR2,hO2,iD⟩:=Dx 0 9 36 w1 vr _ T p hR1 (zN w1 p) (by omega) (Nat.zero_le _)
 obtain⟨ad,cc,rfl,q1,q2,q3⟩:=hR1.form
 have hB2:=hB1.only hO2 (fun e=>(hR1.blk e).2.ne hB1 (by decide) rfl)
 obtain⟨a2,nV,rfl,p1,p2,p3⟩:=hR2.form
 have qA:(T++p).length=T.length+p.length:=List.length_append
 rw[qA]at hrun hR2 iD p1
 replace qA:=aA qA
 have d1:=hB1.cell (j:=1) rfl
 have e1:=hB2.cell (j:=1) rfl
 have Dz:=hB1.free
 have DC:=hB2.free
 have hB3:=hB2.put 1 (.slice a2 (T.length+p.length) nV)
 have hO3:Only (·=R) w2 (w2.setCell ⟨R,1,none⟩ (.slice a2 (T.length+p.length) nV)):=(Only.refl (·=R) w2).setCell ⟨R,1,none⟩ _ (fun _=>rfl)
 have aV:aT 0 (w2.setCell ⟨R,1,none⟩ (.slice a2 (T.length+p.length) nV)) (.slice a2 (T.length+p.length) nV) (T++p):=hR2.only hO3 (fun k hk e=>(hR2.blk hk).2.ne hB2 (by decide) e)
 have hK:∀k,(G1 k\/k=R\/(Value.slice ad T.length cc).ownBlock=some k)->G k:=fun k hk=>by
  rcases hk with hk|rfl|hk
  ·exact(h.own k hk).1
  ·exact h.bW
  ·exact(h.nv k hk).2.1
 have wG:Only (fun k=>G1 k\/k=R\/(Value.slice ad T.length cc).ownBlock=some k) w (w2.setCell ⟨R,1,none⟩ (.slice a2 (T.length+p.length) nV)):=((aF.weaken (fun _ _ e=>.inl e)).trans (hO2.weaken (fun _ _ e=>.inr (.inr e)))).trans (hO3.weaken (fun _ _ e=>.inr (.inl e)))
 have hv0:∀k,(Value.slice ad T.length cc).ownBlock=some k->k<w.heap.size:=fun k hk=>(h.row.blk hk).2.lt
 have hv2:∀k,(Value.slice a2 (T.length+p.length) nV).ownBlock=some k->(Value.slice ad T.length cc).ownBlock=some k\/k=w1.heap.size:=fun k hk=>by
  rcases iD with e|e
  ·exact .inl (e.symm.trans hk)
  ·rw[e]at hk
   injection hk with hk
   exact .inr hk.symm
 have hsz1:=aF.size
 have ac1:=h.rows.only h.str.vars wG (fun k hk=>h.base k (hK k hk))
 generalize hw3:w2.setCell ⟨R,1,none⟩ (.slice a2 (T.length+p.length) nV)=w3 at *
 replace hw3:=aA hw3
 rcases hcase with⟨hw,rfl,m',G',ss',sD,Jt,hlen',yx,hcn',hG'⟩|⟨n,F,hn,rfl,hF,Ju⟩
 ·go_wp2_with(at_builtin;refine wpList_append_run rfl _ _ 36 9 rfl _ _ _ w2 rfl rfl hrun ?_)
  go_ret
  rw[hw3.out]
  have Jv:∀k,(Value.slice ad T.length cc).ownBlock=some k->¬G' k:=fun k hk e=>by
   rcases(hG' k e).1 with e|e
   ·exact(h.nv k hk).1 e
   ·have:=hv0 k hk;omega
  have Jw:¬G' R:=fun e=>by
   rcases(hG' R e).1 with e|e
   ·exact h.nr e
   ·omega
  have hSR:∀k,G' k->k<w1.heap.size:=fun k hk=>(hG' k hk).2
  have sH:Only (fun k=>k=R\/(Value.slice ad T.length cc).ownBlock=some k) w1 w3:=(hO2.weaken (fun _ _ e=>.inr e)).trans (hO3.weaken (fun _ _ e=>.inl e))
  have hnt:∀k,k<w1.heap.size->(k=R\/(Value.slice ad T.length cc).ownBlock=some k)->b_ w1 k:=fun k _ hk=>by
   rcases hk with e|e
   ·rw[e];exact b_.jg hB1 (by decide) (by decide)
   ·exact b_.uy (hR1.blk e).2
  have yu:gX w3 S=gX w1 S:=qJ yx sH (fun M hM hk=>by
   rcases hk with e|e
   ·exact hM.ne hB1 e
   ·exact(hR1.blk e).2.o_ hM) (yx.blk.only sH (fun hk=>by
   rcases hk with e|e
   ·exact Jw (e▸yx.bW.1)
   ·exact Jv S e yx.bW.1)) rfl
  refine⟨rfl,wG.weaken (fun k _ hk=>hK k hk),a1,fun k=>G k\/G' k\/(Value.slice a2 (T.length+p.length) nV).ownBlock=some k,fun k hk=>?_,hr1,.inl ⟨hw,S,m',G',ss',sD,_,hB3,?_,?_,by rw[ht1];exact Jt,hw,hlen',?_,fun k hk=>⟨.inr (.inl hk),?_⟩,Jw,fun k hk=>⟨fun e=>?_,.inr (.inr hk),?_⟩,h.sr,.inl h.bW,fun k hk=>?_,ac1,?_⟩⟩
  ·rcases hk with hk|hk|hk
   ·exact .inl hk
   ·rcases(hG' k hk).1 with e|e
    ·exact .inl (h.own k e).1
    ·exact .inr e
   ·rcases hv2 k hk with e|e
    ·exact .inl (h.nv k e).2.1
    ·exact .inr (by omega)
  ·rw[ht1,hdr.out];exact aV
  ·rw[ht1,List.length_append];have:=h.le;omega
  ·refine yx.apart sH (fun k hkl hk=>⟨fun e=>?_,?_⟩) hnt
   ·rcases hk with rfl|hk
    ·exact Jw e
    ·exact Jv k hk e
   ·rcases hk with rfl|hk
    ·exact h.sr
    ·exact(h.nv k hk).2.2
  ·have:=hSR k hk
   have:=sH.size
   omega
  ·rcases hv2 k hk with e1|e1
   ·exact Jv k e1 e
   ·have:=hSR k e;omega
  ·rcases hv2 k hk with e1|e1
   ·exact(h.nv k e1).2.2
   ·have:=h.str.blk.lt;omega
  ·rcases hk with hk|hk|hk
   ·exact h.base k hk
   ·exact yx.base k hk
   ·rcases hv2 k hk with e|e
    ·exact h.base k (h.nv k e).2.1
    ·have:=hV1.size;omega
  ·rw[yu,List.length_append]
   omega
 ·have hst:=QZ R (.pointer (some ⟨S,0,none⟩)) (.slice a2 (T.length+p.length) nV) .nilIface (.bool false) F w3 hB3
  go_wp2_with(at_builtin;refine wpList_append_run rfl _ _ 36 9 rfl _ _ _ w2 rfl rfl hrun ?_)
  rw[hw3.out]
  refine hst.mono ?_
  rintro e w4 ⟨rfl,hB4,hO4⟩
  go_wp2_with fail
  go_ret
  have hn4:=Uk hn
  have ac2:=Ju.only hO2 (fun e=>by have:=hv0 F e;omega)
  have ac3:=ac2.only hO3 (fun e=>by omega)
  have ac4:=ac3.only hO4 (fun e=>by omega)
  have Jy:Only (fun k=>G1 k\/k=R\/(Value.slice ad T.length cc).ownBlock=some k) w w4:=wG.trans (hO4.weaken (fun _ _ e=>.inr (.inl e)))
  have fA:=aV.only hO4 (fun k hk e=>(aV.blk hk).2.ne hB3 (by decide) e)
  refine⟨rfl,Jy.weaken (fun k _ hk=>hK k hk),a1,fun k=>G k\/(Value.slice a2 (T.length+p.length) nV).ownBlock=some k,fun k hk=>?_,hr1,.inr ⟨n,F,_,hn,hB4,?_,?_,ac4,by omega,.inl h.bW,fun k hk=>.inr hk,fun k hk=>?_,h.str.vars.only Jy (fun k hk=>h.base k (hK k hk)),h.rows.only h.str.vars Jy (fun k hk=>h.base k (hK k hk))⟩⟩
  ·rcases hk with hk|hk
   ·exact .inl hk
   ·rcases hv2 k hk with e|e
    ·exact .inl (h.nv k e).2.1
    ·exact .inr (by omega)
  ·rw[ht1,hdr.out];exact fA
  ·rw[ht1,List.length_append];have:=h.le;omega
  ·rcases hk with hk|hk
   ·exact h.base k hk
   ·rcases hv2 k hk with e|e
    ·exact h.base k (h.nv k e).2.1
    ·have:=hV1.size;omega
end Go.Proofs.YtbhemchnjpajiaaGreatDoor
namespace Go.Proofs.YtbhemchnjpajiaaGreatDoor
open Go.RowKit Go.Extern.Stop Go.Stop Go.Extern Go.Proofs.Tryz
theorem ac5(t:Addr)(w:World):(ReflectliteValue.unpack (.iface 108 (.pointer (some t)))).run prog w
  = .ok (.agg #[.pointer (some ⟨8,108,none⟩),.pointer (some ⟨w.heap.size,0,none⟩),.int .u64 150]) (w.alloc (.cells #[.pointer (some t)] 108)):=by kernel_rfl
theorem asx_type27 (a : Addr) (w : World) : (ReflectliteValue.methodAny (ReflectliteValue.valueError "reflectlite.Value.Type" 0) (fun t _ _ _ => ReflectliteType.toType t) #[.agg #[.pointer (some ⟨8, 108, none⟩), .pointer (some a), .int .u64 150]]).run Tryz.prog w
  = .ok (.iface 181 (.agg #[.pointer (some ⟨8,108,none⟩)])) w:=by kernel_rfl
theorem asx_methodKind (h : Value) (w : World) : (Go.method 437 181 (.agg #[h]) "Kind").run Tryz.prog w = .ok (196, h) w := by kernel_rfl
theorem ac6(w:World):((ReflectliteType.abiMethod fun t=>(fun a:Nat=>Value.int IntKind.u8 (a:Int)) <$> Rtype.kind t) #[.pointer (some ⟨8,108,none⟩)]).run prog w=.ok (.int .u8 22) w:=by kernel_rfl
theorem ac7(w:World):((ReflectliteType.abiMethod fun t=>(fun a:Nat=>Value.int IntKind.u8 (a:Int)) <$> Rtype.kind t) #[.pointer (some ⟨8,106,none⟩)]).run prog w=.ok (.int .u8 22) w:=by kernel_rfl
theorem Q7(z:Sem Value)(f:TypeId->Addr->Nat->Nat->Sem Value)(v:Value) :
  ReflectliteValue.method z f #[v]=(do match <- ReflectliteValue.parts v with|none=>z|some (t,a,fl)=>f t a fl (fl%32)):=rfl
theorem Q8(a:Addr)(w:World):(ReflectliteValue.parts (.agg #[.pointer (some ⟨8,108,none⟩),.pointer (some a),.int .u64 150])).run prog w=.ok (some (108,a,150)) w:=by kernel_rfl
theorem ac8(a p:Addr)(W:World)(ha:W.cell? a=some (.pointer (some p))) :
  (ReflectliteValue.method (ReflectliteValue.valueError "reflectlite.Value.IsNil" 0) ReflectliteValue.isNil #[.agg #[.pointer (some ⟨8, 108, none⟩), .pointer (some a), .int .u64 150]]).run Tryz.prog W = .ok (.bool false) W := by
 rw[Q7]
 simp only[Sem.run_bind,Q8,Result.andThen]
 simp[ReflectliteValue.isNil,loadVar,isAgg,underlying,underlying108,ha,Result.andThen]
theorem asx_methodElem (h : Value) (w : World) : (Go.method 437 181 (.agg #[h]) "Elem").run Tryz.prog w = .ok (208, .agg #[h]) w := by kernel_rfl
theorem asx_methodImplements (h : Value) (w : World) : (Go.method 437 181 (.agg #[h]) "Implements").run Tryz.prog w = .ok (209, .agg #[h]) w := by kernel_rfl
theorem asx_methodAssignableTo (h : Value) (w : World) : (Go.method 437 181 (.agg #[h]) "AssignableTo").run Tryz.prog w = .ok (206, .agg #[h]) w := by kernel_rfl
theorem ac9(w:World):(ReflectliteType.method ReflectliteType.elem #[.agg #[.pointer (some ⟨8,108,none⟩)]]).run prog w=.ok (.iface 181 (.agg #[.pointer (some ⟨8,106,none⟩)])) w:=by kernel_rfl
theorem asx_implements25 (w : World) : (ReflectliteType.relation "Implements" ReflectliteType.implements_ #[.agg #[.pointer (some ⟨8, 106, none⟩)], .iface 181 (.agg #[.pointer (some ⟨8, 92, none⟩)])]).run Tryz.prog w = .ok (.bool true) w := by kernel_rfl
theorem ac_(v:Value)(w:World):(ReflectliteType.typeOf #[.iface 106 v]).run prog w=.ok (.iface 181 (.agg #[.pointer (some ⟨8,106,none⟩)])) w:=by kernel_rfl
theorem asx_assignable25 (w : World) : (ReflectliteType.relation "AssignableTo" ReflectliteType.assignableTo #[.agg #[.pointer (some ⟨8, 106, none⟩)], .iface 181 (.agg #[.pointer (some ⟨8, 106, none⟩)])]).run Tryz.prog w = .ok (.bool true) w := by kernel_rfl
theorem ada(e:Addr)(w:World):(ReflectliteValue.unpack (.iface 106 (.pointer (some e)))).run prog w
  = .ok (.agg #[.pointer (some ⟨8,106,none⟩),.pointer (some ⟨w.heap.size,0,none⟩),.int .u64 150]) (w.alloc (.cells #[.pointer (some e)] 106)):=by kernel_rfl
theorem adb(w:World):(Rtype.elem? 108).run prog w=.ok (some 106) w:=by kernel_rfl
theorem ade(p:Addr)(w:World):(ReflectliteValue.mk 106 p ReflectliteValue.flagAddr).run prog w=.ok (.agg #[.pointer (some ⟨8,106,none⟩),.pointer (some p),.int .u64 406]) w:=by kernel_rfl
theorem adf(a p:Addr)(W:World)(ha:W.cell? a=some (.pointer (some p))) :
  (ReflectliteValue.method (ReflectliteValue.valueError "reflectlite.Value.Elem" 0) ReflectliteValue.elem #[.agg #[.pointer (some ⟨8, 108, none⟩), .pointer (some a), .int .u64 150]]).run Tryz.prog W
   = .ok (.agg #[.pointer (some ⟨8,106,none⟩),.pointer (some p),.int .u64 406]) W:=by
 rw[Q7]
 simp only[Sem.run_bind,Q8,Result.andThen]
 simp[ReflectliteValue.elem,loadVar,isAgg,underlying,underlying108,ha,Result.andThen,adb,ade]
theorem adg(v x:Value):ReflectliteValue.set #[v,x]=(do
  let(some (dst,a,fl),some (src,b,_)):=(<- ReflectliteValue.parts v,<- ReflectliteValue.parts x)
   | unsupported (.noEntry "extern/(internal/reflectlite.Value).Set.zeroValue")
  if fl / ReflectliteValue.flagAddr % 2 == 0 then unsupported (.noEntry "extern/(internal/reflectlite.Value).Set.unaddressable")
  let val <- loadVar src b
  if <- Rtype.directlyAssignable dst src then storeVar dst a val
  else if <- Rtype.implements dst src then
   if(<- Rtype.kind src)==20 then
    match val with
    | .nilIface => unsupported (.noEntry "extern/reflectlite: a nil value of one interface type handed on as a value of another")
    | _=>storeVar dst a val
   else storeVar dst a (.iface src val)
  else panicString ("reflectlite.Set: value of type " ++ (← Rtype.spelt src) ++ " is not assignable to type " ++ (← Rtype.spelt dst))
  pure (.tuple #[])):=rfl
theorem adh(a:Addr)(w:World):(ReflectliteValue.parts (.agg #[.pointer (some ⟨8,106,none⟩),.pointer (some a),.int .u64 406])).run prog w=.ok (some (106,a,406)) w:=by kernel_rfl
theorem adi(a:Addr)(w:World):(ReflectliteValue.parts (.agg #[.pointer (some ⟨8,106,none⟩),.pointer (some a),.int .u64 150])).run prog w=.ok (some (106,a,150)) w:=by kernel_rfl
theorem adk(w:World):(Rtype.directlyAssignable 106 106).run prog w=.ok true w:=by kernel_rfl
theorem adl(ta b e:Addr)(old:Value)(W:World)(hb:W.cell? b=some (.pointer (some e)))(ht:W.cell? ta=some old)(hf:W.frozen? ta=false) :
  (ReflectliteValue.set #[.agg #[.pointer (some ⟨8,106,none⟩),.pointer (some ta),.int .u64 406],.agg #[.pointer (some ⟨8,106,none⟩),.pointer (some b),.int .u64 150]]).run prog W
   = .ok (.tuple #[]) (W.setCell ta (.pointer (some e))):=by
 rw[adg]
 simp only[Sem.run_bind,adh,adi,Result.andThen]
 simp[ReflectliteValue.flagAddr,loadVar,isAgg,underlying,underlying106,hb,Result.andThen,adk,storeVar,Value.cells,storeCells,Addr.add]
 rw[run_store prog W ta _ _ (by rfl)]
 simp[ht,hf]
theorem as_hit(e t:Addr)(old:Value)(w:World)(hg:w.cell? ⟨5,0,none⟩=some (.iface 181 (.agg #[.pointer (some ⟨8,92,none⟩)])))(ht0:w.cell? t=some old)(hf0:w.frozen? t=false) :
  Calls prog 51 #[.iface 106 (.pointer (some e)),.iface 108 (.pointer (some t))] w fun ev w'=>ev=.returned (.bool true)/\w'=((((w.alloc (.cells #[.pointer (some t)] 108)).alloc (.cells #[.pointer (some ⟨8,108,none⟩),.pointer (some ⟨w.heap.size,0,none⟩),.int .u64 150] 160)).alloc (.cells #[.pointer (some ⟨8,108,none⟩),.pointer (some ⟨w.heap.size,0,none⟩),.int .u64 150] 160)).alloc (.cells #[.pointer (some e)] 106)).setCell t (.pointer (some e)):=by
 have h6:=@run_callFunc_extern prog 63 _ (fun args=>ReflectliteValue.unpack (args.getD 0 (.tuple #[]))) func63 (by kernel_rfl) (by kernel_rfl) (by kernel_rfl) (by kernel_rfl)
 have h7 := @run_callFunc_extern Tryz.prog 64 _ (ReflectliteValue.methodAny (ReflectliteValue.valueError "reflectlite.Value.Type" 0) (fun t _ _ _ => ReflectliteType.toType t)) Tryz.func64 (by kernel_rfl) (by kernel_rfl) (by kernel_rfl) (by kernel_rfl)
 have h8 := @run_callFunc_extern Tryz.prog 65 _ (ReflectliteValue.method (ReflectliteValue.valueError "reflectlite.Value.IsNil" 0) ReflectliteValue.isNil) Tryz.func65 (by kernel_rfl) (by kernel_rfl) (by kernel_rfl) (by kernel_rfl)
 have h27:=@run_callFunc_extern prog 196 _ (ReflectliteType.abiMethod fun t=>do pure (.int .u8 (<- Rtype.kind t))) func196 (by kernel_rfl) (by kernel_rfl) (by kernel_rfl) (by kernel_rfl)
 have h37:=@run_callFunc_extern prog 208 _ (ReflectliteType.method ReflectliteType.elem) func208 (by kernel_rfl) (by kernel_rfl) (by kernel_rfl) (by kernel_rfl)
 have h38 := @run_callFunc_extern Tryz.prog 209 _ (ReflectliteType.relation "Implements" ReflectliteType.implements_) Tryz.func209 (by kernel_rfl) (by kernel_rfl) (by kernel_rfl) (by kernel_rfl)
 have h10:=@run_callFunc_extern prog 67 _ ReflectliteType.typeOf func67 (by kernel_rfl) (by kernel_rfl) (by kernel_rfl) (by kernel_rfl)
 have h35 := @run_callFunc_extern Tryz.prog 206 _ (ReflectliteType.relation "AssignableTo" ReflectliteType.assignableTo) Tryz.func206 (by kernel_rfl) (by kernel_rfl) (by kernel_rfl) (by kernel_rfl)
 have h11 := @run_callFunc_extern Tryz.prog 86 _ (ReflectliteValue.method (ReflectliteValue.valueError "reflectlite.Value.Elem" 0) ReflectliteValue.elem) Tryz.func86 (by kernel_rfl) (by kernel_rfl) (by kernel_rfl) (by kernel_rfl)
 have h12:=@run_callFunc_extern prog 87 _ ReflectliteValue.set func87 (by kernel_rfl) (by kernel_rfl) (by kernel_rfl) (by kernel_rfl)
 have tO:=ac_
 have mA:=asx_methodAssignableTo
 have a25:=asx_assignable25
 have v25:=ada
 have f6:=ac5
 have f7:=asx_type27
 have mK:=asx_methodKind
 have mE:=asx_methodElem
 have mI:=asx_methodImplements
 have k27:=ac6
 have k25:=ac7
 have e27:=ac9
 have i25:=asx_implements25
 have n8:=ac8 ⟨w.heap.size,0,none⟩ t ((w.alloc (.cells #[.pointer (some t)] 108)).alloc (.cells #[.pointer (some ⟨8,108,none⟩),.pointer (some ⟨w.heap.size,0,none⟩),.int .u64 150] 160)) (by simp)
 have hlt:5<w.heap.size:=by
  exact World.block_lt_of_cell? w _ hg
 have hg2:((w.alloc (.cells #[.pointer (some t)] 108)).alloc (.cells #[.pointer (some ⟨8,108,none⟩),.pointer (some ⟨w.heap.size,0,none⟩),.int .u64 150] 160)).cell? ⟨5,0,none⟩=some (.iface 181 (.agg #[.pointer (some ⟨8,92,none⟩)])):=by
  rw[World.cell?_alloc_lt _ _ ⟨5,0,none⟩ (by simp;omega),World.cell?_alloc_lt _ _ ⟨5,0,none⟩ hlt];exact hg
 have htl:t.block<w.heap.size:=by
  rcases Nat.lt_or_ge t.block w.heap.size with h|h
  ·exact h
  ·simp[World.cell?,Array.getElem?_eq_none h]at ht0
 have el:=adf ⟨w.heap.size,0,none⟩ t (((w.alloc (.cells #[.pointer (some t)] 108)).alloc (.cells #[.pointer (some ⟨8,108,none⟩),.pointer (some ⟨w.heap.size,0,none⟩),.int .u64 150] 160)).alloc (.cells #[.pointer (some ⟨8,108,none⟩),.pointer (some ⟨w.heap.size,0,none⟩),.int .u64 150] 160)) (by rw[World.cell?_alloc_lt _ _ ⟨w.heap.size,0,none⟩ (by simp;omega)];simp)
 have st:=adl t ⟨w.heap.size+1+1+1,0,none⟩ e old ((((w.alloc (.cells #[.pointer (some t)] 108)).alloc (.cells #[.pointer (some ⟨8,108,none⟩),.pointer (some ⟨w.heap.size,0,none⟩),.int .u64 150] 160)).alloc (.cells #[.pointer (some ⟨8,108,none⟩),.pointer (some ⟨w.heap.size,0,none⟩),.int .u64 150] 160)).alloc (.cells #[.pointer (some e)] 106))
  (by rw[World.cell?_alloc_at _ _ _ _ (by simp)];rfl)
  (by rw[World.cell?_alloc_lt _ _ t (by simp;omega),World.cell?_alloc_lt _ _ t (by simp;omega),World.cell?_alloc_lt _ _ t (by simp;omega),World.cell?_alloc_lt _ _ t htl];exact ht0)
  (by rw[World.frozen?_alloc_old _ _ t (by simp;omega),World.frozen?_alloc_old _ _ t (by simp;omega),World.frozen?_alloc_old _ _ t (by simp;omega),World.frozen?_alloc_old _ _ t (Nat.ne_of_lt htl)];exact hf0)
 go_enter func51,ntmps51
 go_wp2
 refine wp_loop_rounds 1 ?_
 rw[rounds_succ]
 go_wp2
 go_ret
 exact⟨rfl,rfl⟩
end Go.Proofs.YtbhemchnjpajiaaGreatDoor
