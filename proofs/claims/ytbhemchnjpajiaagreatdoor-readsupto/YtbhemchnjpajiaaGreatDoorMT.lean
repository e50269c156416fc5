/- Several texts in one: QAct, QAct2, QAct3. -/
import Derived.Test.YtbhemchnjpajiaaGreatDoorMS
import Derived.Test.YtbhemchnjpajiaaGreatDoorMP
import Derived.Test.YtbhemchnjpajiaaGreatDoorMQ
set_option linter.unusedVariables false
set_option linter.unusedSimpArgs false
set_option maxRecDepth 100000
set_option maxHeartbeats 4000000
namespace Go.Proofs.YtbhemchnjpajiaaGreatDoor
open Go.RowKit Go.Proofs.Tryz RD
structure tq(x:Fx)(G:Nat->Prop)(R r:Nat)(v:Value)(w:World)(P:Nat)(c:aC)(fed:aj)(closed:Bool)(given:Nat):Prop where
 blk:aB w P 87 [.pointer (some ⟨R,0,none⟩),.pointer (some ⟨r,0,none⟩)]
 cfg:nU c
 mine:if closed then uU x G c fed given R w else OpenAt x G c fed given R w
 ref:dY w r c v fed closed given
 nr:¬G r
 np:¬G P
 nv:∀b,bJ v=some b->¬G b
 rp:r≠P
 base:x.base<=r
 small:∀k,G k->k<w.heap.size
theorem akr(c:aC)(fed:aj)(closed:Bool)(h:fed.length<=268435456):(RD.told c fed closed).1.length<=1099511627776:=by
 obtain⟨a,h1,h2|⟨e,h2⟩⟩:=RD.stops c (fed.length+1) (RD.St.start fed) (by show fed.length<_;omega)
 ·rw[yQ closed h1 h2]
  have:=h1.less.2.2
  have e:a.text.length+1024*a.left.length<=0+1024*fed.length:=this
  show a.text.length<=_
  omega
 ·rw[xE closed h1 h2]
  have:=h1.less.2.2
  have e:a.text.length+1024*a.left.length<=0+1024*fed.length:=this
  show a.text.length<=_
  omega
theorem g_.away{w w':World}{v:Value}{ds:List (Int×aj)}{K:Nat->Prop}(h:g_ w v ds)(ho:Only K w w')(hi:∀b,bJ v=some b->¬K b):g_ w' v ds:=by
 obtain⟨a,c,rfl,h4,h⟩:=h
 refine⟨a,c,rfl,h4,?_⟩
 rcases h with h|⟨g,off,rfl,hg,h⟩
 ·exact .inl h
 ·exact .inr ⟨g,off,rfl,Nat.lt_of_lt_of_le hg ho.size,fun i hi'=>⟨ho.cell (h i hi').1 hg (hi g rfl),ho.cell (h i hi').2 hg (hi g rfl)⟩⟩
theorem dY.away{w w':World}{r:Nat}{c:aC}{v:Value}{fed:aj}{closed:Bool}{given:Nat}{K:Nat->Prop}(h:dY w r c v fed closed given)(ho:Only K w w')(hr:¬K r)(hv:∀b,bJ v=some b->¬K b):dY w' r c v fed closed given :=
 ⟨h.blk.only ho hr,h.slice,h.cfg,h.aP.away ho hv,fun b hb=>⟨Nat.lt_of_lt_of_le (h.inn b hb).1 ho.size,(h.inn b hb).2⟩,h.len⟩
def ak4(kind:Int)(s fed:aj)(closed:Bool):aj:=if kind=1/\closed=false then fed++s else fed
def ak5(kind:Int)(closed:Bool):Bool:=closed || decide (kind=2)
def FY(x:Fx)(G:Nat->Prop)(R r:Nat)(v:Value)(P:Nat)(c:aC)(fed:aj)(closed:Bool)(w:World)(e:Ending)(w':World):Prop :=
 e=.returned (.bool true)/\Only (fun k=>G k\/k=r) w w'/\∃G' Cm,(∀k,G' k->G k\/w.heap.size<=k)/\tq x G' R r v w' P c fed closed Cm
theorem OpenAt.within{x:Fx}{G:Nat->Prop}{c:aC}{fed:aj}{given R:Nat}{w:World}(h:OpenAt x G c fed given R w):OpenAt x (fun k=>G k/\k<w.heap.size) c fed given R w:=by
 obtain⟨a,hr,⟨hw,S,m,G1,ss,v6,vr,hL⟩|⟨n,F,vr,hn,hS⟩⟩:=h
 ·refine⟨a,hr,.inl ⟨hw,S,m,G1,ss,v6,vr,hL.blk,hL.row,hL.le,hL.lk,hL.wants,hL.len,hL.str,fun k hk=>⟨hL.own k hk,(hL.own k hk).2⟩,hL.nr,fun k hk=>⟨(hL.nv k hk).1,⟨(hL.nv k hk).2.1,(hL.row.blk hk).2.lt⟩,(hL.nv k hk).2.2⟩,hL.sr,⟨hL.bW,hL.blk.lt⟩,fun k hk=>hL.base k hk.1,hL.rows,hL.few⟩⟩
 ·exact⟨a,hr,.inr ⟨n,F,vr,hn,hS.blk,hS.row,hS.le,hS.flt,hS.num,⟨hS.bW,hS.blk.lt⟩,fun k hk=>⟨hS.nv k hk,(hS.row.blk hk).2.lt⟩,fun k hk=>hS.base k hk.1,hS.vars,hS.rows⟩⟩
theorem ahu:lU:=fun a n cap z w h=>agB a n cap z w h
theorem ahv:je:=fun log a n cap z w h=>ag_ log a n cap z w h
theorem tq.opened{x:Fx}{G G':Nat->Prop}{R r:Nat}{v:Value}{w W0 W1 W2:World}{P:Nat}{c:aC}{fed CJ:aj}{given Cm:Nat}{closed:Bool}(h:tq x G R r v w P c fed closed given)(hb:Below w.heap.size w W0)(ho1:Only G W0 W1)(hG:∀k,G' k->G k\/W0.heap.size<=k)(hm:OpenAt x G' c CJ Cm R W1)(hr1:∃fd cl gv,dY W1 r c v fd cl gv)(ho2:Only (·=r) W1 W2)(hr2:dY W2 r c v CJ false Cm) :
  Only (fun k=>G k\/k=r) w W2/\∃uV,(∀k,uV k->G k\/w.heap.size<=k)/\tq x uV R r v W2 P c CJ false Cm:=by
 have hrl:=h.ref.blk.lt
 have hpl:=h.blk.lt
 have hs0:=hb.size
 have Eh:¬G' r:=fun e=>(hG r e).elim h.nr (fun e=>by omega)
 obtain⟨fd,cl,gv,hr1⟩:=hr1
 have hm2:=(hm.away ho2 (pK.ref hr1 Eh h.base)).within
 have hP0:=h.blk.below hb hpl
 refine⟨((Only.refl (fun k=>G k\/k=r) w).below hb).trans ((ho1.weaken (fun k _ e=>.inl e)).trans (ho2.weaken (fun k _ e=>.inr e))),_,fun k hk=>(hG k hk.1).imp id (fun e=>by omega),(hP0.only ho1 h.np).only ho2 (fun e=>h.rp e.symm),h.cfg,hm2,hr2,fun e=>Eh e.1,fun e=>(hG P e.1).elim h.np (fun e=>by omega),fun b hb' e=>(hG b e.1).elim (h.nv b hb') (fun e=>by have:=(h.ref.inn b hb').1;omega),h.rp,h.base,fun k hk=>hk.2⟩
theorem aks(x:Fx)(G:Nat->Prop)(R r:Nat)(v:Value)(w:World)(P:Nat)(c:aC)(fed s:aj)(given:Nat)(n:Int)(h:tq x G R r v w P c fed false given)(hl:(fed++s).length<=268435456) :
  Calls prog 20 #[.pointer (some ⟨P,0,none⟩),.agg #[.int .i64 1,.int .i64 n,.string (ah s)]] w (FY x G R r v P c (fed++s) false w):=by
 have hb0:Below w.heap.size w (w.alloc (.cells #[.int .i64 1,.int .i64 n,.string (ah s)] 52)):=(Below.refl _ w).alloc (Nat.le_refl _) _
 have hA0:=aB.new w 52 [.int .i64 1,.int .i64 n,.string (ah s)]
 obtain⟨W0,hW0⟩:∃W,w.alloc (.cells #[.int .i64 1,.int .i64 n,.string (ah s)] 52)=W:=⟨_,rfl⟩
 rw[hW0]at hb0 hA0
 replace hW0:=aA hW0
 have hP0:=h.blk.below hb0 h.blk.lt
 have wV:OpenAt x G c fed given R w:=h.mine
 have hm0:=wV.away (aH (G:=fun _=>False) hb0) (pK.none x G w)
 have hfd:∀W,jK W W0->Calls prog 23 #[.pointer (some ⟨R,0,none⟩),.string (ah s)] W fun e w'=>e=.returned (.int .i64 0)/\Only G W0 w'/\∃G',(∀k,G' k->G k\/W0.heap.size<=k)/\OpenAt x G' c (fed++s) given R w':=fun W hW=>by
  have hbW:Below W0.heap.size W0 W:=⟨hW.2.1,hW.2.2.1,hW.2.2.2,by rw[hW.1];exact Nat.le_refl _,fun k _=>by rw[hW.1]⟩
  refine(aj7 x G c h.cfg fed s given R W (hm0.away (aH (G:=fun _=>False) hbW) (pK.none x G W0)) hl).mono ?_
  rintro e w' ⟨rfl,h1,G',h2,h3⟩
  exact⟨rfl,((Only.refl G W0).below hbW).trans h1,G',fun k hk=>(h2 k hk).imp id (fun e=>by have:=hbW.size;omega),h3⟩
 have p0:=hP0.cell (j:=0) rfl
 have a2:=hA0.cell (j:=2) rfl
 have H:=aA h
 go_enter func20,ntmps20
 go_wp2_with fail
 rw[hW0.out]
 obtain⟨A,hA⟩:∃A,w.heap.size=A:=⟨_,rfl⟩
 rw[hA]at hA0 a2
 try rw[hA]
 replace hA:=aA hA
 clear h
 have um:=H.out.np
 have hAn:¬G A:=fun e=>by have:=H.out.small A e;have:=hA.out;omega
 have p1:=hP0.cell (j:=1) rfl
 have hPl:=hP0.lt
 have hAl:=hA0.lt
 go_region_held3(fun w'=>w'.cell? ⟨P,0,none⟩=some (.pointer (some ⟨R,0,none⟩))/\w'.cell? ⟨A,2,none⟩=some (.string (ah s))) (first|go_keep|assumption|(constructor<;>first|go_keep|assumption)) (first
  | (go_at_call 23;refine(hfd _ (by exact⟨rfl,rfl,rfl,rfl⟩)).mono ?_;rintro e w1 ⟨rfl,ho1,G',hG',fQ⟩;have hk1:w1.cell? ⟨P,0,none⟩=some (.pointer (some ⟨R,0,none⟩)):=ho1.cell p0 hPl um;have hk2:w1.cell? ⟨A,2,none⟩=some (.string (ah s)):=ho1.cell a2 hAl hAn))
 have q1:w1.cell? ⟨P,1,none⟩=some (.pointer (some ⟨r,0,none⟩)):=ho1.cell p1 hPl um
 have hr0:=H.out.ref.below hb0
 have hr1:=hr0.away ho1 H.out.nr H.out.nv
 have hrf:∀W,jK W w1->Calls prog 34 #[.pointer (some ⟨r,0,none⟩),.string (ah s)] W fun e w'=>e=.returned (.int .i64 0)/\dY w' r c v (fed++s) false given/\Only (·=r) w1 w':=fun W hW=>by
  have hbW:Below w1.heap.size w1 W:=⟨hW.2.1,hW.2.2.1,hW.2.2.2,by rw[hW.1];exact Nat.le_refl _,fun k _=>by rw[hW.1]⟩
  refine(akd r c v fed s given W (hr1.below hbW) hl).mono ?_
  rintro e w' ⟨rfl,h1,h2⟩
  exact⟨rfl,h1,((Only.refl (·=r) w1).below hbW).trans h2⟩
 have hrl:=hr1.blk.lt
 have KT:P≠r:=fun e=>H.out.rp e.symm
 have hAr:A≠r:=fun e=>by have:=H.out.ref.blk.lt;have:=hA.out;omega
 have KU:P<w1.heap.size:=Nat.lt_of_lt_of_le hPl ho1.size
 have Uf:A<w1.heap.size:=Nat.lt_of_lt_of_le hAl ho1.size
 rename_i hHeld
 clear hHeld hk1 p0 p1 a2 hr0 hfd hm0 wV
 go_wp2_with fail
 go_region_held3(fun w'=>w'.cell? ⟨P,1,none⟩=some (.pointer (some ⟨r,0,none⟩))/\w'.cell? ⟨A,2,none⟩=some (.string (ah s))) (first|go_keep|assumption|(constructor<;>first|go_keep|assumption)) (first
  | (go_at_call 34;refine(hrf _ (by exact⟨rfl,rfl,rfl,rfl⟩)).mono ?_;rintro e w2 ⟨rfl,hr2,ho2⟩;have hk3:w2.cell? ⟨P,1,none⟩=some (.pointer (some ⟨r,0,none⟩)):=ho2.cell q1 KU KT;have hk4:w2.cell? ⟨A,2,none⟩=some (.string (ah s)):=ho2.cell hk2 Uf hAr))
 have hfin:=H.out.opened hb0 ho1 hG' fQ ⟨_,_,_,hr1⟩ ho2 hr2
 replace hfin:=aA hfin
 go_wp2_with fail
 go_ret
 obtain⟨f1,uV,f2,f3⟩:=hfin.out
 exact⟨rfl,f1,uV,given,f2,f3⟩
def qI(x:Fx)(G:Nat->Prop)(c:aC)(fed:aj)(given R:Nat)(w:World)(closed:Bool):Prop:=if closed then uU x G c fed given R w else OpenAt x G c fed given R w
theorem qI.away{x:Fx}{G K:Nat->Prop}{c:aC}{fed:aj}{given R:Nat}{w w':World}{closed:Bool}(h:qI x G c fed given R w closed)(ho:Only K w w')(hK:pK x G w K):qI x G c fed given R w' closed:=by
 cases closed with
 | false=>exact OpenAt.away h ho hK
 | true=>exact uU.away h ho hK
theorem qI.within{x:Fx}{G:Nat->Prop}{c:aC}{fed:aj}{given R:Nat}{w:World}{closed:Bool}(h:qI x G c fed given R w closed):qI x (fun k=>G k/\k<w.heap.size) c fed given R w closed:=by
 cases closed with
 | false=>exact OpenAt.within h
 | true =>
  obtain⟨text,n,pl,F,vr,ht,hS⟩:uU x G c fed given R w:=h
  exact⟨text,n,pl,F,vr,ht,hS.blk,hS.row,hS.le,hS.flt,hS.num,⟨hS.bW,hS.blk.lt⟩,fun k hk=>⟨hS.nv k hk,(hS.row.blk hk).2.lt⟩,fun k hk=>hS.base k hk.1,hS.vars,hS.rows⟩
theorem tq.after{x:Fx}{G G':Nat->Prop}{R r:Nat}{v:Value}{w W0 W1 W2:World}{P:Nat}{c:aC}{fed CJ:aj}{given Cm:Nat}{closed closed':Bool}(h:tq x G R r v w P c fed closed given)(hb:Below w.heap.size w W0)(ho1:Only G W0 W1)(hG:∀k,G' k->G k\/W0.heap.size<=k)(hm:qI x G' c CJ Cm R W1 closed')(hr1:∃fd cl gv,dY W1 r c v fd cl gv)(ho2:Only (·=r) W1 W2)(hr2:dY W2 r c v CJ closed' Cm) :
  Only (fun k=>G k\/k=r) w W2/\∃uV,(∀k,uV k->G k\/w.heap.size<=k)/\tq x uV R r v W2 P c CJ closed' Cm:=by
 have hrl:=h.ref.blk.lt
 have hpl:=h.blk.lt
 have hs0:=hb.size
 have Eh:¬G' r:=fun e=>(hG r e).elim h.nr (fun e=>by omega)
 obtain⟨fd,cl,gv,hr1⟩:=hr1
 have hm2:=(hm.away ho2 (pK.ref hr1 Eh h.base)).within
 have hP0:=h.blk.below hb hpl
 refine⟨((Only.refl (fun k=>G k\/k=r) w).below hb).trans ((ho1.weaken (fun k _ e=>.inl e)).trans (ho2.weaken (fun k _ e=>.inr e))),_,fun k hk=>(hG k hk.1).imp id (fun e=>by omega),(hP0.only ho1 h.np).only ho2 (fun e=>h.rp e.symm),h.cfg,hm2,hr2,fun e=>Eh e.1,fun e=>(hG P e.1).elim h.np (fun e=>by omega),fun b hb' e=>(hG b e.1).elim (h.nv b hb') (fun e=>by have:=(h.ref.inn b hb').1;omega),h.rp,h.base,fun k hk=>hk.2⟩
def ak6(kind:Nat)(closed:Bool):Bool:=closed || decide (kind=2)
theorem akt(x:Fx)(G:Nat->Prop)(c:aC)(fed:aj)(given R:Nat)(w:World)(closed:Bool)(h:qI x G c fed given R w closed) :
  Calls prog 25 #[.pointer (some ⟨R,0,none⟩)] w fun e w'=>e=.returned (.int .i64 (if closed then 9 else 0))/\Only G w w'/\qI x G c fed given R w' true:=by
 cases closed with
 | false=>exact aj8 x G c fed given R w h
 | true =>
  obtain⟨text,n,pl,F,vr,ht,hS⟩:uU x G c fed given R w:=h
  refine(akl x G text n pl given R F vr w hS).mono ?_
  rintro e w' ⟨rfl,hw⟩
  subst hw
  exact⟨rfl,Only.refl _ _,⟨text,n,pl,F,vr,ht,hS⟩⟩
theorem aku(r:Nat)(c:aC)(v:Value)(fed:aj)(given:Nat)(w:World)(closed:Bool)(h:dY w r c v fed closed given) :
  Calls prog 35 #[.pointer (some ⟨r,0,none⟩)] w fun e w'=>e=.returned (.int .i64 (if closed then 9 else 0))/\dY w' r c v fed true given/\Only (·=r) w w':=by
 cases closed with
 | false=>exact akf r c v fed given w h
 | true =>
  refine(ake r c v fed given w h).mono ?_
  rintro e w' ⟨rfl,hw⟩
  subst hw
  exact⟨rfl,h,Only.refl _ _⟩
theorem akv(x:Fx)(G:Nat->Prop)(c:aC)(fed:aj)(given R:Nat)(k:Int)(w:World)(closed:Bool)(hk:-9223372036854775808<=k/\k<=9223372036854775807)(h:qI x G c fed given R w closed) :
  Calls prog 24 #[.pointer (some ⟨R,0,none⟩),.int .i64 k] w fun e w'=>e=.returned (Cj ((RD.told c fed closed).1.drop given) k (RD.told c fed closed).2.1)/\Only G w w'/\qI x G c fed (given+pR k ((RD.told c fed closed).1.drop given).length) R w' closed:=by
 cases closed with
 | false=>exact aj_ x G c fed given R k w hk h
 | true=>exact aj9 x G c fed given R k w hk h
theorem akw(x:Fx)(G:Nat->Prop)(c:aC)(fed:aj)(given R:Nat)(w:World)(closed:Bool)(h:qI x G c fed given R w closed) :
  Calls prog 30 #[.pointer (some ⟨R,0,none⟩)] w fun e w'=>e=.returned (FP (RD.told c fed closed))/\Below w.heap.size w w'/\qI x G c fed given R w' closed:=by
 cases closed with
 | false=>exact akp x G c fed given R w h
 | true=>exact akq x G c fed given R w h
theorem qI.le{x:Fx}{G:Nat->Prop}{c:aC}{fed:aj}{given R:Nat}{w:World}{closed:Bool}(h:qI x G c fed given R w closed):given<=(RD.told c fed closed).1.length:=by
 cases closed with
 | false=>exact OpenAt.le h
 | true =>
  obtain⟨text,n,pl,F,vr,ht,hS⟩:uU x G c fed given R w:=h
  rw[ht]
  exact hS.le
theorem akx(x:Fx)(G:Nat->Prop)(R r:Nat)(v:Value)(w:World)(P:Nat)(c:aC)(fed s:aj)(closed:Bool)(given:Nat)(n:Int)(h:tq x G R r v w P c fed closed given) :
  Calls prog 20 #[.pointer (some ⟨P,0,none⟩),.agg #[.int .i64 2,.int .i64 n,.string (ah s)]] w (FY x G R r v P c fed true w):=by
 have hb0:Below w.heap.size w (w.alloc (.cells #[.int .i64 2,.int .i64 n,.string (ah s)] 52)):=(Below.refl _ w).alloc (Nat.le_refl _) _
 have hA0:=aB.new w 52 [.int .i64 2,.int .i64 n,.string (ah s)]
 obtain⟨W0,hW0⟩:∃W,w.alloc (.cells #[.int .i64 2,.int .i64 n,.string (ah s)] 52)=W:=⟨_,rfl⟩
 rw[hW0]at hb0 hA0
 replace hW0:=aA hW0
 have hP0:=h.blk.below hb0 h.blk.lt
 have wV:qI x G c fed given R w closed:=h.mine
 have hm0:=wV.away (aH (G:=fun _=>False) hb0) (pK.none x G w)
 have hr0:=h.ref.below hb0
 have p0:=hP0.cell (j:=0) rfl
 have p1:=hP0.cell (j:=1) rfl
 have hPl:=hP0.lt
 have um:=h.np
 have KT:P≠r:=fun e=>h.rp e.symm
 have wp0:=h.blk.cell (j:=0) rfl
 have wpl:=h.blk.lt
 have H:=aA h
 have hcl:=akt x G c fed given R W0 closed hm0
 obtain⟨E,hE⟩:∃E:Int,(if closed then 9 else 0:Int)=E:=⟨_,rfl⟩
 have hrc:=fun W hW=>aku r c v fed given W closed hW
 rw[hE]at hcl hrc
 replace hE:=aA hE
 have hEE:(E==E)=true:=by simp
 clear h wV hm0
 go_enter func20,ntmps20
 go_wp2_with fail
 rw[hW0.out]
 refine hcl.mono ?_
 rintro e w1 ⟨rfl,ho1,hm1⟩
 have q1:w1.cell? ⟨P,1,none⟩=some (.pointer (some ⟨r,0,none⟩)):=ho1.cell p1 hPl um
 have hr1:=hr0.away ho1 H.out.nr H.out.nv
 go_wp2_with fail
 refine(hrc _ hr1).mono ?_
 rintro e w2 ⟨rfl,hr2,ho2⟩
 have hfin:=aA (H.out.after hb0 ho1 (fun k hk=>.inl hk) hm1 ⟨_,_,_,hr1⟩ ho2 hr2)
 go_wp2_with fail
 go_ret
 obtain⟨f1,uV,f2,f3⟩:=hfin.out
 exact⟨rfl,f1,uV,given,f2,f3⟩
theorem aky(x:Fx)(G:Nat->Prop)(R r:Nat)(v:Value)(w:World)(P:Nat)(c:aC)(fed s:aj)(closed:Bool)(given:Nat)(n:Int)(h:tq x G R r v w P c fed closed given) :
  Calls prog 20 #[.pointer (some ⟨P,0,none⟩),.agg #[.int .i64 4,.int .i64 n,.string (ah s)]] w (FY x G R r v P c fed closed w):=by
 have hb0:Below w.heap.size w (w.alloc (.cells #[.int .i64 4,.int .i64 n,.string (ah s)] 52)):=(Below.refl _ w).alloc (Nat.le_refl _) _
 have hA0:=aB.new w 52 [.int .i64 4,.int .i64 n,.string (ah s)]
 obtain⟨W0,hW0⟩:∃W,w.alloc (.cells #[.int .i64 4,.int .i64 n,.string (ah s)] 52)=W:=⟨_,rfl⟩
 rw[hW0]at hb0 hA0
 replace hW0:=aA hW0
 have hP0:=h.blk.below hb0 h.blk.lt
 have wV:qI x G c fed given R w closed:=h.mine
 have hm0:=wV.away (aH (G:=fun _=>False) hb0) (pK.none x G w)
 have hr0:=h.ref.below hb0
 have p0:=hP0.cell (j:=0) rfl
 have p1:=hP0.cell (j:=1) rfl
 have hPl:=hP0.lt
 have um:=h.np
 have KT:P≠r:=fun e=>h.rp e.symm
 have wp0:=h.blk.cell (j:=0) rfl
 have wpl:=h.blk.lt
 have H:=aA h
 have hcl:=akw x G c fed given R W0 closed hm0
 have hrc:=fun W hW=>akh ahu ahv r c v fed closed given W hW
 obtain⟨a,b,E,hE⟩:∃a b E:Int,FP (RD.told c fed closed)=.tuple #[.agg #[.int .i64 a,.int .i64 b],.int .i64 E]:=by
  unfold FP
  split
  ·exact⟨_,_,_,rfl⟩
  ·exact⟨_,_,_,rfl⟩
 rw[hE]at hcl hrc
 replace hE:=aA hE
 have hEE:(E==E)=true:=by simp
 clear h wV hm0
 go_enter func20,ntmps20
 go_wp2_with fail
 rw[hW0.out]
 refine hcl.mono ?_
 rintro e w1 ⟨rfl,hb1,hm1⟩
 have ho1:Only G W0 w1:=(Only.refl G W0).below hb1
 have q1:w1.cell? ⟨P,1,none⟩=some (.pointer (some ⟨r,0,none⟩)):=ho1.cell p1 hPl um
 have hr1:=hr0.below hb1
 have KU:P<w1.heap.size:=Nat.lt_of_lt_of_le hPl ho1.size
 have akz:=hr1.alloc (.cells #[.int .i64 a,.int .i64 b] 74)
 go_wp2_with fail
 refine(hrc _ akz).mono ?_
 rintro e w2 ⟨rfl,hb2⟩
 have hN1:=aB.new w1 74 [.int .i64 a,.int .i64 b]
 have uX:=hN1.below hb2 hN1.lt
 have z0:=uX.cell (j:=0) rfl
 have z1:=uX.cell (j:=1) rfl
 have zlt:=uX.lt
 have haa:(a==a)=true:=by simp
 have hbb:(b==b)=true:=by simp
 have GZ:Below w1.heap.size w1 (w1.alloc (.cells #[.int .i64 a,.int .i64 b] 74)):=(Below.refl _ w1).alloc (Nat.le_refl _) _
 have lG:Below w1.heap.size w1 w2:=GZ.trans ⟨hb2.os,hb2.tape,hb2.output,hb2.size,fun k hk=>hb2.block k (Nat.lt_of_lt_of_le hk GZ.size)⟩
 obtain⟨Q,hQ⟩:∃Q,w1.heap.size=Q:=⟨_,rfl⟩
 rw[hQ]at z0 z1 zlt
 try rw[hQ]
 replace hQ:=aA hQ
 clear hN1 uX GZ
 have yS:Below w1.heap.size w1 (w2.alloc (.cells #[.int .i64 a,.int .i64 b] 74)):=lG.alloc lG.size _
 have hfin:=aA (H.out.after hb0 ho1 (fun k hk=>.inl hk) hm1 ⟨_,_,_,hr1⟩ ((Only.refl (·=r) w1).below yS) (hr1.below yS))
 replace lG:=aA lG
 replace yS:=aA yS
 go_wp2_with fail
 go_ret
 obtain⟨f1,uV,f2,f3⟩:=hfin.out
 exact⟨rfl,f1,uV,given,f2,f3⟩
theorem akB(x:Fx)(G:Nat->Prop)(R r:Nat)(v:Value)(w:World)(P:Nat)(c:aC)(fed s:aj)(closed:Bool)(given:Nat)(n:Int)(h:tq x G R r v w P c fed closed given)(hn:-9223372036854775808<=n/\n<=9223372036854775807) :
  Calls prog 20 #[.pointer (some ⟨P,0,none⟩),.agg #[.int .i64 3,.int .i64 n,.string (ah s)]] w (FY x G R r v P c fed closed w):=by
 have hb0:Below w.heap.size w (w.alloc (.cells #[.int .i64 3,.int .i64 n,.string (ah s)] 52)):=(Below.refl _ w).alloc (Nat.le_refl _) _
 have hA0:=aB.new w 52 [.int .i64 3,.int .i64 n,.string (ah s)]
 obtain⟨W0,hW0⟩:∃W,w.alloc (.cells #[.int .i64 3,.int .i64 n,.string (ah s)] 52)=W:=⟨_,rfl⟩
 rw[hW0]at hb0 hA0
 replace hW0:=aA hW0
 have hP0:=h.blk.below hb0 h.blk.lt
 have wV:qI x G c fed given R w closed:=h.mine
 have hm0:=wV.away (aH (G:=fun _=>False) hb0) (pK.none x G w)
 have hr0:=h.ref.below hb0
 have p0:=hP0.cell (j:=0) rfl
 have p1:=hP0.cell (j:=1) rfl
 have hPl:=hP0.lt
 have um:=h.np
 have KT:P≠r:=fun e=>h.rp e.symm
 have wp0:=h.blk.cell (j:=0) rfl
 have wpl:=h.blk.lt
 have H:=aA h
 have hlen:=akr c fed closed h.ref.len
 have hle:=wV.le
 obtain⟨S,E,hE⟩:∃(S:ByteArray)(E:Int),Cj ((RD.told c fed closed).1.drop given) n (RD.told c fed closed).2.1=.tuple #[.string S,.int .i64 E]:=⟨_,_,rfl⟩
 obtain⟨g2,hg2⟩:∃g,given+pR n ((RD.told c fed closed).1.drop given).length=g:=⟨_,rfl⟩
 have hcl:∀W,jK W W0->Calls prog 24 #[.pointer (some ⟨R,0,none⟩),.int .i64 n] W fun e w'=>e=.returned (.tuple #[.string S,.int .i64 E])/\Only G W0 w'/\qI x G c fed g2 R w' closed:=fun W hW=>by
  have hbW:Below W0.heap.size W0 W:=⟨hW.2.1,hW.2.2.1,hW.2.2.2,by rw[hW.1];exact Nat.le_refl _,fun k _=>by rw[hW.1]⟩
  have:=akv x G c fed given R n W closed hn (hm0.away (aH (G:=fun _=>False) hbW) (pK.none x G W0))
  rw[hE,hg2]at this
  refine this.mono ?_
  rintro e w' ⟨rfl,h1,h2⟩
  exact⟨rfl,((Only.refl G W0).below hbW).trans h1,h2⟩
 have hrc:∀w1 W,jK W w1->dY w1 r c v fed closed given->Calls prog 36 #[.pointer (some ⟨r,0,none⟩),.int .i64 n] W fun e w'=>e=.returned (.tuple #[.string S,.int .i64 E])/\dY w' r c v fed closed g2/\Only (·=r) w1 w':=fun w1 W hW hr=>by
  have hbW:Below w1.heap.size w1 W:=⟨hW.2.1,hW.2.2.1,hW.2.2.2,by rw[hW.1];exact Nat.le_refl _,fun k _=>by rw[hW.1]⟩
  have:=akg ahu ahv r c v fed closed given n W (hr.below hbW) hn hle hlen
  unfold ahe at this
  rw[hE,hg2]at this
  refine this.mono ?_
  rintro e w' ⟨rfl,h1,h2⟩
  exact⟨rfl,h1,((Only.refl (·=r) w1).below hbW).trans h2⟩
 replace hE:=aA hE
 replace hg2:=aA hg2
 have hEE:(E==E)=true:=by simp
 have hSS:(S.toList==S.toList)=true:=by simp
 have a1:=hA0.cell (j:=1) rfl
 clear h wV hm0
 go_enter func20,ntmps20
 go_wp2_with fail
 rw[hW0.out]
 obtain⟨A,hA⟩:∃A,w.heap.size=A:=⟨_,rfl⟩
 rw[hA]at hA0 a1
 try rw[hA]
 replace hA:=aA hA
 have hAn:¬G A:=fun e=>by have:=H.out.small A e;have:=hA.out;omega
 have hAl:=hA0.lt
 have hAr:A≠r:=fun e=>by have:=H.out.ref.blk.lt;have:=hA.out;omega
 go_region_held3(fun w'=>w'.cell? ⟨P,0,none⟩=some (.pointer (some ⟨R,0,none⟩))/\w'.cell? ⟨A,1,none⟩=some (.int .i64 n)) (first|go_keep|assumption|(constructor<;>first|go_keep|assumption)) (first
  | (go_at_call 24;refine(hcl _ (by exact⟨rfl,rfl,rfl,rfl⟩)).mono ?_;rintro e w1 ⟨rfl,ho1,hm1⟩;have hk1:w1.cell? ⟨P,0,none⟩=some (.pointer (some ⟨R,0,none⟩)):=ho1.cell p0 hPl um;have hk2:w1.cell? ⟨A,1,none⟩=some (.int .i64 n):=ho1.cell a1 hAl hAn))
 have q1:w1.cell? ⟨P,1,none⟩=some (.pointer (some ⟨r,0,none⟩)):=ho1.cell p1 hPl um
 have hr1:=hr0.away ho1 H.out.nr H.out.nv
 have KU:P<w1.heap.size:=Nat.lt_of_lt_of_le hPl ho1.size
 have Uf:A<w1.heap.size:=Nat.lt_of_lt_of_le hAl ho1.size
 rename_i hHeld
 clear hHeld hk1 p0 p1 a1 hr0
 go_wp2_with fail
 go_region_held3(fun w'=>w'.cell? ⟨P,1,none⟩=some (.pointer (some ⟨r,0,none⟩))/\w'.cell? ⟨A,1,none⟩=some (.int .i64 n)) (first|go_keep|assumption|(constructor<;>first|go_keep|assumption)) (first
  | (go_at_call 36;refine(hrc w1 _ (by exact⟨rfl,rfl,rfl,rfl⟩) hr1).mono ?_;rintro e w2 ⟨rfl,hr2,ho2⟩;have hk3:w2.cell? ⟨P,1,none⟩=some (.pointer (some ⟨r,0,none⟩)):=ho2.cell q1 KU KT;have hk4:w2.cell? ⟨A,1,none⟩=some (.int .i64 n):=ho2.cell hk2 Uf hAr))
 have hfin:=aA (H.out.after hb0 ho1 (fun k hk=>.inl hk) hm1 ⟨_,_,_,hr1⟩ ho2 hr2)
 go_wp2_with fail
 go_ret
 obtain⟨f1,uV,f2,f3⟩:=hfin.out
 exact⟨rfl,f1,uV,g2,f2,f3⟩
theorem akC(x:Fx)(G:Nat->Prop)(R r:Nat)(v:Value)(w:World)(P:Nat)(c:aC)(fed s:aj)(closed:Bool)(given:Nat)(n:Int)(h:tq x G R r v w P c fed closed given)(hcl:closed=true) :
  Calls prog 20 #[.pointer (some ⟨P,0,none⟩),.agg #[.int .i64 1,.int .i64 n,.string (ah s)]] w (FY x G R r v P c fed closed w):=by
 have hb0:Below w.heap.size w (w.alloc (.cells #[.int .i64 1,.int .i64 n,.string (ah s)] 52)):=(Below.refl _ w).alloc (Nat.le_refl _) _
 have hA0:=aB.new w 52 [.int .i64 1,.int .i64 n,.string (ah s)]
 obtain⟨W0,hW0⟩:∃W,w.alloc (.cells #[.int .i64 1,.int .i64 n,.string (ah s)] 52)=W:=⟨_,rfl⟩
 rw[hW0]at hb0 hA0
 replace hW0:=aA hW0
 have hP0:=h.blk.below hb0 h.blk.lt
 have wV:qI x G c fed given R w closed:=h.mine
 have hm0:=wV.away (aH (G:=fun _=>False) hb0) (pK.none x G w)
 have hr0:=h.ref.below hb0
 have p0:=hP0.cell (j:=0) rfl
 have p1:=hP0.cell (j:=1) rfl
 have hPl:=hP0.lt
 have um:=h.np
 have KT:P≠r:=fun e=>h.rp e.symm
 have wp0:=h.blk.cell (j:=0) rfl
 have wpl:=h.blk.lt
 have H:=aA h
 have hS:∃text m pl F vr,lD x G text m pl true given R W0 F vr:=by
  subst hcl
  obtain⟨text,m,pl,F,vr,ht,hS⟩:uU x G c fed given R W0:=hm0
  exact⟨text,m,pl,F,vr,hS⟩
 obtain⟨text,m,pl,F,vr,hS⟩:=hS
 have hbS:∀W,jK W W0->Calls prog 23 #[.pointer (some ⟨R,0,none⟩),.string (ah s)] W fun e w'=>e=.returned (.int .i64 9)/\Below W0.heap.size W0 w':=fun W hW=>by
  have hbW:Below W0.heap.size W0 W:=⟨hW.2.1,hW.2.2.1,hW.2.2.2,by rw[hW.1];exact Nat.le_refl _,fun k _=>by rw[hW.1]⟩
  refine(akk x G text s m pl given R F vr W (hS.away (aH (G:=fun _=>False) hbW) (pK.none x G W0))).mono ?_
  rintro e w' ⟨rfl,hw⟩
  subst hw
  exact⟨rfl,hbW⟩
 have hbR:∀w1 W,jK W w1->dY w1 r c v fed closed given->Calls prog 34 #[.pointer (some ⟨r,0,none⟩),.string (ah s)] W fun e w'=>e=.returned (.int .i64 9)/\Below w1.heap.size w1 w':=fun w1 W hW hr=>by
  have hbW:Below w1.heap.size w1 W:=⟨hW.2.1,hW.2.2.1,hW.2.2.2,by rw[hW.1];exact Nat.le_refl _,fun k _=>by rw[hW.1]⟩
  subst hcl
  refine(akc r c v fed s given W (hr.below hbW)).mono ?_
  rintro e w' ⟨rfl,hw⟩
  subst hw
  exact⟨rfl,hbW⟩
 have a2:=hA0.cell (j:=2) rfl
 have hAl:=hA0.lt
 clear h wV hS
 go_enter func20,ntmps20
 go_wp2_with fail
 rw[hW0.out]
 obtain⟨A,hA⟩:∃A,w.heap.size=A:=⟨_,rfl⟩
 rw[hA]at hA0 a2 hAl
 try rw[hA]
 replace hA:=aA hA
 go_region_held3(fun w'=>w'.cell? ⟨P,0,none⟩=some (.pointer (some ⟨R,0,none⟩))/\w'.cell? ⟨A,2,none⟩=some (.string (ah s))) (first|go_keep|assumption|(constructor<;>first|go_keep|assumption)) (first
  | (go_at_call 23;refine(hbS _ (by exact⟨rfl,rfl,rfl,rfl⟩)).mono ?_;rintro e w1 ⟨rfl,hb1⟩;have hk1:w1.cell? ⟨P,0,none⟩=some (.pointer (some ⟨R,0,none⟩)):=(hb1.cell (p:=⟨P,0,none⟩) hPl).trans p0;have hk2:w1.cell? ⟨A,2,none⟩=some (.string (ah s)):=(hb1.cell (p:=⟨A,2,none⟩) hAl).trans a2))
 have ho1:Only G W0 w1:=(Only.refl G W0).below hb1
 have q1:w1.cell? ⟨P,1,none⟩=some (.pointer (some ⟨r,0,none⟩)):=ho1.cell p1 hPl um
 have hr1:=hr0.below hb1
 have KU:P<w1.heap.size:=Nat.lt_of_lt_of_le hPl ho1.size
 have Uf:A<w1.heap.size:=Nat.lt_of_lt_of_le hAl ho1.size
 have hm1:=hm0.away (aH (G:=fun _=>False) hb1) (pK.none x G W0)
 rename_i hHeld
 clear hHeld hk1 p0 p1 a2 hr0
 go_wp2_with fail
 go_region_held3(fun w'=>w'.cell? ⟨P,1,none⟩=some (.pointer (some ⟨r,0,none⟩))/\w'.cell? ⟨A,2,none⟩=some (.string (ah s))) (first|go_keep|assumption|(constructor<;>first|go_keep|assumption)) (first
  | (go_at_call 34;refine(hbR w1 _ (by exact⟨rfl,rfl,rfl,rfl⟩) hr1).mono ?_;rintro e w2 ⟨rfl,hb2⟩;have hk3:w2.cell? ⟨P,1,none⟩=some (.pointer (some ⟨r,0,none⟩)):=(hb2.cell (p:=⟨P,1,none⟩) KU).trans q1;have hk4:w2.cell? ⟨A,2,none⟩=some (.string (ah s)):=(hb2.cell (p:=⟨A,2,none⟩) Uf).trans hk2))
 have hfin:=aA (H.out.after hb0 ho1 (fun k hk=>.inl hk) hm1 ⟨_,_,_,hr1⟩ ((Only.refl (·=r) w1).below hb2) (hr1.below hb2))
 go_wp2_with fail
 go_ret
 obtain⟨f1,uV,f2,f3⟩:=hfin.out
 exact⟨rfl,f1,uV,given,f2,f3⟩
def AnyPost(x:Fx)(G:Nat->Prop)(R r:Nat)(v:Value)(P:Nat)(c:aC)(bound:Nat)(w:World)(e:Ending)(w':World):Prop :=
 e=.returned (.bool true)/\Only (fun k=>G k\/k=r) w w'/\∃G' CJ closed' Cm,(∀k,G' k->G k\/w.heap.size<=k)/\CJ.length<=bound/\tq x G' R r v w' P c CJ closed' Cm
theorem FY.any{x:Fx}{G:Nat->Prop}{R r:Nat}{v:Value}{P:Nat}{c:aC}{fed:aj}{closed:Bool}{bound:Nat}{w:World}{e:Ending}{w':World}(h:FY x G R r v P c fed closed w e w')(hb:fed.length<=bound):AnyPost x G R r v P c bound w e w':=by
 obtain⟨h1,h2,G',g,h3,h4⟩:=h
 exact⟨h1,h2,G',fed,closed,g,h3,hb,h4⟩
theorem akD(x:Fx)(G:Nat->Prop)(R r:Nat)(v:Value)(w:World)(P:Nat)(c:aC)(fed s:aj)(closed:Bool)(given:Nat)(k n:Int)(h:tq x G R r v w P c fed closed given)(hk:k≠1/\k≠2/\k≠3/\k≠4) :
  Calls prog 20 #[.pointer (some ⟨P,0,none⟩),.agg #[.int .i64 k,.int .i64 n,.string (ah s)]] w (FY x G R r v P c fed closed w):=by
 have hb0:Below w.heap.size w (w.alloc (.cells #[.int .i64 k,.int .i64 n,.string (ah s)] 52)):=(Below.refl _ w).alloc (Nat.le_refl _) _
 have hm:qI x G c fed given R w closed:=h.mine
 have hfin:=aA (h.after hb0 (Only.refl G _) (fun k hk=>.inl hk) (hm.away (aH (G:=fun _=>False) hb0) (pK.none x G w)) ⟨_,_,_,h.ref.below hb0⟩ (Only.refl _ _) (h.ref.below hb0))
 have k1:(k==1)=false:=by simpa using hk.1
 have k2:(k==2)=false:=by simpa using hk.2.1
 have k3:(k==3)=false:=by simpa using hk.2.2.1
 have k4:(k==4)=false:=by simpa using hk.2.2.2
 clear h hm hb0
 replace hk:=aA hk
 go_enter func20,ntmps20
 go_wp2_with fail
 go_ret
 obtain⟨f1,uV,f2,f3⟩:=hfin.out
 exact⟨rfl,f1,uV,given,f2,f3⟩
theorem UC(x:Fx)(G:Nat->Prop)(R r:Nat)(v:Value)(w:World)(P:Nat)(c:aC)(fed s:aj)(closed:Bool)(given:Nat)(k n:Int)(h:tq x G R r v w P c fed closed given)(hn:-9223372036854775808<=n/\n<=9223372036854775807)(hl:fed.length+s.length<=268435456) :
  Calls prog 20 #[.pointer (some ⟨P,0,none⟩),.agg #[.int .i64 k,.int .i64 n,.string (ah s)]] w (AnyPost x G R r v P c (fed.length+s.length) w):=by
 by_cases h1:k=1
 ·subst h1
  cases closed with
  | false=>exact(aks x G R r v w P c fed s given n h (by rw[List.length_append];exact hl)).mono fun e w' q=>q.any (by rw[List.length_append];exact Nat.le_refl _)
  | true=>exact(akC x G R r v w P c fed s true given n h rfl).mono fun e w' q=>q.any (by omega)
 ·by_cases h2:k=2
  ·subst h2
   exact(akx x G R r v w P c fed s closed given n h).mono fun e w' q=>q.any (by omega)
  ·by_cases h3:k=3
   ·subst h3
    exact(akB x G R r v w P c fed s closed given n h hn).mono fun e w' q=>q.any (by omega)
   ·by_cases h4:k=4
    ·subst h4
     exact(aky x G R r v w P c fed s closed given n h).mono fun e w' q=>q.any (by omega)
    ·exact(akD x G R r v w P c fed s closed given k n h ⟨h1,h2,h3,h4⟩).mono fun e w' q=>q.any (by omega)
theorem last_any(x:Fx)(G:Nat->Prop)(R r:Nat)(v:Value)(w:World)(P:Nat)(c:aC)(fed:aj)(closed:Bool)(given:Nat)(h:tq x G R r v w P c fed closed given)(hl:fed.length<=268435456) :
  Calls prog 21 #[.pointer (some ⟨P,0,none⟩)] w (AnyPost x G R r v P c fed.length w):=by
 have q1:=UC x G R r v w P c fed [] closed given 4 0 h (by omega) (by simpa using hl)
 rw[pO]at q1
 go_enter func21,ntmps21
 go_wp2_with fail
 refine q1.mono ?_
 rintro e w1 ⟨rfl,ho1,G1,akE,cl1,gv1,hG1,hl1,h1⟩
 have q2:=UC x G1 R r v w1 P c akE [] cl1 gv1 3 1099511627776 h1 (by omega) (by simp at hl1⊢;omega)
 rw[pO]at q2
 go_wp2_with fail
 refine q2.mono ?_
 rintro e w2 ⟨rfl,ho2,G2,Ug,UD,UE,hG2,hl2,h2⟩
 have q3:=UC x G2 R r v w2 P c Ug [] UD UE 3 1099511627776 h2 (by omega) (by simp at hl1 hl2⊢;omega)
 rw[pO]at q3
 go_wp2_with fail
 refine q3.mono ?_
 rintro e w3 ⟨rfl,ho3,G3,akH,cl3,gv3,hG3,hl3,h3⟩
 have s1:=ho1.size
 have s2:=ho2.size
 have hg2:∀k,G2 k->G k\/w.heap.size<=k:=fun k hk=>(hG2 k hk).elim (fun e=>hG1 k e) (fun e=>.inr (by omega))
 have hg3:∀k,G3 k->G k\/w.heap.size<=k:=fun k hk=>(hG3 k hk).elim (fun e=>hg2 k e) (fun e=>.inr (by omega))
 have hO:Only (fun k=>G k\/k=r) w w3:=⟨ho3.os.trans (ho2.os.trans ho1.os),ho3.tape.trans (ho2.tape.trans ho1.tape),ho3.output.trans (ho2.output.trans ho1.output),Nat.le_trans ho1.size (Nat.le_trans ho2.size ho3.size),fun k hk hn=>by
  rw[ho3.block k (by omega) (fun e=>e.elim (fun e=>(hg2 k e).elim (fun e=>hn (.inl e)) (fun e=>by omega)) (fun e=>hn (.inr e))),ho2.block k (by omega) (fun e=>e.elim (fun e=>(hG1 k e).elim (fun e=>hn (.inl e)) (fun e=>by omega)) (fun e=>hn (.inr e)))]
  exact ho1.block k hk hn⟩
 have hfin:AnyPost x G R r v P c fed.length w (.returned (.bool true)) w3:=⟨rfl,hO,G3,akH,cl3,gv3,hg3,by simp at hl1 hl2 hl3;omega,h3⟩
 replace hfin:=aA hfin
 go_wp2_with fail
 go_ret
 exact hfin.out
end Go.Proofs.YtbhemchnjpajiaaGreatDoor
