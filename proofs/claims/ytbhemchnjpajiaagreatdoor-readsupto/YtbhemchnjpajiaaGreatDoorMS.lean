/- Several texts in one: QSk5, QRdr, RefRdr, QRdr2. -/
import Derived.Test.YtbhemchnjpajiaaGreatDoorLK
import Derived.Test.YtbhemchnjpajiaaGreatDoorMN
set_option linter.unusedVariables false
set_option linter.unusedSimpArgs false
set_option maxRecDepth 100000
set_option maxHeartbeats 4000000
namespace Go.Proofs.YtbhemchnjpajiaaGreatDoor
open Go.RowKit Go.Proofs.Tryz RD
def pR(k:Int)(T:Nat):Nat:=(max 0 (min k (T:Int))).toNat
theorem KR(k:Int)(T:Nat):pR k T<=T:=by unfold pR;omega
def Cj(T:aj)(k:Int)(n:Nat):Value:=.tuple #[.string (ah (T.take (pR k T.length))),.int .i64 ((if T=[]then n else 0:Nat):Int)]
theorem ahp(k:Int)(n:Nat):Cj [] k n=.tuple #[.string ⟨#[]⟩,.int .i64 (n:Int)]:=by
 unfold Cj
 simp[ah]
theorem Uz{T:aj}(h:T≠[])(k:Int)(n:Nat):Cj T k n=.tuple #[.string (ah (T.take (pR k T.length))),.int .i64 0]:=by
 unfold Cj
 rw[if_neg h]
 rfl
def ahq(R:Nat)(v0 vr ve v3:Value)(T:aj)(k:Int)(n:Nat)(w:World)(e:Ending)(w':World):Prop :=
 e=.returned (Cj T k n)/\Only (·=R) w w'/\∃sZ,aB w' R 94 [v0,sZ,ve,v3]/\aT 0 w' sZ (T.drop (pR k T.length))/\∀j,sZ.ownBlock=some j->vr.ownBlock=some j
theorem ahr(R n:Nat)(v0 vr ve v3:Value)(T:aj)(k:Int)(w:World)(hk:-9223372036854775808<=k/\k<=9223372036854775807)(h:aB w R 94 [v0,vr,ve,v3])(hrow:aT 0 w vr T)
  (hno:Calls prog 43 #[ve] w fun e w'=>e=.returned (.int .i64 n)/\w'=w) :
  Calls prog 24 #[.pointer (some ⟨R,0,none⟩),.int .i64 k] w (ahq R v0 vr ve v3 T k n w):=by
 have yP:=h
 have c1:=h.cell (j:=1) rfl
 have c2:=h.cell (j:=2) rfl
 have fz:=h.free
 obtain⟨ad,cc,rfl,q1,q2,q3⟩:=id hrow.form
 by_cases h0:T=[]
 ·subst h0
  have hN:Hid (pR k 0=0):=by have:=KR k 0;exact aA (by omega)
  go_enter func24,ntmps24
  go_wp2_with fail
  refine hno.mono ?_
  rintro e w1 ⟨rfl,hw⟩
  subst hw
  go_wp2_with fail
  go_ret2
  refine⟨by rw[ahp];rfl,Only.refl _ _,_,h,?_,fun j hj=>hj⟩
  rw[List.drop_nil]
  exact hrow
 ·have hpos:0<T.length:=List.length_pos_iff.2 h0
  have hne:((T.length:Int)==0)=false:=by simp;omega
  obtain⟨g,off,rfl,hg1,hg2⟩:∃g off,ad=some ⟨g,off,none⟩/\0<=g/\U8 w g:=by
   rcases q3 with⟨_,e,_⟩|e
   ·exact absurd e h0
   ·exact e
  have hgR:g≠R:=hg2.ne h (by decide)
  unfold ahq
  rw[Uz h0]
  obtain⟨M,hM⟩:∃M,M=pR k T.length:=⟨_,rfl⟩
  rw[<- hM]
  have rP:M<=T.length:=by rw[hM];exact KR _ _
  have hrT:=aT.take hrow M rP
  have hrD:=aT.drop hrow M rP
  have hconv:=fun W hW=>CB 0 w W _ (T.take M) hrT hW
  have Uj:=hconv w rfl
  by_cases hlt:M<T.length
  ·have hmin:min k (T.length:Int)=k:=by unfold pR at hM;omega
   have hmax:max 0 k=(M:Int):=by unfold pR at hM;omega
   have hne2:(((T.length:Int)-(M:Int))==0)=false:=by simp;omega
   replace h0:=aA h0
   replace hM:=aA hM
   go_enter func24,ntmps24
   go_wp2_with fail
   go_ret2
   have hO:Only (·=R) w (w.setCell ⟨R,1,none⟩ (.slice (some ⟨g,off+M,none⟩) (T.length-M) (cc-M))):=(Only.refl (·=R) w).setCell ⟨R,1,none⟩ _ (fun _=>rfl)
   exact⟨rfl,hO,_,yP.put 1 _,hrD.only hO (fun k hk e=>by simp only[Value.ownBlock,Option.some.injEq]at hk;exact hgR (hk.trans e)),fun j hj=>hj⟩
  ·have hMe:M=T.length:=by omega
   have hmin:min k (T.length:Int)=(T.length:Int):=by unfold pR at hM;omega
   have hmax:max 0 (T.length:Int)=(T.length:Int):=by omega
   subst hMe
   replace h0:=aA h0
   replace hM:=aA hM
   go_enter func24,ntmps24
   go_wp2_with fail
   all_goals
    go_ret2
    refine⟨rfl,((Only.refl (·=R) w).setCell ⟨R,1,none⟩ _ (fun _=>rfl)).setCell ⟨R,1,none⟩ _ (fun _=>rfl),_,(yP.put 1 _).put 1 _,aT.nil _ _,fun j hj=>by cases hj⟩
theorem aj3(w:World):Calls prog 43 #[.nilIface] w fun e w'=>e=.returned (.int .i64 1)/\w'=w:=by
 go_enter func43,ntmps43
 go_wp2_with fail
 go_ret
 exact⟨rfl,rfl⟩
def OpenAt(x:Fx)(G:Nat->Prop)(c:aC)(fed:aj)(given R:Nat)(w:World):Prop :=
 ∃a,RD.Reach c (RD.St.start fed) a/\((RD.step c a=.wants/\∃S m G1 ss v6 vr,sJ x G c fed a.text given R w S m a G1 ss v6 vr)\/∃n F vr,RD.step c a=.err n/\lD x G a.text n (a.frames,a.f.blocks) false given R w F vr)
def uU(x:Fx)(G:Nat->Prop)(c:aC)(fed:aj)(given R:Nat)(w:World):Prop :=
 ∃text n pl F vr,RD.told c fed true=(text,n,pl)/\lD x G text n pl true given R w F vr
theorem OpenAt.le{x:Fx}{G:Nat->Prop}{c:aC}{fed:aj}{given R:Nat}{w:World}(h:OpenAt x G c fed given R w):given<=(RD.told c fed false).1.length:=by
 obtain⟨a,hr,⟨hw,S,m,G1,ss,v6,vr,hL⟩|⟨n,F,vr,hn,hS⟩⟩:=h
 ·rw[yQ false hr hw];exact hL.le
 ·rw[xE false hr hn];exact hS.le
theorem OpenAt.small{x:Fx}{G:Nat->Prop}{c:aC}{fed:aj}{given R:Nat}{w:World}(h:OpenAt x G c fed given R w):((RD.told c fed false).1.drop given).length<=maxLen:=by
 obtain⟨a,hr,⟨hw,S,m,G1,ss,v6,vr,hL⟩|⟨n,F,vr,hn,hS⟩⟩:=h
 ·rw[yQ false hr hw]
  obtain⟨_,c',e,h1,h2,_⟩:=hL.row.form
  exact Nat.le_trans h1 h2
 ·rw[xE false hr hn]
  obtain⟨_,c',e,h1,h2,_⟩:=hS.row.form
  exact Nat.le_trans h1 h2
theorem OpenAt.base{x:Fx}{G:Nat->Prop}{c:aC}{fed:aj}{given R:Nat}{w:World}(h:OpenAt x G c fed given R w):∀k,G k->x.base<=k:=by
 obtain⟨a,hr,⟨hw,S,m,G1,ss,v6,vr,hL⟩|⟨n,F,vr,hn,hS⟩⟩:=h
 ·exact hL.base
 ·exact hS.base
theorem aj6(x:Fx)(G:Nat->Prop)(text t:aj)(n:Nat)(pl:Nat×Nat)(given R F:Nat)(vr:Value)(w:World)(h:lD x G text n pl false given R w F vr) :
  Calls prog 23 #[.pointer (some ⟨R,0,none⟩),.string (ah t)] w fun e w'=>e=.returned (.int .i64 0)/\w'=w:=by
 have c2:=h.blk.cell (j:=2) rfl
 have c3:=h.blk.cell (j:=3) rfl
 go_enter func23,ntmps23
 go_wp2_with fail
 go_ret
 exact⟨rfl,rfl⟩
theorem aj7(x:Fx)(G:Nat->Prop)(c:aC)(hc:nU c)(fed text:aj)(given R:Nat)(w:World)(h:OpenAt x G c fed given R w)(hlen:(fed++text).length<=268435456) :
  Calls prog 23 #[.pointer (some ⟨R,0,none⟩),.string (ah text)] w fun e w'=>e=.returned (.int .i64 0)/\Only G w w'/\∃G',(∀k,G' k->G k\/w.heap.size<=k)/\OpenAt x G' c (fed++text) given R w':=by
 obtain⟨a,hr,⟨hw,S,m,G1,ss,v6,vr,hL⟩|⟨n,F,vr,hn,hS⟩⟩:=h
 ·refine(Ul x G c hc fed text a.text given R S m a G1 ss v6 vr w hL hlen).mono ?_
  rintro e w' ⟨rfl,ho,a',G',hG,hr',hcase⟩
  exact⟨rfl,ho,G',hG,a',hr',hcase⟩
 ·refine(aj6 x G a.text text n _ given R F vr w hS).mono ?_
  rintro e w' ⟨rfl,hw⟩
  subst hw
  refine⟨rfl,Only.refl _ _,G,fun k hk=>.inl hk,a.more text,hr.more text,.inr ⟨n,F,vr,?_,hS⟩⟩
  rw[KL c a text (by rw[hn];intro z;cases z),hn]
  rfl
theorem aj8(x:Fx)(G:Nat->Prop)(c:aC)(fed:aj)(given R:Nat)(w:World)(h:OpenAt x G c fed given R w) :
  Calls prog 25 #[.pointer (some ⟨R,0,none⟩)] w fun e w'=>e=.returned (.int .i64 0)/\Only G w w'/\uU x G c fed given R w':=by
 obtain⟨a,hr,⟨hw,S,m,G1,ss,v6,vr,hL⟩|⟨n,F,vr,hn,hS⟩⟩:=h
 ·refine(Um x G c fed a.text given R S m a G1 ss v6 vr w hL).mono ?_
  rintro e w' ⟨rfl,ho,n,F,ht,hS⟩
  exact⟨rfl,ho,_,n,_,F,vr,ht,hS⟩
 ·refine(Un x G a.text n _ given R F vr w hS).mono ?_
  rintro e w' ⟨rfl,ho,hS⟩
  exact⟨rfl,ho,_,n,_,F,vr,xE true hr hn,hS⟩
theorem lD.read{x:Fx}{G:Nat->Prop}{text:aj}{n:Nat}{pl:Nat×Nat}{cl:Bool}{given R F:Nat}{vr sZ:Value}{w w':World}{m:Nat}(h:lD x G text n pl cl given R w F vr)(ho:Only (·=R) w w')(hb:aB w' R 94 [.pointer none,sZ,.iface 106 (.pointer (some ⟨F,0,none⟩)),.bool cl])
  (hr:aT 0 w' sZ ((text.drop given).drop m)) (hm:m<=(text.drop given).length) (hv:∀j,sZ.ownBlock=some j->vr.ownBlock=some j):lD x G text n pl cl (given+m) R w' F sZ:=by
 have Q9:F≠R:=fun e=>by
  have h1:w.heap[F]?=some (.cells _ _ _):=h.flt
  have h2:w.heap[R]?=some (.cells _ _ _):=h.blk
  rw[e,h2]at h1
  injection h1 with h1
  injection h1 with _ h1 _
  exact absurd h1 (by decide)
 refine⟨hb,by rw[List.drop_drop]at hr;exact hr,?_,h.flt.only ho Q9,h.num,h.bW,fun k hk=>h.nv k (hv k hk),h.base,h.vars.only ho (fun k e=>e▸h.base R h.bW),h.rows.only h.vars ho (fun k e=>e▸h.base R h.bW)⟩
 rw[List.length_drop]at hm
 have:=h.le
 omega
theorem ahs(x:Fx)(G:Nat->Prop)(text:aj)(n:Nat)(pl:Nat×Nat)(cl:Bool)(given R F:Nat)(vr:Value)(k:Int)(w:World)(hk:-9223372036854775808<=k/\k<=9223372036854775807)(h:lD x G text n pl cl given R w F vr) :
  Calls prog 24 #[.pointer (some ⟨R,0,none⟩),.int .i64 k] w fun e w'=>e=.returned (Cj (text.drop given) k n)/\Only G w w'/\∃sZ,lD x G text n pl cl (given+pR k (text.drop given).length) R w' F sZ:=by
 refine(ahr R n _ vr _ _ (text.drop given) k w hk h.blk h.row (FU x F n w h.num (h.flt.cell (j:=2) rfl) h.vars h.rows)).mono ?_
 rintro e w' ⟨rfl,ho,sZ,hb,hr,hv⟩
 exact⟨rfl,ho.weaken (fun k _ e=>e▸h.bW),sZ,h.read ho hb hr (KR _ _) hv⟩
theorem aj9(x:Fx)(G:Nat->Prop)(c:aC)(fed:aj)(given R:Nat)(k:Int)(w:World)(hk:-9223372036854775808<=k/\k<=9223372036854775807)(h:uU x G c fed given R w) :
  Calls prog 24 #[.pointer (some ⟨R,0,none⟩),.int .i64 k] w fun e w'=>e=.returned (Cj ((RD.told c fed true).1.drop given) k (RD.told c fed true).2.1)/\Only G w w'/\uU x G c fed (given+pR k ((RD.told c fed true).1.drop given).length) R w':=by
 obtain⟨text,n,pl,F,vr,ht,hS⟩:=h
 rw[ht]
 refine(ahs x G text n pl true given R F vr k w hk hS).mono ?_
 rintro e w' ⟨rfl,ho,sZ,h'⟩
 exact⟨rfl,ho,text,n,pl,F,sZ,ht,h'⟩
theorem aj_(x:Fx)(G:Nat->Prop)(c:aC)(fed:aj)(given R:Nat)(k:Int)(w:World)(hk:-9223372036854775808<=k/\k<=9223372036854775807)(h:OpenAt x G c fed given R w) :
  Calls prog 24 #[.pointer (some ⟨R,0,none⟩),.int .i64 k] w fun e w'=>e=.returned (Cj ((RD.told c fed false).1.drop given) k (RD.told c fed false).2.1)/\Only G w w'/\OpenAt x G c fed (given+pR k ((RD.told c fed false).1.drop given).length) R w':=by
 obtain⟨a,hr,⟨hw,S,m,G1,ss,v6,vr,hL⟩|⟨n,F,vr,hn,hS⟩⟩:=h
 ·rw[yQ false hr hw]
  refine(ahr R 1 _ vr _ _ (a.text.drop given) k w hk hL.blk hL.row (aj3 w)).mono ?_
  rintro e w' ⟨rfl,ho,sZ,hb,hrw,hv⟩
  have hm:=KR k (a.text.drop given).length
  refine⟨rfl,ho.weaken (fun k _ e=>e▸hL.bW),a,hr,.inl ⟨hw,S,m,G1,ss,v6,sZ,hb,by rw[List.drop_drop]at hrw;exact hrw,?_,hL.lk,hw,hL.len,?_,fun k hk=>⟨(hL.own k hk).1,Nat.lt_of_lt_of_le (hL.own k hk).2 ho.size⟩,hL.nr,fun k hk=>hL.nv k (hv k hk),hL.sr,hL.bW,hL.base,hL.rows.only hL.str.vars ho (fun k e=>e▸hL.base R hL.bW),?_⟩⟩
  ·rw[List.length_drop]at hm
   have:=hL.le
   show given+pR k (a.text.drop given).length<=a.text.length
   rw[List.length_drop]at *
   omega
  ·exact hL.str.apart ho (fun k _ hk=>⟨fun e=>hL.nr (hk▸e),by rw[hk];exact hL.sr⟩) (fun k _ hk=>by rw[hk];exact b_.jg hL.blk (by decide) (by decide))
  ·rw[qJ hL.str ho (fun M hM hk=>hM.ne hL.blk hk) (hL.str.blk.only ho (fun e=>by have:=hL.sr;omega)) rfl]
   exact hL.few
 ·rw[xE false hr hn]
  refine(ahs x G a.text n _ false given R F vr k w hk hS).mono ?_
  rintro e w' ⟨rfl,ho,sZ,h'⟩
  exact⟨rfl,ho,a,hr,.inr ⟨n,F,sZ,hn,h'⟩⟩
theorem akb(x:Fx)(G:Nat->Prop)(c:aC)(fed:aj)(given R:Nat)(w:World)(h:uU x G c fed given R w) :
  Calls prog 30 #[.pointer (some ⟨R,0,none⟩)] w fun e w'=>e=.returned (.tuple #[.agg #[.int .i64 ((RD.told c fed true).2.2.1:Nat),.int .i64 ((RD.told c fed true).2.2.2:Nat)],.int .i64 (errOf (RD.told c fed true).2.1:Nat)])/\Below w.heap.size w w'/\uU x G c fed given R w':=by
 obtain⟨text,n,pl,F,vr,ht,hS⟩:=h
 rw[ht]
 refine(Q_ x G text n pl true given R F vr w hS).mono ?_
 rintro e w' ⟨rfl,hb⟩
 exact⟨rfl,hb,text,n,pl,F,vr,ht,hS.blk.below hb hS.blk.lt,hS.row.only (aH (G:=fun _=>False) hb) (fun _ _ e=>e),hS.le,hS.flt.below hb hS.flt.lt,hS.num,hS.bW,hS.nv,hS.base,hS.vars.below hb,hS.rows.below hS.vars hb⟩
theorem akc(r:Nat)(c:aC)(v:Value)(fed s:aj)(given:Nat)(w:World)(h:dY w r c v fed true given) :
  Calls prog 34 #[.pointer (some ⟨r,0,none⟩),.string (ah s)] w fun e w'=>e=.returned (.int .i64 9)/\w'=w:=by
 have c3:=h.blk.cell (j:=3) rfl
 go_enter func34,ntmps34
 go_wp2_with fail
 go_ret
 exact⟨rfl,rfl⟩
theorem akd(r:Nat)(c:aC)(v:Value)(fed s:aj)(given:Nat)(w:World)(h:dY w r c v fed false given)(hl:(fed++s).length<=268435456) :
  Calls prog 34 #[.pointer (some ⟨r,0,none⟩),.string (ah s)] w fun e w'=>e=.returned (.int .i64 0)/\dY w' r c v (fed++s) false given/\Only (·=r) w w':=by
 have c2:=h.blk.cell (j:=2) rfl
 have c3:=h.blk.cell (j:=3) rfl
 have cz:=h.blk.free
 have hz1:=aQ fed
 have hz2:=aQ s
 have AZ:ah fed++ah s=ah (fed++s):=kL _ _
 have hl2:fed.length+s.length<=268435456:=by rw[<- List.length_append];exact hl
 have hf:=aA (h.feed (fed++s) hl)
 replace hl:=aA hl
 obtain⟨FS,UA⟩:∃x,fed++s=x:=⟨_,rfl⟩
 rw[UA]at AZ hf
 rw[UA]
 replace UA:=aA UA
 go_enter func34,ntmps34
 go_wp2_with fail
 go_ret
 exact⟨rfl,hf.out,(Only.refl (·=r) w).setCell _ _ (fun _=>rfl)⟩
theorem ake(r:Nat)(c:aC)(v:Value)(fed:aj)(given:Nat)(w:World)(h:dY w r c v fed true given) :
  Calls prog 35 #[.pointer (some ⟨r,0,none⟩)] w fun e w'=>e=.returned (.int .i64 9)/\w'=w:=by
 have c3:=h.blk.cell (j:=3) rfl
 go_enter func35,ntmps35
 go_wp2_with fail
 go_ret
 exact⟨rfl,rfl⟩
theorem akf(r:Nat)(c:aC)(v:Value)(fed:aj)(given:Nat)(w:World)(h:dY w r c v fed false given) :
  Calls prog 35 #[.pointer (some ⟨r,0,none⟩)] w fun e w'=>e=.returned (.int .i64 0)/\dY w' r c v fed true given/\Only (·=r) w w':=by
 have c3:=h.blk.cell (j:=3) rfl
 have cz:=h.blk.free
 have hf:=aA h.shut
 go_enter func35,ntmps35
 go_wp2_with fail
 go_ret
 exact⟨rfl,hf.out,(Only.refl (·=r) w).setCell _ _ (fun _=>rfl)⟩
def ahe(r:Nat)(c:aC)(v:Value)(fed:aj)(closed:Bool)(given:Nat)(k:Int)(w:World)(e:Ending)(w':World):Prop :=
 e=.returned (Cj ((RD.told c fed closed).1.drop given) k (RD.told c fed closed).2.1)/\dY w' r c v fed closed (given+pR k ((RD.told c fed closed).1.drop given).length)/\Only (·=r) w w'
theorem dY.alloc{w:World}{r:Nat}{c:aC}{v:Value}{fed:aj}{closed:Bool}{given:Nat}(h:dY w r c v fed closed given)(o:Obj):dY (w.alloc o) r c v fed closed given:=h.below ((Below.refl _ w).alloc (Nat.le_refl _) o)
theorem dY.drewN{w:World}{r:Nat}{c:aC}{v:Value}{fed:aj}{closed:Bool}{given:Nat}(h:dY w r c v fed closed given)(n:Nat):dY (w.drewN n) r c v fed closed given:=h.below ⟨rfl,rfl,rfl,Nat.le_refl _,fun _ _=>rfl⟩
theorem akg(RC:lU)(RS:je)(r:Nat)(c:aC)(v:Value)(fed:aj)(closed:Bool)(given:Nat)(k:Int)(w:World)(h:dY w r c v fed closed given)(hk:-9223372036854775808<=k/\k<=9223372036854775807)(hg:given<=(RD.told c fed closed).1.length)(htl:(RD.told c fed closed).1.length<=1099511627776) :
  Calls prog 36 #[.pointer (some ⟨r,0,none⟩),.int .i64 k] w (ahe r c v fed closed given k w):=by
 have hal:=Tc RC RS r c v fed closed given w h
 unfold ahe
 obtain⟨⟨t0,t1,t2,t3⟩,ht⟩:∃t,RD.told c fed closed=t:=⟨_,rfl⟩
 unfold S_ at hal
 rw[ht]at hal hg htl
 rw[ht]
 simp only[]at hg htl⊢
 unfold jV at hal
 simp only[]at hal
 have hz0:=aQ t0
 obtain⟨D,hD⟩:∃D,t0.drop given=D:=⟨_,rfl⟩
 have hDl:D.length+given=t0.length:=by rw[<- hD,List.length_drop];omega
 have hex:(ah t0).extract given t0.length=ah D:=by rw[<- hD];exact mQ _ _
 have hzD:=aQ D
 have hgi:(given:Int)<=(t0.length:Int):=by omega
 rw[hD]
 replace hD:=aA hD
 replace ht:=aA ht
 have hgb:given<=1099511627776:=by omega
 go_enter func36,ntmps36
 go_wp2_with fail
 refine hal.mono ?_
 rintro e w1 ⟨hb1,rfl⟩
 have h1:=h.below hb1
 have c4:=h1.blk.cell (j:=4) rfl
 have cz:=h1.blk.free
 have FW:=h1.blk.lt
 have aF:Only (·=r) w w1:=(Only.refl (·=r) w).below hb1
 have h2:=h1.alloc (.cells #[.string (ah t0),.int .i64 (t1:Int),.int .i64 (t2:Int),.int .i64 (t3:Int)] 83)
 have hO2:=aF.alloc (.cells #[.string (ah t0),.int .i64 (t1:Int),.int .i64 (t2:Int),.int .i64 (t3:Int)] 83)
 have hN:=aB.new w1 83 [.string (ah t0),.int .i64 (t1:Int),.int .i64 (t2:Int),.int .i64 (t3:Int)]
 obtain⟨W2,hW2⟩:∃W,w1.alloc (.cells #[.string (ah t0),.int .i64 (t1:Int),.int .i64 (t2:Int),.int .i64 (t3:Int)] 83)=W:=⟨_,rfl⟩
 have hN':aB W2 w1.heap.size 83 [.string (ah t0),.int .i64 (t1:Int),.int .i64 (t2:Int),.int .i64 (t3:Int)]:=by rw[<- hW2];exact hN
 rw[hW2]at h2 hO2
 clear hN c4 cz FW aF
 replace h1:=aA h1
 replace hb1:=aA hb1
 replace hW2:=aA hW2
 have m0:=hN'.cell (j:=0) rfl
 have m1:=hN'.cell (j:=1) rfl
 have c4:=h2.blk.cell (j:=4) rfl
 have cz:=h2.blk.free
 by_cases h0:D=[]
 ·subst h0
  have hN0:Hid (pR k 0=0):=aA (by have:=KR k 0;omega)
  have hfin:∀n,dY (W2.drewN n) r c v fed closed (given+pR k ([]:aj).length):=fun n=>by
   show dY _ r c v fed closed (given+pR k 0)
   rw[hN0.out]
   exact h2.drewN n
  have he:(ah []).toList.isEmpty=true:=by rw[kH];rfl
  replace hfin:=aA hfin
  replace h2:=aA h2
  go_wp2_with fail
  rw[hW2.out]
  go_quiet(fail)
  go_wp2_with fail
  obtain⟨W3,hW3⟩:∃W,W2.drewN nq=W:=⟨_,rfl⟩
  have m3:W3.cell? ⟨w1.heap.size,1,none⟩=some (.int .i64 (t1:Int)):=by rw[<- hW3];exact m1
  have hf3:=hfin.out nq
  have hO3:=hO2.drewN nq
  rw[hW3]at hf3 hO3
  rw[hW3]
  replace hW3:=aA hW3
  replace hf3:=aA hf3
  go_quiet(fail)
  go_wp2_with fail
  go_ret2
  exact⟨by rw[ahp];rfl,hf3.out.drewN nq,hO3.drewN nq⟩
 ·have he:(ah D).toList.isEmpty=false:=by rw[kH];simpa using h0
  obtain⟨M,hM⟩:∃M,pR k D.length=M:=⟨_,rfl⟩
  have rP:M<=D.length:=by rw[<- hM];exact KR _ _
  have hM':=aA hM
  have ak3:(ah D).extract 0 M=ah (D.take M):=yO _ _
  obtain⟨G,hG⟩:∃G:Nat,(given:Int)+(M:Int)=(G:Int):=⟨given+M,by omega⟩
  have hG2:Hid (given+M=G):=aA (by omega)
  have hfin:∀n,dY ((W2.drewN n).setCell ⟨r,4,none⟩ (.int .i64 (G:Int))) r c v fed closed (given+M):=fun n=>by
   rw[hG2.out]
   exact(h2.drewN n).give G
  have hMi:(M:Int)<=(D.length:Int):=by omega
  replace hfin:=aA hfin
  replace h0:=aA h0
  replace h2:=aA h2
  unfold pR at hM
  by_cases k0:k<0
  ·obtain rfl:M=0:=by omega
   obtain rfl:given=G:=by omega
   replace hM:=aA hM
   go_wp2_with fail
   rw[hW2.out]
   go_quiet(fail)
   have c5:(W2.drewN nq).cell? ⟨r,4,none⟩=some (.int .i64 (given:Int)):=c4
   go_wp2_with fail
   go_ret2
   exact⟨by rw[Uz h0.out,hM'.out];first|rfl|(rw[List.take_length];rfl)|simp[ah],by rw[hM'.out];exact hfin.out nq,(hO2.drewN nq).setCell _ _ (fun _=>rfl)⟩
  ·by_cases k1:(D.length:Int)<k
   ·obtain rfl:M=D.length:=by omega
    replace hM:=aA hM
    go_wp2_with fail
    rw[hW2.out]
    go_quiet(fail)
    have c5:(W2.drewN nq).cell? ⟨r,4,none⟩=some (.int .i64 (given:Int)):=c4
    go_wp2_with fail
    go_ret2
    exact⟨by rw[Uz h0.out,hM'.out];first|rfl|(rw[List.take_length];rfl)|simp[ah],by rw[hM'.out];exact hfin.out nq,(hO2.drewN nq).setCell _ _ (fun _=>rfl)⟩
   ·obtain rfl:k=(M:Int):=by omega
    replace hM:=aA hM
    go_wp2_with fail
    rw[hW2.out]
    go_quiet(fail)
    have c5:(W2.drewN nq).cell? ⟨r,4,none⟩=some (.int .i64 (given:Int)):=c4
    go_wp2_with fail
    go_ret2
    exact⟨by rw[Uz h0.out,hM'.out];first|rfl|(rw[List.take_length];rfl)|simp[ah],by rw[hM'.out];exact hfin.out nq,(hO2.drewN nq).setCell _ _ (fun _=>rfl)⟩
def FP(t:aj×Nat×(Nat×Nat)):Value:=if t.2.1=1 then .tuple #[.agg #[.int .i64 0,.int .i64 0],.int .i64 1]else .tuple #[.agg #[.int .i64 (t.2.2.1:Nat),.int .i64 (t.2.2.2:Nat)],.int .i64 (errOf t.2.1:Nat)]
theorem akh(RC:lU)(RS:je)(r:Nat)(c:aC)(v:Value)(fed:aj)(closed:Bool)(given:Nat)(w:World)(h:dY w r c v fed closed given) :
  Calls prog 37 #[.pointer (some ⟨r,0,none⟩)] w fun e w'=>e=.returned (FP (RD.told c fed closed))/\Below w.heap.size w w':=by
 have hb0:Below w.heap.size w (w.alloc (.cells #[.int .i64 0,.int .i64 0] 74)):=(Below.refl _ w).alloc (Nat.le_refl _) _
 have hP0:=aB.new w 74 [.int .i64 0,.int .i64 0]
 obtain⟨W0,hW0⟩:∃W,w.alloc (.cells #[.int .i64 0,.int .i64 0] 74)=W:=⟨_,rfl⟩
 rw[hW0]at hb0 hP0
 have hal:=Tc RC RS r c v fed closed given W0 (h.below hb0)
 obtain⟨⟨t0,t1,t2,t3⟩,ht⟩:∃t,RD.told c fed closed=t:=⟨_,rfl⟩
 unfold S_ at hal
 rw[ht]at hal
 rw[ht]
 unfold jV at hal
 unfold FP
 simp only[]at hal⊢
 replace ht:=aA ht
 replace hW0:=aA hW0
 obtain⟨P,hP⟩:∃P,w.heap.size=P:=⟨_,rfl⟩
 rw[hP]at hP0
 replace hP:=aA hP
 go_enter func37,ntmps37
 go_wp2_with fail
 rw[hW0.out]
 try rw[hP.out]
 refine hal.mono ?_
 rintro e w1 ⟨hb1,rfl⟩
 have hP1:=hP0.below hb1 hP0.lt
 have hP2:=hP1.alloc (.cells #[.string (ah t0),.int .i64 (t1:Int),.int .i64 (t2:Int),.int .i64 (t3:Int)] 83)
 have hN:=aB.new w1 83 [.string (ah t0),.int .i64 (t1:Int),.int .i64 (t2:Int),.int .i64 (t3:Int)]
 have hbw:Below w.heap.size w w1:=hb0.trans ⟨hb1.os,hb1.tape,hb1.output,hb1.size,fun k hk=>hb1.block k (Nat.lt_of_lt_of_le hk hb0.size)⟩
 have hb2:=hbw.alloc hbw.size (.cells #[.string (ah t0),.int .i64 (t1:Int),.int .i64 (t2:Int),.int .i64 (t3:Int)] 83)
 have p0:=hP1.cell (j:=0) rfl
 have p1:=hP1.cell (j:=1) rfl
 have pz:=hP1.free
 have CG:=hP1.lt
 have hPw:w.heap.size<=P:=by have:=hP.out;omega
 by_cases h1:t1=1
 ·subst h1
  go_wp2_with fail
  have hcl:aB (((w1.setCell ⟨P,0,none⟩ (.int .i64 0)).setCell ⟨P,1,none⟩ (.int .i64 0)).alloc (.cells #[.string (ah t0),.int .i64 1,.int .i64 (t2:Int),.int .i64 (t3:Int)] 83)) P 74 [.int .i64 0,.int .i64 0]:=((aB.alloc ((hP1.put 0 (.int .i64 0)).put 1 (.int .i64 0)) _))
  have hbe:Below w.heap.size w (((w1.setCell ⟨P,0,none⟩ (.int .i64 0)).setCell ⟨P,1,none⟩ (.int .i64 0)).alloc (.cells #[.string (ah t0),.int .i64 1,.int .i64 (t2:Int),.int .i64 (t3:Int)] 83)):=((jw (jw hbw P 0 _ hPw) P 1 _ hPw).alloc (by have:=hbw.size;simp;omega) _)
  generalize((w1.setCell ⟨P,0,none⟩ (.int .i64 0)).setCell ⟨P,1,none⟩ (.int .i64 0)).alloc (.cells #[.string (ah t0),.int .i64 1,.int .i64 (t2:Int),.int .i64 (t3:Int)] 83)=WF at *
  have f0:=hcl.cell (j:=0) rfl
  have f1:=hcl.cell (j:=1) rfl
  exact bodyPost_ret (v:=.tuple #[.agg #[.int .i64 0,.int .i64 0],.int .i64 1]) (by simp[results,results37,go_sem,f0,f1]) rfl ⟨rfl,hbe⟩
 ·by_cases h2:t1=2
  ·subst h2
   go_wp2_with fail
   have hcl:aB (((w1.setCell ⟨P,0,none⟩ (.int .i64 (t2:Int))).setCell ⟨P,1,none⟩ (.int .i64 (t3:Int))).alloc (.cells #[.string (ah t0),.int .i64 2,.int .i64 (t2:Int),.int .i64 (t3:Int)] 83)) P 74 [.int .i64 (t2:Int),.int .i64 (t3:Int)]:=((aB.alloc ((hP1.put 0 (.int .i64 (t2:Int))).put 1 (.int .i64 (t3:Int))) _))
   have hbe:Below w.heap.size w (((w1.setCell ⟨P,0,none⟩ (.int .i64 (t2:Int))).setCell ⟨P,1,none⟩ (.int .i64 (t3:Int))).alloc (.cells #[.string (ah t0),.int .i64 2,.int .i64 (t2:Int),.int .i64 (t3:Int)] 83)):=((jw (jw hbw P 0 _ hPw) P 1 _ hPw).alloc (by have:=hbw.size;simp;omega) _)
   generalize((w1.setCell ⟨P,0,none⟩ (.int .i64 (t2:Int))).setCell ⟨P,1,none⟩ (.int .i64 (t3:Int))).alloc (.cells #[.string (ah t0),.int .i64 2,.int .i64 (t2:Int),.int .i64 (t3:Int)] 83)=WF at *
   have f0:=hcl.cell (j:=0) rfl
   have f1:=hcl.cell (j:=1) rfl
   exact bodyPost_ret (v:=.tuple #[.agg #[.int .i64 (t2:Int),.int .i64 (t3:Int)],.int .i64 0]) (by simp[results,results37,go_sem,f0,f1]) rfl ⟨rfl,hbe⟩
  ·have h1':((t1:Int)==1)=false:=by simp;omega
   have h2':((t1:Int)==2)=false:=by simp;omega
   have he:errOf t1=t1:=if_neg h2
   replace he:=aA he
   go_wp2_with fail
   go_region
   go_wp2_with fail
   have hcl:aB ((((w1.setCell ⟨P,0,none⟩ (.int .i64 (t2:Int))).setCell ⟨P,1,none⟩ (.int .i64 (t3:Int))).alloc (.cells #[.string (ah t0),.int .i64 (t1:Int),.int .i64 (t2:Int),.int .i64 (t3:Int)] 83)).drew) P 74 [.int .i64 (t2:Int),.int .i64 (t3:Int)]:=(aB.drew (aB.alloc ((hP1.put 0 (.int .i64 (t2:Int))).put 1 (.int .i64 (t3:Int))) _))
   have hbe:Below w.heap.size w ((((w1.setCell ⟨P,0,none⟩ (.int .i64 (t2:Int))).setCell ⟨P,1,none⟩ (.int .i64 (t3:Int))).alloc (.cells #[.string (ah t0),.int .i64 (t1:Int),.int .i64 (t2:Int),.int .i64 (t3:Int)] 83)).drew):=jW ((jw (jw hbw P 0 _ hPw) P 1 _ hPw).alloc (by have:=hbw.size;simp;omega) _)
   generalize(((w1.setCell ⟨P,0,none⟩ (.int .i64 (t2:Int))).setCell ⟨P,1,none⟩ (.int .i64 (t3:Int))).alloc (.cells #[.string (ah t0),.int .i64 (t1:Int),.int .i64 (t2:Int),.int .i64 (t3:Int)] 83)).drew=WF at *
   have f0:=hcl.cell (j:=0) rfl
   have f1:=hcl.cell (j:=1) rfl
   exact bodyPost_ret (v:=.tuple #[.agg #[.int .i64 (t2:Int),.int .i64 (t3:Int)],.int .i64 (t1:Int)]) (by simp[results,results37,go_sem,f0,f1]) rfl ⟨by rw[he.out],hbe⟩
theorem bF.aki{x:Fx}{G K:Nat->Prop}{c:aC}{m:MS}{S:Nat}{ss:List Value}{v6:Value}{w w':World}(h:bF x G c m S ss v6 w)(hO:Only K w w')(hK:∀k,k<w.heap.size->K k->¬G k/\x.base<=k)(hKd:∀v,ss[1]?=some v->lJ w' v c.aP/\∀k,v.ownBlock=some k->DB w' k)(hK2:∀k,k<w.heap.size->K k->b_ w k):bF x G c m S ss v6 w':=by
 obtain⟨v,d1,d2,d3⟩:=h.wX
 obtain⟨M,hM,hM1,hM2,gK⟩:=h.tabs
 have qx:=h.blk.lt
 have hS:¬K S:=fun e=>(hK S qx e).1 h.bW.1
 have fQ:Only (fun k=>k<w.heap.size/\K k) w w':=⟨hO.os,hO.tape,hO.output,hO.size,fun k hk hn=>hO.block k hk (fun e=>hn ⟨hk,e⟩)⟩
 have lS:¬(M<w.heap.size/\K M):=fun e=>(hK M e.1 e.2).1 hM1
 have hN:bK w' M=bK w M:=wB fQ hM2.lt lS
 have hK3:∀k,k<w.heap.size->(k<w.heap.size/\K k)->b_ w k:=fun k hk e=>hK2 k hk e.2
 have Qh:∃M,ss[2]?=some (.map (some M))/\G M/\bP w' M (bK w' M)/\(4<=m.nx->gY w' ss 8 M (bK w' M) m.f):=by
  refine⟨M,hM,hM1,by rw[hN];exact hM2.only fQ lS (fun b xs hb e=>(hK3 b hb.lt e).1 xs hb),fun e=>?_⟩
  rw[hN]
  exact(gK e).carry (fun _ _ _=>rfl) fQ lS hK3
 have hpure:∀k,G k->k<w'.heap.size/\b_ w' k:=fun k hk=>⟨Nat.lt_of_lt_of_le (h.pure k hk).1 hO.size,(h.pure k hk).2.same (hO.block k (h.pure k hk).1 (fun e=>(hK k (h.pure k hk).1 e).1 hk))⟩
 refine⟨h.blk.only hO hS,h.len,h.lim,⟨v,d1,(hKd v d1).1,fun k hk=>⟨(d3 k hk).1,(d3 k hk).2.1,(hKd v d1).2 k hk⟩⟩,Qh,hpure,h.fr,h.bl,h.nx,h.bg,h.row.only fQ (fun k hk e=>(hK k e.1 e.2).1 (h.bW.2 k hk)),h.lf,h.lk,h.kd,h.nm,h.lV,h.gZ,h.bW,h.vars.only fQ (fun k e=>(hK k e.1 e.2).2),h.base,h.early,fun e=>?_⟩
 obtain⟨u,W8,h1,h2,h6⟩:=h.frame e
 exact⟨u,W8,h1.turn (fun _ _ _=>rfl) fQ (fun k hk e=>(hK k e.1 e.2).1 (h2 k hk).1),h2,h6⟩
theorem as_nil(t:Value)(w:World):Calls prog 51 #[.nilIface,t] w fun e w'=>e=.returned (.bool false)/\w'=w:=by
 go_enter func51,ntmps51
 go_wp2_with fail
 go_ret
 exact⟨rfl,rfl⟩
theorem akj(R:Nat)(v0 vr v3:Value)(w:World)(h:aB w R 94 [v0,vr,.nilIface,v3]) :
  Calls prog 30 #[.pointer (some ⟨R,0,none⟩)] w fun e w'=>e=.returned (.tuple #[.agg #[.int .i64 0,.int .i64 0],.int .i64 1])/\Below w.heap.size w w':=by
 have c2:=h.cell (j:=2) rfl
 have FW:=h.lt
 go_enter func30,ntmps30
 go_wp2_with(first|(go_at_call 51;refine(as_nil _ _).mono ?_;rintro e w1 ⟨rfl,hw⟩;subst hw))
 exact bodyPost_ret (v:=.tuple #[.agg #[.int .i64 0,.int .i64 0],.int .i64 1]) (by simp[results,results30,go_sem]) rfl ⟨rfl,((Below.refl _ w).alloc (Nat.le_refl _) _).alloc (by simp) _⟩
theorem akk(x:Fx)(G:Nat->Prop)(text t:aj)(n:Nat)(pl:Nat×Nat)(given R F:Nat)(vr:Value)(w:World)(h:lD x G text n pl true given R w F vr) :
  Calls prog 23 #[.pointer (some ⟨R,0,none⟩),.string (ah t)] w fun e w'=>e=.returned (.int .i64 9)/\w'=w:=by
 have c3:=h.blk.cell (j:=3) rfl
 go_enter func23,ntmps23
 go_wp2_with fail
 go_ret
 exact⟨rfl,rfl⟩
theorem akl(x:Fx)(G:Nat->Prop)(text:aj)(n:Nat)(pl:Nat×Nat)(given R F:Nat)(vr:Value)(w:World)(h:lD x G text n pl true given R w F vr) :
  Calls prog 25 #[.pointer (some ⟨R,0,none⟩)] w fun e w'=>e=.returned (.int .i64 9)/\w'=w:=by
 have c3:=h.blk.cell (j:=3) rfl
 go_enter func25,ntmps25
 go_wp2_with fail
 go_ret
 exact⟨rfl,rfl⟩
structure pK(x:Fx)(G:Nat->Prop)(w:World)(K:Nat->Prop):Prop where
 out:∀k,k<w.heap.size->K k->¬G k
 base:∀k,k<w.heap.size->K k->x.base<=k
 akm:∀k,k<w.heap.size->K k->b_ w k
 akn:∀k xs,K k->¬aB w k 111 xs
 ako:∀k,K k->¬DB w k
theorem lD.away{x:Fx}{G K:Nat->Prop}{text:aj}{n:Nat}{pl:Nat×Nat}{cl:Bool}{given R F:Nat}{vr:Value}{w w':World}(h:lD x G text n pl cl given R w F vr)(ho:Only K w w')(hK:pK x G w K):lD x G text n pl cl given R w' F vr:=by
 have fQ:Only (fun k=>k<w.heap.size/\K k) w w':=⟨ho.os,ho.tape,ho.output,ho.size,fun k hk hn=>ho.block k hk (fun e=>hn ⟨hk,e⟩)⟩
 exact⟨h.blk.only fQ (fun e=>hK.out R e.1 e.2 h.bW),h.row.only fQ (fun k hk e=>hK.out k e.1 e.2 (h.nv k hk)),h.le,h.flt.only fQ (fun e=>hK.akn F _ e.2 h.flt),h.num,h.bW,h.nv,h.base,h.vars.only fQ (fun k e=>hK.base k e.1 e.2),h.rows.only h.vars fQ (fun k e=>hK.base k e.1 e.2)⟩
theorem sJ.turn{x:Fx}{G K:Nat->Prop}{c:aC}{fed out:aj}{given R S:Nat}{m:MS}{a:RD.St}{G1:Nat->Prop}{ss:List Value}{v6 vr:Value}{w w':World}(h:sJ x G c fed out given R w S m a G1 ss v6 vr)(ho:Only K w w')(hout:∀k,k<w.heap.size->K k->¬G k)(hbase:∀k,k<w.heap.size->K k->x.base<=k)(hnt:∀k,k<w.heap.size->K k->b_ w k)(hd:∀v,ss[1]?=some v->lJ w' v c.aP/\∀k,v.ownBlock=some k->DB w' k):sJ x G c fed out given R w' S m a G1 ss v6 vr:=by
 have fQ:Only (fun k=>k<w.heap.size/\K k) w w':=⟨ho.os,ho.tape,ho.output,ho.size,fun k hk hn=>ho.block k hk (fun e=>hn ⟨hk,e⟩)⟩
 have hs:bF x G1 c m S ss v6 w':=h.str.aki fQ (fun k hk e=>⟨fun e'=>hout k hk e.2 (h.own k e').1,hbase k hk e.2⟩) hd (fun k hk e=>hnt k hk e.2)
 exact⟨h.blk.only fQ (fun e=>hout R e.1 e.2 h.bW),h.row.only fQ (fun k hk e=>hout k e.1 e.2 (h.nv k hk).2.1),h.le,h.lk,h.wants,h.len,hs,fun k hk=>⟨(h.own k hk).1,Nat.lt_of_lt_of_le (h.own k hk).2 ho.size⟩,h.nr,h.nv,h.sr,h.bW,h.base,h.rows.only h.str.vars fQ (fun k e=>hbase k e.1 e.2),by
  obtain⟨M,hM,hM1,hM2,_⟩:=h.str.tabs
  have e1:=wC h.str.blk hM
  have e2:=wC hs.blk hM
  have e3:bK w' M=bK w M:=wB fQ hM2.lt (fun e=>hout M e.1 e.2 (h.own M hM1).1)
  rw[e2,e3,<- e1]
  exact h.few⟩
theorem sJ.away{x:Fx}{G K:Nat->Prop}{c:aC}{fed out:aj}{given R S:Nat}{m:MS}{a:RD.St}{G1:Nat->Prop}{ss:List Value}{v6 vr:Value}{w w':World}(h:sJ x G c fed out given R w S m a G1 ss v6 vr)(ho:Only K w w')(hK:pK x G w K):sJ x G c fed out given R w' S m a G1 ss v6 vr:=by
 have fQ:Only (fun k=>k<w.heap.size/\K k) w w':=⟨ho.os,ho.tape,ho.output,ho.size,fun k hk hn=>ho.block k hk (fun e=>hn ⟨hk,e⟩)⟩
 refine h.turn ho hK.out hK.base hK.akm (fun v hv=>?_)
 obtain⟨v',d1,d2,d3⟩:=h.str.wX
 rw[d1]at hv
 cases hv
 have hn:∀k,v.ownBlock=some k->¬(k<w.heap.size/\K k):=fun k hk e=>hK.ako k e.2 (d3 k hk).2.2
 exact⟨d2.only fQ hn,fun k hk=>(d3 k hk).2.2.only fQ (hn k hk)⟩
theorem OpenAt.away{x:Fx}{G K:Nat->Prop}{c:aC}{fed:aj}{given R:Nat}{w w':World}(h:OpenAt x G c fed given R w)(ho:Only K w w')(hK:pK x G w K):OpenAt x G c fed given R w':=by
 obtain⟨a,hr,⟨hw,S,m,G1,ss,v6,vr,hL⟩|⟨n,F,vr,hn,hS⟩⟩:=h
 ·exact⟨a,hr,.inl ⟨hw,S,m,G1,ss,v6,vr,hL.away ho hK⟩⟩
 ·exact⟨a,hr,.inr ⟨n,F,vr,hn,hS.away ho hK⟩⟩
theorem uU.away{x:Fx}{G K:Nat->Prop}{c:aC}{fed:aj}{given R:Nat}{w w':World}(h:uU x G c fed given R w)(ho:Only K w w')(hK:pK x G w K):uU x G c fed given R w':=by
 obtain⟨text,n,pl,F,vr,ht,hS⟩:=h
 exact⟨text,n,pl,F,vr,ht,hS.away ho hK⟩
theorem pK.none(x:Fx)(G:Nat->Prop)(w:World):pK x G w (fun _=>False):=⟨fun _ _ e=>e.elim,fun _ _ e=>e.elim,fun _ _ e=>e.elim,fun _ _ e=>e.elim,fun _ e=>e.elim⟩
theorem pK.ref{x:Fx}{G:Nat->Prop}{w:World}{r:Nat}{c:aC}{v:Value}{fed:aj}{closed:Bool}{given:Nat}(h:dY w r c v fed closed given)(hG:¬G r)(hb:x.base<=r):pK x G w (·=r):=by
 refine⟨fun k _ e=>e▸hG,fun k _ e=>e▸hb,fun k _ e=>e▸b_.jg h.blk (by decide) (by decide),fun k xs e hf=>?_,fun k e hd=>?_⟩
 ·subst e
  exact(h.blk.ne hf (by decide)) rfl
 ·subst e
  obtain⟨cur,fz,hd⟩:=hd
  have hb:w.heap[k]?=_:=h.blk
  rw[hd]at hb
  injection hb with hb
  injection hb with h1 h2 h3
  exact absurd h2 (by decide)
theorem akp(x:Fx)(G:Nat->Prop)(c:aC)(fed:aj)(given R:Nat)(w:World)(h:OpenAt x G c fed given R w) :
  Calls prog 30 #[.pointer (some ⟨R,0,none⟩)] w fun e w'=>e=.returned (FP (RD.told c fed false))/\Below w.heap.size w w'/\OpenAt x G c fed given R w':=by
 have hb:=fun w'(hb:Below w.heap.size w w')=>h.away (aH (G:=fun _=>False) hb) (pK.none x G w)
 obtain⟨a,hr,⟨hw,S,m,G1,ss,v6,vr,hL⟩|⟨n,F,vr,hn,hS⟩⟩:=h
 ·rw[yQ false hr hw]
  refine(akj R _ vr _ w hL.blk).mono ?_
  rintro e w' ⟨rfl,h1⟩
  exact⟨rfl,h1,hb w' h1⟩
 ·rw[xE false hr hn]
  refine(Q_ x G a.text n _ false given R F vr w hS).mono ?_
  rintro e w' ⟨rfl,h1⟩
  refine⟨?_,h1,hb w' h1⟩
  have hnn:=Uk hn
  have e1:¬n=1:=by omega
  have e2:¬n=2:=by omega
  simp[FP,errOf,e1,e2]
theorem akq(x:Fx)(G:Nat->Prop)(c:aC)(fed:aj)(given R:Nat)(w:World)(h:uU x G c fed given R w) :
  Calls prog 30 #[.pointer (some ⟨R,0,none⟩)] w fun e w'=>e=.returned (FP (RD.told c fed true))/\Below w.heap.size w w'/\uU x G c fed given R w':=by
 have hn:(RD.told c fed true).2.1≠1:=by
  obtain⟨text,n,pl,F,vr,ht,hS⟩:=h
  rw[ht]
  have:=hS.num
  show n≠1
  omega
 refine(akb x G c fed given R w h).mono ?_
 rintro e w' ⟨rfl,h1,h2⟩
 exact⟨by unfold FP;rw[if_neg hn],h1,h2⟩
end Go.Proofs.YtbhemchnjpajiaaGreatDoor
