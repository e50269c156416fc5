/- Several texts in one: PrSq, PrSeq2, PrSeq3, PrList, PrPad. -/
import Derived.Test.YtbhemchnjpajiaaGreatDoorKM
import Derived.Test.YtbhemchnjpajiaaGreatDoorJC
import Derived.Test.YtbhemchnjpajiaaGreatDoorKN
import Derived.Test.YtbhemchnjpajiaaGreatDoorJA
set_option linter.unusedVariables false
set_option maxRecDepth 100000
set_option maxHeartbeats 4000000
namespace Go.Proofs.YtbhemchnjpajiaaGreatDoor
open Go.RowKit Go.Proofs.Tryz RD
theorem OG{l:List Int}(hl:∀x∈l,0<=x/\x<=1)(p c:Nat)(hc:c<=15):(aU l p c).1<=1000/\(aU l p c).2<=p+15:=by
 unfold aU
 split
 ·simp only[];omega
 ·have a:=iT hl p (c-7)
  have b:=lI (c-7) 8 (by omega)
  simp only[]
  omega
def Iy(x:Fx)(g o p:Nat)(t:TypeId)(gs:List Value)(l:List Int)(h:RD.Ph)(s:aj)(w:World)(e:Ending)(w':World):Prop :=
 Only (fun b=>b=p\/b=g) w w'/\(((aO l h).s.off=0/\e=.returned (.tuple #[.agg #[.int .i64 0,.int .i64 0,.int .i64 0],aW x.f])/\∃a b c,aB w' g t (((gs.set (o+7) (.int .i64 a)).set (o+8) (.int .i64 b)).set (o+9) (.int .i64 c))) \/
  ((aO l h).s.off≠0/\e=.returned (.tuple #[.agg #[.int .i64 (aO l h).s.len,.int .i64 (aO l h).s.off,.int .i64 (aO l h).s.jL],.nilIface])/\aY w' p s (aO l h).pos /\
   ∃a b c,(aO l h).last=[a,b,c]/\aB w' g t (((gs.set (o+7) (.int .i64 a)).set (o+8) (.int .i64 b)).set (o+9) (.int .i64 c))))
theorem Zi(x:Fx)(g o p:Nat)(t:TypeId)(gs:List Value)(A0 B0 C0 A1 B1 C1 A2 B2 C2 i:Nat)(r0 r1 r2:Int)(s:aj)(w:World)(hG:aB w g t gs)(hr0:gs[o+7]?=some (.int .i64 r0))(hr1:gs[o+8]?=some (.int .i64 r1))(hr2:gs[o+9]?=some (.int .i64 r2))
  (hA0:A0<=15) (hA1:A1<=15) (hA2:A2<=15) (hx:1<=r0/\r0<=65536) (h:aY w p s i) (hV:bI x w) (hs:s.length<=1048576) (hi:i<=1099511627) (bH:g≠p) (hpb:x.base<=p) (hgb:x.base<=g) :
  Calls prog 149 #[.pointer (some ⟨g,o,none⟩),.agg (gU ((A0:Int),(B0:Int),(C0:Int)) ((A1:Int),(B1:Int),(C1:Int)) ((A2:Int),(B2:Int),(C2:Int))).toArray,.pointer (some ⟨p,0,none⟩)] w
   (Iy x g o p t gs (ay s) ⟨i,((A0:Int),(B0:Int),(C0:Int)),((A1:Int),(B1:Int),(C1:Int)),((A2:Int),(B2:Int),(C2:Int)),[r0,r1,r2]⟩ s w):=by
 have hbb:=kM s
 have hb:=Dk hbb i A1 (by omega)
 have hpw:=Ia A1 (by omega)
 have Zj:=lI A1 15 hA1
 have hb':=iT hbb i A1
 have hl2:=tV hbb (i+A1) A2
 have hl0:=tV hbb (aU (ay s) (i+A1) A2).2 A0
 have hm2:=OG hbb (i+A1) A2 hA2
 have hm0:=OG hbb (aU (ay s) (i+A1) A2).2 A0 hA0
 have hone:Hid (aO (ay s) ⟨i,((A0:Int),(B0:Int),(C0:Int)),((A1:Int),(B1:Int),(C1:Int)),((A2:Int),(B2:Int),(C2:Int)),[r0,r1,r2]⟩ =
   ⟨⟨(aU (ay s) (aU (ay s) (i+A1) A2).2 A0).1,(bG [r0,r1,r2] (2^A1+RD.pk (ay s) i A1) (aU (ay s) (aU (ay s) (i+A1) A2).2 A0).1).1,(aU (ay s) (i+A1) A2).1+3⟩,
    (aU (ay s) (aU (ay s) (i+A1) A2).2 A0).2,(bG [r0,r1,r2] (2^A1+RD.pk (ay s) i A1) (aU (ay s) (aU (ay s) (i+A1) A2).2 A0).1).2⟩):=rfl
 have hgl:=hG.lt
 have hpl:=aB.lt h
 have hSq:∀e w',Iy x g o p t gs (ay s) ⟨i,((A0:Int),(B0:Int),(C0:Int)),((A1:Int),(B1:Int),(C1:Int)),((A2:Int),(B2:Int),(C2:Int)),[r0,r1,r2]⟩ s w e w'↔Iy x g o p t gs (ay s) ⟨i,((A0:Int),(B0:Int),(C0:Int)),((A1:Int),(B1:Int),(C1:Int)),((A2:Int),(B2:Int),(C2:Int)),[r0,r1,r2]⟩ s w e w':=fun _ _=>Iff.rfl
 unfold gU
 go_enter func149,ntmps149
 go_wp2_with fail
 have hba:Below w.heap.size w ((w.alloc (.cells #[.int .i64 (A0:Int),.int .i64 (B0:Int),.int .i64 (C0:Int),.int .i64 (A1:Int),.int .i64 (B1:Int),.int .i64 (C1:Int),.int .i64 (A2:Int),.int .i64 (B2:Int),.int .i64 (C2:Int)] 275)).alloc (.cells #[.int .i64 0,.int .i64 0,.int .i64 0] 264)):=((Below.refl _ w).alloc (Nat.le_refl _) _).alloc (by simp) _
 have hN:aB ((w.alloc (.cells #[.int .i64 (A0:Int),.int .i64 (B0:Int),.int .i64 (C0:Int),.int .i64 (A1:Int),.int .i64 (B1:Int),.int .i64 (C1:Int),.int .i64 (A2:Int),.int .i64 (B2:Int),.int .i64 (C2:Int)] 275)).alloc (.cells #[.int .i64 0,.int .i64 0,.int .i64 0] 264)) w.heap.size 275 [.int .i64 (A0:Int),.int .i64 (B0:Int),.int .i64 (C0:Int),.int .i64 (A1:Int),.int .i64 (B1:Int),.int .i64 (C1:Int),.int .i64 (A2:Int),.int .i64 (B2:Int),.int .i64 (C2:Int)]:=(aB.new w _ _).alloc _
 have hR:aB ((w.alloc (.cells #[.int .i64 (A0:Int),.int .i64 (B0:Int),.int .i64 (C0:Int),.int .i64 (A1:Int),.int .i64 (B1:Int),.int .i64 (C1:Int),.int .i64 (A2:Int),.int .i64 (B2:Int),.int .i64 (C2:Int)] 275)).alloc (.cells #[.int .i64 0,.int .i64 0,.int .i64 0] 264)) (w.heap.size+1) 264 [.int .i64 0,.int .i64 0,.int .i64 0]:=by
  have:=aB.new (w.alloc (.cells #[.int .i64 (A0:Int),.int .i64 (B0:Int),.int .i64 (C0:Int),.int .i64 (A1:Int),.int .i64 (B1:Int),.int .i64 (C1:Int),.int .i64 (A2:Int),.int .i64 (B2:Int),.int .i64 (C2:Int)] 275)) 264 [.int .i64 0,.int .i64 0,.int .i64 0]
  simpa using this
 generalize(w.alloc (.cells #[.int .i64 (A0:Int),.int .i64 (B0:Int),.int .i64 (C0:Int),.int .i64 (A1:Int),.int .i64 (B1:Int),.int .i64 (C1:Int),.int .i64 (A2:Int),.int .i64 (B2:Int),.int .i64 (C2:Int)] 275)).alloc (.cells #[.int .i64 0,.int .i64 0,.int .i64 0] 264)=w1 at *
 have h1:aY w1 p s i:=aB.below h hba hpl
 have aF:Only (fun b=>b=p) w w1:=aH hba
 have hSp:¬w.heap.size=p:=by omega
 have jB:¬w.heap.size+1=p:=by omega
 refine(Y1 p s i A1 _ h1 hs (by omega) hA1).mono ?_
 rintro e w2 ⟨rfl,hb2,ho2⟩
 have uX:=hN.only ho2 hSp
 have d6:=uX.cell (j:=6) rfl
 generalize hv:(2:Int)^A1+RD.pk (ay s) i A1=V at *
 have xO:1<=V/\V<=65536:=by have:=hv;omega
 replace hv:=aA hv
 clear Zj hb' hb hpw
 go_wp2_with fail
 refine(Ox p s (i+A1) A2 _ hb2 hs (by omega) hA2).mono ?_
 rintro e w3 ⟨rfl,hb3,ho3⟩
 have hN3:=uX.only ho3 hSp
 have d0:=hN3.cell (j:=0) rfl
 generalize aU (ay s) (i+A1) A2=L2 at *
 go_wp2_with fail
 refine(Ox p s L2.2 A0 _ hb3 hs (by omega) hA0).mono ?_
 rintro e w4 ⟨rfl,hb4,gu⟩
 have hO4:Only (fun b=>b=p) w w4:=((aF.trans ho2).trans ho3).trans gu
 have hG4:=hG.only hO4 bH
 have fA:=((hR.only ho2 jB).only ho3 jB).only gu jB
 generalize aU (ay s) L2.2 A0=L0 at *
 go_wp2_with fail
 refine(YZ g (o+7) t gs r0 r1 r2 V L0.1 _ hG4 hr0 hr1 hr2 xO (by omega) hx).mono ?_
 rintro e w5 ⟨rfl,a,b,c,hbk,oN,aX⟩
 have hgR:¬w.heap.size+1=g:=by omega
 have hpg:¬p=g:=fun e=>bH e.symm
 have gQ:=fA.only aX hgR
 have hb5:aY w5 p s L0.2:=aB.only hb4 aX hpg
 have dB:Only (fun b=>b=p\/b=g) w w5:=(hO4.weaken (fun k _ e=>.inl e)).trans (aX.weaken (fun k _ e=>.inr e))
 have xQ:=hV.only dB (fun k e=>by omega)
 generalize bG [r0,r1,r2] V L0.1=BK at *
 obtain⟨O,la⟩:=BK
 simp only[]at hbk hone⊢
 obtain⟨-,rfl⟩:=Prod.mk.inj hbk
 have z0:=gQ.cell (j:=0) rfl
 have z1:=gQ.cell (j:=1) rfl
 have z2:=gQ.cell (j:=2) rfl
 have fz:=gQ.free
 have cF:=xQ.cF
 obtain⟨R,hRe⟩:∃R,R=w.heap.size+1:=⟨_,rfl⟩
 rw[<- hRe]at gQ jB hgR z0 z1 z2 fz
 have xR:R<w.heap.size->R=p\/R=g:=fun e=>absurd e (by omega)
 rw[<- hRe]
 have h8:=hV.eight
 have jP:=hV.size
 have fO:¬6=R:=by omega
 have Zk:¬R=6:=by omega
 replace hRe:=aA hRe
 by_cases hO:O=0
 ·have hOb:(O==0)=true:=by simpa using hO
  go_wp2_with fail
  go_region_with fail
  all_goals
   have f_:=((gQ.put 0 (.int .i64 0)).put 1 (.int .i64 0)).put 2 (.int .i64 0)
   have oJ:Only (fun b=>b=p\/b=g) w (((w5.setCell ⟨R,0,none⟩ (.int .i64 0)).setCell ⟨R,1,none⟩ (.int .i64 0)).setCell ⟨R,2,none⟩ (.int .i64 0)):=((dB.setCell _ _ xR).setCell _ _ xR).setCell _ _ xR
   have q0:=f_.cell (j:=0) rfl
   have q1:=f_.cell (j:=1) rfl
   have q2:=f_.cell (j:=2) rfl
   have Iz:=((oN.other ⟨R,0,none⟩ (.int .i64 0) (fun e=>hgR e.symm)).other ⟨R,1,none⟩ (.int .i64 0) (fun e=>hgR e.symm)).other ⟨R,2,none⟩ (.int .i64 0) (fun e=>hgR e.symm)
   go_wp2_with fail
   generalize((w5.setCell ⟨R,0,none⟩ (.int .i64 0)).setCell ⟨R,1,none⟩ (.int .i64 0)).setCell ⟨R,2,none⟩ (.int .i64 0)=wF at *
   refine bodyPost_ret (v:=.tuple #[.agg #[.int .i64 0,.int .i64 0,.int .i64 0],aW x.f]) (by simp[results,results149,go_sem, *]) rfl ?_
   refine⟨?_,.inl ⟨?_,rfl,_,_,_,Iz⟩⟩
   ·exact⟨oJ.os,oJ.tape,oJ.output,oJ.size,oJ.block⟩
   ·rw[hone.out];exact hO
 ·have hOb:(O==0)=false:=by simpa using hO
  have f_:=((gQ.put 0 (.int .i64 L0.1)).put 1 (.int .i64 O)).put 2 (.int .i64 (L2.1+3))
  have oJ:Only (fun b=>b=p\/b=g) w (((w5.setCell ⟨R,0,none⟩ (.int .i64 L0.1)).setCell ⟨R,1,none⟩ (.int .i64 O)).setCell ⟨R,2,none⟩ (.int .i64 (L2.1+3))):=((dB.setCell _ _ xR).setCell _ _ xR).setCell _ _ xR
  have hbf:aY (((w5.setCell ⟨R,0,none⟩ (.int .i64 L0.1)).setCell ⟨R,1,none⟩ (.int .i64 O)).setCell ⟨R,2,none⟩ (.int .i64 (L2.1+3))) p s L0.2:=aB.other (aB.other (aB.other hb5 ⟨R,0,none⟩ _ (fun e=>jB e.symm)) ⟨R,1,none⟩ _ (fun e=>jB e.symm)) ⟨R,2,none⟩ _ (fun e=>jB e.symm)
  have Iz:=((oN.other ⟨R,0,none⟩ (.int .i64 L0.1) (fun e=>hgR e.symm)).other ⟨R,1,none⟩ (.int .i64 O) (fun e=>hgR e.symm)).other ⟨R,2,none⟩ (.int .i64 (L2.1+3)) (fun e=>hgR e.symm)
  have q0:=f_.cell (j:=0) rfl
  have q1:=f_.cell (j:=1) rfl
  have q2:=f_.cell (j:=2) rfl
  go_wp2_with fail
  generalize((w5.setCell ⟨R,0,none⟩ (.int .i64 L0.1)).setCell ⟨R,1,none⟩ (.int .i64 O)).setCell ⟨R,2,none⟩ (.int .i64 (L2.1+3))=wF at *
  refine bodyPost_ret (v:=.tuple #[.agg #[.int .i64 L0.1,.int .i64 O,.int .i64 (L2.1+3)],.nilIface]) (by simp[results,results149,go_sem, *]) rfl ?_
  refine⟨oJ,.inr ?_⟩
  rw[hone.out]
  exact⟨hO,rfl,hbf,a,b,c,rfl,Iz⟩
end Go.Proofs.YtbhemchnjpajiaaGreatDoor
namespace Go.Proofs.YtbhemchnjpajiaaGreatDoor.RD
open Go
def D7(t:Tab)(x:CM.aG):Prop:=0<=x.1/\x.1<=15/\0<=x.2.1/\x.2.1<=6/\0<=x.2.2/\x.2.2+2^x.2.1.toNat<=2^t.log
theorem xU{t:Tab}(h:cZ t){i:Int}(h0:0<=i)(h1:i<2^t.log):D7 t (aS t.l i):=by
 obtain⟨_,a,b,c,d,e,f⟩:=vk h h0 h1
 exact⟨a,b,c,d,e,f⟩
structure Aq(t0 t1 t2:Tab)(h:Ph):Prop where
 x0:D7 t0 h.x0
 x1:D7 t1 h.x1
 x2:D7 t2 h.x2
 last:dG h.last
theorem Zl{l:List Int}(hl:∀x∈l,0<=x/\x<=1){t0 t1 t2:Tab}(f0:cZ t0)(f1:cZ t1)(f2:cZ t2){last:List Int}(hla:dG last):Aq t0 t1 t2 (vF l t0 t1 t2 last):=by
 have a:=iT hl 0 t0.log
 have b:=iT hl t0.log t1.log
 have c:=iT hl (t0.log+t1.log) t2.log
 exact⟨xU f0 a.1 a.2,xU f1 b.1 b.2,xU f2 c.1 c.2,hla⟩
theorem OH{l:List Int}(hl:∀x∈l,0<=x/\x<=1)(p c:Nat)(hc:c<=15):(aU l p c).1<=1000/\(aU l p c).2<=p+15:=by
 unfold aU
 split
 ·simp only[];omega
 ·have a:=iT hl p (c-7)
  have b:=lI (c-7) 8 (by omega)
  simp only[]
  omega
theorem Zm{l:List Int}(h:dG l){v n:Int}(hv:1<=v)(hv2:v<=65536):0<=(bG l v n).1/\(bG l v n).1<=65536:=by
 obtain⟨a,b,c,e,ha,hb,hc⟩:=h
 rw[e]
 unfold bG
 split
 ·show 0<=v-3/\v-3<=65536;omega
 ·simp only[]
  generalize(if n=0 then v+1 else v)=i
  split
  ·show 0<=a-1/\a-1<=65536;omega
  ·split
   ·show 0<=a/\a<=65536;omega
   ·split
    ·show 0<=b/\b<=65536;omega
    ·show 0<=c/\c<=65536;omega
def qo(s:S3):Prop:=0<=s.len/\s.len<=1000/\1<=s.off/\s.off<=65536/\3<=s.jL/\s.jL<=1003
theorem Zn{l:List Int}(hl:∀x∈l,0<=x/\x<=1)(p c:Nat)(hc:c<=15):1<=(2:Int)^c+pk l p c/\(2:Int)^c+pk l p c<=65536:=by
 have a:=iT hl p c
 have b:=lI c 15 hc
 have d:(0:Int)<2^c:=Int.pow_pos (by omega)
 omega
theorem IB{l:List Int}(hl:∀x∈l,0<=x/\x<=1){t0 t1 t2:Tab}{h:Ph}(hh:Aq t0 t1 t2 h):(aO l h).pos<=h.pos+45/\((aO l h).s.off≠0->qo (aO l h).s/\dG (aO l h).last):=by
 obtain⟨a1,a2,a3,a4,a5,a6⟩:=hh.x0
 obtain⟨b1,b2,b3,b4,b5,b6⟩:=hh.x1
 obtain⟨c1,c2,c3,c4,c5,c6⟩:=hh.x2
 have m2:=OH hl (h.pos+h.x1.1.toNat) h.x2.1.toNat (by omega)
 have m0:=OH hl (aU l (h.pos+h.x1.1.toNat) h.x2.1.toNat).2 h.x0.1.toNat (by omega)
 have n2:=tV hl (h.pos+h.x1.1.toNat) h.x2.1.toNat
 have n0:=tV hl (aU l (h.pos+h.x1.1.toNat) h.x2.1.toNat).2 h.x0.1.toNat
 have vv:=Zn hl h.pos h.x1.1.toNat (by omega)
 have bk:=Zm hh.last (n:=(aU l (aU l (h.pos+h.x1.1.toNat) h.x2.1.toNat).2 h.x0.1.toNat).1) vv.1 vv.2
 refine⟨?_,fun hz=>⟨?_,?_⟩⟩
 ·show(aU l (aU l (h.pos+h.x1.1.toNat) h.x2.1.toNat).2 h.x0.1.toNat).2<=_
  omega
 ·have hz':(bG h.last (2^h.x1.1.toNat+pk l h.pos h.x1.1.toNat) (aU l (aU l (h.pos+h.x1.1.toNat) h.x2.1.toNat).2 h.x0.1.toNat).1).1≠0:=hz
  refine⟨n0,m0.1,?_,bk.2,?_,?_⟩
  ·show 1<=(bG h.last (2^h.x1.1.toNat+pk l h.pos h.x1.1.toNat) (aU l (aU l (h.pos+h.x1.1.toNat) h.x2.1.toNat).2 h.x0.1.toNat).1).1
   omega
  ·show 3<=(aU l (h.pos+h.x1.1.toNat) h.x2.1.toNat).1+3
   omega
  ·show(aU l (h.pos+h.x1.1.toNat) h.x2.1.toNat).1+3<=1003
   omega
 ·have hz':(bG h.last (2^h.x1.1.toNat+pk l h.pos h.x1.1.toNat) (aU l (aU l (h.pos+h.x1.1.toNat) h.x2.1.toNat).2 h.x0.1.toNat).1).1≠0:=hz
  exact LV hh.last _ _ vv (by omega)
theorem OI{l:List Int}(hl:∀x∈l,0<=x/\x<=1){t0 t1 t2:Tab}(f0:cZ t0)(f1:cZ t1)(f2:cZ t2){h:Ph}(hh:Aq t0 t1 t2 h){r:P1}(hr:dG r.last):Aq t0 t1 t2 (jM l t0 t1 t2 h r)/\(jM l t0 t1 t2 h r).pos<=r.pos+18:=by
 obtain⟨a1,a2,a3,a4,a5,a6⟩:=hh.x0
 obtain⟨b1,b2,b3,b4,b5,b6⟩:=hh.x1
 obtain⟨c1,c2,c3,c4,c5,c6⟩:=hh.x2
 have a:=iT hl r.pos h.x0.2.1.toNat
 have b:=iT hl (r.pos+h.x0.2.1.toNat+h.x2.2.1.toNat) h.x1.2.1.toNat
 have c:=iT hl (r.pos+h.x0.2.1.toNat) h.x2.2.1.toNat
 refine⟨⟨xU f0 (by omega) (by omega),xU f1 (by omega) (by omega),xU f2 (by omega) (by omega),hr⟩,?_⟩
 show r.pos+h.x0.2.1.toNat+h.x2.2.1.toNat+h.x1.2.1.toNat<=_
 omega
theorem Ar{l:List Int}(hl:∀x∈l,0<=x/\x<=1){t0 t1 t2:Tab}(f0:cZ t0)(f1:cZ t1)(f2:cZ t2){last:List Int}(hla:dG last):∀(k:Nat){L:List S3}{h:Ph},fM l t0 t1 t2 last k=some (L,h)->Aq t0 t1 t2 h/\L.length=k/\h.pos<=18+63*k/\∀s∈L,qo s
 | 0,L,h,e=>by
  cases e
  refine⟨Zl hl f0 f1 f2 hla,rfl,?_,fun s hs=>by cases hs⟩
  show t0.log+t1.log+t2.log<=_
  have:=f0.2.1
  have:=f1.2.1
  have:=f2.2.1
  omega
 | k+1,L,h,e=>by
  unfold fM at e
  cases e':fM l t0 t1 t2 last k with
  | none=>rw[e']at e;cases e
  | some r =>
   obtain⟨L',h'⟩:=r
   rw[e']at e
   simp only[]at e
   obtain⟨q1,q2,q3,q4⟩:=Ar hl f0 f1 f2 hla k e'
   obtain⟨p1,p2⟩:=IB hl q1
   split at e
   ·cases e
   ·rename_i hz
    obtain⟨p2,p3⟩:=p2 hz
    injection e with e
    obtain⟨rfl,rfl⟩:=Prod.mk.inj e
    obtain⟨n1,n2⟩:=OI hl f0 f1 f2 q1 p3
    refine⟨n1,by simp[q2],by omega,fun s hs=>?_⟩
    rcases List.mem_append.1 hs with hs|hs
    ·exact q4 s hs
    ·rw[List.mem_singleton.1 hs];exact p2
def comp(f:Fr)(l:List Int)(from':Nat)(lits:aj)(k:Nat):Option (Ph×(aj×aj)) :=
 match fM l f.t0 f.t1 f.t2 f.last k with
 | none=>none
 | some (L,h)=>if l.length<h.pos then none else match dJ f.window L (f.dict++f.text,lits)with
  | none=>none
  | some x=>if from'+1024<x.1.length then none else some (h,x)
theorem IC{f:Fr}{l:List Int}{from':Nat}{more:Bool}{q:Sq}(h:q.b.short=true):seq1 f l from' more q=none:=by
 have a:=@zF l q.b (aS f.t1.l q.s1).1.toNat h
 have b:=@MH l _ (aS f.t2.l q.s2).1.toNat a
 have c:=@MH l _ (aS f.t0.l q.s0).1.toNat b
 have d:=@zF l _ (aS f.t0.l q.s0).2.1.toNat c
 have e:=@zF l _ (aS f.t2.l q.s2).2.1.toNat d
 have g:=@zF l _ (aS f.t1.l q.s1).2.1.toNat e
 unfold seq1
 simp only[]
 cases more
 ·simp only[Bool.false_eq_true,if_false]
  rw[if_pos (.inl c)]
 ·simp only[if_true]
  rw[if_pos (.inl g)]
theorem OJ{f:Fr}{s lits:aj}(f0:cZ f.t0)(f1:cZ f.t1)(f2:cZ f.t2)(hla:dG f.last){n:Nat}:∀k,k<n ->
  match comp f (ay s) (f.dict++f.text).length lits k with
  | none=>∀q,eH f (ay s) (f.dict++f.text).length n (eP f (ay s) lits) k=some q->q.b.short=true
  | some (h,x)=>(f.dict++f.text).length<=x.1.length/\∃q,eH f (ay s) (f.dict++f.text).length n (eP f (ay s) lits) k=some q/\Sync f (ay s) q h x
 | 0,hk=>by
  have hl:=kM s
  generalize hfr:(f.dict++f.text).length=from'
  by_cases hp:(ay s).length<f.t0.log+f.t1.log+f.t2.log
  ·have hc:comp f (ay s) from' lits 0=none:=by
    unfold comp fM
    simp only[]
    rw[if_pos (show(ay s).length<(vF (ay s) f.t0 f.t1 f.t2 f.last).pos from hp)]
   rw[hc]
   intro q hq
   cases hq
   show(rd (ay s) (rd (ay s) (rd (ay s) ⟨0,false⟩ f.t0.log).2 f.t1.log).2 f.t2.log).2.short=true
   cases es:(rd (ay s) (rd (ay s) (rd (ay s) ⟨0,false⟩ f.t0.log).2 f.t1.log).2 f.t2.log).2.short with
   | true=>rfl
   | false =>
    exfalso
    obtain⟨a1,a2,a3⟩:=rd_false es
    obtain⟨b1,b2,b3⟩:=rd_false a1
    obtain⟨c1,c2,c3⟩:=rd_false b1
    simp only[kP _ _ _ c2]at b2 a2
    simp only[kP _ _ _ b2]at a2
    omega
  ·have hc:comp f (ay s) from' lits 0=some (vF (ay s) f.t0 f.t1 f.t2 f.last,(f.dict++f.text,lits)):=by
    unfold comp fM
    simp only[dJ]
    rw[if_neg (show ¬(ay s).length<(vF (ay s) f.t0 f.t1 f.t2 f.last).pos from hp),if_neg (by rw[hfr];omega)]
   rw[hc]
   have r0:=kP (ay s) 0 f.t0.log (by omega)
   have r1:=kP (ay s) (0+f.t0.log) f.t1.log (by omega)
   have r2:=kP (ay s) (0+f.t0.log+f.t1.log) f.t2.log (by omega)
   refine⟨by rw[hfr];exact Nat.le_refl _,_,rfl,?_⟩
   have e:eP f (ay s) lits=⟨⟨f.t0.log+f.t1.log+f.t2.log,false⟩,pk (ay s) 0 f.t0.log,pk (ay s) f.t0.log f.t1.log,pk (ay s) (f.t0.log+f.t1.log) f.t2.log,f.dict++f.text,lits,f.last⟩:=by
    rw[Nat.zero_add]at r0 r1 r2
    unfold eP
    simp only[r0,r1,r2]
   rw[e]
   exact⟨rfl,by show f.t0.log+f.t1.log+f.t2.log<=_;omega,rfl,rfl,rfl,rfl,rfl,rfl⟩
 | k+1,hk=>by
  have hl:=kM s
  have ih:=OJ (s:=s) (lits:=lits) f0 f1 f2 hla (n:=n) k (by omega)
  generalize hfr:(f.dict++f.text).length=from' at *
  have hseq:eH f (ay s) from' n (eP f (ay s) lits) (k+1)=match eH f (ay s) from' n (eP f (ay s) lits) k with
    | none=>none
    | some r=>seq1 f (ay s) from' true r:=by
   show(match eH f (ay s) from' n (eP f (ay s) lits) k with
    | none=>none
    | some r=>seq1 f (ay s) from' (decide (k+1<n)) r)=_
   rw[decide_eq_true hk]
  have hpk:fM (ay s) f.t0 f.t1 f.t2 f.last (k+1)=match fM (ay s) f.t0 f.t1 f.t2 f.last k with
    | none=>none
    | some (L,h)=>if(aO (ay s) h).s.off=0 then none else some (L++[(aO (ay s) h).s],jM (ay s) f.t0 f.t1 f.t2 h (aO (ay s) h)):=rfl
  have OL:comp f (ay s) from' lits (k+1)=none->(∀q,eH f (ay s) from' n (eP f (ay s) lits) (k+1)=some q->q.b.short=true) ->
    match comp f (ay s) from' lits (k+1)with
    | none=>∀q,eH f (ay s) from' n (eP f (ay s) lits) (k+1)=some q->q.b.short=true
    | some (h,x)=>from'<=x.1.length/\∃q,eH f (ay s) from' n (eP f (ay s) lits) (k+1)=some q/\Sync f (ay s) q h x:=by
   intro h1 h2
   rw[h1]
   exact h2
  cases ec:comp f (ay s) from' lits k with
  | none =>
   rw[ec]at ih
   apply OL
   ·unfold comp at ec⊢
    rw[hpk]
    cases ep:fM (ay s) f.t0 f.t1 f.t2 f.last k with
    | none=>rfl
    | some r =>
     obtain⟨L,h⟩:=r
     rw[ep]at ec
     simp only[]at ec⊢
     by_cases hz:(aO (ay s) h).s.off=0
     ·rw[if_pos hz]
     ·rw[if_neg hz]
      simp only[]
      by_cases hp:(ay s).length<h.pos
      ·rw[if_pos (by have:=MF (ay s) h;have:=Wh (ay s) f.t0 f.t1 f.t2 h (aO (ay s) h);omega)]
      ·rw[if_neg hp]at ec
       by_cases hp2:(ay s).length<(jM (ay s) f.t0 f.t1 f.t2 h (aO (ay s) h)).pos
       ·rw[if_pos hp2]
       ·rw[if_neg hp2,zD]
        cases ef:dJ f.window L (f.dict++f.text,lits)with
        | none=>rfl
        | some x =>
         rw[ef]at ec
         simp only[]at ec⊢
         split at ec
         ·rename_i hx
          cases e1:dD f.window (aO (ay s) h).s x with
          | none=>rfl
          | some y =>
           simp only[]
           rw[if_pos (by have:=(Dn e1).1;omega)]
         ·cases ec
   ·intro q hq
    rw[hseq]at hq
    cases es:eH f (ay s) from' n (eP f (ay s) lits) k with
    | none=>rw[es]at hq;cases hq
    | some r =>
     rw[es]at hq
     simp only[]at hq
     rw[IC (ih r es)]at hq
     cases hq
  | some hx =>
   obtain⟨h,x⟩:=hx
   rw[ec]at ih
   simp only[]at ih
   obtain⟨hfx,q,hq,hs⟩:=ih
   have hcomp:=ec
   unfold comp at hcomp
   cases ep:fM (ay s) f.t0 f.t1 f.t2 f.last k with
   | none=>rw[ep]at hcomp;cases hcomp
   | some r =>
    obtain⟨L,h'⟩:=r
    rw[ep]at hcomp
    simp only[]at hcomp
    split at hcomp
    ·cases hcomp
    ·cases ef:dJ f.window L (f.dict++f.text,lits)with
     | none=>rw[ef]at hcomp;cases hcomp
     | some x' =>
      rw[ef]at hcomp
      simp only[]at hcomp
      split at hcomp
      ·cases hcomp
      ·injection hcomp with hcomp
       obtain⟨rfl,rfl⟩:=Prod.mk.inj hcomp
       have hok:=(Ar hl f0 f1 f2 hla k ep).1
       rw[hq]at hseq
       simp only[]at hseq
       have hc1:comp f (ay s) from' lits (k+1)=if(aO (ay s) h').s.off=0 then none else if(ay s).length<(jM (ay s) f.t0 f.t1 f.t2 h' (aO (ay s) h')).pos then none else match dD f.window (aO (ay s) h').s x' with
         | none=>none
         | some y=>if from'+1024<y.1.length then none else some (jM (ay s) f.t0 f.t1 f.t2 h' (aO (ay s) h'),y):=by
        unfold comp
        rw[hpk,ep]
        simp only[]
        by_cases hz:(aO (ay s) h').s.off=0
        ·rw[if_pos hz,if_pos hz]
        ·rw[if_neg hz,if_neg hz]
         simp only[]
         rw[zD,ef]
       rcases Wi hl (from':=from') hs hok.last hfx with⟨hn,D8⟩|⟨y,q',hy,hyl,hz,hq',hsy⟩
       ·apply OL
        ·rw[hc1]
         rcases D8 with hz|hp|hf|⟨y,hf,hy⟩
         ·rw[if_pos hz]
         ·rw[if_pos hp];split<;>rfl
         ·rw[hf];split
          ·rfl
          ·split<;>rfl
         ·rw[hf]
          simp only[if_pos hy]
          split
          ·rfl
          ·split<;>rfl
        ·intro q2 h2
         rw[hseq,hn]at h2
         cases h2
       ·have hp:¬(ay s).length<(jM (ay s) f.t0 f.t1 f.t2 h' (aO (ay s) h')).pos:=by have:=hsy.le;omega
        rw[hc1,if_neg hz,if_neg hp,hy]
        simp only[]
        rw[if_neg (by omega)]
        refine⟨by have:=(Dn hy).1;omega,q',by rw[hseq,hq'],hsy⟩
theorem OM{f:Fr}{l:List Int}(hl:∀x∈l,0<=x/\x<=1){from':Nat}{q:Sq}{h:Ph}{x:aj×aj}(hs:Sync f l q h x)(hla:dG h.last)(hfr:from'<=x.1.length) :
  (seq1 f l from' false q=none/\((aO l h).s.off=0\/l.length<(aO l h).pos\/dD f.window (aO l h).s x=none\/∃y,dD f.window (aO l h).s x=some y/\from'+1024<y.1.length)) \/
  ∃y s0 s1 s2,dD f.window (aO l h).s x=some y/\y.1.length<=from'+1024/\(aO l h).s.off≠0/\(aO l h).pos<=l.length/\seq1 f l from' false q=some ⟨⟨(aO l h).pos,false⟩,s0,s1,s2,y.1,y.2,(aO l h).last⟩:=by
 have e:seq1 f l from' false q=oq f from' q (2^h.x1.1.toNat+(rd l q.b h.x1.1.toNat).1) (sz l (rd l q.b h.x1.1.toNat).2 h.x2.1.toNat).1 (sz l (sz l (rd l q.b h.x1.1.toNat).2 h.x2.1.toNat).2 h.x0.1.toNat).1
   (sz l (sz l (rd l q.b h.x1.1.toNat).2 h.x2.1.toNat).2 h.x0.1.toNat).2 q.s0 q.s1 q.s2:=by
  unfold seq1
  rw[hs.x0,hs.x1,hs.x2]
  rfl
 rw[e]
 by_cases hp:l.length<(aO l h).pos
 ·left
  refine⟨MG ?_,.inr (.inl hp)⟩
  cases es:(sz l (sz l (rd l q.b h.x1.1.toNat).2 h.x2.1.toNat).2 h.x0.1.toNat).2.short with
  | true=>rfl
  | false =>
   exfalso
   have i1:=pX l q.b h.x1.1.toNat (by rw[hs.b];exact hs.le)
   have i2:=Df l (rd l q.b h.x1.1.toNat).2 h.x2.1.toNat i1
   obtain⟨d1,d2,d3⟩:=Dp es i2
   obtain⟨k1,k2,k3⟩:=Dp d1 i1
   obtain⟨m1,m2,m3⟩:=rd_false k1
   simp only[hs.b]at m2 k2 d2
   simp only[kP l _ _ m2]at k2 d2
   simp only[vG l _ _ k2]at d2
   have hp':l.length<(aU l (aU l (h.pos+h.x1.1.toNat) h.x2.1.toNat).2 h.x0.1.toNat).2:=hp
   omega
 ·have hp':(aU l (aU l (h.pos+h.x1.1.toNat) h.x2.1.toNat).2 h.x0.1.toNat).2<=l.length:=Nat.le_of_not_lt hp
  have g1:=xq l (h.pos+h.x1.1.toNat) h.x2.1.toNat
  have g2:=xq l (aU l (h.pos+h.x1.1.toNat) h.x2.1.toNat).2 h.x0.1.toNat
  have r1:=kP l h.pos h.x1.1.toNat (by omega)
  have r2:=vG l (h.pos+h.x1.1.toNat) h.x2.1.toNat (by omega)
  have r3:=vG l (aU l (h.pos+h.x1.1.toNat) h.x2.1.toNat).2 h.x0.1.toNat (by omega)
  rw[hs.b]
  simp only[r1,r2,r3]
  rw[MI hs hla hfr (tV hl _ _) (tV hl _ _) (MJ hl _ _)]
  have goal:((if(aO l h).s.off=0 then none else match dD f.window (aO l h).s x with
    | none=>none
    | some y=>if from'+1024<y.1.length then none else some (⟨⟨(aO l h).pos,false⟩,q.s0,q.s1,q.s2,y.1,y.2,(aO l h).last⟩:Sq))=none/\((aO l h).s.off=0\/l.length<(aO l h).pos\/dD f.window (aO l h).s x=none\/∃y,dD f.window (aO l h).s x=some y/\from'+1024<y.1.length)) \/
   ∃y s0 s1 s2,dD f.window (aO l h).s x=some y/\y.1.length<=from'+1024/\(aO l h).s.off≠0/\(aO l h).pos<=l.length/\(if(aO l h).s.off=0 then none else match dD f.window (aO l h).s x with
    | none=>none
    | some y=>if from'+1024<y.1.length then none else some (⟨⟨(aO l h).pos,false⟩,q.s0,q.s1,q.s2,y.1,y.2,(aO l h).last⟩:Sq))=some ⟨⟨(aO l h).pos,false⟩,s0,s1,s2,y.1,y.2,(aO l h).last⟩:=by
   by_cases hz:(aO l h).s.off=0
   ·exact .inl ⟨by rw[if_pos hz],.inl hz⟩
   cases ef:dD f.window (aO l h).s x with
   | none=>exact .inl ⟨by rw[if_neg hz],.inr (.inr (.inl rfl))⟩
   | some y =>
    by_cases hy:from'+1024<y.1.length
    ·exact .inl ⟨by simp only[if_neg hz,if_pos hy],.inr (.inr (.inr ⟨y,rfl,hy⟩))⟩
    ·exact .inr ⟨y,q.s0,q.s1,q.s2,rfl,by omega,hz,hp',by simp only[if_neg hz,if_neg hy]⟩
  exact goal
def Au(f:Fr)(lits s:aj)(n:Nat):Option (aj×List Int) :=
 match kN (ay s) f.t0 f.t1 f.t2 f.last (n-1)with
 | none=>none
 | some (L,pos,la) =>
  if pos<=(ay s).length/\rest (ay s) pos=true then
   match dJ f.window L (f.dict++f.text,lits)with
   | none=>none
   | some x=>if 1024<(x.1.drop (f.dict++f.text).length++x.2).length then none else some (x.1.drop (f.dict++f.text).length++x.2,la)
  else none
theorem Zo{f:Fr}{lits s:aj}{n:Nat}(f0:cZ f.t0)(f1:cZ f.t1)(f2:cZ f.t2)(hla:dG f.last)(hn:1<=n)(r:aj×List Int) :
  Au f lits s n=some r↔content f lits s n=some r/\r.1.length<=1024:=by
 have hl:=kM s
 obtain⟨m,rfl⟩:∃m,n=m+1:=⟨n-1,by omega⟩
 have hc:=OJ (s:=s) (lits:=lits) f0 f1 f2 hla (n:=m+1) m (by omega)
 have hseq:eH f (ay s) (f.dict++f.text).length (m+1) (eP f (ay s) lits) (m+1)=match eH f (ay s) (f.dict++f.text).length (m+1) (eP f (ay s) lits) m with
   | none=>none
   | some r=>seq1 f (ay s) (f.dict++f.text).length false r:=by
  show(match eH f (ay s) (f.dict++f.text).length (m+1) (eP f (ay s) lits) m with
   | none=>none
   | some r=>seq1 f (ay s) (f.dict++f.text).length (decide (m+1<m+1)) r)=_
  rw[decide_eq_false (by omega)]
 unfold Au content kN
 rw[Nat.add_sub_cancel,hseq]
 generalize hfr:(f.dict++f.text).length=from' at *
 cases ep:fM (ay s) f.t0 f.t1 f.t2 f.last m with
 | none =>
  have e:comp f (ay s) from' lits m=none:=by unfold comp;rw[ep]
  rw[e]at hc
  simp only[reduceCtorEq,false_iff,not_and]
  intro h
  exfalso
  cases es:eH f (ay s) from' (m+1) (eP f (ay s) lits) m with
  | none=>rw[es]at h;cases h
  | some q=>rw[es]at h;simp only[IC (hc q es)]at h;cases h
 | some Lh =>
  obtain⟨L,h⟩:=Lh
  simp only[]
  obtain⟨hok,hlen,hpos,hall⟩:=Ar hl f0 f1 f2 hla m ep
  constructor
  ·intro hr
   by_cases hz:(aO (ay s) h).s.off=0
   ·rw[if_pos hz]at hr;cases hr
   rw[if_neg hz]at hr
   simp only[]at hr
   split at hr
   ·rename_i hpr
    rw[zD]at hr
    cases ef:dJ f.window L (f.dict++f.text,lits)with
    | none=>rw[ef]at hr;cases hr
    | some x =>
     rw[ef]at hr
     simp only[]at hr
     cases e1:dD f.window (aO (ay s) h).s x with
     | none=>rw[e1]at hr;cases hr
     | some y =>
      rw[e1]at hr
      simp only[]at hr
      split at hr
      ·cases hr
      ·rename_i hlong
       injection hr with hr
       subst hr
       have hg:=Dn e1
       have aib:y.1.length-from'+y.2.length<=1024:=by simpa using hlong
       have hc0:comp f (ay s) from' lits m=some (h,x):=by
        unfold comp
        rw[ep]
        simp only[]
        have:=MF (ay s) h
        rw[if_neg (by omega),ef]
        simp only[]
        rw[if_neg (by omega)]
       rw[hc0]at hc
       simp only[]at hc
       obtain⟨hfx,q,hq,hs⟩:=hc
       rw[hq]
       simp only[]
       rcases OM hl (from':=from') hs hok.last hfx with⟨hn,D8⟩|⟨y',s0,s1,s2,hy,hyl,hz',hpl,hq'⟩
       ·exfalso
        rcases D8 with hw|hw|hw|⟨y',hw,hy'⟩
        ·exact hz hw
        ·omega
        ·rw[e1]at hw;cases hw
        ·rw[e1]at hw
         cases hw
         omega
       ·rw[e1]at hy
        cases hy
        rw[hq']
        simp only[]
        rw[if_pos hpr.2]
        exact⟨rfl,by simpa using hlong⟩
   ·cases hr
  ·rintro⟨hr,hr2⟩
   cases es:eH f (ay s) from' (m+1) (eP f (ay s) lits) m with
   | none=>rw[es]at hr;cases hr
   | some q =>
    rw[es]at hr
    simp only[]at hr
    have hsh:q.b.short=false:=by
     cases e:q.b.short with
     | false=>rfl
     | true=>rw[IC e]at hr;cases hr
    cases ec:comp f (ay s) from' lits m with
    | none =>
     rw[ec]at hc
     rw[hc q es]at hsh
     cases hsh
    | some hx =>
     obtain⟨h',x⟩:=hx
     have hc':=ec
     unfold comp at hc'
     rw[ep]at hc'
     simp only[]at hc'
     split at hc'
     ·cases hc'
     ·cases ef:dJ f.window L (f.dict++f.text,lits)with
      | none=>rw[ef]at hc';cases hc'
      | some x' =>
       rw[ef]at hc'
       simp only[]at hc'
       split at hc'
       ·cases hc'
       ·injection hc' with hc'
        obtain⟨rfl,rfl⟩:=Prod.mk.inj hc'
        rw[ec]at hc
        simp only[]at hc
        obtain⟨hfx,q',hq',hs⟩:=hc
        rw[es]at hq'
        cases hq'
        rcases OM hl (from':=from') hs hok.last hfx with⟨hn,D8⟩|⟨y,s0,s1,s2,hy,hyl,hz,hpl,hq'⟩
        ·rw[hn]at hr;cases hr
        ·rw[hq']at hr
         simp only[]at hr
         split at hr
         ·rename_i hrest
          injection hr with hr
          subst hr
          rw[if_neg hz]
          simp only[]
          rw[if_pos ⟨hpl,hrest⟩,zD,ef]
          simp only[hy]
          simp only[]at hr2
          rw[if_neg (by omega)]
         ·cases hr
end Go.Proofs.YtbhemchnjpajiaaGreatDoor.RD
namespace Go.Proofs.YtbhemchnjpajiaaGreatDoor
open Go.RowKit Go.Proofs.Tryz RD
def fB(L:List RD.S3):List Value:=L.flatMap fun s=>[.int .i64 s.len,.int .i64 s.off,.int .i64 s.jL]
theorem Zp(L:List RD.S3)(s:RD.S3):fB (L++[s])=fB L++[.int .i64 s.len,.int .i64 s.off,.int .i64 s.jL]:=by simp[fB]
theorem Zq(L:List RD.S3):(fB L).length=L.length*3:=by
 induction L with
 | nil=>rfl
 | cons a l ih=>simp only[fB,List.flatMap_cons,List.length_append,List.length_cons,List.length_nil]at *;omega
theorem Zr:(prog.info? 264).map (fun i=>(i.zero,i.size,i.bytes))=some (some (.agg #[.int .i64 0,.int .i64 0,.int .i64 0]),3,24):=by kernel_rfl
structure Rec(gs gs':List Value)(o:Nat)(a b c:Int):Prop where
 len:gs'.length=gs.length
 a:gs'[o+7]?=some (.int .i64 a)
 b:gs'[o+8]?=some (.int .i64 b)
 c:gs'[o+9]?=some (.int .i64 c)
 rest:∀j,j≠o+7->j≠o+8->j≠o+9->gs'[j]?=gs[j]?
theorem Rec.sets{gs:List Value}{o:Nat}{v:Value}(h:gs[o+9]?=some v)(a b c:Int):Rec gs (((gs.set (o+7) (.int .i64 a)).set (o+8) (.int .i64 b)).set (o+9) (.int .i64 c)) o a b c:=by
 obtain⟨hl,-⟩:=List.getElem?_eq_some_iff.1 h
 refine⟨by simp,?_,?_,?_,fun j h1 h2 h3=>?_⟩
 ·rw[List.getElem?_set_ne (by omega),List.getElem?_set_ne (by omega),List.getElem?_set_self (by omega)]
 ·rw[List.getElem?_set_ne (by omega),List.getElem?_set_self (by simp;omega)]
 ·rw[List.getElem?_set_self (by simp;omega)]
 ·rw[List.getElem?_set_ne (by omega),List.getElem?_set_ne (by omega),List.getElem?_set_ne (by omega)]
theorem Rec.trans{gs gs' gs'':List Value}{o:Nat}{a b c a' b' c':Int}(h:Rec gs gs' o a b c)(k:Rec gs' gs'' o a' b' c'):Rec gs gs'' o a' b' c' :=
 ⟨k.len.trans h.len,k.a,k.b,k.c,fun j h1 h2 h3=>(k.rest j h1 h2 h3).trans (h.rest j h1 h2 h3)⟩
theorem Rec.refl{gs:List Value}{o:Nat}{a b c:Int}(h1:gs[o+7]?=some (.int .i64 a))(h2:gs[o+8]?=some (.int .i64 b))(h3:gs[o+9]?=some (.int .i64 c)):Rec gs gs o a b c:=⟨rfl,h1,h2,h3,fun _ _ _ _=>rfl⟩
theorem Rec.tab{gs gs':List Value}{o:Nat}{a b c:Int}(h:Rec gs gs' o a b c){j:Nat}(hj:j<=6):gs'[o+j]?=gs[o+j]?:=h.rest _ (by omega) (by omega) (by omega)
theorem dA.only{G:Nat->Prop}{w w':World}{v:Value}{l:List CM.aG}(h:dA w v l)(ho:Only G w w')(hn:∀a d n c,v=.slice (some ⟨a,d,none⟩) n c->¬G a):dA w' v l:=by
 obtain⟨a,c,rfl,h⟩:=h
 refine⟨a,c,rfl,?_⟩
 rcases h with h|⟨b,rfl,hb,h⟩
 ·exact .inl h
 ·have hnb:=hn b 0 _ _ rfl
  refine .inr ⟨b,rfl,Nat.lt_of_lt_of_le hb ho.size,fun i hi=>?_⟩
  obtain⟨h1,h2,h3⟩:=h i hi
  exact⟨ho.cell h1 hb hnb,ho.cell h2 hb hnb,ho.cell h3 hb hnb⟩
theorem uj.only{G:Nat->Prop}{w w':World}{gs gs':List Value}{o:Nat}{t0 t1 t2:RD.Tab}(h:uj w gs o t0 t1 t2)(ho:Only G w w')(hn:∀a,rJ w gs o a->¬G a)(hg:∀j,1<=j->j<=6->gs'[o+j]?=gs[o+j]?):uj w' gs' o t0 t1 t2:=by
 obtain⟨v0,v1,v2,g1,g2,g3,g4,g5,g6,T0,T1,T2⟩:=h.ex
 refine⟨v0,v1,v2,by rw[hg 1 (by omega) (by omega)];exact g1,by rw[hg 2 (by omega) (by omega)];exact g2,by rw[hg 3 (by omega) (by omega)];exact g3,by rw[hg 4 (by omega) (by omega)];exact g4,by rw[hg 5 (by omega) (by omega)];exact g5,by rw[hg 6 (by omega) (by omega)];exact g6,?_,?_,?_⟩
 ·exact T0.only ho (fun a d n c e=>hn a ⟨d,n,c,.inl (by rw[g2,e])⟩)
 ·exact T1.only ho (fun a d n c e=>hn a ⟨d,n,c,.inr (.inl (by rw[g4,e]))⟩)
 ·exact T2.only ho (fun a d n c e=>hn a ⟨d,n,c,.inr (.inr (by rw[g6,e]))⟩)
theorem Zt{w w':World}{gs gs':List Value}{o a:Nat}(hg:∀j,1<=j->j<=6->gs'[o+j]?=gs[o+j]?)(h:rJ w' gs' o a):rJ w gs o a:=by
 obtain⟨d,n,c,h⟩:=h
 rw[hg 2 (by omega) (by omega),hg 4 (by omega) (by omega),hg 6 (by omega) (by omega)]at h
 exact⟨d,n,c,h⟩
theorem Zu{G:Nat->Prop}{B:Nat}{a w w':World}(h:Only G a w)(hb:Below B w w')(hB:a.heap.size<=B):Only G a w' :=
 ⟨hb.os.trans h.os,hb.tape.trans h.tape,hb.output.trans h.output,Nat.le_trans h.size hb.size,fun k hk hn=>(hb.block k (by omega)).trans (h.block k hk hn)⟩
theorem OO{l:List Int}{t0 t1 t2:RD.Tab}{last:List Int}{k:Nat}(h:fM l t0 t1 t2 last k=none):∀j,fM l t0 t1 t2 last (k+j)=none
 | 0=>h
 | j+1=>by
  show fM l t0 t1 t2 last (k+j+1)=none
  unfold fM
  rw[OO h j]
theorem Zv{l:List Int}{t0 t1 t2:RD.Tab}{last:List Int}{k n:Nat}{L:List RD.S3}{h:RD.Ph}(hk:k<n)(hp:fM l t0 t1 t2 last k=some (L,h))(ho:(aO l h).s.off=0):kN l t0 t1 t2 last (n-1)=none:=by
 by_cases e:k=n-1
 ·unfold kN
  rw[<- e,hp]
  simp only[if_pos ho]
 ·have h1:fM l t0 t1 t2 last (k+1)=none:=by
   unfold fM
   rw[hp]
   simp only[if_pos ho]
  have h2:=OO h1 (n-1-(k+1))
  rw[show k+1+(n-1-(k+1))=n-1 by omega]at h2
  unfold kN
  rw[h2]
theorem Zw{l:List Int}{t0 t1 t2:RD.Tab}{last:List Int}{k:Nat}{L:List RD.S3}{h:RD.Ph}(hp:fM l t0 t1 t2 last k=some (L,h))(ho:(aO l h).s.off≠0):fM l t0 t1 t2 last (k+1)=some (L++[(aO l h).s],jM l t0 t1 t2 h (aO l h)):=by
 rw[fM,hp]
 simp only[if_neg ho]
theorem Zx{l:List Int}{t0 t1 t2:RD.Tab}{last:List Int}{k:Nat}{L:List RD.S3}{h:RD.Ph}(hp:fM l t0 t1 t2 last k=some (L,h))(ho:(aO l h).s.off≠0):kN l t0 t1 t2 last k=some (L++[(aO l h).s],(aO l h).pos,(aO l h).last):=by
 rw[kN,hp]
 simp only[if_neg ho]
def Zy(x:Fx)(g o p n:Nat)(t:TypeId)(gs:List Value)(t0 t1 t2:RD.Tab)(last:List Int)(s:aj)(w:World)(e:Ending)(w':World):Prop :=
 Only (fun b=>b=p\/b=g) w w'/\((kN (ay s) t0 t1 t2 last (n-1)=none/\e=.returned (.tuple #[.slice none 0 0,aW x.f])/\∃gs' a b c,aB w' g t gs'/\Rec gs gs' o a b c) \/
  ∃L pos a b c v gs',kN (ay s) t0 t1 t2 last (n-1)=some (L,pos,[a,b,c])/\e=.returned (.tuple #[v,.nilIface])/\L.length=n/\pos<=20000/\(∀q∈L,qo q)/\dG [a,b,c]/\w'.ownsRow w.heap.size 264 3 v n (fB L)/\aY w' p s pos/\aB w' g t gs'/\Rec gs gs' o a b c)
theorem Zz(x:Fx)(g o p n:Nat)(t:TypeId)(gs:List Value)(t0 t1 t2:RD.Tab)(r0 r1 r2:Int)(s:aj)(w:World)(hG:aB w g t gs)(hT:uj w gs o t0 t1 t2)(f0:cZ t0)(f1:cZ t1)(f2:cZ t2)(h:aY w p s 0)(hs:s.length<=1048576)(hn:1<=n/\n<=255)
  (hr0:gs[o+7]?=some (.int .i64 r0)) (hr1:gs[o+8]?=some (.int .i64 r1)) (hr2:gs[o+9]?=some (.int .i64 r2)) (hla:dG [r0,r1,r2])
  (hp0:∀a,rJ w gs o a->¬(a=p\/a=g)) (bH:g≠p) (hV:bI x w) (hpb:x.base<=p) (hgb:x.base<=g) :
  Calls prog 139 #[.pointer (some ⟨g,o,none⟩),.int .i64 n,.pointer (some ⟨p,0,none⟩)] w (Zy x g o p n t gs t0 t1 t2 [r0,r1,r2] s w):=by
 obtain⟨i0,hi0,hz0,hz1,hz2⟩:=info_parts Zr
 have hbb:=kM s
 have hgl:=hG.lt
 have hpl:=aB.lt h
 have IE:fM (ay s) t0 t1 t2 [r0,r1,r2] 0=some ([],vF (ay s) t0 t1 t2 [r0,r1,r2]):=rfl
 go_enter func139,ntmps139
 go_wp2_with fail
 refine(Y5 g o p t gs t0 t1 t2 s _ hG hT f0 f1 f2 h hs (fun a ha e=>hp0 a ha (.inl e))).mono ?_
 rintro e w1 ⟨rfl,hb1,ho1⟩
 have hpf:Hid (vF (ay s) t0 t1 t2 [r0,r1,r2]=⟨t0.log+t1.log+t2.log,aS t0.l (RD.pk (ay s) 0 t0.log),aS t1.l (RD.pk (ay s) t0.log t1.log),aS t2.l (RD.pk (ay s) (t0.log+t1.log) t2.log),[r0,r1,r2]⟩):=rfl
 generalize aS t0.l (RD.pk (ay s) 0 t0.log)=y0 at *
 generalize aS t1.l (RD.pk (ay s) t0.log t1.log)=y1 at *
 generalize aS t2.l (RD.pk (ay s) (t0.log+t1.log) t2.log)=y2 at *
 rw[hpf.out]at IE
 unfold gU
 go_wp2_with fail
 have hba:=(Below.refl w1.heap.size w1).alloc (Nat.le_refl _) (.cells #[.int .i64 y0.1,.int .i64 y0.2.1,.int .i64 y0.2.2,.int .i64 y1.1,.int .i64 y1.2.1,.int .i64 y1.2.2,.int .i64 y2.1,.int .i64 y2.2.1,.int .i64 y2.2.2] 275)
 have hN1:aB (w1.alloc (.cells #[.int .i64 y0.1,.int .i64 y0.2.1,.int .i64 y0.2.2,.int .i64 y1.1,.int .i64 y1.2.1,.int .i64 y1.2.2,.int .i64 y2.1,.int .i64 y2.2.1,.int .i64 y2.2.2] 275)) w1.heap.size 275 (gU y0 y1 y2):=aB.new _ _ _
 generalize w1.alloc (.cells #[.int .i64 y0.1,.int .i64 y0.2.1,.int .i64 y0.2.2,.int .i64 y1.1,.int .i64 y1.2.1,.int .i64 y1.2.2,.int .i64 y2.1,.int .i64 y2.2.1,.int .i64 y2.2.2] 275)=w2 at *
 have hb2:aY w2 p s (t0.log+t1.log+t2.log):=aB.below hb1 hba (aB.lt hb1)
 have hO2:Only (fun b=>b=p\/b=g) w w2:=(ho1.weaken (fun _ _ e=>.inl e)).below hba
 have hG2:aB w2 g t gs:=(hG.only ho1 bH).below hba (by have:=ho1.size;omega)
 have hNl:=hN1.lt
 have hsz1:=ho1.size
 obtain⟨N,hNe⟩:∃N,N=w1.heap.size:=⟨_,rfl⟩
 rw[<- hNe]at hN1 hNl hsz1
 rw[<- hNe]
 replace hNe:=aA hNe
 clear hba hpf
 have hinit:∃hd:RD.Ph,fM (ay s) t0 t1 t2 [r0,r1,r2] 0=some ([],hd)/\aY w2 p s hd.pos/\aB w2 N 275 (gU hd.x0 hd.x1 hd.x2)/\hd.last=[r0,r1,r2]:=⟨_,IE,hb2,hN1,rfl⟩
 clear IE hb2 hN1
 go_loopg[8] n (fun gh v wr=>∃(k:Nat)(L:List RD.S3)(hd:RD.Ph)(a b c:Int)(gs':List Value),gh=n-k/\k<n/\fM (ay s) t0 t1 t2 [r0,r1,r2] k=some (L,hd)/\hd.last=[a,b,c] /\
   aY wr p s hd.pos/\aB wr N 275 (gU hd.x0 hd.x1 hd.x2)/\aB wr g t gs'/\Rec gs gs' o a b c/\wr.ownsRow (N+1) 264 3 v k (fB L)/\Only (fun b=>b=p\/b=g) w wr)
 case atStart =>
  obtain⟨hd,q1,q2,q3,q4⟩:=hinit
  exact⟨0,[],hd,r0,r1,r2,gs,rfl,by omega,q1,q4,q2,q3,hG2,Rec.refl hr0 hr1 hr2,World.ownsRow_nil _ _ _ _,hO2⟩
 case round =>
  obtain⟨k,L,hd,a,b,c,gs',rfl,hk,xW,hlast,hbi,hN,ZA,jC,hown,hO⟩:=hrel
  obtain⟨hok,iU,hpos,hall⟩:=Ar hbb f0 f1 f2 hla k xW
  have hok0:=hok
  obtain⟨hx0,hx1,hx2,hlk⟩:=hok0
  obtain⟨A0,B0,C0,e0,hA0,hB0,hC0⟩:=oK.nat (t:=t0) hx0
  obtain⟨A1,B1,C1,e1,hA1,hB1,oL⟩:=oK.nat (t:=t1) hx1
  obtain⟨A2,B2,C2,e2,hA2,hB2,hC2⟩:=oK.nat (t:=t2) hx2
  obtain⟨hpos0,hd0,hd1,hd2,hdl⟩:=hd
  simp only[]at e0 e1 e2 hlast hbi hN hpos hlk
  subst e0 e1 e2 hlast
  have hNlt:=hN.lt
  have ZB:=hV.only hO (fun k e=>by omega)
  have ha:1<=a/\a<=65536:=by
   obtain⟨x',y',z',e,q1,q2,q3⟩:=hlk
   injection e with e _
   omega
  have eu:N≠p:=by omega
  have rM:N≠g:=by omega
  have m0:=hN.cell (j:=0) rfl
  have m1:=hN.cell (j:=1) rfl
  have m2:=hN.cell (j:=2) rfl
  have m3:=hN.cell (j:=3) rfl
  have m4:=hN.cell (j:=4) rfl
  have m5:=hN.cell (j:=5) rfl
  have m6:=hN.cell (j:=6) rfl
  have m7:=hN.cell (j:=7) rfl
  have m8:=hN.cell (j:=8) rfl
  simp only[]at m0 m1 m2 m3 m4 m5 m6 m7 m8
  replace hown:=aA hown
  replace xW:=aA xW
  replace hC0:=aA hC0
  replace oL:=aA oL
  replace hC2:=aA hC2
  go_wp2_with fail
  refine(Zi x g o p t gs' A0 B0 C0 A1 B1 C1 A2 B2 C2 hpos0 a b c s _ ZA jC.a jC.b jC.c hA0 hA1 hA2 ha hbi ZB hs (by omega) bH hpb hgb).mono ?_
  rintro e w3 ⟨ho3,⟨hoff,rfl,ae,be,ce,rO⟩|⟨hoff,rfl,hb3,a',b',c',OQ,hG3⟩⟩
  ·have ZC:Hid (Only (fun b=>b=p\/b=g) w w3):=hO.trans ho3
   go_wp2_with fail
   go_ret2
   refine⟨ZC.out.alloc _,.inl ⟨?_,rfl,_,ae,be,ce,rO.alloc _,jC.trans (Rec.sets jC.c ae be ce)⟩⟩
   exact Zv hk xW.out hoff
  ·obtain⟨hpp,hs3⟩:=IB hbb hok
   obtain⟨hs3,hl3⟩:=hs3 hoff
   have OT:=aA (Zw xW.out hoff)
   have hpl':=aA (Zx xW.out hoff)
   obtain⟨hnx,hnp⟩:=OI hbb f0 f1 f2 hok hl3
   rw[OQ]at hl3 hpl'
   have hown3:=lZ hown.out ho3 (fun j hj e=>by omega)
   have hN3:=hN.only ho3 (by omega)
   have hO3:Only (fun b=>b=p\/b=g) w w3:=hO.trans ho3
   have xX:=jC.trans (Rec.sets jC.c a' b' c')
   have hsz3:=ho3.size
   generalize((gs'.set (o+7) (.int .i64 a')).set (o+8) (.int .i64 b')).set (o+9) (.int .i64 c')=gs3 at *
   generalize hpe:aO (ay s) ⟨hpos0,((A0:Int),(B0:Int),(C0:Int)),((A1:Int),(B1:Int),(C1:Int)),((A2:Int),(B2:Int),(C2:Int)),[a,b,c]⟩=P1 at *
   replace hpe:=aA hpe
   obtain⟨q1,q2,q3,q4,q5,q6⟩:=hs3
   have ZE:Hid (qo P1.s):=⟨q1,q2,q3,q4,q5,q6⟩
   have hbd:Below w3.heap.size w3 (w3.alloc (.cells #[.int .i64 P1.s.len,.int .i64 P1.s.off,.int .i64 P1.s.jL] 264)):=(Below.refl _ w3).alloc (Nat.le_refl _) _
   replace hO3:=aA hO3
   replace xX:=aA xX
   have hkn:(k:Int)+1=(n:Int)\/¬((k:Int)+1=(n:Int)):=by omega
   go_wp2_with(at_builtin;refine wpList_append_own _ rfl _ _ 239 rfl (N+1) 264 i0 _ 3 24 underlying239 hi0 hz0 hz1 hz2 rfl (by decide) _ _ _ rfl (World.ownsRow.alloc (World.ownsRow.alloc hown3 _) _) ⟨w3.heap.size+1,0,none⟩ 1 1 [.int .i64 P1.s.len,.int .i64 P1.s.off,.int .i64 P1.s.jL] rfl rfl (by have:=CZ (w3.alloc (.cells #[.int .i64 P1.s.len,.int .i64 P1.s.off,.int .i64 P1.s.jL] 264)) 264 (.int .i64 P1.s.len) (.int .i64 P1.s.off) (.int .i64 P1.s.jL);simpa using this) (C9 _ _ _) (by unfold maxLen;omega) (by omega) (by simp;omega) ?_)
   intro v' w5 hown5 hgrow _
   have D9:Below (N+1) w3 w5:=(((Below.refl (N+1) w3).alloc (by omega) (.cells #[.int .i64 P1.s.len,.int .i64 P1.s.off,.int .i64 P1.s.jL] 264)).alloc (by simp;omega) (.cells #[.int .i64 P1.s.len,.int .i64 P1.s.off,.int .i64 P1.s.jL] 264)).grown hgrow (by simp;omega) (fun j hj=>(World.ownsRow.lt hown3 j hj).1)
   have mD:=hN3.below D9 (by omega)
   have hb5:aY w5 p s P1.pos:=aB.below hb3 D9 (by omega)
   have oN:=hG3.below D9 (by omega)
   have dB:Only (fun b=>b=p\/b=g) w w5:=Zu hO3.out D9 (by omega)
   have hcells:Hid (fB L++[.int .i64 P1.s.len,.int .i64 P1.s.off,.int .i64 P1.s.jL]=fB (L++[P1.s])):=(Zp L P1.s).symm
   rw[hcells.out]at hown5
   obtain⟨g5,c5,aic,rfl,hg5,-,-,-,-⟩:=mY hown5 (by omega)
   replace hown5:=aA hown5
   clear hgrow hown3 hbd hcells
   have m0:=mD.cell (j:=0) rfl
   have m1:=mD.cell (j:=1) rfl
   have m2:=mD.cell (j:=2) rfl
   have m3:=mD.cell (j:=3) rfl
   have m4:=mD.cell (j:=4) rfl
   have m5:=mD.cell (j:=5) rfl
   have m6:=mD.cell (j:=6) rfl
   have m7:=mD.cell (j:=7) rfl
   have m8:=mD.cell (j:=8) rfl
   simp only[]at m0 m1 m2 m3 m4 m5 m6 m7 m8
   have hallL:Hid (∀q∈L++[P1.s],qo q):=by
    intro q hq
    rcases List.mem_append.1 hq with hq|hq
    ·exact hall q hq
    ·rw[List.mem_singleton.1 hq];exact ZE.out
   by_cases hend:k+1=n
   ·have hend':((k:Int)+1==(n:Int))=true:=by simp;omega
    have ZF:(((k+1:Nat):Int)==(n:Int))=true:=by simp;omega
    have xY:=aA dB
    go_wp2_with fail
    go_ret2
    refine⟨xY.out,.inr ⟨L++[P1.s],P1.pos,a',b',c',_,gs3,?_,rfl,by simp;omega,by omega,hallL.out,hl3,?_,hb5,oN,xX.out⟩⟩
    ·rw[<- hend,Nat.add_sub_cancel]
     exact hpl'.out
    ·have:=ownsRow_base hown5.out (show w.heap.size<=N+1 by omega)
     show w5.ownsRow w.heap.size _ 3 (.slice (some ⟨g5,0,none⟩) (k+1) c5) n (fB (L++[P1.s]))
     rw[<- hend]
     exact this
   ·have hend':((k:Int)+1==(n:Int))=false:=by simp;omega
    have ZF:(((k+1:Nat):Int)==(n:Int))=false:=by simp;omega
    have kW:uj w5 gs3 o t0 t1 t2:=hT.only dB hp0 (fun j h1 h2=>xX.out.tab h2)
    have xY:=aA dB
    have hx5:∀y,rJ w5 gs3 o y->y≠p:=fun y hy e=>hp0 y (Zt (fun j h1 h2=>xX.out.tab h2) hy) (.inl e)
    have st0:oK t0 ((A0:Int),(B0:Int),(C0:Int)):=hok.x0
    have st1:oK t1 ((A1:Int),(B1:Int),(C1:Int)):=hok.x1
    have st2:oK t2 ((A2:Int),(B2:Int),(C2:Int)):=hok.x2
    have fzN:=mD.free
    replace mD:=aA mD
    have hnp':Hid (P1.pos<=1099511627):=by rw[Hid];omega
    go_wp2_with fail
    refine(Zh g o p P1.pos t gs3 t0 t1 t2 ((A0:Int),(B0:Int),(C0:Int)) ((A1:Int),(B1:Int),(C1:Int)) ((A2:Int),(B2:Int),(C2:Int)) s _ oN kW f0 f1 f2 st0 st1 st2 hb5 hs hnp'.out hx5 bH).mono ?_
    rintro e w6 ⟨rfl,hb6,D_⟩
    simp only[Int.toNat_natCast]at hb6⊢
    have hpn:jM (ay s) t0 t1 t2 ⟨hpos0,((A0:Int),(B0:Int),(C0:Int)),((A1:Int),(B1:Int),(C1:Int)),((A2:Int),(B2:Int),(C2:Int)),[a,b,c]⟩ P1 =
      ⟨P1.pos+B0+B2+B1,aS t0.l ((C0:Int)+RD.pk (ay s) P1.pos B0),aS t1.l ((C1:Int)+RD.pk (ay s) (P1.pos+B0+B2) B1),aS t2.l ((C2:Int)+RD.pk (ay s) (P1.pos+B0) B2),[a',b',c']⟩:=by
     rw[<- OQ]
     rfl
    rw[hpn]at OT
    generalize aS t0.l ((C0:Int)+RD.pk (ay s) P1.pos B0)=z0 at *
    generalize aS t1.l ((C1:Int)+RD.pk (ay s) (P1.pos+B0+B2) B1)=z1 at *
    generalize aS t2.l ((C2:Int)+RD.pk (ay s) (P1.pos+B0) B2)=z2 at *
    clear hpn
    have oO:=mD.out.only D_ eu
    have ZG:=oN.only D_ bH
    have bT:Only (fun b=>b=p\/b=g) w w6:=xY.out.trans (D_.weaken (fun _ _ e=>.inl e))
    have hown6:=lZ hown5.out D_ (fun j hj e=>by omega)
    have hno:N<w.heap.size->N=p\/N=g:=fun e=>absurd e (by omega)
    have hnb:∀j,N+1<=j->¬j=N:=fun j hj e=>by omega
    have k0:=oO.cell (j:=0) rfl
    have k1:=oO.cell (j:=1) rfl
    have k2:=oO.cell (j:=2) rfl
    have k3:=oO.cell (j:=3) rfl
    have k4:=oO.cell (j:=4) rfl
    have k5:=oO.cell (j:=5) rfl
    have k6:=oO.cell (j:=6) rfl
    have k7:=oO.cell (j:=7) rfl
    have k8:=oO.cell (j:=8) rfl
    have fz6:=oO.free
    have gN:Hid (aB (((((((((w6.setCell ⟨N,0,none⟩ (.int .i64 z0.1)).setCell ⟨N,1,none⟩ (.int .i64 z0.2.1)).setCell ⟨N,2,none⟩ (.int .i64 z0.2.2)).setCell ⟨N,3,none⟩ (.int .i64 z1.1)).setCell ⟨N,4,none⟩ (.int .i64 z1.2.1)).setCell ⟨N,5,none⟩ (.int .i64 z1.2.2)).setCell ⟨N,6,none⟩ (.int .i64 z2.1)).setCell ⟨N,7,none⟩ (.int .i64 z2.2.1)).setCell ⟨N,8,none⟩ (.int .i64 z2.2.2)) N 275 (gU z0 z1 z2)):=(((((((((oO.put 0 (.int .i64 z0.1)).put 1 (.int .i64 z0.2.1)).put 2 (.int .i64 z0.2.2)).put 3 (.int .i64 z1.1)).put 4 (.int .i64 z1.2.1)).put 5 (.int .i64 z1.2.2)).put 6 (.int .i64 z2.1)).put 7 (.int .i64 z2.2.1)).put 8 (.int .i64 z2.2.2))
    have gb:Hid (aY (((((((((w6.setCell ⟨N,0,none⟩ (.int .i64 z0.1)).setCell ⟨N,1,none⟩ (.int .i64 z0.2.1)).setCell ⟨N,2,none⟩ (.int .i64 z0.2.2)).setCell ⟨N,3,none⟩ (.int .i64 z1.1)).setCell ⟨N,4,none⟩ (.int .i64 z1.2.1)).setCell ⟨N,5,none⟩ (.int .i64 z1.2.2)).setCell ⟨N,6,none⟩ (.int .i64 z2.1)).setCell ⟨N,7,none⟩ (.int .i64 z2.2.1)).setCell ⟨N,8,none⟩ (.int .i64 z2.2.2)) p s (P1.pos+B0+B2+B1)):=(aB.other (aB.other (aB.other (aB.other (aB.other (aB.other (aB.other (aB.other (aB.other hb6 ⟨N,0,none⟩ (.int .i64 z0.1) (fun e=>eu e.symm)) ⟨N,1,none⟩ (.int .i64 z0.2.1) (fun e=>eu e.symm)) ⟨N,2,none⟩ (.int .i64 z0.2.2) (fun e=>eu e.symm)) ⟨N,3,none⟩ (.int .i64 z1.1) (fun e=>eu e.symm)) ⟨N,4,none⟩ (.int .i64 z1.2.1) (fun e=>eu e.symm)) ⟨N,5,none⟩ (.int .i64 z1.2.2) (fun e=>eu e.symm)) ⟨N,6,none⟩ (.int .i64 z2.1) (fun e=>eu e.symm)) ⟨N,7,none⟩ (.int .i64 z2.2.1) (fun e=>eu e.symm)) ⟨N,8,none⟩ (.int .i64 z2.2.2) (fun e=>eu e.symm))
    have gg:Hid (aB (((((((((w6.setCell ⟨N,0,none⟩ (.int .i64 z0.1)).setCell ⟨N,1,none⟩ (.int .i64 z0.2.1)).setCell ⟨N,2,none⟩ (.int .i64 z0.2.2)).setCell ⟨N,3,none⟩ (.int .i64 z1.1)).setCell ⟨N,4,none⟩ (.int .i64 z1.2.1)).setCell ⟨N,5,none⟩ (.int .i64 z1.2.2)).setCell ⟨N,6,none⟩ (.int .i64 z2.1)).setCell ⟨N,7,none⟩ (.int .i64 z2.2.1)).setCell ⟨N,8,none⟩ (.int .i64 z2.2.2)) g t gs3):=(aB.other (aB.other (aB.other (aB.other (aB.other (aB.other (aB.other (aB.other (aB.other ZG ⟨N,0,none⟩ (.int .i64 z0.1) (fun e=>rM e.symm)) ⟨N,1,none⟩ (.int .i64 z0.2.1) (fun e=>rM e.symm)) ⟨N,2,none⟩ (.int .i64 z0.2.2) (fun e=>rM e.symm)) ⟨N,3,none⟩ (.int .i64 z1.1) (fun e=>rM e.symm)) ⟨N,4,none⟩ (.int .i64 z1.2.1) (fun e=>rM e.symm)) ⟨N,5,none⟩ (.int .i64 z1.2.2) (fun e=>rM e.symm)) ⟨N,6,none⟩ (.int .i64 z2.1) (fun e=>rM e.symm)) ⟨N,7,none⟩ (.int .i64 z2.2.1) (fun e=>rM e.symm)) ⟨N,8,none⟩ (.int .i64 z2.2.2) (fun e=>rM e.symm))
    have gO:Hid (Only (fun b=>b=p\/b=g) w (((((((((w6.setCell ⟨N,0,none⟩ (.int .i64 z0.1)).setCell ⟨N,1,none⟩ (.int .i64 z0.2.1)).setCell ⟨N,2,none⟩ (.int .i64 z0.2.2)).setCell ⟨N,3,none⟩ (.int .i64 z1.1)).setCell ⟨N,4,none⟩ (.int .i64 z1.2.1)).setCell ⟨N,5,none⟩ (.int .i64 z1.2.2)).setCell ⟨N,6,none⟩ (.int .i64 z2.1)).setCell ⟨N,7,none⟩ (.int .i64 z2.2.1)).setCell ⟨N,8,none⟩ (.int .i64 z2.2.2))):=(((((((((bT.setCell ⟨N,0,none⟩ (.int .i64 z0.1) hno).setCell ⟨N,1,none⟩ (.int .i64 z0.2.1) hno).setCell ⟨N,2,none⟩ (.int .i64 z0.2.2) hno).setCell ⟨N,3,none⟩ (.int .i64 z1.1) hno).setCell ⟨N,4,none⟩ (.int .i64 z1.2.1) hno).setCell ⟨N,5,none⟩ (.int .i64 z1.2.2) hno).setCell ⟨N,6,none⟩ (.int .i64 z2.1) hno).setCell ⟨N,7,none⟩ (.int .i64 z2.2.1) hno).setCell ⟨N,8,none⟩ (.int .i64 z2.2.2) hno)
    have gw:Hid ((((((((((w6.setCell ⟨N,0,none⟩ (.int .i64 z0.1)).setCell ⟨N,1,none⟩ (.int .i64 z0.2.1)).setCell ⟨N,2,none⟩ (.int .i64 z0.2.2)).setCell ⟨N,3,none⟩ (.int .i64 z1.1)).setCell ⟨N,4,none⟩ (.int .i64 z1.2.1)).setCell ⟨N,5,none⟩ (.int .i64 z1.2.2)).setCell ⟨N,6,none⟩ (.int .i64 z2.1)).setCell ⟨N,7,none⟩ (.int .i64 z2.2.1)).setCell ⟨N,8,none⟩ (.int .i64 z2.2.2)).ownsRow (N+1) 264 3 (.slice (some ⟨g5,0,none⟩) (k+1) c5) (k+1) (fB (L++[P1.s]))):=(lZ (lZ (lZ (lZ (lZ (lZ (lZ (lZ (lZ hown6 ((Only.refl (·=N) _).setCell ⟨N,0,none⟩ (.int .i64 z0.1) (fun _=>rfl)) hnb) ((Only.refl (·=N) _).setCell ⟨N,1,none⟩ (.int .i64 z0.2.1) (fun _=>rfl)) hnb) ((Only.refl (·=N) _).setCell ⟨N,2,none⟩ (.int .i64 z0.2.2) (fun _=>rfl)) hnb) ((Only.refl (·=N) _).setCell ⟨N,3,none⟩ (.int .i64 z1.1) (fun _=>rfl)) hnb) ((Only.refl (·=N) _).setCell ⟨N,4,none⟩ (.int .i64 z1.2.1) (fun _=>rfl)) hnb) ((Only.refl (·=N) _).setCell ⟨N,5,none⟩ (.int .i64 z1.2.2) (fun _=>rfl)) hnb) ((Only.refl (·=N) _).setCell ⟨N,6,none⟩ (.int .i64 z2.1) (fun _=>rfl)) hnb) ((Only.refl (·=N) _).setCell ⟨N,7,none⟩ (.int .i64 z2.2.1) (fun _=>rfl)) hnb) ((Only.refl (·=N) _).setCell ⟨N,8,none⟩ (.int .i64 z2.2.2) (fun _=>rfl)) hnb)
    unfold gU
    go_wp2_with fail
    go_roundg(n-(k+1))
    case rel=>exact⟨k+1,L++[P1.s],_,a',b',c',gs3,rfl,by omega,OT.out,rfl,gb.out,gN.out,gg.out,xX.out,gw.out,gO.out⟩
    case measure=>omega
end Go.Proofs.YtbhemchnjpajiaaGreatDoor
namespace Go.Proofs.YtbhemchnjpajiaaGreatDoor
open Go
namespace TM
def dN(z:List Int)(m:Nat):List Int:=z++List.replicate m 0
theorem Aw(z:List Int)(m:Nat):(dN z m).length=z.length+m:=by simp[dN]
theorem Ea(z:List Int)(m k:Nat):(dN z m).getD k 0=z.getD k 0:=by
 unfold dN
 rw[List.getD_eq_getElem?_getD,List.getD_eq_getElem?_getD]
 by_cases h:k<z.length
 ·rw[List.getElem?_append_left h]
 ·rw[List.getElem?_append_right (by omega),List.getElem?_eq_none (l:=z) (by omega),List.getElem?_replicate]
  split<;>rfl
theorem ZH(z:List Int)(m k:Nat):sum (dN z m) k=sum z k:=by
 induction k with
 | zero=>rfl
 | succ k ih=>simp only[sum,ih,Ea]
theorem ZI(z:List Int)(m S k:Nat):tb (dN z m) S k=tb z S k:=by
 induction k with
 | zero=>rfl
 | succ k ih=>simp only[tb,ih,Ea]
theorem ZJ(z:List Int)(m k:Nat):base (dN z m) k=base z k:=by
 induction k with
 | zero=>rfl
 | succ k ih=>simp only[base,ih,Ea]
theorem ZK(z:List Int)(m j k:Nat):item (dN z m) j k=item z j k:=by
 induction k with
 | zero=>rfl
 | succ k ih=>simp only[item,ih,ZJ]
theorem IG(z:List Int)(k:Nat)(h:z.length<=k):z.getD k 0=0:=by
 rw[List.getD_eq_getElem?_getD,List.getElem?_eq_none h]
 rfl
theorem ZL(z:List Int)(m:Nat):sum z (z.length+m)=sum z z.length:=by
 induction m with
 | zero=>rfl
 | succ m ih =>
  show sum z (z.length+m)+pl (z.getD (z.length+m) 0)=_
  rw[ih,IG z _ (by omega)]
  simp[pl]
theorem ZM(z:List Int)(S m:Nat):tb z S (z.length+m)=tb z S z.length:=by
 induction m with
 | zero=>rfl
 | succ m ih =>
  show(if z.getD (z.length+m) 0=-1 then _ else tb z S (z.length+m))=_
  rw[IG z _ (by omega),if_neg (by decide),ih]
theorem ZN(z:List Int)(m:Nat):base z (z.length+m)=base z z.length:=by
 induction m with
 | zero=>rfl
 | succ m ih =>
  show base z (z.length+m)+(z.getD (z.length+m) 0).toNat=_
  rw[ih,IG z _ (by omega)]
  rfl
theorem ZO(z:List Int)(j m:Nat)(h:j<base z z.length):item z j (z.length+m)=item z j z.length:=by
 induction m with
 | zero=>rfl
 | succ m ih =>
  have e:=ZN z (m+1)
  show item z j (z.length+m)+(if base z (z.length+m+1)<=j then 1 else 0)=_
  rw[show z.length+m+1=z.length+(m+1) by omega,e,if_neg (by omega),ih]
  rfl
theorem ZP(z:List Int)(m:Nat)(S:Int)(hS:0<=S):dW (dN z m) S=dW z S:=by
 unfold dW dN
 rw[List.all_append]
 have:(List.replicate m (0:Int)).all (fun x=>decide (-1<=x)&&decide (x<=S))=true:=by
  rw[List.all_eq_true]
  intro x hx
  rw[(List.mem_replicate.1 hx).2]
  simp[hS]
 rw[this,Bool.and_true]
theorem OU(z:List Int)(m:Nat)(S:Int)(hS:0<=S)(h1:1<=z.length)(h2:z.length+m<=16):dZ (dN z m) S=dZ z S:=by
 unfold dZ
 rw[Aw,ZP z m S hS,ZH,ZL]
 have a:decide (1<=z.length+m)=decide (1<=z.length):=by rw[decide_eq_true (by omega),decide_eq_true h1]
 have b:decide (z.length+m<=16)=decide (z.length<=16):=by rw[decide_eq_true h2,decide_eq_true (by omega)]
 rw[a,b]
theorem ZQ(z:List Int)(m S:Nat)(hS:Size S)(h:Fits z S)(hs:sum z z.length=S)(p:Nat)(hp:p<S):F (dN z m) S (z.length+m) p=F z S z.length p:=by
 have hS1:1<=S:=by rcases hS with rfl|rfl<;>omega
 have hfr:=og z S h hS1 z.length (by omega)
 have hfb:=vg z S z.length hS1 h hs
 unfold F fK
 rw[ZI,ZM]
 by_cases e:(tb z S z.length).2<=p
 ·rw[if_pos e,if_pos e]
 ·rw[if_neg e,if_neg e,if_pos (tN hS p),if_pos (tN hS p),ZK,ZO]
  have hc:=zq hS hfr.2 p hp (by omega)
  omega
end TM
theorem OV(lg:Int)(z:List Int)(m:Nat)(h1:1<=z.length)(h2:z.length+m<=16):dI lg (TM.dN z m)=dI lg z:=by
 unfold dI
 rw[TM.OU z m 32 (by omega) h1 h2,TM.OU z m 64 (by omega) h1 h2]
theorem Eb{lg:Int}{z:List Int}(h:dI lg z=true):∃n:Nat,lg=(n:Int)/\(n=5\/n=6)/\TM.dZ z (2^n:Nat)=true:=by
 unfold dI at h
 simp only[Bool.or_eq_true,Bool.and_eq_true,decide_eq_true_eq]at h
 rcases h with⟨rfl,h⟩|⟨rfl,h⟩
 ·exact⟨5,rfl,.inl rfl,h⟩
 ·exact⟨6,rfl,.inr rfl,h⟩
theorem OW{n:Nat}{z:List Int}(m:Nat)(hn:n=5\/n=6)(hf:TM.dZ z (2^n:Nat)=true):table n (TM.dN z m)=table n z:=by
 obtain⟨f1,f2,f3,f4⟩:=TM.CY hf
 have hS:TM.Size (2^n):=by rcases hn with rfl|rfl;exact .inl rfl;exact .inr rfl
 unfold table
 apply TM.tK
 intro p hp
 have hF:∀q,q<2^n->TM.F (TM.dN z m) (2^n) (TM.dN z m).length q=TM.F z (2^n) z.length q:=fun q hq=>by
  rw[TM.Aw]
  exact TM.ZQ z m (2^n) hS f1 f4 q hq
 have hc:∀v q,q<=2^n->TM.iG (TM.F (TM.dN z m) (2^n) (TM.dN z m).length) v q=TM.iG (TM.F z (2^n) z.length) v q:=by
  intro v q
  induction q with
  | zero=>intro _;rfl
  | succ q ih =>
   intro hq
   simp only[TM.iG,ih (by omega),hF q (by omega)]
 have hX:TM.X (TM.dN z m) (TM.F (TM.dN z m) (2^n) (TM.dN z m).length) p=TM.X z (TM.F z (2^n) z.length) p:=by
  unfold TM.X
  rw[hF p hp,hc _ p (by omega),TM.Ea]
 unfold TM.st
 rw[hF p hp,hX]
end Go.Proofs.YtbhemchnjpajiaaGreatDoor
