/- Several texts in one: RefCt. -/
import Derived.Test.YtbhemchnjpajiaaGreatDoorME
import Derived.Test.YtbhemchnjpajiaaGreatDoorJC
import Derived.Test.YtbhemchnjpajiaaGreatDoorJG
import Derived.Deep.DeepCutAuto
set_option linter.unusedVariables false
set_option maxRecDepth 100000
set_option maxHeartbeats 8000000
namespace Go.Proofs.YtbhemchnjpajiaaGreatDoor
open Go.RowKit Go.Proofs.Tryz RD
theorem RTabOk.fine{t:RD.Tab}(h:RTabOk t)(ht:t.there=true):cZ t:=⟨h.2.1 ht,h.1,h.2.2⟩
structure JK(w wr:World)(g p st:Nat)(a:Option Addr)(c:Nat)(l:List Int)(f:RD.Fr)(q:RD.Sq):Prop where
 bits:mP wr p a c l q.b
 state:aB wr st 135 [.int .i64 q.s0,.int .i64 q.s1,.int .i64 q.s2]
 fr:aJ wr g { f with last:=q.last }
 only:Only (·=g) w wr
 fp:Free wr g p
 fs:Free wr g st
theorem aJ.logs{w:World}{g:Nat}{f:RD.Fr}(h:aJ w g f):(∀j,w.frozen? ⟨g,j,none⟩=false)/\w.cell? ⟨g,7,none⟩=some (.int .i64 f.t0.log)/\w.cell? ⟨g,10,none⟩=some (.int .i64 f.t1.log)/\w.cell? ⟨g,13,none⟩=some (.int .i64 f.t2.log) /\
  w.cell? ⟨g,3,none⟩=some (.string (ah f.dict))/\w.cell? ⟨g,4,none⟩=some (.string (ah f.text))/\w.cell? ⟨g,0,none⟩=some (.int .i64 f.window):=by
 obtain⟨_,vc,v0,v1,v2,vl,hB,_⟩:=h
 exact⟨hB.free,hB.cell rfl,hB.cell rfl,hB.cell rfl,hB.cell rfl,hB.cell rfl,hB.cell rfl⟩
theorem cO.block{base:Nat}{w:World}{a:Option Addr}{n c:Nat}{z:List Int}(h:cO base w (.slice a n c) z):∀bl off,a=some ⟨bl,off,none⟩->base<=bl/\bl<w.heap.size:=by
 obtain⟨h1,h2⟩:=h
 intro bl off e
 subst e
 rcases h2 with⟨h3,h4⟩|⟨g,cap,cur,hv,hg,hh,_⟩
 ·cases h3
 ·cases hv
  exact⟨hg,lt_of_block hh⟩
theorem mP.away{G:Nat->Prop}{w w':World}{p:Nat}{a:Option Addr}{c:Nat}{l:List Int}{b:RD.B}(h:mP w p a c l b)(ho:Only G w w')(hp:¬G p)(hn:∀bl off,a=some ⟨bl,off,none⟩->¬G bl):mP w' p a c l b :=
 ⟨h.1.only ho hp,h.2.1.only ho hn,h.2.2⟩
theorem aJ.tables{w:World}{g:Nat}{f:RD.Fr}(h:aJ w g f)(S0 S1 S2:Nat)(h0:S0<f.t0.l.length)(h1:S1<f.t1.l.length)(h2:S2<f.t2.l.length):∃t0 t1 t2 c0 c1 c2,(t0<w.heap.size/\t1<w.heap.size/\t2<w.heap.size) /\
  w.cell? ⟨g,8,none⟩=some (.slice (some ⟨t0,0,none⟩) f.t0.l.length c0)/\w.cell? ⟨g,11,none⟩=some (.slice (some ⟨t1,0,none⟩) f.t1.l.length c1)/\w.cell? ⟨g,14,none⟩=some (.slice (some ⟨t2,0,none⟩) f.t2.l.length c2) /\
  (w.cell? ⟨t0,S0*3,none⟩=some (.int .i64 (aS f.t0.l (S0:Int)).1)/\w.cell? ⟨t0,S0*3+1,none⟩=some (.int .i64 (aS f.t0.l (S0:Int)).2.1)/\w.cell? ⟨t0,S0*3+2,none⟩=some (.int .i64 (aS f.t0.l (S0:Int)).2.2)) /\
  (w.cell? ⟨t1,S1*3,none⟩=some (.int .i64 (aS f.t1.l (S1:Int)).1)/\w.cell? ⟨t1,S1*3+1,none⟩=some (.int .i64 (aS f.t1.l (S1:Int)).2.1)/\w.cell? ⟨t1,S1*3+2,none⟩=some (.int .i64 (aS f.t1.l (S1:Int)).2.2)) /\
  (w.cell? ⟨t2,S2*3,none⟩=some (.int .i64 (aS f.t2.l (S2:Int)).1)/\w.cell? ⟨t2,S2*3+1,none⟩=some (.int .i64 (aS f.t2.l (S2:Int)).2.1)/\w.cell? ⟨t2,S2*3+2,none⟩=some (.int .i64 (aS f.t2.l (S2:Int)).2.2)):=by
 obtain⟨_,vc,v0,v1,v2,vl,hB,_,⟨⟨a0,c0,rfl,k0⟩,_⟩,⟨⟨a1,c1,rfl,k1⟩,_⟩,⟨⟨a2,c2,rfl,k2⟩,_⟩,_⟩:=h
 obtain⟨t0,rfl,l0,k0⟩:=k0.resolve_left (by omega)
 obtain⟨t1,rfl,l1,k1⟩:=k1.resolve_left (by omega)
 obtain⟨t2,rfl,l2,k2⟩:=k2.resolve_left (by omega)
 exact⟨t0,t1,t2,c0,c1,c2,⟨l0,l1,l2⟩,hB.cell rfl,hB.cell rfl,hB.cell rfl,k0 S0 h0,k1 S1 h1,k2 S2 h2⟩
theorem jw{B:Nat}{a w:World}(h:Below B a w)(b j:Nat)(x:Value)(hb:B<=b):Below B a (w.setCell ⟨b,j,none⟩ x) :=
 ⟨h.os,h.tape,h.output,by simpa using h.size,fun k hk=>(Below.heap_setCell w ⟨b,j,none⟩ x k (by show k≠b;omega)).trans (h.block k hk)⟩
theorem aeN(past:aj)(k m:Nat)(hk:1<=k/\k<=past.length):(RD.copyN past k (m+1))=RD.copyN past k m++(((RD.copyN past k m).drop ((RD.copyN past k m).length-k)).take 1):=by
 rw[RD.copyN]
 congr 1
 have hl:=vw past k m
 rw[List.drop_eq_getElem_cons (by omega),List.take_succ_cons,List.take_zero,List.getD_eq_getElem?_getD,List.getElem?_eq_getElem (by omega)]
 rfl
def Rt(g:Nat)(f:RD.Fr)(lits s:aj)(n:Nat)(w:World)(e:Ending)(w':World):Prop :=
 Only (·=g) w w'/\((RD.content f lits s n=none/\(∃x:ByteArray,x.size<=4194304/\e=.returned (.tuple #[.string x,.bool false]))/\Stub w' g f) \/
  ∃out last,RD.content f lits s n=some (out,last)/\e=.returned (.tuple #[.string (ah out),.bool true])/\aJ w' g { f with last:=last }/\dG last/\out.length<=4194304)
theorem aeO(g:Nat)(f:RD.Fr)(lits s:aj)(n:Nat)(w:World)(hF:aJ w g f)(hla:dG f.last)(ht0:f.t0.there=true)(ht1:f.t1.there=true)(ht2:f.t2.there=true)(hs:s.length<=1048576)(lW:lits.length<=1048576)(hn:n<=255) :
  Calls prog 102 #[.pointer (some ⟨g,0,none⟩),.string (ah lits),.string (ah s),.int .i64 n] w (Rt g f lits s n w):=by
 have JL:=hF.1.t0.fine ht0
 have JM:=hF.1.t1.fine ht1
 have JO:=hF.1.t2.fine ht2
 have lg0:=JL.2.1
 have lg1:=JM.2.1
 have lg2:=JO.2.1
 have hgl:g<w.heap.size:=hF.iQ.1
 go_enter func102,ntmps102
 go_wp2_with fail
 refine(LP s _ hs).mono ?_
 rintro e w1 ⟨hbel,v,rfl,hown⟩
 have hlen:=tH s
 have hbb:=kM s
 obtain⟨l,hl⟩:∃l,l=ay s:=⟨_,rfl⟩
 rw[<- hl]at hown hlen hbb
 have Hl:=aA hl
 clear hl
 have hL8:l.length<=8388608:=by omega
 clear hlen
 obtain⟨a,c,rfl⟩:=hown.slice
 have hI1:=hown.ints (by omega)
 have hbase:=hown.block
 have hown:=aA hown
 go_wp2_with fail
 have hsz1:=hbel.size
 obtain⟨w2,hw2⟩:∃w2,w2=(w1.alloc (.cells #[.slice a l.length c,.int .i64 0,.bool false] 230)).alloc (.cells #[.int .i64 0,.int .i64 0,.int .i64 0] 135):=⟨_,rfl⟩
 have lG:Below w1.heap.size w1 w2:=by
  rw[hw2]
  exact((Below.refl _ _).alloc (Nat.le_refl _) _).alloc (by simp) _
 have JQ:mP w2 w1.heap.size a c l ⟨0,false⟩:=by
  refine⟨?_,hI1.below lG,fun bl off e=>by have:=hbase bl off e;omega,Nat.zero_le _,hL8,hbb⟩
  rw[hw2]
  exact(aB.new w1 230 [.slice a l.length c,.int .i64 0,.bool false]).alloc _
 have EL:aB w2 (w1.heap.size+1) 135 [.int .i64 0,.int .i64 0,.int .i64 0]:=by
  rw[hw2]
  have:=aB.new (w1.alloc (.cells #[.slice a l.length c,.int .i64 0,.bool false] 230)) 135 [.int .i64 0,.int .i64 0,.int .i64 0]
  simpa using this
 have hp2:w1.heap.size+1<w2.heap.size:=EL.lt
 rw[<- hw2]
 clear hw2
 obtain⟨p,hp⟩:∃p,p=w1.heap.size:=⟨_,rfl⟩
 rw[<- hp]at JQ EL lG hp2 hbase hsz1
 rw[<- hp]
 have hp1':Only (fun b=>p<=b) w1 w2:=⟨lG.os,lG.tape,lG.output,lG.size,fun k hk hn=>lG.block k (by omega)⟩
 have Hp:=aA hp
 clear hp lG
 go_loopg[12] 4 (fun gh kv wr=>∃(k:Nat)(b:RD.B)(s0 s1 s2:Int),gh=4-k/\k<=3/\kv=.int .i64 (k:Int)/\Hid ((k=0/\b=⟨0,false⟩/\s0=0/\s1=0/\s2=0) \/
   (k=1/\b=(RD.rd l ⟨0,false⟩ f.t0.log).2/\s0=(RD.rd l ⟨0,false⟩ f.t0.log).1/\s1=0/\s2=0) \/
   (k=2/\b=(RD.rd l (RD.rd l ⟨0,false⟩ f.t0.log).2 f.t1.log).2/\s0=(RD.rd l ⟨0,false⟩ f.t0.log).1/\s1=(RD.rd l (RD.rd l ⟨0,false⟩ f.t0.log).2 f.t1.log).1/\s2=0) \/
   (k=3/\b=(eP f l lits).b/\s0=(eP f l lits).s0/\s1=(eP f l lits).s1/\s2=(eP f l lits).s2)) /\
   mP wr p a c l b/\aB wr (p+1) 135 [.int .i64 s0,.int .i64 s1,.int .i64 s2]/\Only (fun b=>p<=b) w1 wr)
 case atStart=>exact⟨0,⟨0,false⟩,0,0,0,by omega,by omega,rfl,.inl ⟨rfl,rfl,rfl,rfl,rfl⟩,JQ,EL,hp1'⟩
 case round =>
  obtain⟨k,b,s0,s1,s2,rfl,hk,rfl,hA,hbi,hst,hbw⟩:=hrel
  have hFr:aJ wr g f:=(hF.below hbel).below (Hp.out▸(hbw.toBelow (by rw[Hp.out];exact Nat.le_refl _)))
  obtain⟨fz,l0,l1,l2,d3,d4,_⟩:=hFr.logs
  have hsw:=hst.lt
  have hgw:g<p:=by omega
  have hFr:=aA hFr
  have fzs:=hst.free
  have e0:=hst.cell (j:=0) rfl
  have e1:=hst.cell (j:=1) rfl
  have e2:=hst.cell (j:=2) rfl
  rcases hA.out with⟨rfl,rfl,rfl,rfl,rfl⟩|⟨rfl,rfl,rfl,rfl,rfl⟩|⟨rfl,rfl,rfl,rfl,rfl⟩|⟨rfl,rfl,rfl,rfl,rfl⟩
  ·have hS:=aA hst
   have hO:=aA hbw
   clear hst hbw hA
   go_wp2_with fail
   refine(uK p a c l ⟨0,false⟩ f.t0.log _ hbi (by omega)).mono ?_
   rintro e w3 ⟨rfl,hb3,ho3⟩
   have hst3:=hS.out.only ho3 (by omega)
   have hO3:Hid (Only (fun b=>p<=b) w1 w3):=hO.out.trans (ho3.weaken (fun k _ e=>by omega))
   have fz3:=hst3.free
   have c3:=hst3.cell (j:=0) rfl
   have hb3:=aA hb3
   have hst3:=aA hst3
   generalize hrd:RD.rd l ⟨0,false⟩ f.t0.log=rr at *
   go_wp2_with fail
   go_roundg(4-1)
   case rel =>
    subst hrd
    have gu:=(Only.refl (fun b=>b=p+1) w3).setCell ⟨p+1,0,none⟩ (.int .i64 (RD.rd l ⟨0,false⟩ f.t0.log).1) (fun _=>rfl)
    exact⟨1,_,_,_,_,by omega,by omega,rfl,.inr (.inl ⟨rfl,rfl,rfl,rfl,rfl⟩),hb3.out.away gu (by omega) (fun bl off e=>by have:=hbase bl off e;omega),hst3.out.put 0 _,hO3.out.trans (gu.weaken (fun k _ e=>by omega))⟩
   case measure=>omega
  ·have hS:=aA hst
   have hO:=aA hbw
   clear hst hbw hA
   go_wp2_with fail
   refine(uK p a c l (RD.rd l ⟨0,false⟩ f.t0.log).2 f.t1.log _ hbi (by omega)).mono ?_
   rintro e w3 ⟨rfl,hb3,ho3⟩
   have hst3:=hS.out.only ho3 (by omega)
   have hO3:Hid (Only (fun b=>p<=b) w1 w3):=hO.out.trans (ho3.weaken (fun k _ e=>by omega))
   have fz3:=hst3.free
   have c3:=hst3.cell (j:=1) rfl
   have hb3:=aA hb3
   have hst3:=aA hst3
   generalize hrd:RD.rd l (RD.rd l ⟨0,false⟩ f.t0.log).2 f.t1.log=rr at *
   go_wp2_with fail
   go_roundg(4-2)
   case rel =>
    subst hrd
    have gu:=(Only.refl (fun b=>b=p+1) w3).setCell ⟨p+1,1,none⟩ (.int .i64 (RD.rd l (RD.rd l ⟨0,false⟩ f.t0.log).2 f.t1.log).1) (fun _=>rfl)
    exact⟨2,_,_,_,_,by omega,by omega,rfl,.inr (.inr (.inl ⟨rfl,rfl,rfl,rfl,rfl⟩)),hb3.out.away gu (by omega) (fun bl off e=>by have:=hbase bl off e;omega),hst3.out.put 1 _,hO3.out.trans (gu.weaken (fun k _ e=>by omega))⟩
   case measure=>omega
  ·have hS:=aA hst
   have hO:=aA hbw
   clear hst hbw hA
   go_wp2_with fail
   refine(uK p a c l (RD.rd l (RD.rd l ⟨0,false⟩ f.t0.log).2 f.t1.log).2 f.t2.log _ hbi (by omega)).mono ?_
   rintro e w3 ⟨rfl,hb3,ho3⟩
   have hst3:=hS.out.only ho3 (by omega)
   have hO3:Hid (Only (fun b=>p<=b) w1 w3):=hO.out.trans (ho3.weaken (fun k _ e=>by omega))
   have fz3:=hst3.free
   have c3:=hst3.cell (j:=2) rfl
   have hb3:=aA hb3
   have hst3:=aA hst3
   generalize hrd:RD.rd l (RD.rd l (RD.rd l ⟨0,false⟩ f.t0.log).2 f.t1.log).2 f.t2.log=rr at *
   go_wp2_with fail
   go_roundg(4-3)
   case rel =>
    subst hrd
    have gu:=(Only.refl (fun b=>b=p+1) w3).setCell ⟨p+1,2,none⟩ (.int .i64 (RD.rd l (RD.rd l (RD.rd l ⟨0,false⟩ f.t0.log).2 f.t1.log).2 f.t2.log).1) (fun _=>rfl)
    exact⟨3,_,_,_,_,by omega,by omega,rfl,.inr (.inr (.inr ⟨rfl,rfl,rfl,rfl,rfl⟩)),hb3.out.away gu (by omega) (fun bl off e=>by have:=hbase bl off e;omega),hst3.out.put 2 _,hO3.out.trans (gu.weaken (fun k _ e=>by omega))⟩
   case measure=>omega
  ·have hS:=aA hst
   have hO:=aA hbw
   have Ru:=aA hbi
   clear hst hbw hA hbi
   have hdl:=hF.1.dict
   have htl:=hF.1.text
   have hz3:=aQ f.dict
   have yG:=aQ f.text
   go_wp2_with fail
   go_quiet(fail)
   go_wp2_with fail
   have hdw:Below wr.heap.size wr (wr.drewN nq):=⟨rfl,rfl,rfl,Nat.le_refl _,fun _ _=>rfl⟩
   obtain⟨F,mg⟩:∃F,F=(f.dict++f.text).length:=⟨_,rfl⟩
   have hF1:((f.dict.length:Int)+(f.text.length:Int))=(F:Int):=by rw[mg,List.length_append];simp
   have hFb:F<=1099511628032:=by rw[mg,List.length_append];omega
   rw[kL,hF1]
   have hok0:=Vx (f:=f) hbb lW hla
   rw[<- mg]at hok0
   have Rw:Only (·=g) w wr:=((Only.refl _ w).below hbel).trans (hO.out.weaken (fun k hk e=>by have:=Hp.out;omega))
   have hC0:JK w (wr.drewN nq) g p (p+1) a c l f (eP f l lits):=by
    refine⟨Ru.out.below hdw,hS.out,hFr.out.below hdw,Rw.drewN nq,?_,?_⟩
    ·exact((hF.free p (by omega)).below hbel hgl).of_block (hO.out.block g (by have:=Hp.out;omega) (by omega))
    ·exact((hF.free (p+1) (by omega)).below hbel hgl).of_block (hO.out.block g (by have:=Hp.out;omega) (by omega))
   have EM:=aA mg
   have EN:=aA hbase
   have aeV:=aA hok0
   have HF:=aA hF
   have HFO:=aA hF.1
   clear mg hF1 hok0 hdw Rw Ru hS hO hFr fz l0 l1 l2 d3 d4 fzs e0 e1 e2 hbase hI1 hbel hgl hz3 yG hdl htl hp2 JQ EL hp1' hF
   go_loopg[1,13,15] n (fun gh lv pv iv wr=>∃(i:Nat)(q:RD.Sq),gh=n-i/\i<=n/\iv=.int .i64 (i:Int)/\lv=.string (ah q.lits)/\pv=.string (ah q.past)/\Hid (eH f l F n (eP f l lits) i=some q)/\JK w wr g p (p+1) a c l f q)
   case atStart=>exact⟨0,eP f l lits,by omega,by omega,rfl,rfl,rfl,rfl,hC0⟩
   case round =>
    clear hC0
    obtain⟨W0,rfl⟩:∃W0:World,W0=wr:=⟨_,rfl⟩
    obtain⟨i,q,rfl,hi,rfl,rfl,rfl,hq,hC⟩:=hrel
    have hok:vC f l F q:=LW hbb JL JM JO aeV.out i hq.out
    by_cases hlt:i<n
    ·obtain⟨i0,a0,b0,c0,d0,e0,g0⟩:=vk JL hok.s0.1 hok.s0.2
     obtain⟨i1,a1,b1,c1,d1,e1,g1⟩:=vk JM hok.s1.1 hok.s1.2
     obtain⟨i2,a2,b2,c2,d2,e2,g2⟩:=vk JO hok.s2.1 hok.s2.2
     have hm:=Vz (f:=f) (l:=l) (from':=F) (q:=q) (qR ⟨a0,c0,e0⟩) (qR ⟨a1,c1,e1⟩) (qR ⟨a2,c2,e2⟩)
     have hL:=VA (f:=f) (l:=l) (from':=F) (q:=q) (qR ⟨a0,c0,e0⟩) (qR ⟨a1,c1,e1⟩) (qR ⟨a2,c2,e2⟩)
     have T0:=qR ⟨a0,c0,e0⟩
     have T1:=qR ⟨a1,c1,e1⟩
     have T2:=qR ⟨a2,c2,e2⟩
     obtain⟨S0,hS0⟩:∃S:Nat,q.s0=(S:Int):=⟨q.s0.toNat,by have:=hok.s0;omega⟩
     obtain⟨S1,hS1⟩:∃S:Nat,q.s1=(S:Int):=⟨q.s1.toNat,by have:=hok.s1;omega⟩
     obtain⟨S2,hS2⟩:∃S:Nat,q.s2=(S:Int):=⟨q.s2.toNat,by have:=hok.s2;omega⟩
     have P0:=CM.pow_pos (aS f.t0.l q.s0).2.1.toNat
     have P1:=CM.pow_pos (aS f.t1.l q.s1).2.1.toNat
     have P2:=CM.pow_pos (aS f.t2.l q.s2).2.1.toNat
     have Q0:=lI f.t0.log 6 lg0
     have Q1:=lI f.t1.log 6 lg1
     have Q2:=lI f.t2.log 6 lg2
     obtain⟨A0,hA0⟩:∃A,A=(aS f.t0.l q.s0).1.toNat:=⟨_,rfl⟩
     obtain⟨B0,hB0⟩:∃A,A=(aS f.t0.l q.s0).2.1.toNat:=⟨_,rfl⟩
     obtain⟨C0,hC0⟩:∃A,A=(aS f.t0.l q.s0).2.2.toNat:=⟨_,rfl⟩
     obtain⟨A1,hA1⟩:∃A,A=(aS f.t1.l q.s1).1.toNat:=⟨_,rfl⟩
     obtain⟨B1,hB1⟩:∃A,A=(aS f.t1.l q.s1).2.1.toNat:=⟨_,rfl⟩
     obtain⟨C1,oL⟩:∃A,A=(aS f.t1.l q.s1).2.2.toNat:=⟨_,rfl⟩
     obtain⟨A2,hA2⟩:∃A,A=(aS f.t2.l q.s2).1.toNat:=⟨_,rfl⟩
     obtain⟨B2,hB2⟩:∃A,A=(aS f.t2.l q.s2).2.1.toNat:=⟨_,rfl⟩
     obtain⟨C2,hC2⟩:∃A,A=(aS f.t2.l q.s2).2.2.toNat:=⟨_,rfl⟩
     rw[<- hA0,<- hB0,<- hC0]at T0
     rw[<- hA1,<- hB1,<- oL]at T1
     rw[<- hA2,<- hB2,<- hC2]at T2
     rw[<- hA0,<- hB0,<- hC0,<- hA1,<- hB1,<- oL,<- hA2,<- hB2,<- hC2]at hm
     rw[<- hA0,<- hA1,<- hA2]at hL
     have bA0:A0<=15:=by omega
     have bB0:B0<=6:=by omega
     have bC0:C0<=64:=by omega
     have bA1:A1<=15:=by omega
     have bB1:B1<=6:=by omega
     have bC1:C1<=64:=by omega
     have bA2:A2<=15:=by omega
     have bB2:B2<=6:=by omega
     have bC2:C2<=64:=by omega
     clear hA0 hB0 hC0 hA1 hB1 oL hA2 hB2 hC2 P0 P1 P2 Q0 Q1 Q2 a0 b0 c0 d0 e0 g0 a1 b1 c1 d1 e1 g1 a2 b2 c2 d2 e2 g2
     have wM:=hC.state
     rw[hS0]at i0 T0
     rw[hS1]at i1 T1
     rw[hS2]at i2 T2
     rw[hS0,hS1,hS2]at wM
     rw[show((S0:Nat):Int).toNat=S0 by omega]at i0
     rw[show((S1:Nat):Int).toNat=S1 by omega]at i1
     rw[show((S2:Nat):Int).toNat=S2 by omega]at i2
     obtain⟨t0,t1,t2,k0,k1,k2,⟨EO,tl1,EP⟩,g8,g11,g14,x0,x1,x2⟩:=hC.fr.tables S0 S1 S2 i0 i1 i2
     simp only[]at g8 g11 g14 x0 x1 x2
     rw[T0]at x0
     rw[T1]at x1
     rw[T2]at x2
     simp only[]at x0 x1 x2
     clear T0 T1 T2
     have hm:=aA hm
     have hL:=aA hL
     have hC:=aA hC
     have hok:=aA hok
     have sfr:=wM.free
     have slt:=wM.lt
     have s0':=wM.cell (j:=0) rfl
     have s1':=wM.cell (j:=1) rfl
     have s2':=wM.cell (j:=2) rfl
     have sQ:g<W0.heap.size:=Nat.lt_of_lt_of_le HF.out.iQ.1 hC.out.only.size
     generalize hn0:f.t0.l.length=N0 at *
     generalize hn1:f.t1.l.length=N1 at *
     generalize hn2:f.t2.l.length=N2 at *
     clear wM
     go_wp2_with fail
     obtain⟨wn,hwn⟩:∃wn,wn=W0.alloc (.cells #[.int .i64 0,.int .i64 0,.int .i64 0,.int .i64 0,.int .i64 0,.int .i64 0,.int .i64 0,.int .i64 0,.int .i64 0] 231):=⟨_,rfl⟩
     rw[<- hwn]
     have hbn:Below W0.heap.size W0 wn:=by
      rw[hwn]
      exact(Below.refl _ _).alloc (Nat.le_refl _) _
     have hnn:aB wn W0.heap.size 231 [.int .i64 0,.int .i64 0,.int .i64 0,.int .i64 0,.int .i64 0,.int .i64 0,.int .i64 0,.int .i64 0,.int .i64 0]:=by
      rw[hwn]
      exact aB.new W0 231 [.int .i64 0,.int .i64 0,.int .i64 0,.int .i64 0,.int .i64 0,.int .i64 0,.int .i64 0,.int .i64 0,.int .i64 0]
     clear hwn
     obtain⟨nw,hnw⟩:∃nw,nw=W0.heap.size:=⟨_,rfl⟩
     rw[<- hnw]at hbn hnn EO tl1 EP slt sQ
     rw[<- hnw]
     have ER:=aA hnw
     clear hnw
     go_loopg[17] 4 (fun gh kv wx=>∃(k:Nat)(A:List Value),gh=4-k/\k<=3/\kv=.int .i64 (k:Int)/\Hid ((k=0/\A=[.int .i64 0,.int .i64 0,.int .i64 0,.int .i64 0,.int .i64 0,.int .i64 0,.int .i64 0,.int .i64 0,.int .i64 0])\/(k=1/\A=[.int .i64 A0,.int .i64 B0,.int .i64 C0,.int .i64 0,.int .i64 0,.int .i64 0,.int .i64 0,.int .i64 0,.int .i64 0])\/(k=2/\A=[.int .i64 A0,.int .i64 B0,.int .i64 C0,.int .i64 A1,.int .i64 B1,.int .i64 C1,.int .i64 0,.int .i64 0,.int .i64 0])\/(k=3/\A=[.int .i64 A0,.int .i64 B0,.int .i64 C0,.int .i64 A1,.int .i64 B1,.int .i64 C1,.int .i64 A2,.int .i64 B2,.int .i64 C2])) /\
      aB wx nw 231 A/\Below nw W0 wx)
     case atStart=>exact⟨0,_,by omega,by omega,rfl,.inl ⟨rfl,rfl⟩,hnn,hbn⟩
     case round =>
      obtain⟨k,A,rfl,hk,rfl,hA,hblk,hbx⟩:=hrel
      have g8:=(hbx.cell (p:=⟨g,8,none⟩) sQ).trans g8
      have g11:=(hbx.cell (p:=⟨g,11,none⟩) sQ).trans g11
      have g14:=(hbx.cell (p:=⟨g,14,none⟩) sQ).trans g14
      have s0':=(hbx.cell (p:=⟨p+1,0,none⟩) slt).trans s0'
      have s1':=(hbx.cell (p:=⟨p+1,1,none⟩) slt).trans s1'
      have s2':=(hbx.cell (p:=⟨p+1,2,none⟩) slt).trans s2'
      have x00:=(hbx.cell (p:=⟨t0,S0*3,none⟩) EO).trans x0.1
      have x01:=(hbx.cell (p:=⟨t0,S0*3+1,none⟩) EO).trans x0.2.1
      have JR:=(hbx.cell (p:=⟨t0,S0*3+2,none⟩) EO).trans x0.2.2
      have x10:=(hbx.cell (p:=⟨t1,S1*3,none⟩) tl1).trans x1.1
      have x11:=(hbx.cell (p:=⟨t1,S1*3+1,none⟩) tl1).trans x1.2.1
      have x12:=(hbx.cell (p:=⟨t1,S1*3+2,none⟩) tl1).trans x1.2.2
      have x20:=(hbx.cell (p:=⟨t2,S2*3,none⟩) EP).trans x2.1
      have x21:=(hbx.cell (p:=⟨t2,S2*3+1,none⟩) EP).trans x2.2.1
      have JU:=(hbx.cell (p:=⟨t2,S2*3+2,none⟩) EP).trans x2.2.2
      rcases hA.out with⟨rfl,rfl⟩|⟨rfl,rfl⟩|⟨rfl,rfl⟩|⟨rfl,rfl⟩
      ·have Iq:(0:Int)<=(S0:Int):=by omega
       have Ir:(S0:Int)<(N0:Int):=by omega
       have Rx:=hblk.free
       have n0:=hblk.cell (j:=0) rfl
       have n1:=hblk.cell (j:=1) rfl
       have n2:=hblk.cell (j:=2) rfl
       have BI:=hblk.lt
       have Ry:t0≠nw:=by omega
       have hblk:=aA hblk
       have hbx:=aA hbx
       clear x10 x11 x12 x20 x21 JU g11 g14 s1' s2' hA
       go_wp2_with fail
       go_region
       go_wp2_with fail
       go_roundg(4-1)
       case rel=>exact⟨1,_,by omega,by omega,rfl,.inr (.inl ⟨rfl,rfl⟩),(((hblk.out.put 0 _).put 1 _).put 2 _).drew,jW (jw (jw (jw hbx.out nw 0 _ (Nat.le_refl _)) nw 1 _ (Nat.le_refl _)) nw 2 _ (Nat.le_refl _))⟩
       case measure=>omega
      ·have Iq:(0:Int)<=(S1:Int):=by omega
       have Ir:(S1:Int)<(N1:Int):=by omega
       have Rx:=hblk.free
       have n0:=hblk.cell (j:=3) rfl
       have n1:=hblk.cell (j:=4) rfl
       have n2:=hblk.cell (j:=5) rfl
       have BI:=hblk.lt
       have Ry:t1≠nw:=by omega
       have hblk:=aA hblk
       have hbx:=aA hbx
       clear x00 x01 JR x20 x21 JU g8 g14 s0' s2' hA
       go_wp2_with fail
       go_region
       go_wp2_with fail
       go_roundg(4-2)
       case rel=>exact⟨2,_,by omega,by omega,rfl,.inr (.inr (.inl ⟨rfl,rfl⟩)),(((hblk.out.put 3 _).put 4 _).put 5 _).drew,jW (jw (jw (jw hbx.out nw 3 _ (Nat.le_refl _)) nw 4 _ (Nat.le_refl _)) nw 5 _ (Nat.le_refl _))⟩
       case measure=>omega
      ·have Iq:(0:Int)<=(S2:Int):=by omega
       have Ir:(S2:Int)<(N2:Int):=by omega
       have Rx:=hblk.free
       have n0:=hblk.cell (j:=6) rfl
       have n1:=hblk.cell (j:=7) rfl
       have n2:=hblk.cell (j:=8) rfl
       have BI:=hblk.lt
       have Ry:t2≠nw:=by omega
       have hblk:=aA hblk
       have hbx:=aA hbx
       clear x00 x01 JR x10 x11 x12 g8 g11 s0' s1' hA
       go_wp2_with fail
       go_region
       go_wp2_with fail
       go_roundg(4-3)
       case rel=>exact⟨3,_,by omega,by omega,rfl,.inr (.inr (.inr ⟨rfl,rfl⟩)),(((hblk.out.put 6 _).put 7 _).put 8 _).drew,jW (jw (jw (jw hbx.out nw 6 _ (Nat.le_refl _)) nw 7 _ (Nat.le_refl _)) nw 8 _ (Nat.le_refl _))⟩
       case measure=>omega
      ·have hbW:Below W0.heap.size W0 wr:=ER.out▸hbx
       have Rz:=hC.out.bits.below hbW
       have pG:=hC.out.state.below hbW (by have:=ER.out;omega)
       have nfr:=hblk.free
       have n0:=hblk.cell (j:=0) rfl
       have n1:=hblk.cell (j:=1) rfl
       have n2:=hblk.cell (j:=2) rfl
       have n3:=hblk.cell (j:=3) rfl
       have n4:=hblk.cell (j:=4) rfl
       have n5:=hblk.cell (j:=5) rfl
       have n6:=hblk.cell (j:=6) rfl
       have n7:=hblk.cell (j:=7) rfl
       have n8:=hblk.cell (j:=8) rfl
       have BI:=hblk.lt
       have qE:p≠nw:=by omega
       have pG:=aA pG
       have hbW:=aA hbW
       have hbx:=aA hbx
       have hblk:=aA hblk
       clear g8 g11 g14 s0' s1' s2' x00 x01 JR x10 x11 x12 x20 x21 JU x0 x1 x2 hA hnn hbn
       have br1:=m_ l hbb q.b A1
       have pr1:=lI A1 15 bA1
       have pp1:=CM.pow_pos A1
       go_wp2_with fail
       go_region_held3(fun w'=>w'.cell? ⟨nw,3,none⟩=some (.int .i64 A1)) (first|go_keep|assumption) (first
        | (go_at_call 88;refine(qO _ _ (by omega) (by omega)).mono ?_;rintro e w' ⟨rfl,rfl⟩)
        | (go_at_call 115;refine(uK p a c l q.b A1 _ ?_ (by omega)).mono ?_;exact Rz.below ⟨rfl,rfl,rfl,Nat.le_refl _,fun _ _=>rfl⟩;rintro e w' ⟨rfl,hbc,hoc⟩;have hk3:w'.cell? ⟨nw,3,none⟩=some (.int .i64 A1):=hoc.cell n3 BI (fun e=>qE e.symm)))
       have hoc:Only (·=p) wr w':=((Only.refl (·=p) wr).drew).trans hoc
       have hblk:=aA (hblk.out.only hoc (fun e=>qE e.symm))
       have pG:=aA (pG.out.only hoc (by omega))
       have lM:Only (·=p) W0 w':=((Only.refl (·=p) W0).below hbW.out).trans hoc
       clear n0 n1 n2 n3 n4 n5 n6 n7 n8 BI nfr hk3 hoc Rz hbx hbW
       generalize RD.rd l q.b A1=r1 at *
       obtain⟨v,hv⟩:∃v:Int,v=2^A1+r1.1:=⟨_,rfl⟩
       have hvb:1<=v/\v<=65536:=by omega
       have hvw:IntKind.i64.wrap (2^A1+r1.1)=v:=by
        rw[<- hv,IntKind.wrap_i64]
        omega
       rw[<- hv]at hm hL
       rw[hvw]
       clear hvw
       clear hv br1 pr1 pp1
       have n6:=hblk.out.cell (j:=6) rfl
       have br2:=Dc l hbb r1.2 A2 bA2
       go_wp2_with fail
       refine(size_any p a c l r1.2 A2 _ hbc (by omega)).mono ?_
       rintro e wd ⟨rfl,hbd,hod⟩
       have hblk:=aA (hblk.out.only hod (fun e=>qE e.symm))
       have pG:=aA (pG.out.only hod (by omega))
       have lM:=lM.trans hod
       generalize RD.sz l r1.2 A2=r2 at *
       clear hbc hod n6
       have n0:=hblk.out.cell (j:=0) rfl
       have br0:=Dc l hbb r2.2 A0 bA0
       go_wp2_with fail
       refine(size_any p a c l r2.2 A0 _ hbd (by omega)).mono ?_
       rintro e we ⟨rfl,hbe,hoe⟩
       have hblk:=aA (hblk.out.only hoe (fun e=>qE e.symm))
       have pG:=aA (pG.out.only hoe (by omega))
       have lM:=lM.trans hoe
       generalize RD.sz l r2.2 A0=r0 at *
       clear hbd hoe n0
       go_upto_if 101 with fail
       go_cut[] (fun wx=>∃(b:RD.B)(s0 s1 s2:Int),Hid (RD.seq1 f l F (decide (i+1<n)) q=oq f F q v r2.1 r0.1 b s0 s1 s2)/\mP wx p a c l b/\aB wx (p+1) 135 [.int .i64 s0,.int .i64 s1,.int .i64 s2]/\Only (fun k=>k=p\/k=p+1) we wx)
       case first =>
        by_cases hmore:i+1<n
        ·have ae5:(i:Int)<(n:Int)-1:=by omega
         have hdm:decide (i+1<n)=true:=by simpa using hmore
         have ajn:nw≠p+1:=by omega
         have ajo:p+1≠nw:=by omega
         have rb0:=m_ l hbb r0.2 B0
         have rp0:=lI B0 6 bB0
         have nb0:=hblk.out.cell (j:=1) rfl
         have RF:=hblk.out.cell (j:=2) rfl
         have JV:=hblk.out.lt
         have zf0:=pG.out.free
         go_wp2_with fail
         go_region_held3(fun w'=>w'.cell? ⟨nw,1,none⟩=some (.int .i64 B0)/\w'.cell? ⟨nw,2,none⟩=some (.int .i64 C0)) (first|go_keep|assumption|(constructor<;>first|go_keep|assumption)) (first
          | (go_at_call 115;refine(uK p a c l r0.2 B0 _ ?_ (by omega)).mono ?_;exact hbe.below ⟨rfl,rfl,rfl,Nat.le_refl _,fun _ _=>rfl⟩;rintro e wf0 ⟨rfl,RG,BJ⟩;have ae9:wf0.cell? ⟨nw,1,none⟩=some (.int .i64 B0):=BJ.cell nb0 JV (fun e=>qE e.symm);have ae_:wf0.cell? ⟨nw,2,none⟩=some (.int .i64 C0):=BJ.cell RF JV (fun e=>qE e.symm);have ES:=pG.out.only ((Only.refl (·=p) we).drew.trans BJ) (by omega);have afa:=ES.cell (j:=0) rfl;have afb:=ES.free))
         rename_i hHeld
         clear hHeld
         generalize RD.rd l r0.2 B0=y0 at *
         have hwr0:IntKind.i64.wrap ((C0:Int)+y0.1)=(C0:Int)+y0.1:=by rw[IntKind.wrap_i64];omega
         rw[hwr0]
         obtain⟨X0,hX0⟩:∃X,X=wf0.setCell ⟨p+1,0,none⟩ (.int .i64 ((C0:Int)+y0.1)):=⟨_,rfl⟩
         have hp0:=(Only.refl (fun b=>b=p+1) wf0).setCell ⟨p+1,0,none⟩ (.int .i64 ((C0:Int)+y0.1)) (fun _=>rfl)
         have BM:=ES.put 0 (.int .i64 ((C0:Int)+y0.1))
         rw[<- hX0]at hp0 BM
         rw[<- hX0]
         have afc:=RG.away hp0 (by omega) (fun bl off e=>by have:=EN.out bl off e;omega)
         have RH:Only (fun k=>k=p\/k=p+1) we X0:=(((Only.refl (·=p) we).drew.trans BJ).weaken (fun k _ e=>.inl e)).trans (hp0.weaken (fun k _ e=>.inr e))
         have ET:=aA (hblk.out.only RH (by omega))
         replace BM:=aA BM
         clear hX0 RG BJ ES afa afb ae9 ae_ nb0 RF JV zf0 hp0 rb0 rp0 hwr0
         have rb2:=m_ l hbb y0.2 B2
         have rp2:=lI B2 6 bB2
         have RI:=ET.out.cell (j:=7) rfl
         have RJ:=ET.out.cell (j:=8) rfl
         have JW:=ET.out.lt
         have zf2:=BM.out.free
         go_wp2_with fail
         go_region_held3(fun w'=>w'.cell? ⟨nw,7,none⟩=some (.int .i64 B2)/\w'.cell? ⟨nw,8,none⟩=some (.int .i64 C2)) (first|go_keep|assumption|(constructor<;>first|go_keep|assumption)) (first
          | (go_at_call 115;refine(uK p a c l y0.2 B2 _ ?_ (by omega)).mono ?_;exact afc.below ⟨rfl,rfl,rfl,Nat.le_refl _,fun _ _=>rfl⟩;rintro e wf2 ⟨rfl,RN,BN⟩;have hkb2:wf2.cell? ⟨nw,7,none⟩=some (.int .i64 B2):=BN.cell RI JW (fun e=>qE e.symm);have afg:wf2.cell? ⟨nw,8,none⟩=some (.int .i64 C2):=BN.cell RJ JW (fun e=>qE e.symm);have EU:=BM.out.only ((Only.refl (·=p) X0).drew.trans BN) (by omega);have afh:=EU.cell (j:=2) rfl;have afi:=EU.free))
         rename_i hHeld
         clear hHeld
         generalize RD.rd l y0.2 B2=y2 at *
         have hwr2:IntKind.i64.wrap ((C2:Int)+y2.1)=(C2:Int)+y2.1:=by rw[IntKind.wrap_i64];omega
         rw[hwr2]
         obtain⟨X2,hX2⟩:∃X,X=wf2.setCell ⟨p+1,2,none⟩ (.int .i64 ((C2:Int)+y2.1)):=⟨_,rfl⟩
         have hp2:=(Only.refl (fun b=>b=p+1) wf2).setCell ⟨p+1,2,none⟩ (.int .i64 ((C2:Int)+y2.1)) (fun _=>rfl)
         have BO:=EU.put 2 (.int .i64 ((C2:Int)+y2.1))
         rw[<- hX2]at hp2 BO
         rw[<- hX2]
         have afj:=RN.away hp2 (by omega) (fun bl off e=>by have:=EN.out bl off e;omega)
         have EW:Only (fun k=>k=p\/k=p+1) X0 X2:=(((Only.refl (·=p) X0).drew.trans BN).weaken (fun k _ e=>.inl e)).trans (hp2.weaken (fun k _ e=>.inr e))
         have EX:=aA (ET.out.only EW (by omega))
         replace BO:=aA BO
         clear hX2 RN BN EU afh afi hkb2 afg RI RJ JW zf2 hp2 rb2 rp2 hwr2
         have EW:=RH.trans EW
         have rb1:=m_ l hbb y2.2 B1
         have rp1:=lI B1 6 bB1
         have RP:=EX.out.cell (j:=4) rfl
         have RQ:=EX.out.cell (j:=5) rfl
         have JX:=EX.out.lt
         have zf1:=BO.out.free
         go_wp2_with fail
         go_region_held3(fun w'=>w'.cell? ⟨nw,4,none⟩=some (.int .i64 B1)/\w'.cell? ⟨nw,5,none⟩=some (.int .i64 C1)) (first|go_keep|assumption|(constructor<;>first|go_keep|assumption)) (first
          | (go_at_call 115;refine(uK p a c l y2.2 B1 _ ?_ (by omega)).mono ?_;exact afj.below ⟨rfl,rfl,rfl,Nat.le_refl _,fun _ _=>rfl⟩;rintro e wf1 ⟨rfl,RU,BP⟩;have afn:wf1.cell? ⟨nw,4,none⟩=some (.int .i64 B1):=BP.cell RP JX (fun e=>qE e.symm);have afo:wf1.cell? ⟨nw,5,none⟩=some (.int .i64 C1):=BP.cell RQ JX (fun e=>qE e.symm);have EY:=BO.out.only ((Only.refl (·=p) X2).drew.trans BP) (by omega);have afp:=EY.cell (j:=1) rfl;have afq:=EY.free))
         rename_i hHeld
         clear hHeld
         generalize RD.rd l y2.2 B1=y1 at *
         have RV:IntKind.i64.wrap ((C1:Int)+y1.1)=(C1:Int)+y1.1:=by rw[IntKind.wrap_i64];omega
         rw[RV]
         obtain⟨X1,hX1⟩:∃X,X=wf1.setCell ⟨p+1,1,none⟩ (.int .i64 ((C1:Int)+y1.1)):=⟨_,rfl⟩
         have hp1:=(Only.refl (fun b=>b=p+1) wf1).setCell ⟨p+1,1,none⟩ (.int .i64 ((C1:Int)+y1.1)) (fun _=>rfl)
         have EZ:=EY.put 1 (.int .i64 ((C1:Int)+y1.1))
         rw[<- hX1]at hp1 EZ
         rw[<- hX1]
         have afr:=RU.away hp1 (by omega) (fun bl off e=>by have:=EN.out bl off e;omega)
         have E5:Only (fun k=>k=p\/k=p+1) X2 X1:=(((Only.refl (·=p) X2).drew.trans BP).weaken (fun k _ e=>.inl e)).trans (hp1.weaken (fun k _ e=>.inr e))
         have ajp:=aA (EX.out.only E5 (by omega))
         replace EZ:=aA EZ
         clear hX1 RU BP EY afp afq afn afo RP RQ JX zf1 hp1 rb1 rp1 RV
         have E5:=EW.trans E5
         go_wp2_with fail
         go_meet
         case rel=>exact⟨y1.2,(C0:Int)+y0.1,(C1:Int)+y1.1,(C2:Int)+y2.1,by unfold Hid;rw[hdm];exact hm.out,afr,EZ.out,E5⟩
        ·have ae5:¬(i:Int)<(n:Int)-1:=by omega
         have hdm:decide (i+1<n)=false:=by simpa using hmore
         go_wp2_with fail
         go_meet
         case rel=>exact⟨r0.2,q.s0,q.s1,q.s2,by unfold Hid;rw[hdm];exact hL.out,hbe,pG.out,Only.refl _ _⟩
       case rest =>
       obtain⟨b,s0,s1,s2,hseq,BQ,hst2,hO2⟩:=hcut
       clear hm hL
       have hWc:Only (fun k=>k=p\/k=p+1) W0 wc:=(lM.weaken (fun k _ e=>.inl e)).trans hO2
       have bH:g<p:=by have:=HF.out.iQ.1;have:=Hp.out;omega
       have hFc:aJ wc g { f with last:=q.last }:=hC.out.fr.away hWc (by omega) (fun b hb=>by
        rcases hb with rfl|rfl
        ·exact hC.out.fp
        ·exact hC.out.fs)
       have hfp:Free wc g p:=hC.out.fp.only hWc (by have:=ER.out;omega) (by omega)
       have hfs:Free wc g (p+1):=hC.out.fs.only hWc (by have:=ER.out;omega) (by omega)
       have hwp:w.heap.size<=p:=by have:=Hp.out;omega
       have jO:Only (·=g) w wc:=⟨hWc.os.trans hC.out.only.os,hWc.tape.trans hC.out.only.tape,hWc.output.trans hC.out.only.output,Nat.le_trans hC.out.only.size hWc.size,fun k hk hn=>(hWc.block k (Nat.lt_of_lt_of_le hk hC.out.only.size) (by omega)).trans (hC.out.only.block k hk hn)⟩
       have uM:=BQ.1.cell (j:=2) rfl
       have hzl:=aQ q.lits
       have hzp:=aQ q.past
       have hlb:=hok.out.lits
       have hpb:=hok.out.past
       replace hFc:=aA hFc
       replace BQ:=aA BQ
       replace hst2:=aA hst2
       by_cases hbad:b.short=true\/(q.lits.length:Int)<r0.1
       ·have hnone:Hid (eH f l F n (eP f l lits) (i+1)=none):=by
         unfold Hid eH
         rw[hq.out]
         simp only[]
         rw[hseq.out]
         unfold oq
         rw[if_pos hbad]
        by_cases hsh:b.short=true
        ·rw[hsh]at uM
         replace hbad:=aA hbad
         go_wp2_with fail
         go_ret2
         exact⟨jO,.inl ⟨Gu (i:=i+1) (by omega) (by rw[<- Hl.out,<- EM.out];exact hnone.out),⟨⟨#[]⟩,by decide,rfl⟩,hFc.out.stub⟩⟩
        ·have hsf:b.short=false:=by simpa using hsh
         rw[hsf]at uM
         have hgt:(q.lits.length:Int)<r0.1:=hbad.resolve_left hsh
         replace hbad:=aA hbad
         replace hsh:=aA hsh
         go_wp2_with fail
         go_ret2
         exact⟨jO,.inl ⟨Gu (i:=i+1) (by omega) (by rw[<- Hl.out,<- EM.out];exact hnone.out),⟨⟨#[]⟩,by decide,rfl⟩,hFc.out.stub⟩⟩
       ·have hsf:b.short=false:=by
         cases hb:b.short with
         | false=>rfl
         | true=>exact absurd (.inl hb) hbad
        have hle:r0.1<=(q.lits.length:Int):=by
         rcases Int.lt_or_le (q.lits.length:Int) r0.1 with e|e
         ·exact absurd (.inr e) hbad
         ·exact e
        rw[hsf]at uM
        obtain⟨N,hN⟩:∃N:Nat,r0.1=(N:Int):=⟨r0.1.toNat,by omega⟩
        replace hbad:=aA hbad
        have hN':(N:Int)<=(q.lits.length:Int):=by omega
        obtain⟨P1,hP1⟩:∃P,P=q.past++q.lits.take N:=⟨_,rfl⟩
        have P5:(ah q.lits).extract 0 N=ah (q.lits.take N):=yO _ _
        have abm:(ah q.lits).extract N q.lits.length=ah (q.lits.drop N):=mQ _ _
        have AZ:ah q.past++ah (q.lits.take N)=ah P1:=by rw[hP1,kL]
        have hz1:(ah (q.lits.take N)).size=N:=by rw[aQ,List.length_take];omega
        have hz2:(ah P1).size=q.past.length+N:=by rw[aQ,hP1,List.length_append,List.length_take];omega
        replace hP1:=aA hP1
        have ajq:=hFb
        obtain⟨x0,y0,z0,hlast,hl0,hl1,hl2⟩:=hok.out.last
        have hbk:=aeD g { f with last:=q.last } x0 y0 z0 v (N:Int) wc hFc.out hlast ⟨hl0,hl1,hl2⟩ hvb (by omega)
        rw[hN]
        rw[<- hlast]at hbk
        go_wp2_with fail
        refine hbk.mono ?_
        rintro e w6 ⟨rfl,dX,bT,RX⟩
        have ajr:0<=r2.1/\r2.1<=600:=br2
        have hwin:=dX.logs.2.2.2.2.2.2
        obtain⟨bk,BR⟩:∃b,b=bG q.last v (N:Int):=⟨_,rfl⟩
        rw[<- BR]at dX
        rw[<- BR]
        replace BR:=aA BR
        replace dX:=aA dX
        have hPl:(ah P1).size=P1.length:=aQ _
        have RY:P1.length=q.past.length+N:=by rw[<- hPl];exact hz2
        have hPb:P1.length<=1099512676608:=by omega
        have hPF:F<=P1.length:=by omega
        replace RY:=aA RY
        obtain⟨pl,hpl⟩:∃x:Nat,P1.length=x:=⟨_,rfl⟩
        rw[hpl]at hPl hPb hPF
        obtain⟨m,E8⟩:∃m:Nat,3+r2.1=(m:Int):=⟨(3+r2.1).toNat,by omega⟩
        have hmb:m<=603:=by omega
        have hnx:Hid (eH f l F n (eP f l lits) (i+1)=if bk.1<1\/(f.window:Int)<bk.1\/(pl:Int)<bk.1\/1024<(pl:Int)+(m:Int)-(F:Int)then none else some ⟨b,s0,s1,s2,RD.copyN P1 bk.1.toNat m,q.lits.drop N,bk.2⟩):=by
         unfold Hid
         rw[eH,hq.out]
         simp only[]
         rw[hseq.out]
         unfold oq
         rw[if_neg hbad.out,hN,<- BR.out,show((N:Nat):Int).toNat=N by omega,<- hP1.out,hpl,E8,show((m:Nat):Int).toNat=m by omega]
        rw[E8]
        replace hpl:=aA hpl
        replace hz2:=aA hz2
        replace E8:=aA E8
        obtain⟨B,hB⟩:∃B,bk.1=B:=⟨_,rfl⟩
        rw[hB]at hnx
        rw[hB]
        replace hB:=aA hB
        have RZ:Only (·=g) w w6:=jO.trans bT
        have aft:g<w.heap.size:=HF.out.iQ.1
        have rZ:Hid (∀P L,JK w w6 g p (p+1) a c l f ⟨b,s0,s1,s2,P,L,bk.2⟩):=aA (fun P L=>⟨BQ.out.away bT (by omega) (fun bl off e=>by have:=EN.out bl off e;omega),hst2.out.only bT (by omega),dX.out,RZ,RX p BQ.out.1.lt hfp,RX (p+1) hst2.out.lt hfs⟩)
        clear aft
        by_cases h4:B<1\/(f.window:Int)<B\/(pl:Int)<B\/1024<(pl:Int)+(m:Int)-(F:Int)
        ·have hnone:RD.content f lits s n=none:=by
          refine Gu (i:=i+1) (by omega) ?_
          rw[<- Hl.out,<- EM.out,hnx.out,if_pos h4]
         replace hnone:=aA hnone
         have hpost:Rt g f lits s n w (.returned (.tuple #[.string ⟨#[]⟩,.bool false])) w6:=⟨RZ,.inl ⟨hnone.out,⟨⟨#[]⟩,by decide,rfl⟩,dX.out.stub⟩⟩
         replace hpost:=aA hpost
         replace hnx:=aA hnx
         by_cases h1:B<1
         ·replace h4:=aA h4
          go_wp2_with fail
          go_ret2
          exact hpost.out
         ·by_cases h2:(f.window:Int)<B
          ·replace h4:=aA h4
           go_wp2_with fail
           go_ret2
           exact hpost.out
          ·by_cases h3:(pl:Int)<B
           ·replace h4:=aA h4
            go_wp2_with fail
            go_ret2
            exact hpost.out
           ·have h5:1024<(pl:Int)+(m:Int)-(F:Int):=by
             rcases h4 with e|e|e|e
             ·exact absurd e h1
             ·exact absurd e h2
             ·exact absurd e h3
             ·exact e
            replace h4:=aA h4
            go_wp2_with fail
            go_ret2
            exact hpost.out
        ·rw[if_neg h4]at hnx
         have h1:¬B<1:=fun e=>h4 (.inl e)
         have h2:¬(f.window:Int)<B:=fun e=>h4 (.inr (.inl e))
         have h3:¬(pl:Int)<B:=fun e=>h4 (.inr (.inr (.inl e)))
         have h5:¬1024<(pl:Int)+(m:Int)-(F:Int):=fun e=>h4 (.inr (.inr (.inr e)))
         replace h4:=aA h4
         obtain⟨bq,rfl⟩:∃x:Nat,B=(x:Int):=⟨B.toNat,by omega⟩
         rw[show((bq:Nat):Int).toNat=bq by omega]at hnx
         have hbq:1<=bq/\bq<=pl:=by omega
         go_wp2_with fail
         go_loopg[13,22] (m+1) (fun gh pv kv wx=>∃k:Nat,gh=m+1-k/\k<=m/\pv=.string (ah (RD.copyN P1 bq k))/\kv=.int .i64 (k:Int)/\wx=w6)
         case atStart=>exact⟨0,by omega,by omega,rfl,rfl,rfl⟩
         case round =>
          obtain⟨k,rfl,hk,rfl,rfl,rfl⟩:=hrel
          have E_:(ah (RD.copyN P1 bq k)).size=pl+k:=by rw[aQ,vw,hpl.out]
          by_cases hlk:k<m
          ·have hlt':(k:Int)<(m:Int):=by omega
           obtain⟨J,hJ⟩:∃J:Nat,(pl:Int)+(k:Int)-(bq:Int)=(J:Int):=⟨pl+k-bq,by omega⟩
           have hJ2:((pl+k:Nat):Int)-(bq:Int)=(J:Int):=by omega
           obtain⟨E1,hE1⟩:∃E:Nat,(J:Int)+1=(E:Int):=⟨J+1,by omega⟩
           have hE2:Hid (E1=J+1):=aA (by omega)
           have hJ4:Hid (J=pl+k-bq):=aA (by omega)
           have hJ5:(E1:Int)<=((pl+k:Nat):Int):=by omega
           have hJ6:(J:Int)<=(E1:Int):=by omega
           have hJ7:E1<=2199023255552:=by omega
           have BU:=aeN P1 bq k ⟨hbq.1,by rw[hpl.out];exact hbq.2⟩
           rw[vw,hpl.out,<- hJ4.out]at BU
           obtain⟨Z,hZ⟩:∃Z,Z=((RD.copyN P1 bq k).drop J).take 1:=⟨_,rfl⟩
           have afw:(ah (RD.copyN P1 bq k)).extract J E1=ah Z:=by rw[hZ,hE2.out];exact yX _ J 1
           rw[<- hZ]at BU
           have JY:ah (RD.copyN P1 bq k)++ah Z=ah (RD.copyN P1 bq (k+1)):=by rw[BU,kL]
           have hzZ:(ah Z).size=1:=by
            have e:=congrArg ByteArray.size JY
            rw[aQ,vw,hpl.out]at e
            have e2:(ah (RD.copyN P1 bq k)++ah Z).size=(ah (RD.copyN P1 bq k)).size+(ah Z).size:=by simp
            rw[e2,E_]at e
            omega
           replace BU:=aA BU
           replace hZ:=aA hZ
           obtain⟨O1,aF⟩:∃O,O=RD.copyN P1 bq (k+1):=⟨_,rfl⟩
           rw[<- aF]at JY
           replace aF:=aA aF
           obtain⟨O0,iL⟩:∃O,O=RD.copyN P1 bq k:=⟨_,rfl⟩
           rw[<- iL]at JY afw E_
           rw[<- iL]
           replace iL:=aA iL
           obtain⟨nk,hnk⟩:∃x,x=pl+k:=⟨_,rfl⟩
           rw[<- hnk]at E_ hJ2 hJ5
           have ajv:nk<=2199023255552:=by omega
           replace hnk:=aA hnk
           clear hJ
           go_wp2_with fail
           go_roundg(m+1-(k+1))
           case rel=>exact⟨k+1,by omega,by omega,by rw[aF.out],by go_num,rfl⟩
           case measure=>omega
          ·obtain rfl:k=m:=by omega
           have hkk:¬(k:Int)<(k:Int):=by omega
           obtain⟨O0,iL⟩:∃O,O=RD.copyN P1 bq k:=⟨_,rfl⟩
           rw[<- iL]at E_ hnx
           rw[<- iL]
           replace iL:=aA iL
           go_wp2_with fail
           go_roundg(n-(i+1))
           case rel=>exact⟨i+1,⟨b,s0,s1,s2,O0,q.lits.drop N,bk.2⟩,by omega,by omega,by go_num,rfl,rfl,hnx,rZ.out _ _⟩
           case measure=>omega
    ·have hin:i=n:=by omega
     have hsn:Hid (eH f l F n (eP f l lits) n=some q):=hin▸hq
     have hnn:¬(i:Int)<(n:Int):=by omega
     have bL:=hC.bits.1.cell (j:=0) rfl
     have bA:=hC.bits.1.cell (j:=1) rfl
     have yH:=hC.bits.2.1
     have hbi:=hC.bits.2.2.2.1
     have hzl:=aQ q.lits
     have hzp:=aQ q.past
     have hlb:=hok.lits
     have hpb:=hok.past
     have R_:=aA hC.fr
     have jd:=aA hC.only
     have hLC:=aA hok.last
     obtain⟨D,hD⟩:∃D,q.past.drop F=D:=⟨_,rfl⟩
     have hDl:D.length<=1024:=by rw[<- hD,List.length_drop];omega
     have hex:(ah q.past).extract F q.past.length=ah D:=by rw[<- hD];exact mQ _ _
     have hzD:(ah D).size=D.length:=aQ _
     have AZ:ah D++ah q.lits=ah (D++q.lits):=kL _ _
     have eU:(F:Int)<=(q.past.length:Int):=by omega
     have Fa:(ah (D++q.lits)).size<=4194304:=by rw[aQ,List.length_append];omega
     have hct:Hid (RD.content f lits s n=if RD.rest l q.b.i then some (D++q.lits,q.last)else none):=by
      unfold Hid RD.content
      rw[<- Hl.out,<- EM.out,hsn.out]
      simp only[]
      rw[hD]
     replace hD:=aA hD
     replace Fa:=aA Fa
     replace hC:=aA hC
     replace hok:=aA hok
     replace hq:=aA hq
     replace hin:=aA hin
     generalize hrs:RD.rest l q.b.i=rs at *
     have hra:∀W:World,Ints W a l.length l->Calls prog 118 #[.slice a l.length c,.int .i64 (q.b.i:Nat)] W fun e w'=>e=.returned (.bool rs)/\w'=W:=fun W hW=>by
      rw[<- hrs]
      exact LQ a l.length c l q.b.i W hW hbb hbi (by omega)
     replace hrs:=aA hrs
     go_wp2_with fail
     go_quiet((go_at_call 118;refine Calls.quiet_of_same (hra _ ?_);exact yH))
     go_wp2_with fail
     go_ret2
     refine⟨jd.out.drewN nq,?_⟩
     have hdw:Below W0.heap.size W0 (W0.drewN nq):=⟨rfl,rfl,rfl,Nat.le_refl _,fun _ _=>rfl⟩
     cases rs with
     | false=>exact .inl ⟨by rw[hct.out];rfl,⟨_,Fa.out,rfl⟩,(R_.out.below hdw).stub⟩
     | true=>exact .inr ⟨_,_,by rw[hct.out];rfl,rfl,R_.out.below hdw,hLC.out,by rw[<- aQ];exact Fa.out⟩
end Go.Proofs.YtbhemchnjpajiaaGreatDoor
