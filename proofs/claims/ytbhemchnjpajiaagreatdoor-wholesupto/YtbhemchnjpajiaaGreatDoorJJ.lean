/- Several texts in one: PrStr2, PrStr3. -/
import Derived.Test.YtbhemchnjpajiaaGreatDoorJH
import Derived.Test.YtbhemchnjpajiaaGreatDoorJI
import Derived.BigQuiet
set_option linter.unusedVariables false
set_option maxRecDepth 100000
set_option maxHeartbeats 8000000
namespace Go.Proofs.YtbhemchnjpajiaaGreatDoor
open Go.RowKit Go.Proofs.Tryz RD
section
attribute [local irreducible] dw
theorem Og(l:aj):(ah l).toList=l:=by rw[ByteArray.toList_eq];exact lX l
def Yj(x:Fx)(S:Nat)(t:TypeId)(ss:List Value)(l:aj)(w:World)(e:Ending)(w':World):Prop :=
 (l=fJ/\e=.returned .nilIface/\aB w' S t (ss.set 5 (.int .i64 1))/\Only (·=S) w w')\/(l=iH/\e=.returned .nilIface/\aB w' S t (ss.set 5 (.int .i64 3))/\Only (·=S) w w') \/
 (l≠fJ/\l≠iH/\e=.returned (aW x.f)/\Below w.heap.size w w')
theorem Yk(x:Fx)(S:Nat)(t:TypeId)(ss:List Value)(l:aj)(w:World)(h:aB w S t ss)(v5:Value)(h5:ss[5]?=some v5)(hV:bI x w) :
  Calls prog 78 #[.pointer (some ⟨S,0,none⟩),.string (ah l)] w (Yj x S t ss l w):=by
 have c5:=h.cell h5
 have fz:=h.free
 have cF:=hV.cF
 have hT:=aA (Og l)
 go_enter func78,ntmps78
 by_cases k1:l=fJ
 ·have e1:((ah l).toList==[83,75,73,80])=true:=by rw[hT.out,k1];rfl
  replace k1:=aA k1
  go_wp2_with fail
  go_ret
  exact .inl ⟨k1.out,rfl,h.put 5 _,(Only.refl (·=S) w).setCell ⟨S,5,none⟩ _ (fun _=>rfl)⟩
 ·have e1:((ah l).toList==[83,75,73,80])=false:=by rw[hT.out,beq_eq_false_iff_ne];exact k1
  replace k1:=aA k1
  by_cases k2:l=iH
  ·have e2:((ah l).toList==[83,75,78,49])=true:=by rw[hT.out,k2];rfl
   replace k2:=aA k2
   go_wp2_with fail
   go_ret
   exact .inr (.inl ⟨k2.out,rfl,h.put 5 _,(Only.refl (·=S) w).setCell ⟨S,5,none⟩ _ (fun _=>rfl)⟩)
  ·have e2:((ah l).toList==[83,75,78,49])=false:=by rw[hT.out,beq_eq_false_iff_ne];exact k2
   replace k2:=aA k2
   go_wp2_with fail
   go_ret
   exact .inr (.inr ⟨k1.out,k2.out,rfl,d_ w⟩)
theorem Yl:(prog.info? 144).map (·.size)=some 3:=by kernel_rfl
def Ht(x:Fx)(S:Nat)(t:TypeId)(ss:List Value)(N:Nat)(w:World)(e:Ending)(w':World):Prop :=
 ((N/2%4=3\/1024<N/8)/\e=.returned (aW x.f)/\Below w.heap.size w w') \/
 (¬(N/2%4=3\/1024<N/8)/\e=.returned .nilIface/\aB w' S t ((dw ss 31 [.bool (decide (N%2=1)),.int .i64 ((N/2%4:Nat)),.int .i64 ((N/8:Nat))]).set 5 (.int .i64 5))/\Only (·=S) w w')
theorem Ym(x:Fx)(S:Nat)(t:TypeId)(ss:List Value)(l:aj)(w:World)(h:aB w S t ss)(hl:ss.length=34)(hll:l.length=2)(hV:bI x w) :
  Calls prog 82 #[.pointer (some ⟨S,0,none⟩),.string (ah l)] w (Ht x S t ss (au l) w):=by
 have hp:=XY x l hll w hV
 obtain⟨N,hN⟩:∃N,N=au l:=⟨_,rfl⟩
 rw[<- hN]at hp⊢
 clear hN
 go_enter func82,ntmps82
 go_wp2_with fail
 refine hp.mono ?_
 rintro e w1 ⟨hb1,⟨hbad,rfl⟩|⟨hgood,he⟩⟩
 ·go_wp2_with fail
  go_ret
  exact .inl ⟨hbad,rfl,hb1.alloc hb1.size _⟩
 ·obtain⟨K,hK⟩:∃K,K=N/2%4:=⟨_,rfl⟩
  obtain⟨M,hM⟩:∃M,M=N/8:=⟨_,rfl⟩
  obtain⟨L,hL⟩:∃L,L=decide (N%2=1):=⟨_,rfl⟩
  have hP:∀e w',Ht x S t ss N w e w'↔Ht x S t ss N w e w':=fun _ _=>Iff.rfl
  rw[<- hK,<- hM,<- hL]at he
  subst he
  have hS1:aB (w1.alloc (.cells #[.bool L,.int .i64 K,.int .i64 M] 144)) S t ss:=(h.below hb1 h.lt).alloc _
  have aF:Only (·=S) w (w1.alloc (.cells #[.bool L,.int .i64 K,.int .i64 M] 144)):=(aH hb1).alloc _
  have hn:31+(#[.bool L,.int .i64 K,.int .i64 M]:Array Value).size<=ss.length:=by rw[hl];show 31+3<=34;omega
  have hone:(#[.bool L,.int .i64 K,.int .i64 M]:Array Value).all (·.oneCell')=true:=by simp[Value.oneCell']
  have hsf:=Yl
  obtain⟨z5,zV⟩:∃z,(dw ss 31 [.bool L,.int .i64 K,.int .i64 M])[5]?=some z:=get_some (by rw[tZ,hl];omega)
  replace hK:=aA hK
  replace hM:=aA hM
  replace hL:=aA hL
  go_wp2_with(refine ug rfl 144 _ _ rfl 31 #[.bool L,.int .i64 K,.int .i64 M] rfl rfl hS1 hn hsf hone ?_;intro W1 hS2 hO2;have d5:=hS2.cell zV;have DC:=hS2.free)
  go_ret
  refine .inr ⟨hgood,rfl,?_,(aF.trans hO2).setCell ⟨S,5,none⟩ _ (fun _=>rfl)⟩
  rw[<- hK.out,<- hM.out,<- hL.out]
  exact hS2.put 5 _
end
section
attribute [local irreducible] dw
def Yn(x:Fx)(S:Nat)(t:TypeId)(ss:List Value)(fr:Nat)(N:Nat)(sm:Int)(w:World)(e:Ending)(w':World):Prop :=
 ((N:Int)≠sm/\e=.returned (aW x.u)/\Below w.heap.size w w')\/((N:Int)=sm/\e=.returned .nilIface/\aB w' S t (ku ss fr)/\Only (·=S) w w')
theorem Yo(x:Fx)(S:Nat)(t:TypeId)(pre post:List Value)(fr:Nat)(L l:aj)(w:World)(h:aB w S t (pre++(iZ (ah L)++post)))(hp:pre.length=12)(hl:(pre++(iZ (ah L)++post)).length=34)(h3:(pre++(iZ (ah L)++post))[3]?=some (.int .i64 fr))(hf:fr<=1099511627776)(hll:l.length=4)(hL:L.length<=1099511627776)(hV:bI x w) :
  Calls prog 84 #[.pointer (some ⟨S,0,none⟩),.string (ah l)] w (Yn x S t (pre++(iZ (ah L)++post)) fr (au l) (SM.sum L) w):=by
 have hn:=snum_any l w (by omega)
 have zW:=zA l 4 (by omega)
 rw[List.take_of_length_le (by omega)]at zW
 obtain⟨N,hN⟩:∃N,N=au l:=⟨_,rfl⟩
 rw[<- hN]at hn zW⊢
 replace hN:=aA hN
 have hv:∀W:World,W.heap=w.heap->Calls prog 29 #[.pointer (some ⟨S,12,none⟩)] W fun e w'=>e=.returned (.int .u32 (SM.sum L))/\Below w.heap.size W w':=fun W hW=>by
  have:=Yi (ah L) S t pre post W (by unfold aB;rw[hW];exact h) (by rw[aQ];omega)
  rw[hp,lX,hW]at this
  exact this
 have Hu:∀W:World,Calls prog 79 #[.string (ah l)] W fun e w'=>e=.returned (.int .i64 (N:Nat))/\w'=W:=fun W=>by
  have:=snum_any l W (by omega)
  rw[<- hN.out]at this
  exact this
 have hNw:IntKind.u32.wrap (N:Int)=(N:Int):=by
  have h:(N:Int)%4294967296=(N:Int):=by omega
  simp[IntKind.wrap,IntKind.signed,IntKind.bits]
  omega
 generalize hss:pre++(iZ (ah L)++post)=ss at *
 generalize SM.sum L=sm at *
 have hlt:=h.lt
 have cU:=hV.cU
 go_enter func84,ntmps84
 go_wp2_with fail
 go_region_with(first|(go_at_call 79;refine(Hu _).mono ?_;rintro e w1 ⟨rfl,rfl⟩)|(go_at_call 29;refine(hv _ (by rfl)).mono ?_;rintro e w2 ⟨rfl,hb2⟩))
 have hb2':Below w.heap.size w w2:=C_ hb2
 have hV2:=hV.below hb2'
 have cU2:=hV2.cU
 have hS2:=h.below hb2' hlt
 by_cases hq:(N:Int)=sm
 ·have hq':((N:Int) != sm)=false:=by simpa using hq
  replace hq:=aA hq
  go_wp2_with fail
  refine(Ho S t ss fr _ hS2 hl h3 hf).mono ?_
  rintro e w3 ⟨rfl,hS3,hO3⟩
  go_wp2_with fail
  go_ret
  exact .inr ⟨hq.out,rfl,hS3,(aH hb2').trans hO3⟩
 ·have hq':((N:Int) != sm)=true:=by simpa using hq
  replace hq:=aA hq
  go_wp2_with fail
  go_ret
  exact .inl ⟨hq.out,rfl,hb2'⟩
def jK(W w:World):Prop:=W.heap=w.heap/\W.os=w.os/\W.tape=w.tape/\W.output=w.output
structure fZ(D:World->Prop) where
 w:World
 ok:D w
theorem qW{P:Program}{id:Nat}{Q:Exit->Act->World->Prop}{a:Act}{w:World}{l:List Oper}(D:World->Prop)(hm:P.follows .mixedOrders=true)(hB:Region.lexB .any l.toArray=true)(hC:D w.drew)
  (h:wpQuiet P l.toArray (fun w'=>∃z:fZ D,w'=z.w) (fun a'=>∀w',(∃z:fZ D,w'=z.w)->Q .normal a' w') l a):(Code.region id l.toArray true).wp P Q a w :=
 wp_region_quiet (C:=fun w'=>∃z:fZ D,w'=z.w) hm hB ⟨⟨_,hC⟩,rfl⟩ (by simpa using h)
theorem jK.only{G:Nat->Prop}{W w w':World}(h:jK W w)(ho:Only G W w'):Only G w w' :=
 ⟨ho.os.trans h.2.1,ho.tape.trans h.2.2.1,ho.output.trans h.2.2.2,by have:=ho.size;rw[h.1]at this;exact this,fun k hk hn=>by rw[ho.block k (by rw[h.1];exact hk) hn,h.1]⟩
theorem jK.below{W w w':World}(h:jK W w)(ho:Below W.heap.size W w'):Below w.heap.size w w' :=
 ⟨ho.os.trans h.2.1,ho.tape.trans h.2.2.1,ho.output.trans h.2.2.2,by have:=ho.size;rw[h.1]at this;exact this,fun k hk=>by rw[ho.block k (by rw[h.1];exact hk),h.1]⟩
theorem Yp{w w3 w4:World}{S:Nat}{v v':Value}(hO:Only (fun j=>j=S\/v.ownBlock=some j) w w3)(h4:Only (fun k=>v'.ownBlock=some k) w3 w4)(hat:v'.ownBlock=v.ownBlock\/∃j,v'.ownBlock=some j/\w.heap.size<=j):Only (fun j=>j=S\/v.ownBlock=some j) w w4:=by
 refine⟨h4.os.trans hO.os,h4.tape.trans hO.tape,h4.output.trans hO.output,Nat.le_trans hO.size h4.size,fun k hk hn=>(h4.block k (Nat.lt_of_lt_of_le hk hO.size) (fun e=>?_)).trans (hO.block k hk hn)⟩
 rcases hat with h|⟨j,h,hj⟩
 ·exact hn (.inr (h.symm.trans e))
 ·rw[h]at e
  injection e with e
  omega
theorem Yq{w w3:World}{v v' v'':Value}(hat:v'.ownBlock=v.ownBlock\/∃j,v'.ownBlock=some j/\w.heap.size<=j)(h4:v''.ownBlock=v'.ownBlock\/v''.ownBlock=some w3.heap.size)(hs:w.heap.size<=w3.heap.size):v''.ownBlock=v.ownBlock\/∃j,v''.ownBlock=some j/\w.heap.size<=j:=by
 rcases h4 with h4|h4
 ·rw[h4];exact hat
 ·exact .inr ⟨_,h4,hs⟩
theorem DX(h:Nat):1<=hlen h/\hlen h<=5:=by unfold hlen;omega
theorem Hw(nx:Nat)(bg:aj)(kd nm:Nat)(h:nm<=1048576):bQ nx bg kd nm<=1048576:=by
 have:=DX (ak bg 0)
 unfold bQ
 repeat' split
 all_goals omega
theorem Yr(nx:Nat)(bg t:aj)(kd nm:Nat)(h:bg.length+t.length<=bQ nx bg kd nm):(bg++t).length<=bQ nx (bg++t) kd nm:=by
 rw[List.length_append]
 by_cases h3:nx=3
 ·subst h3
  by_cases hb:bg=[]
  ·subst hb
   rw[List.nil_append]
   have h1:t.length<=1:=by simpa[bQ]using h
   by_cases ht:t=[]
   ·subst ht;simp
   ·rw[show bQ 3 t kd nm=hlen (ak t 0)from if_neg ht]
    have:=DX (ak t 0)
    simp
    omega
  ·rw[show bQ 3 bg kd nm=hlen (ak bg 0)from if_neg hb]at h
   rw[show bQ 3 (bg++t) kd nm=hlen (ak (bg++t) 0)from if_neg (fun e=>hb (List.append_eq_nil_iff.1 e).1),G8 _ _ _ (List.length_pos_iff.2 hb)]
   exact h
 ·unfold bQ at h⊢
  simpa[h3]using h
theorem wrap_small(d:Nat)(h:d<=1099511627776):IntKind.i64.wrap (d:Int)=(d:Int):=by
 simp[IntKind.wrap,IntKind.signed,IntKind.bits]
 omega
theorem Yt(B S o:Nat)(t:TypeId)(gs:List Value)(v:Value)(L T:aj)(w:World)(hb:aB w S t gs)(ho:gs[o]?=some v)(hr:aT B w v L)(hs:L.length+T.length<=140737488355328)(hB:B<=w.heap.size)(ht:t≠5) :
  ∀W:World,jK W w->∃v' w',(Builtin.append_ #[36,9] 36 #[v,.string (ah T)]).run prog W=.ok v' w' /\
   ∃a c,v'=.slice a (L.length+T.length) c/\aT B w' (.slice a (L.length+T.length) c) (L++T)/\Only (fun k=>v.ownBlock=some k) w w'/\((Value.slice a (L.length+T.length) c).ownBlock=v.ownBlock\/(Value.slice a (L.length+T.length) c).ownBlock=some w.heap.size) /\
    aB w' S t gs/\w'.cell? ⟨S,o,none⟩=some v/\∀j,w'.frozen? ⟨S,j,none⟩=false:=by
 intro W zX
 have hW:=zX.1
 obtain⟨v',w',hrun,hR,hO,hat⟩:=Dx B 9 36 W v _ L T (hr.same hW) (zN W T) hs (by rw[hW];exact hB)
 obtain⟨a,c,rfl,q1,q2,q3⟩:=hR.form
 have hbW:aB W S t gs:=by unfold aB;rw[hW];exact hb
 have hb':=hbW.only hO (fun e=>((hr.same hW).blk e).2.ne hbW ht rfl)
 rw[List.length_append]at *
 rw[hW]at hat
 exact⟨_,w',hrun,a,c,rfl,hR,zX.only hO,hat,hb',hb'.cell ho,hb'.free⟩
def Yu(B S:Nat)(t:TypeId)(ss:List Value)(nx:Nat)(v:Value)(bg s:aj)(kd nm:Nat)(w:World)(e:Ending)(w':World):Prop :=
 ∃k v',k<=s.length/\(bg++s.take k).length<=bQ nx (bg++s.take k) kd nm/\e=.returned (.tuple #[.string (ah (s.drop k)),.bool (decide ((bg++s.take k).length=bQ nx (bg++s.take k) kd nm))])/\((bg++s.take k).length=bQ nx (bg++s.take k) kd nm\/k=s.length) /\
  aB w' S t (ss.set 6 v')/\aT B w' v' (bg++s.take k)/\Only (fun j=>j=S\/v.ownBlock=some j) w w'/\(v'.ownBlock=v.ownBlock\/∃j,v'.ownBlock=some j/\w.heap.size<=j)
theorem Yv(B S:Nat)(t:TypeId)(ss:List Value)(nx:Nat)(v:Value)(bg s:aj)(lk:Bool)(kd nm:Nat)(w:World)(h:Hf B S t ss nx v bg lk kd nm w)(hle:bg.length<=bQ nx bg kd nm)(h2:nx≠2)(hs:s.length<=1099511627776)(ht:t≠5)(hB:B<=w.heap.size) :
  Calls prog 56 #[.pointer (some ⟨S,0,none⟩),.string (ah s)] w (Yu B S t ss nx v bg s kd nm w):=by
 have c5:=h.blk.cell h.next
 have h2':((nx:Int)==2)=false:=by simp;omega
 have hgo:∀(k:Nat)(v':Value)(wr:World),aB wr S t (ss.set 6 v')->aT B wr v' (bg++s.take k)->(bg++s.take k).length<=1048576->∀z:fZ (Below wr.heap.size wr),
   Calls prog 77 #[.pointer (some ⟨S,0,none⟩)] z.w fun e w'=>e=.returned (.int .i64 (bQ nx (bg++s.take k) kd nm:Nat))/\∃z':fZ (Below wr.heap.size wr),w'=z'.w:=by
  intro k v' wr hb hr hbl z
  have hx:∀j,j≠6->(ss.set 6 v')[j]?=ss[j]?:=fun j hj=>List.getElem?_set_ne (fun e=>hj e.symm)
  have h6:(ss.set 6 v')[6]?=some v':=List.getElem?_set_self (List.getElem?_eq_some_iff.1 h.begun).1
  refine(X3 B S t (ss.set 6 v') nx v' (bg++s.take k) lk kd nm z.w ⟨hb.below z.ok hb.lt,by rw[hx 5 (by omega)];exact h.next,h6,hr.only (aH (G:=fun _=>False) z.ok) (fun _ _ e=>e),by rw[hx 31 (by omega)];exact h.last,by rw[hx 32 (by omega)];exact h.kind,by rw[hx 33 (by omega)];exact h.num,h.lV,hbl,h.small.2⟩).mono ?_
  rintro e w' ⟨rfl,hb'⟩
  exact⟨rfl,⟨w',z.ok.trans ⟨hb'.os,hb'.tape,hb'.output,hb'.size,fun k hk=>hb'.block k (Nat.lt_of_lt_of_le hk z.ok.size)⟩⟩,rfl⟩
 have hz:=aQ s
 go_enter func56,ntmps56
 go_wp2_with fail
 go_loopg[1] (s.length+1) (fun gh tv wr=>∃(k:Nat)(v':Value),gh=s.length+1-k/\k<=s.length/\tv=.string (ah (s.drop k))/\(bg++s.take k).length<=bQ nx (bg++s.take k) kd nm/\(bg++s.take k).length<=1048576 /\
   aB wr S t (ss.set 6 v')/\aT B wr v' (bg++s.take k)/\Only (fun j=>j=S\/v.ownBlock=some j) w wr/\(v'.ownBlock=v.ownBlock\/∃j,v'.ownBlock=some j/\w.heap.size<=j))
 case atStart =>
  refine⟨0,v,by omega,by omega,by rw[List.drop_zero],by rw[List.take_zero,List.append_nil];exact hle,by rw[List.take_zero,List.append_nil];exact h.small.1,?_,by rw[List.take_zero,List.append_nil];exact h.row,Only.refl _ _,.inl rfl⟩
  rw[qg h.begun]
  exact h.blk
 case round =>
  obtain⟨k,v',rfl,hk,rfl,hu,hbl,hb,hr,hO,hat⟩:=hrel
  have hcall:=hgo k v' _ hb hr hbl
  obtain⟨a,cc,rfl,q1,q2,q3⟩:=hr.form
  have hsz:=aQ (s.drop k)
  have hdl:(s.drop k).length=s.length-k:=by simp
  have ahW:(bg++s.take k).length=bg.length+k:=by rw[List.length_append,List.length_take];omega
  have Yw:bQ nx (bg++s.take k) kd nm<=1048576:=Hw _ _ _ _ h.small.2
  obtain⟨U,hU⟩:∃U,U=bQ nx (bg++s.take k) kd nm:=⟨_,rfl⟩
  obtain⟨n,hn⟩:∃n,n=(bg++s.take k).length:=⟨_,rfl⟩
  have h6:(ss.set 6 (.slice a n cc))[6]?=some (.slice a n cc):=List.getElem?_set_self (List.getElem?_eq_some_iff.1 h.begun).1
  have hrn:=hr
  rw[<- hn]at hrn
  rw[<- hU]at hcall Yw hu
  rw[<- hn]at hu hbl hb hat
  have Hy:Hid ((bg++s.take k).length<=1048576):=by rw[Hid,<- hn];exact hbl
  obtain⟨m,hm⟩:∃m,m=min (U-n) (s.length-k):=⟨_,rfl⟩
  obtain⟨d,hd⟩:∃d,d=U-n:=⟨_,rfl⟩
  have hdw:Hid (IntKind.i64.wrap (d:Int)=(d:Int)):=wrap_small d (by omega)
  have hTl:((s.drop k).take m).length=m:=by rw[List.length_take,hdl];omega
  have hAB:Hid ((bg++s.take k).length+((s.drop k).take m).length<=140737488355328):=by rw[Hid,<- hn,hTl];omega
  replace hU:=aA hU
  replace hn:=aA hn
  replace hm:=aA hm
  replace hd:=aA hd
  have hT:=aA (Og (s.drop k))
  have hF:∀z:fZ (Below wr.heap.size wr),z.w.cell? ⟨S,6,none⟩=some (.slice a n cc):=fun z=>(hb.below z.ok hb.lt).cell h6
  by_cases hlt:n<U
  ·by_cases hem:s.drop k=[]
   ·have hlt':(n:Int)<(U:Int):=by omega
    have Yx:((ah (s.drop k)).toList.isEmpty)=true:=by rw[hT.out];simpa using hem
    have hne:((n:Int)==(U:Int))=false:=by simp;omega
    have hks:k=s.length:=by have:=List.drop_eq_nil_iff.1 hem;omega
    replace hem:=aA hem
    replace hks:=aA hks
    go_wp2_with fail
    haveI:Nonempty (fZ (Below wr.heap.size wr)):=⟨⟨wr,d_ wr⟩⟩
    refine qW (Below wr.heap.size wr) (by kernel_rfl) (by kernel_rfl) (jW (d_ wr)) ?_
    repeat (go_big_quiet_step(exact hcall _))
    refine wpQuiet_nil ?_
    rintro w2 ⟨⟨_,hb2⟩,rfl⟩
    have hbk2:=hb.below hb2 hb.lt
    have hr2:=hr.only (aH (G:=fun _=>False) hb2) (fun _ _ e=>e)
    rw[<- hn.out]at hr2
    have ny:=hgo k _ w2 hbk2 hr2 Hy.out
    rw[<- hU.out]at ny
    have hF2:∀z:fZ (Below w2.heap.size w2),z.w.cell? ⟨S,6,none⟩=some (.slice a n cc):=fun z=>(hbk2.below z.ok hbk2.lt).cell h6
    go_wp2_with fail
    haveI:Nonempty (fZ (Below w2.heap.size w2)):=⟨⟨w2,d_ w2⟩⟩
    refine qW (Below w2.heap.size w2) (by kernel_rfl) (by kernel_rfl) (jW (d_ w2)) ?_
    repeat (go_big_quiet_step(exact ny _))
    refine wpQuiet_nil ?_
    rintro w3 ⟨⟨_,hb3⟩,rfl⟩
    go_wp2_with fail
    go_ret2
    have xI:=hbk2.below hb3 hbk2.lt
    have hr3:=hr2.only (aH (G:=fun _=>False) hb3) (fun _ _ e=>e)
    have hO3:Only (fun j=>j=S\/v.ownBlock=some j) w w3:=(hO.below hb2).below hb3
    refine⟨k,_,hk,by rw[<- hn.out,<- hU.out];exact hu,?_,.inr hks.out,xI,hr3,hO3,hat⟩
    rw[<- hn.out,<- hU.out,show decide (n=U)=false by rw[decide_eq_false_iff_not];omega]
    rfl
   ·have hlt':(n:Int)<(U:Int):=by omega
    have Yx:((ah (s.drop k)).toList.isEmpty)=false:=by rw[hT.out];simpa using hem
    have hm1:(U:Int)-(n:Int)=(d:Int):=by have:=hd.out;omega
    have hmw:IntKind.i64.wrap (d:Int)=(d:Int):=hdw.out
    have hm2:min (d:Int) ((s.length-k:Nat):Int)=(m:Int):=by have:=hm.out;have:=hd.out;omega
    have ahX:m<=s.length-k:=by have:=hm.out;omega
    have hm0:0<m:=by
     have:=hm.out
     have:0<(s.drop k).length:=List.length_pos_iff.2 hem
     omega
    replace hem:=aA hem
    rw[hdl]at hsz
    go_wp2_with fail
    haveI:Nonempty (fZ (Below wr.heap.size wr)):=⟨⟨wr,d_ wr⟩⟩
    refine qW (Below wr.heap.size wr) (by kernel_rfl) (by kernel_rfl) (jW (d_ wr)) ?_
    repeat (go_big_quiet_step(exact hcall _))
    refine wpQuiet_nil ?_
    rintro w2 ⟨⟨_,hb2⟩,rfl⟩
    have hbk2:=hb.below hb2 hb.lt
    have hr2:=hr.only (aH (G:=fun _=>False) hb2) (fun _ _ e=>e)
    rw[<- hn.out]at hr2
    have ny:=hgo k _ w2 hbk2 hr2 Hy.out
    rw[<- hU.out]at ny
    have hF2:∀z:fZ (Below w2.heap.size w2),z.w.cell? ⟨S,6,none⟩=some (.slice a n cc):=fun z=>(hbk2.below z.ok hbk2.lt).cell h6
    go_wp2_with fail
    haveI:Nonempty (fZ (Below w2.heap.size w2)):=⟨⟨w2,d_ w2⟩⟩
    refine qW (Below w2.heap.size w2) (by kernel_rfl) (by kernel_rfl) (jW (d_ w2)) ?_
    repeat (go_big_quiet_step(exact ny _))
    refine wpQuiet_nil ?_
    rintro w3 ⟨⟨_,hb3⟩,rfl⟩
    have xI:=hbk2.below hb3 hbk2.lt
    have hr3:=hr2.only (aH (G:=fun _=>False) hb3) (fun _ _ e=>e)
    have happ:=Yt B S 6 t _ _ (bg++s.take k) ((s.drop k).take m) w3 xI h6 hr3 hAB.out (by have:=hO.size;have:=hb2.size;have:=hb3.size;omega) ht
    rw[<- hn.out,hTl]at happ
    have e6:=xI.cell h6
    have htk:=yO (s.drop k) m
    have htd:=mQ (s.drop k) m
    rw[hdl]at htd
    go_wp2_with fail
    go_region_law(refine Nu rfl (.tmp 44) (.tmp 47) 36 9 rfl (.slice a n cc) (.string (ah ((s.drop k).take m))) (by simp[Act.eval]) (by simp[Act.eval]) (happ _ (by exact⟨rfl,rfl,rfl,rfl⟩)) ?_;rintro _ w4 ⟨a4,c4,rfl,fA,hO4,Hz,hB4,f6,ff⟩)
    all_goals
     have qj:=hB4.put 6 (.slice a4 (n+m) c4)
     rw[List.set_set]at qj
     have gQ:aT B (w4.setCell ⟨S,6,none⟩ (.slice a4 (n+m) c4)) (.slice a4 (n+m) c4) (bg++s.take k++(s.drop k).take m):=fA.only ((Only.refl (·=S) _).setCell ⟨S,6,none⟩ _ (fun _=>rfl)) (fun j hj e=>(fA.blk hj).2.ne hB4 ht e)
     have hO3:Only (fun j=>j=S\/v.ownBlock=some j) w w3:=(hO.below hb2).below hb3
     have dB:Only (fun j=>j=S\/v.ownBlock=some j) w (w4.setCell ⟨S,6,none⟩ (.slice a4 (n+m) c4)):=(Yp hO3 hO4 hat).setCell ⟨S,6,none⟩ _ (fun _=>.inl rfl)
     have G6:(Value.slice a4 (n+m) c4).ownBlock=v.ownBlock\/∃j,(Value.slice a4 (n+m) c4).ownBlock=some j/\w.heap.size<=j:=Yq hat Hz hO3.size
     rw[List.append_assoc,<- List.take_add]at gQ
     have hgr:=Yr nx (bg++s.take k) ((s.drop k).take m) kd nm (by rw[<- hn.out,<- hU.out,hTl];have:=hm.out;omega)
     rw[List.append_assoc,<- List.take_add]at hgr
     have hgl:(bg++s.take (k+m)).length<=1048576:=Nat.le_trans hgr (Hw _ _ _ _ h.small.2)
     generalize w4.setCell ⟨S,6,none⟩ (.slice a4 (n+m) c4)=w5 at *
     replace hgr:=aA hgr
     replace hgl:=aA hgl
     go_wp2_with fail
     go_roundg(s.length+1-(k+m))
     case rel=>exact⟨k+m,_,rfl,by omega,rfl,hgr.out,hgl.out,qj,gQ,dB,G6⟩
     case measure=>omega
  ·have hlt':¬(n:Int)<(U:Int):=by omega
   have hne:((n:Int)==(U:Int))=true:=by simp;omega
   have DY:n=U:=by omega
   replace DY:=aA DY
   go_wp2_with fail
   haveI:Nonempty (fZ (Below wr.heap.size wr)):=⟨⟨wr,d_ wr⟩⟩
   refine qW (Below wr.heap.size wr) (by kernel_rfl) (by kernel_rfl) (jW (d_ wr)) ?_
   repeat (go_big_quiet_step(exact hcall _))
   refine wpQuiet_nil ?_
   rintro w2 ⟨⟨_,hb2⟩,rfl⟩
   have hbk2:=hb.below hb2 hb.lt
   have hr2:=hr.only (aH (G:=fun _=>False) hb2) (fun _ _ e=>e)
   rw[<- hn.out]at hr2
   have ny:=hgo k _ w2 hbk2 hr2 Hy.out
   rw[<- hU.out]at ny
   have hF2:∀z:fZ (Below w2.heap.size w2),z.w.cell? ⟨S,6,none⟩=some (.slice a n cc):=fun z=>(hbk2.below z.ok hbk2.lt).cell h6
   go_wp2_with fail
   haveI:Nonempty (fZ (Below w2.heap.size w2)):=⟨⟨w2,d_ w2⟩⟩
   refine qW (Below w2.heap.size w2) (by kernel_rfl) (by kernel_rfl) (jW (d_ w2)) ?_
   repeat (go_big_quiet_step(exact ny _))
   refine wpQuiet_nil ?_
   rintro w3 ⟨⟨_,hb3⟩,rfl⟩
   go_wp2_with fail
   go_ret2
   have xI:=hbk2.below hb3 hbk2.lt
   have hr3:=hr2.only (aH (G:=fun _=>False) hb3) (fun _ _ e=>e)
   have hO3:Only (fun j=>j=S\/v.ownBlock=some j) w w3:=(hO.below hb2).below hb3
   refine⟨k,_,hk,by rw[<- hn.out,<- hU.out];exact hu,?_,.inl (by rw[<- hn.out,<- hU.out];exact DY.out),xI,hr3,hO3,hat⟩
   rw[<- hn.out,<- hU.out,show decide (n=U)=true by rw[decide_eq_true_iff];exact DY.out]
   rfl
end
end Go.Proofs.YtbhemchnjpajiaaGreatDoor
