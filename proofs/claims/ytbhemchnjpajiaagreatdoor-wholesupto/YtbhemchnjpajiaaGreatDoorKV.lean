/- Several texts in one: PrTb4. -/
import Derived.Test.YtbhemchnjpajiaaGreatDoorKU
set_option linter.unusedVariables false
set_option maxRecDepth 100000
set_option maxHeartbeats 4000000
namespace Go.Proofs.YtbhemchnjpajiaaGreatDoor
open Go.RowKit Go.Proofs.Tryz RD
theorem Ei{k wy:Nat}{old:RD.Tab}{s:aj}{r:RD.Tab×Nat}(h:aZ k wy old s=some r):r.1.there=true:=by
 unfold aZ at h
 split at h
 ·injection h with h;rw[<- h]
 ·split at h
  ·split at h
   ·cases h
   ·injection h with h;rw[<- h]
  ·split at h
   ·split at h
    ·cases h
    ·simp only[]at h
     split at h
     ·injection h with h;rw[<- h]
     ·cases h
   ·split at h
    ·injection h with h;rw[<- h];assumption
    ·cases h
abbrev Tabs:=RD.Tab×RD.Tab×RD.Tab
def nS(k:Nat)(T:Tabs):RD.Tab:=if k=0 then T.1 else if k=1 then T.2.1 else T.2.2
def rW(k:Nat)(t:RD.Tab)(T:Tabs):Tabs:=if k=0 then(t,T.2.1,T.2.2)else if k=1 then(T.1,t,T.2.2)else(T.1,T.2.1,t)
theorem I4(k:Nat)(t:RD.Tab)(T:Tabs)(hk:k<=2):nS k (rW k t T)=t:=by
 rcases(by omega:k=0\/k=1\/k=2)with rfl|rfl|rfl<;>rfl
theorem I5(k j:Nat)(t:RD.Tab)(T:Tabs)(hk:k<=2)(hj:j<=2)(h:j≠k):nS j (rW k t T)=nS j T:=by
 rcases(by omega:k=0\/k=1\/k=2)with rfl|rfl|rfl<;>rcases(by omega:j=0\/j=1\/j=2)with rfl|rfl|rfl<;>first|rfl|exact absurd rfl h
def gy(md:Nat)(T:Tabs)(s:aj):Nat->Option (Tabs×Nat)
 | 0=>some (T,0)
 | k+1=>match gy md T s k with
  | none=>none
  | some (T',q)=>match aZ k (md/4^k%4) (nS k T') (s.drop q)with
   | none=>none
   | some (t,c)=>some (rW k t T',q+c)
theorem AQ{md:Nat}{T T':Tabs}{s:aj}{k q:Nat}(h:gy md T s k=some (T',q)):gy md T s (k+1)=match aZ k (md/4^k%4) (nS k T') (s.drop q)with
  | none=>none
  | some (t,c)=>some (rW k t T',q+c):=by
 rw[gy,h]
theorem yg{md:Nat}{T:Tabs}{s:aj}{k:Nat}(h:gy md T s k=none):∀j,gy md T s (k+j)=none
 | 0=>h
 | j+1=>by
  show(match gy md T s (k+j)with|none=>none|some (T',q)=>_)=none
  rw[yg h j]
def iC(w:World)(gs:List Value)(o:Nat)(T:Tabs):Prop:=∀k,k<=2->∃v,gs[o+1+k*2]?=some (.int .i64 ((nS k T).log:Nat))/\gs[o+1+k*2+1]?=some v/\rV w v (nS k T)
theorem rV.only{G:Nat->Prop}{w w':World}{v:Value}{t:RD.Tab}(h:rV w v t)(ho:Only G w w')(hn:∀b xs,aB w b 226 xs->¬G b):rV w' v t:=by
 rcases h with h|⟨h1,h2⟩
 ·exact .inl h
 ·exact .inr ⟨h1,h2.only ho hn⟩
theorem iC.only{G:Nat->Prop}{w w':World}{gs:List Value}{o:Nat}{T:Tabs}(h:iC w gs o T)(ho:Only G w w')(hn:∀b xs,aB w b 226 xs->¬G b):iC w' gs o T:=fun k hk=>by
 obtain⟨v,h1,h2,h3⟩:=h k hk
 exact⟨v,h1,h2,h3.only ho hn⟩
theorem iC.put{w:World}{gs:List Value}{o:Nat}{T:Tabs}(h:iC w gs o T)(k:Nat)(t:RD.Tab)(v:Value)(hk:k<=2)(hv:rV w v t):iC w ((gs.set (o+1+k*2) (.int .i64 (t.log:Nat))).set (o+1+k*2+1) v) o (rW k t T):=fun j hj=>by
 obtain⟨v',h1,h2,h3⟩:=h j hj
 by_cases e:j=k
 ·subst e
  rw[I4 j t T hj]
  have l1:=(List.getElem?_eq_some_iff.1 h1).1
  have l2:=(List.getElem?_eq_some_iff.1 h2).1
  exact⟨v,by rw[List.getElem?_set_ne (by omega),List.getElem?_set_self l1],by rw[List.getElem?_set_self (by rw[List.length_set];exact l2)],hv⟩
 ·rw[I5 k j t T hk hj e]
  exact⟨v',by rw[List.getElem?_set_ne (by omega),List.getElem?_set_ne (by omega)];exact h1,by rw[List.getElem?_set_ne (by omega),List.getElem?_set_ne (by omega)];exact h2,h3⟩
def rX(o:Nat)(gs gs':List Value):Prop:=gs'.length=gs.length/\∀j,j<o+1\/o+7<=j->gs'[j]?=gs[j]?
theorem rX.put{o:Nat}{gs gs':List Value}(h:rX o gs gs')(k:Nat)(hk:k<=2)(a b:Value):rX o gs ((gs'.set (o+1+k*2) a).set (o+1+k*2+1) b) :=
 ⟨by rw[List.length_set,List.length_set];exact h.1,fun j hj=>by rw[List.getElem?_set_ne (by omega),List.getElem?_set_ne (by omega)];exact h.2 j hj⟩
def aa3(x:Fx)(g o p M n:Nat)(t:TypeId)(gs:List Value)(T:Tabs)(s:aj)(w:World)(e:Ending)(w':World):Prop :=
 Only (fun b=>b=p\/b=M\/b=g) w w' /\
  (((s.length=0\/64<=ak s 0\/gy (ak s 0) T (s.drop 1) 3=none)/\e=.returned (aW x.f)/\∃gs',aB w' g t gs'/\rX o gs gs') \/
   ∃T' q gs',s.length≠0/\ak s 0<64/\gy (ak s 0) T (s.drop 1) 3=some (T',q)/\e=.returned .nilIface/\aB w' g t gs'/\rX o gs gs'/\iC w' gs' o T'/\bD w' p (s.drop (1+q))/\bP w' M (n+3))
theorem aa4(x:Fx)(g o p M n:Nat)(t:TypeId)(gs:List Value)(T:Tabs)(s:aj)(w:World)(hG:aB w g t gs)(hg0:gs[o]?=some (.map (some M)))(hT:iC w gs o T)(h:bD w p s)(hV:bI x w)(hs:s.length<=1048576)(hM:bP w M n)(hn:n<900000000)(hpb:x.base<=p)(fV:x.base<=M)(hgb:x.base<=g)(bH:g≠p)(htt:t≠226) :
  Calls prog 137 #[.pointer (some ⟨g,o,none⟩),.pointer (some ⟨p,0,none⟩)] w (aa3 x g o p M n t gs T s w):=by
 have hl:=aB.lt h
 go_enter func137,ntmps137
 go_wp2_with fail
 refine(vH x p s 1 _ h hV (by omega) (by omega)).mono ?_
 rintro e w1 (⟨h1,rfl,hb⟩|⟨h1,rfl,rfl⟩)
 ·go_wp2_with fail
  go_ret
  exact⟨aH hb,.inl ⟨.inl (by omega),rfl,gs,hG.below hb hG.lt,rfl,fun _ _=>rfl⟩⟩
 ·have hnum:au (s.take 1)=ak s 0:=vJ s (by omega)
  have hat:ak s 0<=255:=dQ s 0
  have gW:=(Only.refl (·=p) w).setCell ⟨p,0,none⟩ (.string (ah (s.drop 1))) (fun _=>rfl)
  have aF:Only (fun b=>b=p\/b=M\/b=g) w (w.setCell ⟨p,0,none⟩ (.string (ah (s.drop 1)))):=gW.weaken (fun _ _ e=>.inl e)
  have hG1:=hG.only gW bH
  have hM1:=hM.only gW (fun e=>hM.ne h e) (fun b xs hb e=>hb.apart h (by decide) e)
  have hp1:bD (w.setCell ⟨p,0,none⟩ (.string (ah (s.drop 1)))) p (s.drop 1):=aB.put h 0 _
  have hV1:=hV.only gW (fun k e=>by rw[e];exact hpb)
  have hT1:=hT.only gW (fun b xs hb e=>hb.apart h (by decide) e)
  rw[hnum]
  replace hnum:=aA hnum
  clear gW
  generalize w.setCell ⟨p,0,none⟩ (.string (ah (s.drop 1)))=w1 at *
  have cF:=hV1.cF
  obtain⟨c,hc⟩:∃c,ak s 0=c:=⟨_,rfl⟩
  rw[hc]at hat⊢
  by_cases hbig:64<=c
  ·have hand:¬bits .and .i64 (c:Int) 192=0:=by
    have:=zG c 192 (by omega) (by omega)
    rw[show((192:Nat):Int)=192 from rfl]at this
    rw[this]
    intro e
    have e2:c &&& 192=0:=by omega
    have:∀n:Nat,n<256->64<=n->n &&& 192≠0:=by decide
    exact this c (by omega) hbig e2
   go_wp2_with fail
   go_ret
   exact⟨aF,.inl ⟨.inr (.inl (by rw[hc];exact hbig)),rfl,gs,hG1,rfl,fun _ _=>rfl⟩⟩
  ·have hand:bits .and .i64 (c:Int) 192=0:=by
    have:=zG c 192 (by omega) (by omega)
    rw[show((192:Nat):Int)=192 from rfl]at this
    rw[this]
    have e:∀n:Nat,n<64->n &&& 192=0:=by decide
    rw[e c (by omega)]
    rfl
   obtain⟨s1,hs1⟩:∃s1,s.drop 1=s1:=⟨_,rfl⟩
   rw[hs1]at hp1
   have PN:s1.length<=1048576:=by rw[<- hs1,List.length_drop];omega
   replace hs1:=aA hs1
   go_wp2_with fail
   go_loopg[20] 4 (fun gh kv wj=>∃(k:Nat)(T':Tabs)(q:Nat)(gs':List Value),gh=4-k/\k<=3/\kv=.int .i64 (k:Int)/\gy c T s1 k=some (T',q)/\aB wj g t gs'/\rX o gs gs'/\iC wj gs' o T'/\bD wj p (s1.drop q)/\bP wj M (n+k)/\bI x wj/\Only (fun b=>b=p\/b=M\/b=g) w1 wj)
   case atStart=>exact⟨0,T,0,gs,rfl,by omega,rfl,rfl,hG1,⟨rfl,fun _ _=>rfl⟩,hT1,hp1,hM1,hV1,Only.refl _ _⟩
   case round =>
    obtain⟨k,T',q,gs',rfl,hk,rfl,hrun,lN,dL,hTj,AU,hMj,hVj,jD⟩:=hrel
    by_cases hk3:k<3
    ·have aiU:(k:Int)<3:=by omega
     have hmb:=fV
     obtain⟨v,q1,q2,q3⟩:=hTj k (by omega)
     obtain⟨old,hold⟩:∃old,nS k T'=old:=⟨_,rfl⟩
     rw[hold]at q1 q3
     obtain⟨wy,hwy⟩:∃wy,c/4^k%4=wy:=⟨_,rfl⟩
     have aa5:wy<=3:=by rw[<- hwy];omega
     have aa6:gs'[o]?=some (.map (some M)):=by rw[dL.2 o (.inl (by omega))];exact hg0
     have hsq:(s1.drop q).length<=1048576:=by rw[List.length_drop];omega
     have hcall:=fun(W:World)(hW:Only (fun _=>False) wr W)=>aa2 x g o k wy p M (n+k) t gs' old v (s1.drop q) W (lN.only hW (fun e=>e)) aa6 (by omega) aa5 (aB.only AU hW (fun e=>e)) (hVj.only hW (fun _ e=>e.elim)) hsq (hMj.only hW (fun e=>e) (fun _ _ _ e=>e)) (by omega) hpb fV bH q1 q2 (q3.only hW (fun _ _ _ e=>e))
     replace hcall:=aA hcall
     -- ROUNDS
     have hrun2:=AQ hrun
     rw[hold,hwy]at hrun2
     rcases(by omega:k=0\/k=1\/k=2)with rfl|rfl|rfl
     ·have hA:bits .and .i64 ((c:Int)) 3=(wy:Int):=by
       rw[show(c:Int)=((c/1:Nat):Int) by omega,zS _ (by omega)]
       have:c/1%4=wy:=by simpa using hwy
       rw[this]
      have hwp:IntKind.i64.wrap 0=0:=by decide
      have uw:¬(g=p\/g=M):=fun e=>e.elim bH (fun e=>hMj.ne lN e.symm)
      have AV:∀b xs,aB wr b 226 xs->¬(b=p\/b=M):=fun b xs hb e=>e.elim (fun e=>hb.apart AU (by decide) e) (fun e=>hMj.ne hb e.symm)
      have e0:gs'[o+1]?=some (.int .i64 (old.log:Nat)):=q1
      have e1:gs'[o+1+1]?=some v:=q2
      replace hwy:=aA hwy
      replace hold:=aA hold
      cases hR:aZ 0 wy old (s1.drop q)with
      | none =>
       rw[hR]at hrun2
       have rQ:Hid (∀W:World,Only (fun _=>False) wr W->Calls prog 147 #[.pointer (some ⟨g,o,none⟩),.int .i64 0,.int .i64 (wy:Int),.pointer (some ⟨p,0,none⟩)] W fun e w'=>e=.returned (.tuple #[.agg #[.int .i64 0,.slice none 0 0],aW x.f])/\Only (fun b=>b=p\/b=M) W w'):=fun W hW=>(hcall.out W hW).mono fun e w' hq=>by
        obtain⟨h1,h2|⟨tt,cc,v7,h2,-⟩⟩:=hq
        ·exact⟨h2.2,h1⟩
        ·rw[hR]at h2;cases h2
       replace hrun2:=aA hrun2
       replace hR:=aA hR
       go_wp2_with fail
       go_region_with(go_at_call 147;refine(rQ.out _ ?_).mono ?_;exact(Only.refl _ _).drew;rintro e w7 ⟨rfl,dU⟩;have dP:=lN.only (dM dU) uw;have d0:=dP.cell e0;have d1:=dP.cell e1;have uo:=dP.free)
       all_goals go_wp2_with fail
       all_goals go_ret
       all_goals
        have hn3:gy c T s1 3=none:=yg (k:=1) hrun2.out 2
        have jR:Only (fun b=>b=p\/b=M\/b=g) w ((w7.setCell ⟨g,o+1,none⟩ (.int .i64 0)).setCell ⟨g,o+1+1,none⟩ (.slice none 0 0)):=(((aF.trans jD).trans ((dM dU).weaken (fun _ _ e=>e.elim .inl (fun e=>.inr (.inl e))))).setCell ⟨g,o+1,none⟩ _ (fun _=>.inr (.inr rfl))).setCell ⟨g,o+1+1,none⟩ _ (fun _=>.inr (.inr rfl))
        exact⟨jR,.inl ⟨.inr (.inr (by rw[hc,hs1.out];exact hn3)),rfl,_,(dP.put (o+1) (.int .i64 0)).put (o+1+1) (.slice none 0 0),dL.put 0 (by omega) _ _⟩⟩
      | some r =>
       obtain⟨tt,cc⟩:=r
       rw[hR]at hrun2
       obtain⟨N7,fC⟩:∃q,tt.l.length=q:=⟨_,rfl⟩
       obtain⟨g7,fD⟩:∃q,tt.log=q:=⟨_,rfl⟩
       have rU:Hid (∀W:World,Only (fun _=>False) wr W->Calls prog 147 #[.pointer (some ⟨g,o,none⟩),.int .i64 0,.int .i64 (wy:Int),.pointer (some ⟨p,0,none⟩)] W fun e w'=>∃b7 c7,e=.returned (.tuple #[.agg #[.int .i64 (g7:Nat),.slice (some ⟨b7,0,none⟩) N7 c7],.nilIface])/\aB w' b7 226 (CM.cellsOf tt.l)/\bD w' p ((s1.drop q).drop cc)/\bP w' M (n+0+1)/\Only (fun b=>b=p\/b=M) W w'):=fun W hW=>(hcall.out W hW).mono fun e w' hq=>by
        obtain⟨h1,h2|⟨PO,cc',v7,h2,rfl,⟨b7,c7,rfl,hb7⟩,jQ,iy⟩⟩:=hq
        ·rw[hR]at h2;cases h2.1
        ·rw[hR]at h2
         obtain⟨rfl,rfl⟩:=Prod.mk.inj (Option.some.inj h2)
         exact⟨b7,c7,by rw[fD,fC],hb7,jQ,iy,h1⟩
       replace hrun2:=aA hrun2
       replace hR:=aA hR
       replace fC:=aA fC
       replace fD:=aA fD
       go_wp2_with fail
       go_region_with(go_at_call 147;refine(rU.out _ ?_).mono ?_;exact(Only.refl _ _).drew;rintro e w7 ⟨b7,c7,rfl,hb7,jQ,iy,dU⟩;have dP:=lN.only (dM dU) uw;have d0:=dP.cell e0;have d1:=dP.cell e1;have uo:=dP.free)
       all_goals
        have oW:=(dP.put (o+1) (.int .i64 (g7:Nat))).put (o+1+1) (.slice (some ⟨b7,0,none⟩) N7 c7)
        have iO:Only (·=g) w7 ((w7.setCell ⟨g,o+1,none⟩ (.int .i64 (g7:Nat))).setCell ⟨g,o+1+1,none⟩ (.slice (some ⟨b7,0,none⟩) N7 c7)):=((Only.refl (·=g) w7).setCell ⟨g,o+1,none⟩ _ (fun _=>rfl)).setCell ⟨g,o+1+1,none⟩ _ (fun _=>rfl)
        have jR:Only (fun b=>b=p\/b=M\/b=g) w1 ((w7.setCell ⟨g,o+1,none⟩ (.int .i64 (g7:Nat))).setCell ⟨g,o+1+1,none⟩ (.slice (some ⟨b7,0,none⟩) N7 c7)):=((jD.trans ((dM dU).weaken (fun _ _ e=>e.elim .inl (fun e=>.inr (.inl e))))).setCell ⟨g,o+1,none⟩ _ (fun _=>.inr (.inr rfl))).setCell ⟨g,o+1+1,none⟩ _ (fun _=>.inr (.inr rfl))
        have hgs:∀b xs,aB w7 b 226 xs->¬b=g:=fun b xs hb e=>hb.apart dP (fun e=>htt e.symm) e
        have hb8:=hb7.only iO (fun e=>hgs _ _ hb7 e)
        have lQ:=((hTj.only (dM dU) AV).only iO hgs).put 0 tt (.slice (some ⟨b7,0,none⟩) N7 c7) (by omega) (.inr ⟨Ei hR.out,b7,c7,by rw[fC.out],hb8⟩)
        have mF:bD _ p ((s1.drop q).drop cc):=aB.only jQ iO (fun e=>bH e.symm)
        have oZ:=iy.only iO (fun e=>iy.ne dP e) hgs
        have o7:=(hVj.only (dM dU) (fun k e=>e.elim (fun e=>by rw[e];exact hpb) (fun e=>by rw[e];exact fV))).only iO (fun k e=>by rw[e];exact hgb)
        rw[fD.out]at lQ
        have o8:=dL.put 0 (by omega) (.int .i64 (g7:Nat)) (.slice (some ⟨b7,0,none⟩) N7 c7)
        have hfin:Hid (∃(T'':Tabs)(q':Nat)(gs'':List Value),gy c T s1 1=some (T'',q')/\aB ((w7.setCell ⟨g,o+1,none⟩ (.int .i64 (g7:Nat))).setCell ⟨g,o+1+1,none⟩ (.slice (some ⟨b7,0,none⟩) N7 c7)) g t gs''/\rX o gs gs''/\iC ((w7.setCell ⟨g,o+1,none⟩ (.int .i64 (g7:Nat))).setCell ⟨g,o+1+1,none⟩ (.slice (some ⟨b7,0,none⟩) N7 c7)) gs'' o T''/\bD ((w7.setCell ⟨g,o+1,none⟩ (.int .i64 (g7:Nat))).setCell ⟨g,o+1+1,none⟩ (.slice (some ⟨b7,0,none⟩) N7 c7)) p (s1.drop q')/\bP ((w7.setCell ⟨g,o+1,none⟩ (.int .i64 (g7:Nat))).setCell ⟨g,o+1+1,none⟩ (.slice (some ⟨b7,0,none⟩) N7 c7)) M (n+1)/\bI x ((w7.setCell ⟨g,o+1,none⟩ (.int .i64 (g7:Nat))).setCell ⟨g,o+1+1,none⟩ (.slice (some ⟨b7,0,none⟩) N7 c7))/\Only (fun b=>b=p\/b=M\/b=g) w1 ((w7.setCell ⟨g,o+1,none⟩ (.int .i64 (g7:Nat))).setCell ⟨g,o+1+1,none⟩ (.slice (some ⟨b7,0,none⟩) N7 c7))) :=
         ⟨_,_,_,hrun2.out,oW,o8,lQ,by rw[<- List.drop_drop];exact mF,oZ,o7,jR⟩
        replace oW:=aA oW
        replace iO:=aA iO
        replace jR:=aA jR
        replace hb8:=aA hb8
        replace lQ:=aA lQ
        replace mF:=aA mF
        replace oZ:=aA oZ
        replace o7:=aA o7
        replace o8:=aA o8
        go_wp2_with fail
       all_goals go_roundg(4-1)
       all_goals first
        | omega
        | (obtain⟨T'',q',gs'',f1,f2,f3,f4,f5,f6,f7,f8⟩:=hfin.out;exact⟨1,T'',q',gs'',rfl,by omega,by go_num,f1,f2,f3,f4,f5,f6,f7,f8⟩)
     ·have hA:bits .and .i64 ((c:Int)/4) 3=(wy:Int):=by
       rw[show(c:Int)/4=((c/4:Nat):Int) by omega,zS _ (by omega)]
       have:c/4%4=wy:=by simpa using hwy
       rw[this]
      have hwp:IntKind.i64.wrap 2=2:=by decide
      have uw:¬(g=p\/g=M):=fun e=>e.elim bH (fun e=>hMj.ne lN e.symm)
      have AV:∀b xs,aB wr b 226 xs->¬(b=p\/b=M):=fun b xs hb e=>e.elim (fun e=>hb.apart AU (by decide) e) (fun e=>hMj.ne hb e.symm)
      have e0:gs'[o+1+2]?=some (.int .i64 (old.log:Nat)):=q1
      have e1:gs'[o+1+2+1]?=some v:=q2
      replace hwy:=aA hwy
      replace hold:=aA hold
      cases hR:aZ 1 wy old (s1.drop q)with
      | none =>
       rw[hR]at hrun2
       have rQ:Hid (∀W:World,Only (fun _=>False) wr W->Calls prog 147 #[.pointer (some ⟨g,o,none⟩),.int .i64 1,.int .i64 (wy:Int),.pointer (some ⟨p,0,none⟩)] W fun e w'=>e=.returned (.tuple #[.agg #[.int .i64 0,.slice none 0 0],aW x.f])/\Only (fun b=>b=p\/b=M) W w'):=fun W hW=>(hcall.out W hW).mono fun e w' hq=>by
        obtain⟨h1,h2|⟨tt,cc,v7,h2,-⟩⟩:=hq
        ·exact⟨h2.2,h1⟩
        ·rw[hR]at h2;cases h2
       replace hrun2:=aA hrun2
       replace hR:=aA hR
       go_wp2_with fail
       go_region_with(go_at_call 147;refine(rQ.out _ ?_).mono ?_;exact(Only.refl _ _).drew;rintro e w7 ⟨rfl,dU⟩;have dP:=lN.only (dM dU) uw;have d0:=dP.cell e0;have d1:=dP.cell e1;have uo:=dP.free)
       all_goals go_wp2_with fail
       all_goals go_ret
       all_goals
        have hn3:gy c T s1 3=none:=yg (k:=2) hrun2.out 1
        have jR:Only (fun b=>b=p\/b=M\/b=g) w ((w7.setCell ⟨g,o+1+2,none⟩ (.int .i64 0)).setCell ⟨g,o+1+2+1,none⟩ (.slice none 0 0)):=(((aF.trans jD).trans ((dM dU).weaken (fun _ _ e=>e.elim .inl (fun e=>.inr (.inl e))))).setCell ⟨g,o+1+2,none⟩ _ (fun _=>.inr (.inr rfl))).setCell ⟨g,o+1+2+1,none⟩ _ (fun _=>.inr (.inr rfl))
        exact⟨jR,.inl ⟨.inr (.inr (by rw[hc,hs1.out];exact hn3)),rfl,_,(dP.put (o+1+2) (.int .i64 0)).put (o+1+2+1) (.slice none 0 0),dL.put 1 (by omega) _ _⟩⟩
      | some r =>
       obtain⟨tt,cc⟩:=r
       rw[hR]at hrun2
       obtain⟨N7,fC⟩:∃q,tt.l.length=q:=⟨_,rfl⟩
       obtain⟨g7,fD⟩:∃q,tt.log=q:=⟨_,rfl⟩
       have rU:Hid (∀W:World,Only (fun _=>False) wr W->Calls prog 147 #[.pointer (some ⟨g,o,none⟩),.int .i64 1,.int .i64 (wy:Int),.pointer (some ⟨p,0,none⟩)] W fun e w'=>∃b7 c7,e=.returned (.tuple #[.agg #[.int .i64 (g7:Nat),.slice (some ⟨b7,0,none⟩) N7 c7],.nilIface])/\aB w' b7 226 (CM.cellsOf tt.l)/\bD w' p ((s1.drop q).drop cc)/\bP w' M (n+1+1)/\Only (fun b=>b=p\/b=M) W w'):=fun W hW=>(hcall.out W hW).mono fun e w' hq=>by
        obtain⟨h1,h2|⟨PO,cc',v7,h2,rfl,⟨b7,c7,rfl,hb7⟩,jQ,iy⟩⟩:=hq
        ·rw[hR]at h2;cases h2.1
        ·rw[hR]at h2
         obtain⟨rfl,rfl⟩:=Prod.mk.inj (Option.some.inj h2)
         exact⟨b7,c7,by rw[fD,fC],hb7,jQ,iy,h1⟩
       replace hrun2:=aA hrun2
       replace hR:=aA hR
       replace fC:=aA fC
       replace fD:=aA fD
       go_wp2_with fail
       go_region_with(go_at_call 147;refine(rU.out _ ?_).mono ?_;exact(Only.refl _ _).drew;rintro e w7 ⟨b7,c7,rfl,hb7,jQ,iy,dU⟩;have dP:=lN.only (dM dU) uw;have d0:=dP.cell e0;have d1:=dP.cell e1;have uo:=dP.free)
       all_goals
        have oW:=(dP.put (o+1+2) (.int .i64 (g7:Nat))).put (o+1+2+1) (.slice (some ⟨b7,0,none⟩) N7 c7)
        have iO:Only (·=g) w7 ((w7.setCell ⟨g,o+1+2,none⟩ (.int .i64 (g7:Nat))).setCell ⟨g,o+1+2+1,none⟩ (.slice (some ⟨b7,0,none⟩) N7 c7)):=((Only.refl (·=g) w7).setCell ⟨g,o+1+2,none⟩ _ (fun _=>rfl)).setCell ⟨g,o+1+2+1,none⟩ _ (fun _=>rfl)
        have jR:Only (fun b=>b=p\/b=M\/b=g) w1 ((w7.setCell ⟨g,o+1+2,none⟩ (.int .i64 (g7:Nat))).setCell ⟨g,o+1+2+1,none⟩ (.slice (some ⟨b7,0,none⟩) N7 c7)):=((jD.trans ((dM dU).weaken (fun _ _ e=>e.elim .inl (fun e=>.inr (.inl e))))).setCell ⟨g,o+1+2,none⟩ _ (fun _=>.inr (.inr rfl))).setCell ⟨g,o+1+2+1,none⟩ _ (fun _=>.inr (.inr rfl))
        have hgs:∀b xs,aB w7 b 226 xs->¬b=g:=fun b xs hb e=>hb.apart dP (fun e=>htt e.symm) e
        have hb8:=hb7.only iO (fun e=>hgs _ _ hb7 e)
        have lQ:=((hTj.only (dM dU) AV).only iO hgs).put 1 tt (.slice (some ⟨b7,0,none⟩) N7 c7) (by omega) (.inr ⟨Ei hR.out,b7,c7,by rw[fC.out],hb8⟩)
        have mF:bD _ p ((s1.drop q).drop cc):=aB.only jQ iO (fun e=>bH e.symm)
        have oZ:=iy.only iO (fun e=>iy.ne dP e) hgs
        have o7:=(hVj.only (dM dU) (fun k e=>e.elim (fun e=>by rw[e];exact hpb) (fun e=>by rw[e];exact fV))).only iO (fun k e=>by rw[e];exact hgb)
        rw[fD.out]at lQ
        have o8:=dL.put 1 (by omega) (.int .i64 (g7:Nat)) (.slice (some ⟨b7,0,none⟩) N7 c7)
        have hfin:Hid (∃(T'':Tabs)(q':Nat)(gs'':List Value),gy c T s1 2=some (T'',q')/\aB ((w7.setCell ⟨g,o+1+2,none⟩ (.int .i64 (g7:Nat))).setCell ⟨g,o+1+2+1,none⟩ (.slice (some ⟨b7,0,none⟩) N7 c7)) g t gs''/\rX o gs gs''/\iC ((w7.setCell ⟨g,o+1+2,none⟩ (.int .i64 (g7:Nat))).setCell ⟨g,o+1+2+1,none⟩ (.slice (some ⟨b7,0,none⟩) N7 c7)) gs'' o T''/\bD ((w7.setCell ⟨g,o+1+2,none⟩ (.int .i64 (g7:Nat))).setCell ⟨g,o+1+2+1,none⟩ (.slice (some ⟨b7,0,none⟩) N7 c7)) p (s1.drop q')/\bP ((w7.setCell ⟨g,o+1+2,none⟩ (.int .i64 (g7:Nat))).setCell ⟨g,o+1+2+1,none⟩ (.slice (some ⟨b7,0,none⟩) N7 c7)) M (n+2)/\bI x ((w7.setCell ⟨g,o+1+2,none⟩ (.int .i64 (g7:Nat))).setCell ⟨g,o+1+2+1,none⟩ (.slice (some ⟨b7,0,none⟩) N7 c7))/\Only (fun b=>b=p\/b=M\/b=g) w1 ((w7.setCell ⟨g,o+1+2,none⟩ (.int .i64 (g7:Nat))).setCell ⟨g,o+1+2+1,none⟩ (.slice (some ⟨b7,0,none⟩) N7 c7))) :=
         ⟨_,_,_,hrun2.out,oW,o8,lQ,by rw[<- List.drop_drop];exact mF,oZ,o7,jR⟩
        replace oW:=aA oW
        replace iO:=aA iO
        replace jR:=aA jR
        replace hb8:=aA hb8
        replace lQ:=aA lQ
        replace mF:=aA mF
        replace oZ:=aA oZ
        replace o7:=aA o7
        replace o8:=aA o8
        go_wp2_with fail
       all_goals go_roundg(4-2)
       all_goals first
        | omega
        | (obtain⟨T'',q',gs'',f1,f2,f3,f4,f5,f6,f7,f8⟩:=hfin.out;exact⟨2,T'',q',gs'',rfl,by omega,by go_num,f1,f2,f3,f4,f5,f6,f7,f8⟩)
     ·have hA:bits .and .i64 ((c:Int)/16) 3=(wy:Int):=by
       rw[show(c:Int)/16=((c/16:Nat):Int) by omega,zS _ (by omega)]
       have:c/16%4=wy:=by simpa using hwy
       rw[this]
      have hwp:IntKind.i64.wrap 4=4:=by decide
      have uw:¬(g=p\/g=M):=fun e=>e.elim bH (fun e=>hMj.ne lN e.symm)
      have AV:∀b xs,aB wr b 226 xs->¬(b=p\/b=M):=fun b xs hb e=>e.elim (fun e=>hb.apart AU (by decide) e) (fun e=>hMj.ne hb e.symm)
      have e0:gs'[o+1+4]?=some (.int .i64 (old.log:Nat)):=q1
      have e1:gs'[o+1+4+1]?=some v:=q2
      replace hwy:=aA hwy
      replace hold:=aA hold
      cases hR:aZ 2 wy old (s1.drop q)with
      | none =>
       rw[hR]at hrun2
       have rQ:Hid (∀W:World,Only (fun _=>False) wr W->Calls prog 147 #[.pointer (some ⟨g,o,none⟩),.int .i64 2,.int .i64 (wy:Int),.pointer (some ⟨p,0,none⟩)] W fun e w'=>e=.returned (.tuple #[.agg #[.int .i64 0,.slice none 0 0],aW x.f])/\Only (fun b=>b=p\/b=M) W w'):=fun W hW=>(hcall.out W hW).mono fun e w' hq=>by
        obtain⟨h1,h2|⟨tt,cc,v7,h2,-⟩⟩:=hq
        ·exact⟨h2.2,h1⟩
        ·rw[hR]at h2;cases h2
       replace hrun2:=aA hrun2
       replace hR:=aA hR
       go_wp2_with fail
       go_region_with(go_at_call 147;refine(rQ.out _ ?_).mono ?_;exact(Only.refl _ _).drew;rintro e w7 ⟨rfl,dU⟩;have dP:=lN.only (dM dU) uw;have d0:=dP.cell e0;have d1:=dP.cell e1;have uo:=dP.free)
       all_goals go_wp2_with fail
       all_goals go_ret
       all_goals
        have hn3:gy c T s1 3=none:=yg (k:=3) hrun2.out 0
        have jR:Only (fun b=>b=p\/b=M\/b=g) w ((w7.setCell ⟨g,o+1+4,none⟩ (.int .i64 0)).setCell ⟨g,o+1+4+1,none⟩ (.slice none 0 0)):=(((aF.trans jD).trans ((dM dU).weaken (fun _ _ e=>e.elim .inl (fun e=>.inr (.inl e))))).setCell ⟨g,o+1+4,none⟩ _ (fun _=>.inr (.inr rfl))).setCell ⟨g,o+1+4+1,none⟩ _ (fun _=>.inr (.inr rfl))
        exact⟨jR,.inl ⟨.inr (.inr (by rw[hc,hs1.out];exact hn3)),rfl,_,(dP.put (o+1+4) (.int .i64 0)).put (o+1+4+1) (.slice none 0 0),dL.put 2 (by omega) _ _⟩⟩
      | some r =>
       obtain⟨tt,cc⟩:=r
       rw[hR]at hrun2
       obtain⟨N7,fC⟩:∃q,tt.l.length=q:=⟨_,rfl⟩
       obtain⟨g7,fD⟩:∃q,tt.log=q:=⟨_,rfl⟩
       have rU:Hid (∀W:World,Only (fun _=>False) wr W->Calls prog 147 #[.pointer (some ⟨g,o,none⟩),.int .i64 2,.int .i64 (wy:Int),.pointer (some ⟨p,0,none⟩)] W fun e w'=>∃b7 c7,e=.returned (.tuple #[.agg #[.int .i64 (g7:Nat),.slice (some ⟨b7,0,none⟩) N7 c7],.nilIface])/\aB w' b7 226 (CM.cellsOf tt.l)/\bD w' p ((s1.drop q).drop cc)/\bP w' M (n+2+1)/\Only (fun b=>b=p\/b=M) W w'):=fun W hW=>(hcall.out W hW).mono fun e w' hq=>by
        obtain⟨h1,h2|⟨PO,cc',v7,h2,rfl,⟨b7,c7,rfl,hb7⟩,jQ,iy⟩⟩:=hq
        ·rw[hR]at h2;cases h2.1
        ·rw[hR]at h2
         obtain⟨rfl,rfl⟩:=Prod.mk.inj (Option.some.inj h2)
         exact⟨b7,c7,by rw[fD,fC],hb7,jQ,iy,h1⟩
       replace hrun2:=aA hrun2
       replace hR:=aA hR
       replace fC:=aA fC
       replace fD:=aA fD
       go_wp2_with fail
       go_region_with(go_at_call 147;refine(rU.out _ ?_).mono ?_;exact(Only.refl _ _).drew;rintro e w7 ⟨b7,c7,rfl,hb7,jQ,iy,dU⟩;have dP:=lN.only (dM dU) uw;have d0:=dP.cell e0;have d1:=dP.cell e1;have uo:=dP.free)
       all_goals
        have oW:=(dP.put (o+1+4) (.int .i64 (g7:Nat))).put (o+1+4+1) (.slice (some ⟨b7,0,none⟩) N7 c7)
        have iO:Only (·=g) w7 ((w7.setCell ⟨g,o+1+4,none⟩ (.int .i64 (g7:Nat))).setCell ⟨g,o+1+4+1,none⟩ (.slice (some ⟨b7,0,none⟩) N7 c7)):=((Only.refl (·=g) w7).setCell ⟨g,o+1+4,none⟩ _ (fun _=>rfl)).setCell ⟨g,o+1+4+1,none⟩ _ (fun _=>rfl)
        have jR:Only (fun b=>b=p\/b=M\/b=g) w1 ((w7.setCell ⟨g,o+1+4,none⟩ (.int .i64 (g7:Nat))).setCell ⟨g,o+1+4+1,none⟩ (.slice (some ⟨b7,0,none⟩) N7 c7)):=((jD.trans ((dM dU).weaken (fun _ _ e=>e.elim .inl (fun e=>.inr (.inl e))))).setCell ⟨g,o+1+4,none⟩ _ (fun _=>.inr (.inr rfl))).setCell ⟨g,o+1+4+1,none⟩ _ (fun _=>.inr (.inr rfl))
        have hgs:∀b xs,aB w7 b 226 xs->¬b=g:=fun b xs hb e=>hb.apart dP (fun e=>htt e.symm) e
        have hb8:=hb7.only iO (fun e=>hgs _ _ hb7 e)
        have lQ:=((hTj.only (dM dU) AV).only iO hgs).put 2 tt (.slice (some ⟨b7,0,none⟩) N7 c7) (by omega) (.inr ⟨Ei hR.out,b7,c7,by rw[fC.out],hb8⟩)
        have mF:bD _ p ((s1.drop q).drop cc):=aB.only jQ iO (fun e=>bH e.symm)
        have oZ:=iy.only iO (fun e=>iy.ne dP e) hgs
        have o7:=(hVj.only (dM dU) (fun k e=>e.elim (fun e=>by rw[e];exact hpb) (fun e=>by rw[e];exact fV))).only iO (fun k e=>by rw[e];exact hgb)
        rw[fD.out]at lQ
        have o8:=dL.put 2 (by omega) (.int .i64 (g7:Nat)) (.slice (some ⟨b7,0,none⟩) N7 c7)
        have hfin:Hid (∃(T'':Tabs)(q':Nat)(gs'':List Value),gy c T s1 3=some (T'',q')/\aB ((w7.setCell ⟨g,o+1+4,none⟩ (.int .i64 (g7:Nat))).setCell ⟨g,o+1+4+1,none⟩ (.slice (some ⟨b7,0,none⟩) N7 c7)) g t gs''/\rX o gs gs''/\iC ((w7.setCell ⟨g,o+1+4,none⟩ (.int .i64 (g7:Nat))).setCell ⟨g,o+1+4+1,none⟩ (.slice (some ⟨b7,0,none⟩) N7 c7)) gs'' o T''/\bD ((w7.setCell ⟨g,o+1+4,none⟩ (.int .i64 (g7:Nat))).setCell ⟨g,o+1+4+1,none⟩ (.slice (some ⟨b7,0,none⟩) N7 c7)) p (s1.drop q')/\bP ((w7.setCell ⟨g,o+1+4,none⟩ (.int .i64 (g7:Nat))).setCell ⟨g,o+1+4+1,none⟩ (.slice (some ⟨b7,0,none⟩) N7 c7)) M (n+3)/\bI x ((w7.setCell ⟨g,o+1+4,none⟩ (.int .i64 (g7:Nat))).setCell ⟨g,o+1+4+1,none⟩ (.slice (some ⟨b7,0,none⟩) N7 c7))/\Only (fun b=>b=p\/b=M\/b=g) w1 ((w7.setCell ⟨g,o+1+4,none⟩ (.int .i64 (g7:Nat))).setCell ⟨g,o+1+4+1,none⟩ (.slice (some ⟨b7,0,none⟩) N7 c7))) :=
         ⟨_,_,_,hrun2.out,oW,o8,lQ,by rw[<- List.drop_drop];exact mF,oZ,o7,jR⟩
        replace oW:=aA oW
        replace iO:=aA iO
        replace jR:=aA jR
        replace hb8:=aA hb8
        replace lQ:=aA lQ
        replace mF:=aA mF
        replace oZ:=aA oZ
        replace o7:=aA o7
        replace o8:=aA o8
        go_wp2_with fail
       all_goals go_roundg(4-3)
       all_goals first
        | omega
        | (obtain⟨T'',q',gs'',f1,f2,f3,f4,f5,f6,f7,f8⟩:=hfin.out;exact⟨3,T'',q',gs'',rfl,by omega,by go_num,f1,f2,f3,f4,f5,f6,f7,f8⟩)
    ·obtain rfl:k=3:=by omega
     go_wp2_with fail
     go_ret
     refine⟨aF.trans jD,.inr ⟨T',q,gs',by omega,by rw[hc];omega,by rw[hc,hs1.out];exact hrun,rfl,lN,dL,hTj,?_,hMj⟩⟩
     rw[<- List.drop_drop,hs1.out]
     exact AU
end Go.Proofs.YtbhemchnjpajiaaGreatDoor
