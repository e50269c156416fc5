/- Several texts in one: SumRef, RefFrmM, RefFrm, RefFrm2. -/
import Derived.Test.YtbhemchnjpajiaaGreatDoorJI
import Derived.Deep.LoopGhost
import Derived.Deep.RegionWith
import Derived.Test.YtbhemchnjpajiaaGreatDoorMK
import Derived.Test.YtbhemchnjpajiaaGreatDoorMH
set_option linter.unusedVariables false
set_option maxRecDepth 100000
set_option maxHeartbeats 4000000
namespace Go.Proofs.YtbhemchnjpajiaaGreatDoor
open Go.RowKit Go.Proofs.Tryz
def yK(W:World)(B:Nat)(v:Nat->Int):Prop:=∀j,j<4->W.cell? ⟨B,j,none⟩=some (.int .i64 (v j))/\W.frozen? ⟨B,j,none⟩=false
theorem yK.put{W:World}{B:Nat}{v v':Nat->Int}(h:yK W B v)(i:Nat)(x:Int)(hi:i<4)(hx:v' i=x)(ho:∀t,t≠i->v' t=v t):yK (W.setCell ⟨B,i,none⟩ (.int .i64 x)) B v':=by
 intro j hj
 obtain⟨hc,hf⟩:=h j hj
 obtain⟨hci,hfi⟩:=h i hi
 by_cases e:j=i
 ·subst e
  refine⟨?_,by simpa using hf⟩
  rw[hx]
  exact World.cell?_setCell_same _ _ _ hci
 ·refine⟨?_,by simpa using hf⟩
  rw[ho j e,World.cell?_setCell_other _ _ _ _ (fun h=>e (by have:=congrArg Addr.off h;exact this.symm))]
  exact hc
theorem afN(s:ByteArray)(w:World)(hs:s.size<=140737488355328)(h16:16<=s.size) :
  Calls prog 73 #[.string s] w fun e w'=>e=.returned (.int .u32 (SM.sum s.data.toList))/\Below w.heap.size w w':=by
 have afO:decide ((16:Int)<=(s.size:Int))=true:=by simp;omega
 go_enter func73,ntmps73
 go_wp2_with fail
 go_loopg[5] s.size (fun g av wr=>∃i:Nat,g=s.size-16*i/\16*i<=s.size/\av=.int .i64 (16*(i:Int))/\yK wr w.heap.size (SM.stripe s.data.toList i).get/\Below w.heap.size w wr/\wr.heap.size=w.heap.size+1)
 case atStart =>
  refine⟨0,by omega,by omega,rfl,?_,(Below.refl _ _).alloc (Nat.le_refl _) _,by simp⟩
  intro j hj
  rcases(by omega:j=0\/j=1\/j=2\/j=3)with rfl|rfl|rfl|rfl<;>simp[SM.stripe,SM.Four.get,go_sem]
 case round =>
  obtain⟨i,rfl,hi,rfl,harr,hbel,hsz⟩:=hrel
  by_cases hlt:16*i+16<=s.size
  ·have hlt':decide (16*(i:Int)+16<=(s.size:Int))=true:=by simp;omega
   go_wp2_with fail
   obtain⟨wo,rfl⟩:∃wo:World,wo=wr:=⟨_,rfl⟩
   go_loopg[7] 4 (fun g jv wr=>∃j:Nat,g=4-j/\j<=4/\jv=.int .i64 (j:Int)/\yK wr w.heap.size (SM.half s.data.toList i j)/\Below w.heap.size w wr/\wr.heap.size=w.heap.size+1)
   case atStart=>exact⟨0,by omega,by omega,rfl,fun j hj=>by rw[SM.K_];exact harr j hj,hbel,hsz⟩
   case round =>
    clear hbel harr hsz
    obtain⟨j,rfl,hj,rfl,harr,hbel,hsz⟩:=hrel
    by_cases hlj:j<4
    ·have hb:=SM.KZ s.data.toList i j j
     obtain⟨hc,hfz⟩:=harr j hlj
     have J8:Hid _:=harr
     clear harr
     have hn:=SM.uY (s.data.toList.drop (16*i+4*j))
     have hj0:(0:Int)<=(j:Int):=by omega
     have hj4:(j:Int)<4:=by omega
     have ht1:=SM.jX (SM.dV (s.data.toList.drop (16*i+4*j))) 2246822519
     have hr:=SM.qK ((SM.half s.data.toList i j j+SM.tm (SM.dV (s.data.toList.drop (16*i+4*j))) 2246822519)%4294967296) 13 (by unfold SM.Turns;decide) (by omega) (by omega)
     have hwr:IntKind.i64.wrap (SM.half s.data.toList i j j+SM.tm (SM.dV (s.data.toList.drop (16*i+4*j))) 2246822519)=SM.half s.data.toList i j j+SM.tm (SM.dV (s.data.toList.drop (16*i+4*j))) 2246822519:=by
      rw[IntWalk.i64_left,IntWalk.wrap64_in _ (by omega)]
     have hmd:(SM.half s.data.toList i j j+SM.tm (SM.dV (s.data.toList.drop (16*i+4*j))) 2246822519).tmod 4294967296=(SM.half s.data.toList i j j+SM.tm (SM.dV (s.data.toList.drop (16*i+4*j))) 2246822519)%4294967296:=Int.tmod_eq_emod_of_nonneg (by omega)
     go_wp2_with fail
     refine(Hq s _ _ (by omega) (by omega) (by unfold maxLen;omega)).mono ?_
     rintro e w1 ⟨rfl,rfl⟩
     rw[show(16*(i:Int)+4*(j:Int)).toNat=16*i+4*j by omega]
     go_wp2_with fail
     go_region_with
      (first|(go_at_call 90;refine(times_any _ _ _ ?_ ?_ ?_ ?_).mono ?_;omega;omega;omega;omega;rintro e w' ⟨rfl,rfl⟩)|(go_at_call 91;refine(xH _ _ _ ?_ ?_ ?_).mono ?_;(unfold SM.Turns;decide);omega;omega;rintro e w' ⟨rfl,rfl⟩))
     all_goals go_wp2
     all_goals
      go_roundg(4-(j+1))
      case rel =>
       refine⟨j+1,rfl,by omega,by go_num,?_,?_,?_⟩
       ·exact yK.put J8.out j _ hlj (SM.Lc s.data.toList i j hlj).symm (fun t ht=>SM.yV s.data.toList i j t ht)
       ·exact(hbel.setCell (Nat.le_refl _) _).drew
       ·simpa using hsz
      case measure=>omega
    ·obtain rfl:j=4:=by omega
     have J8:Hid _:=harr
     clear harr
     go_wp2
     go_roundg(s.size-16*(i+1))
     case rel=>exact⟨i+1,rfl,by omega,by go_num,fun t ht=>by rw[<- SM.La _ _ t ht];exact J8.out t ht,hbel,hsz⟩
     case measure=>omega
  ·have hge:s.size<16*i+16:=by omega
   have hge':decide (16*(i:Int)+16<=(s.size:Int))=false:=by simp;omega
   obtain⟨c0,-⟩:=harr 0 (by omega)
   obtain⟨c1,-⟩:=harr 1 (by omega)
   obtain⟨c2,-⟩:=harr 2 (by omega)
   obtain⟨c3,-⟩:=harr 3 (by omega)
   clear harr
   obtain⟨ba,bb,bc,bd⟩:=SM.F7 s.data.toList i
   simp only[SM.Four.get]at c0 c1 c2 c3
   generalize hF:SM.stripe s.data.toList i=F at *
   obtain⟨fa,fb,fc,fd⟩:=F
   simp only at c0 c1 c2 c3 ba bb bc bd
   have HF:Hid _:=hF
   clear hF
   have ra:=SM.qK fa 1 (by unfold SM.Turns;decide) ba.1 ba.2
   have rb:=SM.qK fb 7 (by unfold SM.Turns;decide) bb.1 bb.2
   have rc:=SM.qK fc 12 (by unfold SM.Turns;decide) bc.1 bc.2
   have rd:=SM.qK fd 18 (by unfold SM.Turns;decide) bd.1 bd.2
   go_wp2_with fail
   go_quiet((go_at_call 91;refine Calls.quiet_of_same (xH _ _ _ ?_ ?_ ?_);(unfold SM.Turns;decide);omega;omega))
   go_wp2_with fail
   obtain⟨X,eX,hX,HS⟩:∃X:Int,((SM.rl fa 1+SM.rl fb 7+SM.rl fc 12+SM.rl fd 18)%4294967296+(s.size:Int))%4294967296=X/\(0<=X/\X<=4294967295)/\Hid (SM.sum s.data.toList=SM.fin (SM.tl X (s.data.toList.drop (16*i)))):=by
    refine⟨_,rfl,by omega,?_⟩
    have e:=SM.U3 s h16
    rw[show s.size/16=i by omega,SM.nZ]at e
    rw[Hid,e,HF.out]
    rfl
   rw[eX]
   clear eX HF ra rb rc rd ba bb bc bd c0 c1 c2 c3 hge' hlt afO
   have hQ:16*i<=s.size:=hi
   clear hi
   generalize zX:wr.drewN nq=WW
   have hBW:Below w.heap.size w WW:=by rw[<- zX];exact Go.below_drewN hbel _
   clear zX hbel hsz
   go_loopg[4,5] s.size (fun g hv av wr=>∃k:Nat,g=s.size-4*k/\16*i+4*k<=s.size/\hv=.int .i64 (SM.fH X (s.data.toList.drop (16*i)) k)/\av=.int .i64 (16*(i:Int)+4*(k:Int))/\wr=WW)
   case atStart=>exact⟨0,by omega,by omega,rfl,kT (by omega),rfl⟩
   case round =>
    obtain⟨k,rfl,hk,rfl,rfl,hwr⟩:=hrel
    subst hwr
    have hb:=SM.CP X (s.data.toList.drop (16*i)) hX k
    by_cases hlt:16*i+4*k+4<=s.size
    ·have hn:=SM.uY (s.data.toList.drop (16*i+4*k))
     go_wp2_with fail
     refine(Hq s _ _ (by omega) (by omega) (by unfold maxLen;omega)).mono ?_
     rintro e w1 ⟨rfl,rfl⟩
     rw[show(16*(i:Int)+4*(k:Int)).toNat=16*i+4*k by omega]
     go_wp2_with fail
     refine(times_any _ _ _ (by omega) (by omega) (by omega) (by omega)).mono ?_
     rintro e w1 ⟨rfl,rfl⟩
     have ht:=SM.jX (SM.dV (s.data.toList.drop (16*i+4*k))) 3266489917
     go_wp2_with fail
     refine(xH _ _ _ (by unfold SM.Turns;decide) (by omega) (by omega)).mono ?_
     rintro e w1 ⟨rfl,rfl⟩
     have hr:=SM.qK ((SM.fH X (s.data.toList.drop (16*i)) k+SM.tm (SM.dV (s.data.toList.drop (16*i+4*k))) 3266489917)%4294967296) 17 (by unfold SM.Turns;decide) (by omega) (by omega)
     go_wp2_with fail
     refine(times_any _ _ _ (by omega) (by omega) (by omega) (by omega)).mono ?_
     rintro e w1 ⟨rfl,rfl⟩
     go_wp2
     go_roundg(s.size-4*(k+1))
     case rel=>exact⟨k+1,rfl,by omega,kT (SM.Ll X s.data.toList (16*i) k),kT (by omega),rfl⟩
     case measure=>omega
    ·have hge4:s.size<16*i+4*k+4:=by omega
     have afP:decide (16*(i:Int)+4*(k:Int)+4<=(s.size:Int))=false:=by simp;omega
     clear hlt
     go_wp2_with fail
     go_loopg[4,5] s.size (fun g hv av wx=>∃t:Nat,g=s.size-t/\16*i+4*k+t<=s.size/\hv=.int .i64 (SM.jh (SM.fH X (s.data.toList.drop (16*i)) k) (s.data.toList.drop (16*i+4*k)) t)/\av=.int .i64 (16*(i:Int)+4*(k:Int)+(t:Int))/\wx=wr)
     case atStart=>exact⟨0,by omega,by omega,rfl,kT (by omega),rfl⟩
     case round =>
      obtain⟨t,rfl,ht,rfl,rfl,hwr⟩:=hrel
      subst hwr
      have hb1:=SM.CQ (SM.fH X (s.data.toList.drop (16*i)) k) (s.data.toList.drop (16*i+4*k)) hb t
      by_cases hlt:16*i+4*k+t<s.size
      ·have hg:Hid _:=SM.tC s (16*i+4*k+t) (by omega)
       have hbb:=SM.mV s (16*i+4*k+t)
       go_wp2_with fail
       rw[hg.out,IntWalk.wrap64_in (SM.byteAt s (16*i+4*k+t)) (by omega)]
       refine(times_any _ _ _ (by omega) (by omega) (by omega) (by omega)).mono ?_
       rintro e w1 ⟨rfl,rfl⟩
       have ht1:=SM.jX (SM.byteAt s (16*i+4*k+t)) 374761393
       go_wp2_with fail
       refine(xH _ _ _ (by unfold SM.Turns;decide) (by omega) (by omega)).mono ?_
       rintro e w1 ⟨rfl,rfl⟩
       have hr:=SM.qK ((SM.jh (SM.fH X (s.data.toList.drop (16*i)) k) (s.data.toList.drop (16*i+4*k)) t+SM.tm (SM.byteAt s (16*i+4*k+t)) 374761393)%4294967296) 11 (by unfold SM.Turns;decide) (by omega) (by omega)
       go_wp2_with fail
       refine(times_any _ _ _ (by omega) (by omega) (by omega) (by omega)).mono ?_
       rintro e w1 ⟨rfl,rfl⟩
       go_wp2
       go_roundg(s.size-(t+1))
       case rel=>exact⟨t+1,rfl,by omega,kT (SM.Le _ s (16*i+4*k) t),kT (by omega),rfl⟩
       case measure=>omega
      ·have HT:Hid (SM.tl X (s.data.toList.drop (16*i))=SM.jh (SM.fH X (s.data.toList.drop (16*i)) k) (s.data.toList.drop (16*i+4*k)) t):=SM.Lj X s (16*i) k t (by omega) (by omega)
       obtain⟨x1,y1,-,-,-,-⟩:=SM.xg _ hb1
       go_wp2_with fail
       refine(times_any _ _ _ (by omega) (by omega) (by omega) (by omega)).mono ?_
       rintro e w1 ⟨rfl,rfl⟩
       generalize hA:SM.tm (SM.xr (SM.jh (SM.fH X (s.data.toList.drop (16*i)) k) (s.data.toList.drop (16*i+4*k)) t) (SM.jh (SM.fH X (s.data.toList.drop (16*i)) k) (s.data.toList.drop (16*i+4*k)) t/32768)) 2246822519=A
       have J9:0<=A/\A<=4294967295:=by rw[<- hA];exact SM.jX _ _
       have HA:Hid _:=hA
       clear hA
       obtain⟨-,-,x2,y2,-,-⟩:=SM.xg _ J9
       go_wp2_with fail
       refine(times_any _ _ _ (by omega) (by omega) (by omega) (by omega)).mono ?_
       rintro e w1 ⟨rfl,rfl⟩
       generalize hC:SM.tm (SM.xr A (A/8192)) 3266489917=C
       have yR:0<=C/\C<=4294967295:=by rw[<- hC];exact SM.jX _ _
       have HC:Hid _:=hC
       clear hC
       obtain⟨-,-,-,-,x3,y3⟩:=SM.xg _ yR
       go_wp2
       go_ret
       refine⟨?_,hBW⟩
       rw[HS.out,HT.out,SM.fin]
       dsimp only
       rw[HA.out,HC.out]
       rfl
theorem afQ(s:ByteArray)(w:World)(hs:s.size<=140737488355328)(h16:¬16<=s.size) :
  Calls prog 73 #[.string s] w fun e w'=>e=.returned (.int .u32 (SM.sum s.data.toList))/\Below w.heap.size w w':=by
 go_enter func73,ntmps73
 go_wp2_with fail
 obtain⟨X,eX,hX,HS⟩:∃X:Int,374761393+(s.size:Int)=X/\(0<=X/\X<=4294967295)/\Hid (SM.sum s.data.toList=SM.fin (SM.tl X (s.data.toList.drop (16*0)))):=by
  refine⟨_,rfl,by omega,?_⟩
  rw[Hid,SM.U4 s h16]
  rfl
 rw[eX]
 clear eX
 have hQ:16*0<=s.size:=by omega
 have hge:s.size<16*0+16:=by omega
 have hBW:Below w.heap.size w w:=Below.refl _ _
 obtain⟨QQ,SI⟩:∃n:Nat,Hid (n=0):=⟨0,rfl⟩
 rw[<- SI.out]at HS hQ hge
 go_loopg[4,5] s.size (fun g hv av wr=>∃k:Nat,g=s.size-4*k/\16*QQ+4*k<=s.size/\hv=.int .i64 (SM.fH X (s.data.toList.drop (16*QQ)) k)/\av=.int .i64 (16*(QQ:Int)+4*(k:Int))/\wr=w)
 case atStart=>exact⟨0,by omega,by omega,kT (by show X%4294967296=X;omega),kT (by have:=SI.out;omega),rfl⟩
 case round =>
  obtain⟨k,rfl,hk,rfl,rfl,hwr⟩:=hrel
  subst hwr
  have hb:=SM.CP X (s.data.toList.drop (16*QQ)) hX k
  by_cases hlt:16*QQ+4*k+4<=s.size
  ·have hn:=SM.uY (s.data.toList.drop (16*QQ+4*k))
   go_wp2_with fail
   refine(Hq s _ _ (by omega) (by omega) (by unfold maxLen;omega)).mono ?_
   rintro e w1 ⟨rfl,rfl⟩
   rw[show(16*(QQ:Int)+4*(k:Int)).toNat=16*QQ+4*k by omega]
   go_wp2_with fail
   refine(times_any _ _ _ (by omega) (by omega) (by omega) (by omega)).mono ?_
   rintro e w1 ⟨rfl,rfl⟩
   have ht:=SM.jX (SM.dV (s.data.toList.drop (16*QQ+4*k))) 3266489917
   go_wp2_with fail
   refine(xH _ _ _ (by unfold SM.Turns;decide) (by omega) (by omega)).mono ?_
   rintro e w1 ⟨rfl,rfl⟩
   have hr:=SM.qK ((SM.fH X (s.data.toList.drop (16*QQ)) k+SM.tm (SM.dV (s.data.toList.drop (16*QQ+4*k))) 3266489917)%4294967296) 17 (by unfold SM.Turns;decide) (by omega) (by omega)
   go_wp2_with fail
   refine(times_any _ _ _ (by omega) (by omega) (by omega) (by omega)).mono ?_
   rintro e w1 ⟨rfl,rfl⟩
   go_wp2
   go_roundg(s.size-4*(k+1))
   case rel=>exact⟨k+1,rfl,by omega,kT (SM.Ll X s.data.toList (16*QQ) k),kT (by omega),rfl⟩
   case measure=>omega
  ·have hge4:s.size<16*QQ+4*k+4:=by omega
   have afP:decide (16*(QQ:Int)+4*(k:Int)+4<=(s.size:Int))=false:=by simp;omega
   clear hlt
   go_wp2_with fail
   go_loopg[4,5] s.size (fun g hv av wx=>∃t:Nat,g=s.size-t/\16*QQ+4*k+t<=s.size/\hv=.int .i64 (SM.jh (SM.fH X (s.data.toList.drop (16*QQ)) k) (s.data.toList.drop (16*QQ+4*k)) t)/\av=.int .i64 (16*(QQ:Int)+4*(k:Int)+(t:Int))/\wx=wr)
   case atStart=>exact⟨0,by omega,by omega,rfl,kT (by omega),rfl⟩
   case round =>
    obtain⟨t,rfl,ht,rfl,rfl,hwr⟩:=hrel
    subst hwr
    have hb1:=SM.CQ (SM.fH X (s.data.toList.drop (16*QQ)) k) (s.data.toList.drop (16*QQ+4*k)) hb t
    by_cases hlt:16*QQ+4*k+t<s.size
    ·have hg:Hid _:=SM.tC s (16*QQ+4*k+t) (by omega)
     have hbb:=SM.mV s (16*QQ+4*k+t)
     go_wp2_with fail
     rw[hg.out,IntWalk.wrap64_in (SM.byteAt s (16*QQ+4*k+t)) (by omega)]
     refine(times_any _ _ _ (by omega) (by omega) (by omega) (by omega)).mono ?_
     rintro e w1 ⟨rfl,rfl⟩
     have ht1:=SM.jX (SM.byteAt s (16*QQ+4*k+t)) 374761393
     go_wp2_with fail
     refine(xH _ _ _ (by unfold SM.Turns;decide) (by omega) (by omega)).mono ?_
     rintro e w1 ⟨rfl,rfl⟩
     have hr:=SM.qK ((SM.jh (SM.fH X (s.data.toList.drop (16*QQ)) k) (s.data.toList.drop (16*QQ+4*k)) t+SM.tm (SM.byteAt s (16*QQ+4*k+t)) 374761393)%4294967296) 11 (by unfold SM.Turns;decide) (by omega) (by omega)
     go_wp2_with fail
     refine(times_any _ _ _ (by omega) (by omega) (by omega) (by omega)).mono ?_
     rintro e w1 ⟨rfl,rfl⟩
     go_wp2
     go_roundg(s.size-(t+1))
     case rel=>exact⟨t+1,rfl,by omega,kT (SM.Le _ s (16*QQ+4*k) t),kT (by omega),rfl⟩
     case measure=>omega
    ·have HT:Hid (SM.tl X (s.data.toList.drop (16*QQ))=SM.jh (SM.fH X (s.data.toList.drop (16*QQ)) k) (s.data.toList.drop (16*QQ+4*k)) t):=SM.Lj X s (16*QQ) k t (by omega) (by omega)
     obtain⟨x1,y1,-,-,-,-⟩:=SM.xg _ hb1
     go_wp2_with fail
     refine(times_any _ _ _ (by omega) (by omega) (by omega) (by omega)).mono ?_
     rintro e w1 ⟨rfl,rfl⟩
     generalize hA:SM.tm (SM.xr (SM.jh (SM.fH X (s.data.toList.drop (16*QQ)) k) (s.data.toList.drop (16*QQ+4*k)) t) (SM.jh (SM.fH X (s.data.toList.drop (16*QQ)) k) (s.data.toList.drop (16*QQ+4*k)) t/32768)) 2246822519=A
     have J9:0<=A/\A<=4294967295:=by rw[<- hA];exact SM.jX _ _
     have HA:Hid _:=hA
     clear hA
     obtain⟨-,-,x2,y2,-,-⟩:=SM.xg _ J9
     go_wp2_with fail
     refine(times_any _ _ _ (by omega) (by omega) (by omega) (by omega)).mono ?_
     rintro e w1 ⟨rfl,rfl⟩
     generalize hC:SM.tm (SM.xr A (A/8192)) 3266489917=C
     have yR:0<=C/\C<=4294967295:=by rw[<- hC];exact SM.jX _ _
     have HC:Hid _:=hC
     clear hC
     obtain⟨-,-,-,-,x3,y3⟩:=SM.xg _ yR
     go_wp2
     go_ret
     refine⟨?_,hBW⟩
     rw[HS.out,HT.out,SM.fin]
     dsimp only
     rw[HA.out,HC.out]
     rfl
theorem afR(s:ByteArray)(w:World)(hs:s.size<=140737488355328) :
  Calls prog 73 #[.string s] w fun e w'=>e=.returned (.int .u32 (SM.sum s.data.toList))/\Below w.heap.size w w':=by
 by_cases h:16<=s.size
 ·exact afN s w hs h
 ·exact afQ s w hs h
end Go.Proofs.YtbhemchnjpajiaaGreatDoor
namespace Go.Proofs.YtbhemchnjpajiaaGreatDoor.RD
open Go
theorem afS{c:aC}{l l':aj}{f:Fr}(h:header c l=.ok (f,l')):f.last=[1,4,8]/\f.text=[]/\f.blocks=0/\64<=f.window/\l'.length<l.length:=by
 have h0:=NU h
 unfold header at h
 split at h
 ·cases h
 ·simp only[]at h
  split at h
  ·cases h
  ·split at h
   ·cases h
   ·split at h
    ·cases h
    ·split at h
     ·cases h
     ·cases h
      refine⟨rfl,rfl,rfl,?_,h0⟩
      show 64<=64*2^(ak l 0%8)
      have:0<2^(ak l 0%8):=Nat.pow_pos (by omega)
      omega
theorem J_{f f':Fr}{l l' t:aj}{last:Bool}(h:block f l=.ok (last,f',l',t)):f'.window=f.window/\f'.summed=f.summed/\f'.text=f.text++t/\f'.blocks=f.blocks+1/\t.length<=1024/\l'.length+2<=l.length:=by
 obtain⟨h1,h2,h3,h4⟩:=DI h
 refine⟨?_,?_,h3,h4,h2,h1⟩
 all_goals
  unfold block at h
  by_cases h2:l.length<2
  ·rw[if_pos h2]at h;cases h
  rw[if_neg h2]at h
  simp only[]at h
  by_cases hk:au (l.take 2)/2%4=3\/1024<au (l.take 2)/8
  ·rw[if_pos hk]at h;cases h
  rw[if_neg hk]at h
  generalize(if au (l.take 2)/2%4=1 then 1 else au (l.take 2)/8)=n at *
  by_cases hn:l.length<2+n
  ·rw[if_pos hn]at h;cases h
  rw[if_neg hn]at h
  cases hi:inner f (au (l.take 2)/2%4) (au (l.take 2)/8) ((l.drop 2).take n)with
  | none=>rw[hi]at h;cases h
  | some x =>
   obtain⟨text,g⟩:=x
   rw[hi]at h
   simp only[]at h
   have hs:Same f g:=by
    unfold inner at hi
    split at hi
    ·cases hi;exact Same.refl _
    ·split at hi
     ·cases hi;exact Same.refl _
     ·exact Sj hi
   split at h
   ·cases h
   ·injection h with h
    injection h with _ h
    injection h with h _
    subst h
    first|exact hs.1|exact hs.2.2.1
def St.lets(fr:Nat)(l text:aj):St:=⟨fr,.letters,Fr.new,l,text⟩
end Go.Proofs.YtbhemchnjpajiaaGreatDoor.RD
namespace Go.Proofs.YtbhemchnjpajiaaGreatDoor
open Go.RowKit Go.Proofs.Tryz RD
def uO(p g:Nat)(c:aC)(v:Value)(l:aj)(fr:Nat)(text:aj)(w:World)(e:Ending)(w':World):Prop :=
 Only (fun b=>b=p\/b=g) w w'/\((∃l' text',RD.Reach c (RD.St.lets fr l text) (RD.St.lets (fr+1) l' text')/\e=.returned (.int .i64 (-1))/\bU w' p c v l' fr text') \/
  (∃s l' cs,∃win:Nat,RD.Reach c (RD.St.lets fr l text) s/\RD.step c s=.wants/\s.frames=fr/\e=.returned (.int .i64 (-2))/\bU w' p c v l' fr s.text/\aB w' g 122 cs/\cs[0]?=some (.int .i64 (win:Int))/\cs[16]?=some (.int .i64 (s.f.blocks:Nat))/\((s.ph=.letters/\win=0/\l'=s.left/\s.f.blocks=0)\/(s.ph≠.letters/\win≠0))) \/
  (∃s n l' cs,RD.Reach c (RD.St.lets fr l text) s/\RD.step c s=.err n/\s.frames=fr/\e=.returned (.int .i64 (n:Nat))/\bU w' p c v l' fr s.text/\aB w' g 122 cs/\cs[16]?=some (.int .i64 (s.f.blocks:Nat))))
theorem afT(l:aj):0<=SM.sum l/\SM.sum l<=4294967295:=by
 unfold SM.sum SM.fin
 simp only[]
 have h:=SM.jX (SM.xr (SM.tm (SM.xr (SM.tl (((if 16<=l.length then(SM.stripe l (l.length/16)).join else 374761393)+l.length)%4294967296) (l.drop (16*(l.length/16)))) (SM.tl (((if 16<=l.length then(SM.stripe l (l.length/16)).join else 374761393)+l.length)%4294967296) (l.drop (16*(l.length/16)))/32768)) 2246822519) (SM.tm (SM.xr (SM.tl (((if 16<=l.length then(SM.stripe l (l.length/16)).join else 374761393)+l.length)%4294967296) (l.drop (16*(l.length/16)))) (SM.tl (((if 16<=l.length then(SM.stripe l (l.length/16)).join else 374761393)+l.length)%4294967296) (l.drop (16*(l.length/16)))/32768)) 2246822519/8192)) 3266489917
 exact SM.yT _ _ h.2 (by omega)
theorem Ko{l b:aj}(h:l≠b):((ah l).toList==b)=false/\((ah l).toList != b)=true:=by
 rw[kH]
 exact⟨by simpa using h,by simpa using h⟩
theorem SK{l b:aj}(h:l=b):((ah l).toList==b)=true/\((ah l).toList != b)=false:=by
 rw[kH]
 exact⟨by simpa using h,by simpa using h⟩
theorem Fq{p:Nat}{c:aC}{v:Value}{l:aj}{fr:Nat}{text:aj}{w:World}(hR:bU w p c v l fr text)(n:Nat)(hl:l.length<=1099511627776)(hn:n<=l.length) :
  Calls prog 69 #[.pointer (some ⟨p,0,none⟩),.int .i64 (n:Nat)] w fun e w'=>e=.returned (.tuple #[.string (ah (l.take n)),.bool true])/\w'=w.setCell ⟨p,2,none⟩ (.string (ah (l.drop n))):=by
 refine(take_any p _ _ _ _ _ l n w hR hl (by omega)).mono ?_
 rintro e w1 (⟨h,_⟩|⟨_,h⟩)
 ·omega
 ·exact h
theorem SL{p:Nat}{c:aC}{v:Value}{l:aj}{fr:Nat}{text:aj}{w:World}(hR:bU w p c v l fr text)(n:Nat)(hl:l.length<=1099511627776)(hn:l.length<n)(hn2:n<=1099511627776) :
  Calls prog 69 #[.pointer (some ⟨p,0,none⟩),.int .i64 (n:Nat)] w fun e w'=>e=.returned (.tuple #[.string (ah []),.bool false])/\w'=w:=by
 refine(take_any p _ _ _ _ _ l n w hR hl hn2).mono ?_
 rintro e w1 (⟨_,h⟩|⟨h,_⟩)
 ·exact h
 ·omega
theorem afU(l:aj)(n:Nat)(w:World)(hn:n<=4)(h:n<=l.length)(hl:l.length<=1099511627776) :
  Calls prog 70 #[.string (ah l),.int .i64 0,.int .i64 (n:Nat)] w fun e w'=>e=.returned (.int .i64 (au (l.take n):Nat))/\w'=w:=by
 have:=mZ l 0 n w (by omega) hn hl
 rw[List.drop_zero]at this
 exact this
structure uP(w:World)(p g:Nat)(c:aC)(v:Value)(l:aj)(fr:Nat)(text:aj):Prop where
 run:bU w p c v l fr text
 slice:∃a n k,v=.slice a n k
 fr:aB w g 122 (gG 0 0 false [] (.slice none 0 0))
 cfg:sO c
 aP:g_ w v c.aP
 apart:bJ v≠some p/\bJ v≠some g
 len:l.length<=268435456
 text:text.length+1024*l.length<=274877906944
theorem uP.ne{w:World}{p g:Nat}{c:aC}{v:Value}{l:aj}{fr:Nat}{text:aj}(h:uP w p g c v l fr text):p≠g:=by
 intro e
 have h2:w.heap[p]?=some (.cells _ _):=h.run
 have h3:w.heap[g]?=some (.cells _ _):=h.fr
 rw[<- e,h2]at h3
 injection h3 with h3
 injection h3 with _ h3
 exact absurd h3 (by decide)
theorem afV(p g:Nat)(c:aC)(v:Value)(l:aj)(fr:Nat)(text:aj)(w:World)(h:uP w p g c v l fr text)(h4:l.length<4) :
  Calls prog 53 #[.pointer (some ⟨p,0,none⟩),.pointer (some ⟨g,0,none⟩)] w (uO p g c v l fr text w):=by
 have htk:=SL h.run 4 (by have:=h.len;omega) h4 (by omega)
 have hst:Hid (RD.step c (RD.St.lets fr l text)=.wants):=by
  unfold Hid RD.step RD.St.lets
  simp only[]
  rw[if_pos h4]
 go_enter func53,ntmps53
 go_wp2_with fail
 refine htk.mono ?_
 rintro e w1 ⟨rfl,hw⟩
 subst hw
 go_wp2_with fail
 go_ret
 exact⟨Only.refl _ _,.inr (.inl ⟨_,l,_,0,.refl _,hst.out,rfl,rfl,h.run,h.fr,rfl,rfl,.inl ⟨rfl,rfl,rfl,rfl⟩⟩)⟩
theorem afW(p g:Nat)(c:aC)(v:Value)(l:aj)(fr:Nat)(text:aj)(w:World)(h:uP w p g c v l fr text)(h4:¬l.length<4)(h5:l.take 4≠fJ)(h6:l.take 4≠iH) :
  Calls prog 53 #[.pointer (some ⟨p,0,none⟩),.pointer (some ⟨g,0,none⟩)] w (uO p g c v l fr text w):=by
 have htk:=Fq h.run 4 (by have:=h.len;omega) (by omega)
 have hst:Hid (RD.step c (RD.St.lets fr l text)=.err 4):=by
  unfold Hid RD.step RD.St.lets
  simp only[]
  rw[if_neg h4,if_neg h5,if_neg h6]
 have hne:=h.ne
 obtain⟨W1,hW1⟩:∃W,W=w.setCell ⟨p,2,none⟩ (.string (ah (l.drop 4))):=⟨_,rfl⟩
 have aF:=(Only.refl (fun b=>b=p\/b=g) w).setCell ⟨p,2,none⟩ (.string (ah (l.drop 4))) (fun _=>.inl rfl)
 have hR1:=h.run.take (l.drop 4)
 have hG1:=aB.other h.fr ⟨p,2,none⟩ (.string (ah (l.drop 4))) (fun e=>hne e.symm)
 rw[<- hW1]at htk aF hR1 hG1
 replace hW1:=aA hW1
 have g0:=hG1.cell (j:=0) rfl
 have gz:=hG1.free
 obtain⟨e1,e1'⟩:((ah (l.take 4)).toList==[83,75,73,80])=false/\((ah (l.take 4)).toList != [83,75,73,80])=true:=Ko h5
 obtain⟨e2,e2'⟩:((ah (l.take 4)).toList==[83,75,78,49])=false/\((ah (l.take 4)).toList != [83,75,78,49])=true:=Ko h6
 go_enter func53,ntmps53
 go_wp2_with fail
 refine htk.mono ?_
 rintro e w1 ⟨rfl,hw⟩
 replace hw:=hw.symm
 subst hw
 generalize ah (l.take 4)=LT at *
 go_wp2_with fail
 go_ret
 exact⟨aF.setCell ⟨g,0,none⟩ _ (fun _=>.inr rfl),.inr (.inr ⟨_,4,_,_,.refl _,hst.out,rfl,rfl,aB.other hR1 ⟨g,0,none⟩ _ hne,hG1.put 0 _,rfl⟩)⟩
theorem afX(p g:Nat)(c:aC)(v:Value)(l:aj)(fr:Nat)(text:aj)(w:World)(h:uP w p g c v l fr text)(h4:¬l.length<4)(h5:l.take 4=fJ) :
  Calls prog 53 #[.pointer (some ⟨p,0,none⟩),.pointer (some ⟨g,0,none⟩)] w (uO p g c v l fr text w):=by
 have hlen:=h.len
 have htk:=Fq h.run 4 (by omega) (by omega)
 have hst:RD.Reach c (RD.St.lets fr l text) ⟨fr,.skip,RD.Fr.new,l.drop 4,text⟩:=RD.Reach.one (by
  unfold RD.step RD.St.lets
  simp only[]
  rw[if_neg h4,if_pos h5])
 have hne:=h.ne
 obtain⟨L,hL⟩:∃L,L=l.drop 4:=⟨_,rfl⟩
 have iU:L.length<=268435456:=by rw[hL,List.length_drop];omega
 have hR1:=h.run.take L
 rw[<- hL]at htk hst
 have aF:=((Only.refl (fun b=>b=p\/b=g) w).setCell ⟨p,2,none⟩ (.string (ah L)) (fun _=>.inl rfl)).setCell ⟨g,0,none⟩ (.int .i64 1) (fun _=>.inr rfl)
 have hG1:=aB.other h.fr ⟨p,2,none⟩ (.string (ah L)) (fun e=>hne e.symm)
 obtain⟨W1,hW1⟩:∃W,W=w.setCell ⟨p,2,none⟩ (.string (ah L)):=⟨_,rfl⟩
 rw[<- hW1]at htk aF hR1 hG1
 replace hW1:=aA hW1
 have hR2:bU (W1.setCell ⟨g,0,none⟩ (.int .i64 1)) p c v L fr text:=aB.other hR1 ⟨g,0,none⟩ _ hne
 have hG2:=hG1.put 0 (.int .i64 1)
 replace hL:=aA hL
 replace hst:=aA hst
 have g0:=hG1.cell (j:=0) rfl
 have gz:=hG1.free
 obtain⟨e1,e1'⟩:((ah (l.take 4)).toList==[83,75,73,80])=true/\((ah (l.take 4)).toList != [83,75,73,80])=false:=SK h5
 go_enter func53,ntmps53
 go_wp2_with fail
 refine htk.mono ?_
 rintro e w1 ⟨rfl,hw⟩
 replace hw:=hw.symm
 subst hw
 generalize ah (l.take 4)=LT at *
 obtain⟨W2,hW2⟩:∃W,W=W1.setCell ⟨g,0,none⟩ (.int .i64 1):=⟨_,rfl⟩
 rw[<- hW2]at aF hR2 hG2
 have c2:W2.cell? ⟨p,2,none⟩=some (.string (ah L)):=aB.cell hR2 (j:=2) rfl
 have hzL:=aQ L
 have hfz:=aB.free hR2
 by_cases h3:L.length<3
 ·have hw:Hid (RD.step c ⟨fr,.skip,RD.Fr.new,L,text⟩=.wants):=by
   unfold Hid RD.step
   simp only[]
   rw[if_pos (.inl h3)]
  have h3':(L.length:Int)<3:=by omega
  have h3d:decide ((L.length:Int)<3)=true:=by simpa using h3'
  go_wp2_with fail
  rw[<- hW2]
  replace hW2:=aA hW2
  go_quiet(fail)
  go_wp2_with fail
  go_ret
  exact⟨aF.drewN nq,.inr (.inl ⟨_,L,_,1,hst.out,hw.out,rfl,rfl,aB.drewN hR2 nq,hG2.drewN nq,rfl,rfl,.inr ⟨by simp,by omega⟩⟩)⟩
 ·have hnum:=fun W=>afU L 3 W (by omega) (by omega) (by omega)
  have hnb:=qP L 3 (by omega)
  obtain⟨N,hN⟩:∃N,au (L.take 3)=N:=⟨_,rfl⟩
  rw[hN]at hnum hnb
  have h3':¬(L.length:Int)<3:=by omega
  have h3d:decide ((L.length:Int)<3)=false:=by simpa using h3'
  by_cases h7:L.length<3+N
  ·have hw:Hid (RD.step c ⟨fr,.skip,RD.Fr.new,L,text⟩=.wants):=by
    unfold Hid RD.step
    simp only[]
    rw[if_pos (.inr (by rw[hN];exact h7))]
   have Iu:(L.length:Int)<3+(N:Int):=by omega
   replace hN:=aA hN
   go_wp2_with fail
   rw[<- hW2]
   replace hW2:=aA hW2
   go_quiet((go_at_call 70;refine Calls.quiet_of_same (hnum _)))
   go_wp2_with fail
   go_ret
   exact⟨aF.drewN nq,.inr (.inl ⟨_,L,_,1,hst.out,hw.out,rfl,rfl,aB.drewN hR2 nq,hG2.drewN nq,rfl,rfl,.inr ⟨by simp,by omega⟩⟩)⟩
  ·have hw:Hid (RD.step c ⟨fr,.skip,RD.Fr.new,L,text⟩=.ok (RD.St.lets (fr+1) (L.drop (3+N)) text)):=by
    unfold Hid RD.step
    simp only[]
    rw[if_neg (by rw[hN];omega),hN]
    rfl
   have Iu:¬(L.length:Int)<3+(N:Int):=by omega
   obtain⟨k,hk⟩:∃k:Nat,(3:Int)+(N:Int)=(k:Int):=⟨3+N,by omega⟩
   have hk2:Hid (3+N=k):=aA (by omega)
   have hkl:(k:Int)<=(L.length:Int):=by omega
   have hex:(ah L).extract k L.length=ah (L.drop k):=mQ _ _
   replace hN:=aA hN
   go_wp2_with fail
   rw[<- hW2]
   replace hW2:=aA hW2
   go_quiet((go_at_call 70;refine Calls.quiet_of_same (hnum _)))
   go_wp2_with fail
   have aV:=aB.drewN hR2 nq
   have hG3:=hG2.drewN nq
   have hO3:=aF.drewN nq
   obtain⟨W3,hW3⟩:∃W,W=W2.drewN nq:=⟨_,rfl⟩
   rw[<- hW3]at aV hG3 hO3
   rw[<- hW3]
   replace hW3:=aA hW3
   have c3:W3.cell? ⟨p,2,none⟩=some (.string (ah L)):=aV.cell (j:=2) rfl
   have ajD:=aV.free
   have hwr:IntKind.i64.wrap (k:Int)=(k:Int):=by rw[IntKind.wrap_i64];omega
   have afZ:∀W:World,Calls prog 70 #[.string (ah L),.int .i64 0,.int .i64 3] W fun e w'=>e=.returned (.int .i64 (N:Nat))/\W=w':=fun W=>(hnum W).mono (fun e w' h=>⟨h.1,h.2.symm⟩)
   have hk0:¬(k:Int)<0:=by omega
   have hk1:k<=L.length:=by omega
   have hk3:(0:Int)<=(k:Int):=by omega
   have hk4:¬(L.length:Int)<(k:Int):=by omega
   have hk5:¬L.length<k:=by omega
   clear c2 hfz
   go_region_with(first|(go_at_call 70;refine(afZ _).mono ?_;rintro e w' ⟨rfl,rfl⟩))
   all_goals
    go_wp2_with fail
    go_ret
    refine⟨?_,.inl ⟨L.drop k,text,hst.out.trans (RD.Reach.one ?_),rfl,?_⟩⟩
    ·exact hO3.drew.setCell ⟨p,2,none⟩ _ (fun _=>.inl rfl)
    ·rw[<- hk2.out]
     exact hw.out
    ·exact aB.put (aB.drew aV) 2 _
structure pJ(w wr:World)(p g:Nat)(c:aC)(v:Value)(l:aj)(fr:Nat)(text:aj)(f:RD.Fr)(l' text':aj):Prop where
 BX:aJ wr g f
 last:dG f.last
 run:bU wr p c v l' fr text'
 only:Only (fun b=>b=p\/b=g) w wr
 win:64<=f.window
 less:l'.length<=l.length
 SQ:f.text.length+1024*l'.length<=1024*l.length
 SV:f.blocks+l'.length<=l.length
 txt:text'.length+1024*l'.length<=text.length+1024*l.length
theorem pJ.next{w wr w':World}{p g:Nat}{c:aC}{v:Value}{l:aj}{fr:Nat}{text:aj}{f f':RD.Fr}{l' l'' text' t:aj}{last:Bool}(h:pJ w wr p g c v l fr text f l' text')(hb:RD.block f l'=.ok (last,f',l'',t))(ho:Only (fun b=>b=p\/b=g) wr w')(hF:aJ w' g f')(hla:dG f'.last)(hR:bU w' p c v l'' fr (text'++t)):pJ w w' p g c v l fr text f' l'' (text'++t):=by
 obtain⟨h1,h2,h3,h4,h5,h6⟩:=J_ hb
 have a1:=h.less
 have a2:=h.SQ
 have a3:=h.SV
 have a4:=h.txt
 exact⟨hF,hla,hR,h.only.trans ho,by rw[h1];exact h.win,by omega,by rw[h3,List.length_append];omega,by rw[h4];omega,by rw[List.length_append];omega⟩
theorem pJ.wants{w wr w':World}{p g:Nat}{c:aC}{v:Value}{l:aj}{fr:Nat}{text:aj}{s:RD.St}(hr:RD.Reach c (RD.St.lets fr l text) s)(hs:RD.step c s=.wants)(hf:s.frames=fr)(hp:s.ph≠.letters)(hw:64<=s.f.window){l':aj}(hO:Only (fun b=>b=p\/b=g) w w')(hR:bU w' p c v l' fr s.text)(hS:Stub w' g s.f):uO p g c v l fr text w (.returned (.int .i64 (-2))) w':=by
 obtain⟨cs,h1,h2,h3,h4,h5⟩:=hS
 exact⟨hO,.inr (.inl ⟨s,l',cs,s.f.window,hr,hs,hf,rfl,hR,h1,h3,h4,.inr ⟨hp,by omega⟩⟩)⟩
theorem pJ.bad{w wr w':World}{p g:Nat}{c:aC}{v:Value}{l:aj}{fr:Nat}{text:aj}{s:RD.St}{n:Nat}(hr:RD.Reach c (RD.St.lets fr l text) s)(hs:RD.step c s=.err n)(hf:s.frames=fr){l':aj}(hO:Only (fun b=>b=p\/b=g) w w')(hR:bU w' p c v l' fr s.text)(hS:Stub w' g s.f):uO p g c v l fr text w (.returned (.int .i64 (n:Nat))) w':=by
 obtain⟨cs,h1,h2,h3,h4,h5⟩:=hS
 exact⟨hO,.inr (.inr ⟨s,n,l',cs,hr,hs,hf,rfl,hR,h1,h4⟩)⟩
theorem af0(RC:lU)(RS:je)(p g:Nat)(c:aC)(v:Value)(l:aj)(fr:Nat)(text:aj)(w:World)(h:uP w p g c v l fr text)(h4:¬l.length<4)(h5:l.take 4=iH) :
  Calls prog 53 #[.pointer (some ⟨p,0,none⟩),.pointer (some ⟨g,0,none⟩)] w (uO p g c v l fr text w):=by
 have hlen:=h.len
 have htl:=h.text
 have SX:=aA h.slice
 have htk:=Fq h.run 4 (by omega) (by omega)
 have hns:l.take 4≠fJ:=by rw[h5];decide
 have hst:RD.Reach c (RD.St.lets fr l text) ⟨fr,.header,RD.Fr.new,l.drop 4,text⟩:=RD.Reach.one (by
  unfold RD.step RD.St.lets
  simp only[]
  rw[if_neg h4,if_neg hns,if_pos h5])
 have hne:=h.ne
 obtain⟨L,hL⟩:∃L,L=l.drop 4:=⟨_,rfl⟩
 have iU:L.length+4=l.length:=by rw[hL,List.length_drop];omega
 have hR1:=h.run.take L
 rw[<- hL]at htk hst
 have aF:=((Only.refl (fun b=>b=p\/b=g) w).setCell ⟨p,2,none⟩ (.string (ah L)) (fun _=>.inl rfl)).setCell ⟨g,0,none⟩ (.int .i64 1) (fun _=>.inr rfl)
 have hG1:=aB.other h.fr ⟨p,2,none⟩ (.string (ah L)) (fun e=>hne e.symm)
 have hD2:=(h.aP.put p 2 (.string (ah L)) h.apart.1).put g 0 (.int .i64 1) h.apart.2
 obtain⟨W1,hW1⟩:∃W,W=w.setCell ⟨p,2,none⟩ (.string (ah L)):=⟨_,rfl⟩
 rw[<- hW1]at htk aF hR1 hG1 hD2
 replace hW1:=aA hW1
 have hR2:bU (W1.setCell ⟨g,0,none⟩ (.int .i64 1)) p c v L fr text:=aB.other hR1 ⟨g,0,none⟩ _ hne
 have hG2:aB (W1.setCell ⟨g,0,none⟩ (.int .i64 1)) g 122 (gG 1 0 false [] (.slice none 0 0)):=hG1.put 0 (.int .i64 1)
 have hhd:=aeM p g c v L fr text (W1.setCell ⟨g,0,none⟩ (.int .i64 1)) hne hR2 hG2 h.cfg hD2 h.apart (by omega)
 replace hL:=aA hL
 replace hst:=aA hst
 have g0:=hG1.cell (j:=0) rfl
 have gz:=hG1.free
 obtain⟨e1,e1'⟩:((ah (l.take 4)).toList==[83,75,73,80])=false/\((ah (l.take 4)).toList != [83,75,73,80])=true:=Ko hns
 obtain⟨e2,e2'⟩:((ah (l.take 4)).toList==[83,75,78,49])=true/\((ah (l.take 4)).toList != [83,75,78,49])=false:=SK h5
 go_enter func53,ntmps53
 go_wp2_with fail
 refine htk.mono ?_
 rintro e w1 ⟨rfl,hw⟩
 replace hw:=hw.symm
 subst hw
 generalize ah (l.take 4)=LT at *
 go_wp2_with fail
 refine hhd.mono ?_
 rintro e w3 ⟨ho3,⟨hh,rfl,hG3,aV⟩|⟨n,l3,hh,rfl,⟨win,size,summed,dict,vl,hG3⟩,aV⟩|⟨f,l3,hh,rfl,hF3,aV⟩⟩
 ·have hs:Hid (RD.step c ⟨fr,.header,RD.Fr.new,L,text⟩=.wants):=by
   unfold Hid RD.step
   simp only[]
   rw[hh]
  replace hh:=aA hh
  go_wp2_with fail
  go_ret
  exact⟨aF.trans ho3,.inr (.inl ⟨_,L,_,1,hst.out,hs.out,rfl,rfl,aV,hG3,rfl,rfl,.inr ⟨by simp,by omega⟩⟩)⟩
 ·have hs:Hid (RD.step c ⟨fr,.header,RD.Fr.new,L,text⟩=.err n):=by
   unfold Hid RD.step
   simp only[]
   rw[hh]
  replace hh:=aA hh
  have hn1:((n:Int) != -1)=true:=by first|(simp;done)|(simp;omega)
  have hn2:¬(n:Int)=-1:=by omega
  go_wp2_with fail
  go_ret
  exact⟨aF.trans ho3,.inr (.inr ⟨_,n,_,_,hst.out,hs.out,rfl,rfl,aV,hG3,rfl⟩)⟩
 ·have hs:RD.Reach c (RD.St.lets fr l text) ⟨fr,.blocks,f,l3,text⟩:=hst.out.trans (RD.Reach.one (by
   unfold RD.step
   simp only[]
   rw[hh]))
  obtain⟨t1,t2,t3,t4,t5⟩:=afS hh
  have hI:pJ w w3 p g c v l fr text f l3 text:=⟨hF3,⟨1,4,8,t1,by omega,by omega,by omega⟩,aV,aF.trans ho3,t4,by omega,by rw[t2];simp;omega,by rw[t3];omega,by omega⟩
  replace hh:=aA hh
  replace t1:=aA t1
  replace t2:=aA t2
  replace t3:=aA t3
  replace hs:=aA hs
  replace hI:=aA hI
  clear hF3 aV ho3 hhd hG2 hR2 hD2 hG1 hR1 aF g0 gz htk
  go_wp2_with fail
  go_loopg[7,8] (l3.length+1) (fun gh ev lv wr=>∃(f:RD.Fr)(l' text':aj)(last:Bool),gh=l'.length+1/\lv=.bool last/\Hid (pJ w wr p g c v l fr text f l' text')/\Hid (last=false->RD.Reach c (RD.St.lets fr l text) ⟨fr,.blocks,f,l',text'⟩)/\Hid (last=true->RD.Reach c (RD.St.lets fr l text) (if f.summed then⟨fr,.sum,f,l',text'⟩else RD.St.lets (fr+1) l' text')))
  case atStart=>exact⟨f,l3,text,false,rfl,rfl,hI,aA (fun _=>hs.out),aA (fun e=>by cases e)⟩
  case round =>
   clear hI hs
   obtain⟨f,l',text',last,rfl,rfl,hI,hr0,hr1⟩:=hrel
   have b1:=hI.out.less
   have b2:=hI.out.SQ
   have b3:=hI.out.SV
   have b4:=hI.out.txt
   cases last with
   | false =>
    have hr:=aA (hr0.out rfl)
    clear hr0 hr1
    have hbl:=afL RC RS p g c v l' fr text' f wr hI.out.run SX.out hI.out.BX hI.out.last (by omega) (by omega) (by omega) (by omega)
    go_wp2_with fail
    refine hbl.mono ?_
    rintro e w4 ⟨gu,⟨hb,rfl,Kq,l4,fA⟩|⟨hb,rfl,Kq,l4,fA⟩|⟨last,f4,l4,t,hb,rfl,SY,S9,fA⟩⟩
    ·have hp:=pJ.wants (wr:=wr) hr.out (by unfold RD.step;simp only[];rw[hb]) rfl (by simp) hI.out.win (hI.out.only.trans gu) fA Kq
     replace hp:=aA hp
     replace hb:=aA hb
     go_wp2_with fail
     go_ret
     exact hp.out
    ·have hp:=pJ.bad (wr:=wr) (n:=4) hr.out (by unfold RD.step;simp only[];rw[hb]) rfl (hI.out.only.trans gu) fA Kq
     replace hp:=aA hp
     replace hb:=aA hb
     go_wp2_with fail
     go_ret
     exact hp.out
    ·have hI4:=aA (hI.out.next hb gu SY S9 fA)
     have hl4:=(J_ hb).2.2.2.2.2
     have hs4:=(J_ hb).2.1
     have hq0:Hid (last=false->RD.Reach c (RD.St.lets fr l text) ⟨fr,.blocks,f4,l4,text'++t⟩):=aA (fun e=>hr.out.trans (RD.Reach.one (by
      unfold RD.step
      simp only[]
      rw[hb]
      simp only[]
      rw[if_pos e])))
     have hq1:Hid (last=true->RD.Reach c (RD.St.lets fr l text) (if f4.summed then⟨fr,.sum,f4,l4,text'++t⟩else RD.St.lets (fr+1) l4 (text'++t))):=aA (fun e=>hr.out.trans (RD.Reach.one (by
      unfold RD.step
      simp only[]
      rw[hb]
      simp only[]
      rw[if_neg (by rw[e];simp)]
      cases f4.summed<;>rfl)))
     replace hb:=aA hb
     replace hs4:=aA hs4
     clear SY S9 fA
     go_wp2_with fail
     go_roundg(l4.length+1)
     case rel=>exact⟨f4,l4,text'++t,last,rfl,rfl,hI4,hq0,hq1⟩
     case measure=>omega
   | true =>
    have hr:=hr1.out rfl
    clear hr0 hr1
    obtain⟨sQ,Fj,d1,d2,d4,d16⟩:=hI.out.BX.nums
    cases hsm:f.summed with
    | false =>
     rw[hsm]at d2 hr
     simp only[Bool.false_eq_true,if_false]at hr
     replace hr:=aA hr
     replace hsm:=aA hsm
     go_wp2_with fail
     go_ret
     exact⟨hI.out.only,.inl ⟨l',text',hr.out,rfl,hI.out.run⟩⟩
    | true =>
     rw[hsm]at d2 hr
     simp only[if_true]at hr
     replace hr:=aA hr
     replace hsm:=aA hsm
     by_cases h8:l'.length<4
     ·have hp:=pJ.wants (wr:=wr) hr.out (by unfold RD.step;simp only[];rw[if_pos h8]) rfl (by simp) hI.out.win hI.out.only hI.out.run hI.out.BX.stub
      have htk:=SL hI.out.run 4 (by omega) h8 (by omega)
      replace hp:=aA hp
      go_wp2_with fail
      refine htk.mono ?_
      rintro e w5 ⟨rfl,hw⟩
      subst hw
      go_wp2_with fail
      go_ret
      exact hp.out
     ·have htk:=Fq hI.out.run 4 (by omega) (by omega)
      obtain⟨W5,Kr⟩:∃W,W=wr.setCell ⟨p,2,none⟩ (.string (ah (l'.drop 4))):=⟨_,rfl⟩
      have aX:=(Only.refl (fun b=>b=p) wr).setCell ⟨p,2,none⟩ (.string (ah (l'.drop 4))) (fun _=>rfl)
      have gQ:=hI.out.run.take (l'.drop 4)
      rw[<- Kr]at htk aX gQ
      replace Kr:=aA Kr
      have bV:=hI.out.BX.away aX (fun e=>hne e.symm) (fun b e=>by rw[e];exact hI.out.BX.yJ hI.out.last hI.out.run SX.out)
      have dB:=aA (hI.out.only.trans (aX.weaken (fun k _ e=>.inl e)))
      obtain⟨_,_,_,_,k4,_⟩:=bV.nums
      have hsum:=fun W=>afR (ah f.text) W (by rw[aQ];omega)
      rw[lX]at hsum
      have hsb:=afT f.text
      have hnum:∀W:World,Calls prog 70 #[.string (ah (l'.take 4)),.int .i64 0,.int .i64 4] W fun e w'=>e=.returned (.int .i64 (au (l'.take 4):Nat))/\w'=W:=fun W=>by
       have:=mZ (l'.take 4) 0 4 W (by rw[List.length_take];omega) (by omega) (by rw[List.length_take];omega)
       rw[List.drop_zero,List.take_take]at this
       exact this
      have hnb:=zA l' 4 (by omega)
      have hstep:Hid (RD.step c ⟨fr,.sum,f,l',text'⟩=if(au (l'.take 4):Int)≠SM.sum f.text then .err 8 else .ok (RD.St.lets (fr+1) (l'.drop 4) text')):=by
       unfold Hid RD.step
       simp only[]
       rw[if_neg h8]
       rfl
      obtain⟨N,hN⟩:∃N,au (l'.take 4)=N:=⟨_,rfl⟩
      obtain⟨sm,wQ⟩:∃s,SM.sum f.text=s:=⟨_,rfl⟩
      rw[hN]at hnum hnb hstep
      rw[wQ]at hsum hsb hstep
      replace hN:=aA hN
      replace wQ:=aA wQ
      replace bV:=aA bV
      have hsw:IntKind.i64.wrap sm=sm:=by rw[IntKind.wrap_i64];omega
      go_wp2_with fail
      refine htk.mono ?_
      rintro e w5 ⟨rfl,hw⟩
      replace hw:=hw.symm
      subst hw
      go_wp2_with fail
      refine(hsum _).mono ?_
      rintro e w6 ⟨rfl,hb6⟩
      have fO:bU w6 p c v (l'.drop 4) fr text':=aB.below gQ hb6 (aB.lt gQ)
      have dX:=aA (bV.out.below hb6)
      have bT:=aA (dB.out.below hb6)
      go_wp2_with fail
      refine(hnum _).mono ?_
      rintro e w7 ⟨rfl,hw⟩
      subst hw
      by_cases hq:(N:Int)=sm
      ·have hp:uO p g c v l fr text w (.returned (.int .i64 (-1))) w7:=⟨bT.out,.inl ⟨_,_,hr.out.trans (RD.Reach.one (by rw[hstep.out,if_neg (by simpa using hq)])),rfl,fO⟩⟩
       replace hp:=aA hp
       have hq':((N:Int) != sm)=false:=by simpa using hq
       replace hq:=aA hq
       go_wp2_with fail
       go_ret
       exact hp.out
      ·have hp:=pJ.bad (wr:=wr) (n:=8) hr.out (by rw[hstep.out,if_pos hq]) rfl bT.out fO dX.out.stub
       replace hp:=aA hp
       have hq':((N:Int) != sm)=true:=by simpa using hq
       go_wp2_with fail
       go_ret
       exact hp.out
theorem af4(RC:lU)(RS:je)(p g:Nat)(c:aC)(v:Value)(l:aj)(fr:Nat)(text:aj)(w:World)(h:uP w p g c v l fr text) :
  Calls prog 53 #[.pointer (some ⟨p,0,none⟩),.pointer (some ⟨g,0,none⟩)] w (uO p g c v l fr text w):=by
 by_cases h4:l.length<4
 ·exact afV p g c v l fr text w h h4
 by_cases h5:l.take 4=fJ
 ·exact afX p g c v l fr text w h h4 h5
 by_cases h6:l.take 4=iH
 ·exact af0 RC RS p g c v l fr text w h h4 h6
 ·exact afW p g c v l fr text w h h4 h5 h6
end Go.Proofs.YtbhemchnjpajiaaGreatDoor
