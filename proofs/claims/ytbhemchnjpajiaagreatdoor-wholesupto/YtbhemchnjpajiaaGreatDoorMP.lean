/- Several texts in one: CodeRef. -/
import Derived.Test.YtbhemchnjpajiaaGreatDoorJE
import Derived.Test.YtbhemchnjpajiaaGreatDoorJC
import Derived.Test.YtbhemchnjpajiaaGreatDoorJB
import Derived.Test.YtbhemchnjpajiaaGreatDoorMA
set_option linter.unusedVariables false
set_option maxRecDepth 100000
set_option maxHeartbeats 4000000
namespace Go.Proofs.YtbhemchnjpajiaaGreatDoor
open Go.RowKit Go.Proofs.Tryz
theorem agu(a:Option Addr)(n cap:Nat)(z:List Int)(w:World)(hI:Ints w a n z)(hin:CM.inB z=false) :
  Calls prog 110 #[.slice a n cap] w (yA z w):=by
 have hgood:CM.good z=false:=by simp[CM.good,hin]
 have hG:Hid (yA z w (.returned (.tuple #[.slice none 0 0,.int .i64 4])) w):=⟨Below.refl _ _,.inl ⟨hgood,rfl⟩⟩
 clear hgood
 obtain⟨hl,hbig,hc⟩:=hI
 by_cases hn:n=0
 ·subst hn
  go_enter func110,ntmps110
  go_wp2
  go_ret2
  exact hG.out
 by_cases h128:128<n
 ·go_enter func110,ntmps110
  go_wp2
  go_ret2
  exact hG.out
 obtain⟨b,off,rfl,hlt,hc'⟩:=hc.resolve_left hn
 have HC:Hid _:=hc'
 clear hc hc'
 have hnf:CM.dW z=false:=by
  simpa[CM.inB,hl,show 1<=n by omega,show n<=128 by omega]using hin
 have HN:Hid _:=hnf
 clear hnf hin
 have t1:decide ((n:Int)<1)=false:=decide_eq_false (by omega)
 have t2:decide ((128:Int)<(n:Int))=false:=decide_eq_false (by omega)
 go_enter func110,ntmps110
 go_wp2_with fail
 go_loopg[5,6] n (fun g tv iv wr=>∃k:Nat,g=n-k/\k<=n/\iv=.int .i64 (k:Int)/\(∃t:Int,tv=.int .i64 t/\0<=t/\t<=128*k)/\Hid (CM.dW (z.take k)=true)/\wr=w)
 case atStart=>exact⟨0,by omega,by omega,rfl,⟨0,rfl,by omega,by omega⟩,rfl,rfl⟩
 case round =>
  obtain⟨k,rfl,hk,rfl,⟨t,rfl,ht0,ht1⟩,hfit,hwr⟩:=hrel
  subst hwr
  by_cases hkn:k<n
  ·have hck:=HC.out k hkn
   have hts:Hid _:=CM.yY z k (by omega)
   generalize z.getD k 0=x at *
   by_cases hx:0<=x/\x<=8
   ·obtain⟨hx0,KC⟩:=hx
    by_cases hxp:0<x
    ·have hp1:=CM.iF (x.toNat-1) 7 (by omega)
     have hp2:=CM.pow_pos (x.toNat-1)
     go_wp2_with(go_at_call 88;refine(pW _ _ (by omega) (by omega)).mono ?_;rintro e w' ⟨rfl,rfl⟩)
     go_roundg(n-(k+1))
     case rel=>exact⟨k+1,rfl,by omega,by go_num,⟨_,rfl,by omega,by omega⟩,by rw[Hid,hts.out,hfit.out];simp[hx0,KC],rfl⟩
     case measure=>omega
    ·go_wp2
     go_roundg(n-(k+1))
     case rel=>exact⟨k+1,rfl,by omega,by go_num,⟨_,rfl,by omega,by omega⟩,by rw[Hid,hts.out,hfit.out];simp[hx0,KC],rfl⟩
     case measure=>omega
   ·by_cases hx0:x<0
    all_goals
     go_wp2
     go_ret2
     exact hG.out
  ·exfalso
   have hf:=hfit.out
   rw[List.take_of_length_le (by omega),HN.out]at hf
   cases hf
theorem TA{x:Int}(h:0<x):CM.sp x=2^(x.toNat-1):=by
 unfold CM.sp
 rw[if_neg (by omega),show(x-1).toNat=x.toNat-1 by omega]
theorem agv(a:Option Addr)(n cap:Nat)(z:List Int)(w:World)(hI:Ints w a n z)(hin:CM.inB z=true) :
  Calls prog 110 #[.slice a n cap] w (yA z w):=by
 obtain⟨hf,h1,h2⟩:=CM.uZ hin
 have htb:=CM.zf hin
 obtain⟨r1,r2,r3,r4,r5⟩:=CM.zh hin
 obtain⟨hl,hbig,hc⟩:=hI
 obtain⟨b,off,rfl,hlt,hc'⟩:=hc.resolve_left (by omega)
 have HC:Hid _:=hc'
 clear hc hc'
 obtain⟨bl,hbl⟩:∃bl:Nat,CM.len (CM.total z)=(bl:Int):=⟨_,rfl⟩
 obtain⟨KE,uM⟩:=CM.bitLen_spec (CM.total z).toNat (by omega)
 have hbb:Lib.bitLen (CM.total z).toNat=bl:=by unfold CM.len at hbl;omega
 rw[hbb]at KE uM
 have hz0:CM.total z=0->bl=0:=by intro e;rw[<- hbb,e];rfl
 have HR:Hid (CM.rest z=2^bl-CM.total z):=by unfold CM.rest;rw[Hid,hbl,Int.toNat_natCast]
 have FC:Hid _:=hbl
 have TB:Hid _:=hin
 have HF:Hid _:=hf
 have ajM:bl<=15:=by omega
 have hT:Hid (CM.tot z n=CM.total z):=by rw[Hid,<- hl];rfl
 clear hbb hbl hin hf
 have t1:decide ((n:Int)<1)=false:=decide_eq_false (by omega)
 have t2:decide ((128:Int)<(n:Int))=false:=decide_eq_false (by omega)
 go_enter func110,ntmps110
 go_wp2_with fail
 go_loopg[5,6] n (fun g tv iv wr=>∃k:Nat,g=n-k/\k<=n/\iv=.int .i64 (k:Int)/\tv=.int .i64 (CM.tot z k)/\wr=w)
 case atStart=>exact⟨0,by omega,by omega,rfl,rfl,rfl⟩
 case round =>
  obtain⟨k,rfl,hk,rfl,rfl,hwr⟩:=hrel
  subst hwr
  have htk:=CM.CU z HF.out k
  by_cases hkn:k<n
  ·have hck:=HC.out k hkn
   have hx:=CM.iY z HF.out k
   have hts:Hid (CM.tot z (k+1)=CM.tot z k+CM.sp (z.getD k 0)):=rfl
   generalize z.getD k 0=x at *
   obtain⟨hx0,KC⟩:=hx
   by_cases hxp:0<x
   ·have hp1:=CM.iF (x.toNat-1) 7 (by omega)
    have hp2:=CM.pow_pos (x.toNat-1)
    go_wp2_with(go_at_call 88;refine(pW _ _ (by omega) (by omega)).mono ?_;rintro e w' ⟨rfl,rfl⟩)
    go_roundg(n-(k+1))
    case rel=>exact⟨k+1,rfl,by omega,by go_num,jY (by rw[hts.out,TA hxp]),rfl⟩
    case measure=>omega
   ·obtain rfl:x=0:=by omega
    go_wp2
    go_roundg(n-(k+1))
    case rel=>exact⟨k+1,rfl,by omega,by go_num,jY (by rw[hts.out];simp[CM.sp]),rfl⟩
    case measure=>omega
  ·obtain rfl:k=n:=by omega
   rw[hT.out]
   clear htk hT HF
   generalize jU:CM.total z=T at *
   have oP:Hid _:=jU
   clear jU
   go_wp2_with fail
   go_loopg[7] 20 (fun g bv wx=>∃j:Nat,g=20-j/\j<=bl/\bv=.int .i64 (j:Int)/\wx=wr)
   case atStart=>exact⟨0,by omega,by omega,rfl,rfl⟩
   case round =>
    obtain⟨j,rfl,hj,rfl,hwr⟩:=hrel
    subst hwr
    have hp1:=CM.iF j 15 (by omega)
    have hp2:=CM.pow_pos j
    have c1:((2^j:Nat):Int)=(2:Int)^j:=by simp
    by_cases hjb:j<bl
    ·have hle:(2:Int)^j<=T:=by
      have hT0:T.toNat≠0:=by
       intro e
       have:=hz0 (by omega)
       omega
      have:=Nat.pow_le_pow_right (n:=2) (by omega) (show j<=bl-1 by omega)
      have:=(uM hT0).1
      omega
     clear KE uM c1
     go_wp2_with(go_at_call 88;refine(pW _ _ (by omega) (by omega)).mono ?_;rintro e w' ⟨rfl,rfl⟩)
     go_roundg(20-(j+1))
     case rel=>exact⟨j+1,rfl,by omega,by go_num,rfl⟩
     case measure=>omega
    ·obtain rfl:j=bl:=by omega
     have hgt:T<(2:Int)^j:=by omega
     clear KE uM c1
     go_wp2_with(go_at_call 88;refine(pW _ _ (by omega) (by omega)).mono ?_;rintro e w' ⟨rfl,rfl⟩)
     have hR1:1<=2^j-T:=by omega
     go_loopg[8,9] 8 (fun g lv wv wx=>∃t:Nat,g=8-t/\t<=8/\wv=.int .i64 ((t:Int)+1)/\lv=.int .i64 (CM.jZ (2^j-T) t)/\wx=w')
     case atStart=>exact⟨0,by omega,by omega,rfl,rfl,rfl⟩
     case round =>
      obtain⟨t,rfl,ht,rfl,rfl,hwr⟩:=hrel
      subst hwr
      have hq1:=CM.iF t 8 (by omega)
      have hq2:=CM.pow_pos t
      have hlb:=CM.VQ (2^j-T) t
      by_cases ht8:t<8
      ·have hls:Hid (CM.jZ (2^j-T) (t+1)=if 2^j-T=2^t then(t:Int)+1 else CM.jZ (2^j-T) t):=rfl
       have htt:((t:Int)+1-1).toNat=t:=by omega
       by_cases hR:(2:Int)^j-T=2^t
       ·have hRb:((2:Int)^j-T==2^t)=true:=by simpa using hR
        have HRR:Hid _:=hR
        clear hR
        go_wp2_with(go_at_call 88;refine(pW _ _ (by omega) (by omega)).mono ?_;rintro e w' ⟨rfl,rfl⟩)
        go_roundg(8-(t+1))
        case rel=>exact⟨t+1,rfl,by omega,by go_num,jY (by rw[hls.out,if_pos HRR.out]),rfl⟩
        case measure=>omega
       ·have hRb:((2:Int)^j-T==2^t)=false:=by simpa using hR
        go_wp2_with(go_at_call 88;refine(pW _ _ (by omega) (by omega)).mono ?_;rintro e w' ⟨rfl,rfl⟩)
        go_roundg(8-(t+1))
        case rel=>exact⟨t+1,rfl,by omega,by go_num,jY (by rw[hls.out,if_neg hR]),rfl⟩
        case measure=>omega
      ·obtain rfl:t=8:=by omega
       have hG:CM.good z=false->Hid (yA z wr (.returned (.tuple #[.slice none 0 0,.int .i64 4])) wr):=fun h=>⟨Below.refl _ _,.inl ⟨h,rfl⟩⟩
       have hgd:CM.good z=((T != 0)&&decide ((j:Int)<=8)&&CM.pw (2^j-T)):=by
        unfold CM.good
        rw[TB.out,oP.out,<- HR.out,show CM.len T=(j:Int)from FC.out]
        simp
       by_cases hT0:T=0
       ·have hG':=hG (by rw[hgd,hT0];simp)
        subst hT0
        clear hG hgd
        go_wp2
        go_ret2
        exact hG'.out
       ·have u1:(T==0)=false:=by simpa using hT0
        by_cases hj8:8<j
        ·have hG':=hG (by rw[hgd];simp;omega)
         clear hG hgd
         have u2:decide ((8:Int)<(j:Int))=true:=decide_eq_true (by omega)
         go_wp2
         go_ret2
         exact hG'.out
        ·have u2:decide ((8:Int)<(j:Int))=false:=decide_eq_false (by omega)
         have mF:=CM.iF j 8 (by omega)
         have hRT:2^j-T<=T:=by have:=r2 hT0;have:=HR.out;omega
         obtain⟨la,lb⟩:=CM.VR (2^j-T) hR1 (by omega)
         cases hpw:CM.pw (2^j-T)with
         | false =>
          have u3:=lb hpw
          have hG':=hG (by rw[hgd,hpw];simp)
          clear hG hgd la lb
          go_wp2
          go_ret2
          exact hG'.out
         | true =>
          obtain⟨lc,u3⟩:=la hpw
          have hgood:CM.good z=true:=by rw[hgd,hpw];simp[hT0];omega
          clear hG hgd la lb
          have HG:Hid _:=hgood
          have HLC:Hid _:=lc
          clear lc hgood hpw
          obtain⟨i0,hi0,hz0',hz1,hz2⟩:=info_parts GR
          go_wp2_with fail
          clear hRT mF u1 u2 u3 hR1 hgt r1 r2 r3 r4 r5 htb hz0
          obtain⟨wo,rfl⟩:∃wo:World,wo=wr:=⟨_,rfl⟩
          go_loopg[10,11] k (fun g v iv wx=>∃i:Nat,g=k-i/\i<=k/\iv=.int .i64 (i:Int)/\wx.ownsRow wo.heap.size 3 1 v i (intCells (z.take i))/\Below wo.heap.size wo wx)
          case atStart=>exact⟨0,by omega,by omega,rfl,World.ownsRow_nil _ _ _ _,Below.refl _ _⟩
          case round =>
           obtain⟨i,rfl,hi,rfl,hown,hbel⟩:=hrel
           have hsz:=hbel.size
           by_cases hik:i<k
           ·have hck:wr.cell? ⟨b,off+i,none⟩=some (.int .i64 (z.getD i 0)):=(hbel.cell (p:=⟨b,off+i,none⟩) hlt).trans (HC.out i hik)
            have htk:Hid _:=Vs z i (by omega)
            generalize z.getD i 0=x at *
            go_wp2_with(first|(at_builtin;refine wpList_append_own _ rfl _ _ 27 rfl wo.heap.size 3 i0 _ 1 8 underlying27 hi0 hz0' hz1 hz2 rfl (by decide) _ _ _ rfl (hown.alloc _) ⟨wr.heap.size,0,none⟩ 1 1 [.int .i64 x] rfl rfl (cell_one_new _ _ _) (one_one _) (by unfold maxLen;omega) (by omega) (by simp;omega) ?_))
            intro v' w1 hown' hgrow _
            have hb1:Below wo.heap.size wo w1:=(hbel.alloc hbel.size _).grown hgrow (by simp;omega) (fun j hj=>(hown.lt j hj).1)
            clear hgrow hown hck
            go_wp2
            go_roundg(k-(i+1))
            case rel=>exact⟨i+1,rfl,by omega,by go_num,by rw[htk.out];exact hown',hb1⟩
            case measure=>omega
           ·obtain rfl:i=k:=by omega
            rw[List.take_of_length_le (by omega)]at hown
            go_wp2_with(first|(at_builtin;refine wpList_append_own _ rfl _ _ 27 rfl wo.heap.size 3 i0 _ 1 8 underlying27 hi0 hz0' hz1 hz2 rfl (by decide) _ _ _ rfl (hown.alloc _) ⟨wr.heap.size,0,none⟩ 1 1 [.int .i64 (CM.jZ (2^j-T) 8)] rfl rfl (cell_one_new _ _ _) (one_one _) (by unfold maxLen;omega) (by omega) (by simp;omega) ?_))
            intro v' w1 hown' hgrow _
            have hb1:Below wo.heap.size wo w1:=(hbel.alloc hbel.size _).grown hgrow (by simp;omega) (fun j hj=>(hown.lt j hj).1)
            clear hgrow hown
            have hall:intCells z++[.int .i64 (CM.jZ (2^j-T) 8)]=intCells (CM.all z):=by
             rw[HLC.out,<- HR.out]
             simp[CM.all,intCells]
            rw[hall]at hown'
            obtain⟨g,c,rest,hv,hg1,hblk,hc1,hc2,hc3⟩:=mY hown' (by omega)
            rw[hv]
            clear hown' hall hv hbel
            have hsz1:=hb1.size
            have HBK:Hid _:=hblk
            have hgl:=hblk.lt
            clear hblk
            obtain⟨q1,q2,q3,q4⟩:=CM.L9 TB.out (by rw[oP.out];exact hT0) (by rw[oP.out,show CM.len T=(j:Int)from FC.out];omega) (M_ HG.out).2.2.2
            have TD:∀v,CM.val (CM.all z) v<=(j:Int):=fun v=>by have:=q4 v;rw[oP.out,show CM.len T=(j:Int)from FC.out]at this;exact this
            have Gw:Hid (CM.codes z=(CM.gs (CM.all z) j 8).1):=by
             rw[Hid,CM.VU (CM.all z) j TD 8 (by omega)]
             unfold CM.codes
             rw[oP.out,show CM.len T=(j:Int)from FC.out,Int.toNat_natCast]
            have hal:(CM.all z).length=i+1:=by rw[CM.Dh];omega
            clear q1 q2 q3 q4 TD
            generalize CM.all z=ws at *
            obtain⟨i1,hi1,hy0,hy1,hy2⟩:=info_parts MZ
            go_wp2_with fail
            go_loopg[12,13,14] 8 (fun g v sv wv wx=>∃t:Nat,g=8-t/\t<=8/\wv=.int .i64 ((t:Int)+1)/\sv=.int .i64 (CM.gs ws j t).2/\wx.ownsRow w1.heap.size 245 3 v (CM.gs ws j t).1.length (CM.cellsOf (CM.gs ws j t).1)/\Below w1.heap.size w1 wx)
            case atStart=>exact⟨0,by omega,by omega,rfl,rfl,World.ownsRow_nil _ _ _ _,Below.refl _ _⟩
            case round =>
             obtain⟨t,rfl,ht,rfl,rfl,hown,hbel⟩:=hrel
             by_cases ht8:t<8
             ·have htd:decide ((t:Int)+1<=8)=true:=by simp;omega
              have hgs:=CM.Gi ws j t (by omega)
              go_wp2_with fail
              obtain⟨wp,rfl⟩:∃wp:World,wp=wr:=⟨_,rfl⟩
              go_loopg[12,13,15] (i+1) (fun g v sv kv wx=>∃u:Nat,g=i+1-u/\u<=i+1/\kv=.int .i64 (u:Int)/\sv=.int .i64 (CM.gk ws j ((t:Int)+1) (CM.gs ws j t) u).2/\wx.ownsRow w1.heap.size 245 3 v (CM.gk ws j ((t:Int)+1) (CM.gs ws j t) u).1.length (CM.cellsOf (CM.gk ws j ((t:Int)+1) (CM.gs ws j t) u).1)/\Below w1.heap.size w1 wx)
              case atStart=>exact⟨0,by omega,by omega,rfl,rfl,hown,hbel⟩
              case round =>
               clear hown hbel
               obtain⟨u,rfl,hu,rfl,rfl,hown,hbel⟩:=hrel
               have hgk:=CM.Gh ws j ((t:Int)+1) (CM.gs ws j t) (by omega) u
               have zI:Hid (CM.gk ws j ((t:Int)+1) (CM.gs ws j t) (u+1)=if ws.getD u 0=(t:Int)+1 then((CM.gk ws j ((t:Int)+1) (CM.gs ws j t) u).1++[((u:Int),(j:Int)+1-((t:Int)+1),(CM.gk ws j ((t:Int)+1) (CM.gs ws j t) u).2/2^((t:Int)+1-1).toNat)],(CM.gk ws j ((t:Int)+1) (CM.gs ws j t) u).2+CM.sp ((t:Int)+1))else CM.gk ws j ((t:Int)+1) (CM.gs ws j t) u):=rfl
               have hfull:Hid (u=i+1->CM.gk ws j ((t:Int)+1) (CM.gs ws j t) u=CM.gs ws j (t+1)):=by
                rintro rfl;rw[<- hal];rfl
               have hm:t*ws.length<=8*129:=Nat.mul_le_mul (by omega) (by omega)
               have agA:=hbel.size
               generalize CM.gk ws j ((t:Int)+1) (CM.gs ws j t) u=G at *
               obtain⟨L,st⟩:=G
               simp only at hgk hown
               by_cases hui:u<i+1
               ·have hck:wr.cell? ⟨g,u,none⟩=some (.int .i64 (ws.getD u 0)):=by
                 refine((show aB w1 g 3 (intCells ws++rest)from HBK.out).below hbel hgl).cell ?_
                 rw[List.getElem?_append_left (by simp[intCells];omega)]
                 exact zx ws u (by omega)
                generalize ws.getD u 0=x at *
                have hud:decide ((u:Int)<=(i:Int))=true:=decide_eq_true (by omega)
                by_cases hx:x=(t:Int)+1
                ·subst hx
                 have htn:((t:Int)+1-1).toNat=t:=by omega
                 have hq1:=CM.iF t 8 (by omega)
                 have hq2:=CM.pow_pos t
                 go_wp2_with(first|(go_at_call 88;refine(qO _ _ (by omega) (by omega)).mono ?_;rintro e w' ⟨rfl,rfl⟩)|(at_builtin;refine wpList_append_own _ rfl _ _ 116 rfl w1.heap.size 245 i1 _ 3 24 underlying116 hi1 hy0 hy1 hy2 rfl (by decide) _ _ _ rfl (hown.alloc _) ⟨wr.heap.size,0,none⟩ 1 1 [.int .i64 (u:Int),.int .i64 ((j:Int)+1-((t:Int)+1)),.int .i64 (st/2^t)] rfl rfl (CZ _ _ _ _ _) (C9 _ _ _) (by unfold maxLen;omega) (by omega) (by simp;omega) ?_))
                 intro v' w2 hown' hgrow _
                 have hb2:Below w1.heap.size w1 w2:=(hbel.alloc hbel.size _).grown hgrow (by simp;omega) (fun j hj=>(hown.lt j hj).1)
                 clear hgrow hown hck
                 go_wp2_with(first|(go_at_call 88;refine(qO _ _ (by omega) (by omega)).mono ?_;rintro e w' ⟨rfl,rfl⟩))
                 go_roundg(i+1-(u+1))
                 case rel =>
                  have e:=zI.out
                  rw[if_pos trivial,htn]at e
                  refine⟨u+1,rfl,by omega,by go_num,?_,?_,hb2⟩
                  ·rw[e]
                   refine jY ?_
                   simp only
                   rw[TA (by omega)]
                   congr 2
                  ·rw[e,CM.Gg]
                   simpa using hown'
                 case measure=>omega
                ·have hxb:(x==(t:Int)+1)=false:=by simp;omega
                 go_wp2
                 go_roundg(i+1-(u+1))
                 case rel =>
                  have e:=zI.out
                  rw[if_neg hx]at e
                  exact⟨u+1,rfl,by omega,by go_num,by rw[e],by rw[e];exact hown,hbel⟩
                 case measure=>omega
               ·have hkn':u=i+1:=by omega
                have E:Hid _:=hfull.out hkn'
                have hud:decide ((u:Int)<=(i:Int))=false:=decide_eq_false (by omega)
                go_wp2
                go_roundg(8-(t+1))
                case rel=>exact⟨t+1,rfl,by omega,by go_num,by rw[<- E.out],by rw[<- E.out];exact hown,hbel⟩
                case measure=>omega
             ·obtain rfl:t=8:=by omega
              go_wp2
              go_ret2
              refine⟨hb1.trans (hbel.mono hb1.size),.inr ⟨HG.out,_,rfl,?_⟩⟩
              rw[Gw.out]
              exact ownsRow_base hown hb1.size
theorem agB(a:Option Addr)(n cap:Nat)(z:List Int)(w:World)(hI:Ints w a n z) :
  Calls prog 110 #[.slice a n cap] w (yA z w):=by
 cases h:CM.inB z with
 | true=>exact agv a n cap z w hI h
 | false=>exact agu a n cap z w hI h
end Go.Proofs.YtbhemchnjpajiaaGreatDoor
