/- Several texts in one: RefWts, PrWts, PrLit, PrLit2. -/
import Derived.Test.YtbhemchnjpajiaaGreatDoorJF
import Derived.Deep.RegionLaw
import Derived.Deep.AppendLies
set_option linter.unusedVariables false
set_option maxRecDepth 100000
set_option maxHeartbeats 1000000
namespace Go.Proofs.YtbhemchnjpajiaaGreatDoor
open Go.RowKit Go.Proofs.Tryz RD
theorem Dy(s:aj):(RD.halves s).length=2*s.length:=by
 induction s with
 | nil=>rfl
 | cons b r ih =>
  simp only[RD.halves,List.flatMap_cons,List.length_append,List.length_cons]at *
  rw[ih]
  simp
  omega
theorem NH(s:aj)(i:Nat)(h:i<s.length):RD.halves (s.take (i+1))=RD.halves (s.take i)++[((ak s i%16:Nat):Int)]++[((ak s i/16:Nat):Int)]:=by
 rw[List.take_succ_eq_append_getElem h,qL _ _ h]
 unfold RD.halves
 rw[List.flatMap_append,List.flatMap_cons,List.flatMap_nil,List.append_nil,List.append_assoc]
 rfl
def Xu(s:aj)(n:Nat)(w:World)(e:Ending)(w':World):Prop :=
 Below w.heap.size w w'/\((RD.weights s n=none/\e=.returned (.tuple #[.slice none 0 0,.bool false])) \/
  ∃z a c,RD.weights s n=some z/\e=.returned (.tuple #[.slice a n c,.bool true])/\Ints w' a n z)
theorem Xv(s:aj)(n:Nat)(w:World)(hs:s.length<=1048576)(hn:n<=255) :
  Calls prog 109 #[.string (ah s),.int .i64 n] w (Xu s n w):=by
 have hz:=aQ s
 obtain⟨i0,hi0,hz0',hz1,hz2⟩:=info_parts oh
 go_enter func109,ntmps109
 go_wp2_with fail
 go_loopg[6,7] ((n+1)/2) (fun g v iv wr=>∃i:Nat,g=(n+1)/2-i/\i<=(n+1)/2/\i<=s.length/\iv=.int .i64 (i:Int)/\cO w.heap.size wr v (RD.halves (s.take i))/\Below w.heap.size w wr)
 case atStart=>exact⟨0,by omega,by omega,by omega,rfl,World.ownsRow_nil _ _ _ _,Below.refl _ _⟩
 case round =>
  obtain⟨i,rfl,hi,his,rfl,hown,hbel⟩:=hrel
  have hown:=aA hown
  have hbel:=aA hbel
  have hsz:=hbel.out.size
  by_cases hlt:i<(n+1)/2
  ·by_cases hls:i<s.length
   ·have hg:=gq s i (by omega)
    have hb:=dQ s i
    have hht:=aA (NH s i hls)
    have zO:=Dy (s.take i)
    have Xw:(RD.halves (s.take i)).length<=512:=by rw[zO];simp;omega
    clear zO
    generalize ak s i=b at *
    have hm1:((b:Nat):Int).tmod 16=((b%16:Nat):Int):=by rw[Int.tmod_eq_emod_of_nonneg (by omega)];omega
    have hq1:((b:Nat):Int)/16=((b/16:Nat):Int):=by omega
    have hb1:b%16<=15:=by omega
    have hb2:b/16<=15:=by omega
    generalize b%16=lo at *
    generalize b/16=hi' at *
    go_wp2_with(at_builtin;refine wpList_append_own _ rfl _ _ 27 rfl w.heap.size 3 i0 _ 1 8 underlying27 hi0 hz0' hz1 hz2 rfl (by decide) _ _ _ rfl (World.ownsRow.alloc hown.out _) ⟨wr.heap.size,0,none⟩ 1 1 [.int .i64 (lo:Int)] rfl rfl (jA _ _ _) (one_one _) (by unfold maxLen;omega) (by omega) (by simp;omega) ?_)
    intro v1 w1 hown1 hgrow _
    have dh:Below w.heap.size w w1:=(hbel.out.alloc hbel.out.size _).grown hgrow (by simp;omega) (fun k hk=>(World.ownsRow.lt hown.out k hk).1)
    have dS:Hid (cO w.heap.size w1 v1 (RD.halves (s.take i)++[(lo:Int)])):=by
     unfold Hid cO
     rw[List.length_append,List.length_singleton]
     have e2:intCells (RD.halves (s.take i)++[(lo:Int)])=intCells (RD.halves (s.take i))++[.int .i64 (lo:Int)]:=by simp[intCells]
     rw[e2]
     exact hown1
    clear hown1 hgrow
    have hsz1:=dh.size
    have dh:=aA dh
    go_wp2_with(at_builtin;refine wpList_append_own _ rfl _ _ 27 rfl w.heap.size 3 i0 _ 1 8 underlying27 hi0 hz0' hz1 hz2 rfl (by decide) _ _ _ rfl (World.ownsRow.alloc dS.out _) ⟨w1.heap.size,0,none⟩ 1 1 [.int .i64 (hi':Int)] rfl rfl (jA _ _ _) (one_one _) (by unfold maxLen;rw[List.length_append,List.length_singleton];omega) (by rw[List.length_append,List.length_singleton];omega) (by simp;omega) ?_)
    intro v2 w2 hown2 hgrow _
    have G9:Below w.heap.size w w2:=(dh.out.alloc dh.out.size _).grown hgrow (by simp;omega) (fun k hk=>(World.ownsRow.lt dS.out k hk).1)
    have Xx:Hid (cO w.heap.size w2 v2 (RD.halves (s.take (i+1)))):=by
     unfold Hid cO
     rw[hht.out,List.length_append,List.length_singleton,List.length_append,List.length_singleton]
     have e2:intCells (RD.halves (s.take i)++[(lo:Int)]++[(hi':Int)])=intCells (RD.halves (s.take i)++[(lo:Int)])++[.int .i64 (hi':Int)]:=by simp[intCells]
     rw[e2]
     exact hown2
    clear hown2 hgrow
    go_wp2
    go_roundg((n+1)/2-(i+1))
    case rel=>exact⟨i+1,rfl,by omega,by omega,by go_num,Xx.out,G9⟩
    case measure=>omega
   ·go_wp2_with fail
    go_ret2
    refine⟨hbel.out,.inl ⟨?_,rfl⟩⟩
    rw[RD.weights,if_pos (by omega)]
  ·obtain rfl:i=(n+1)/2:=by omega
   have hw:Hid (RD.weights s n=if n<(RD.halves (s.take ((n+1)/2))).length/\(RD.halves (s.take ((n+1)/2))).getD n 0≠0 then none else some ((RD.halves (s.take ((n+1)/2))).take n)):=by
    unfold Hid RD.weights
    rw[if_neg (by omega)]
   have hl:(RD.halves (s.take ((n+1)/2))).length=2*((n+1)/2):=by rw[Dy];simp;omega
   obtain⟨a,c,rfl⟩:=hown.out.slice
   have hI:=hown.out.ints (by omega)
   obtain⟨hr1,hr2,hr3⟩:=hown.out.room
   unfold maxLen at hr2
   generalize RD.halves (s.take ((n+1)/2))=z at *
   clear hown
   rw[hl]at hI hw hr1 hr3⊢
   have Hl:=aA hl
   clear hl
   by_cases zQ:2*((n+1)/2)=n
   ·rw[zQ]at hI hw hr1 hr3⊢
    have hw':Hid (RD.weights s n=some (z.take n)):=by
     unfold Hid
     rw[hw.out,if_neg (by omega)]
    have hI':=aA (hI.take (Nat.le_refl n))
    rcases hr3 with hr3|⟨g,rfl⟩
    ·subst hr3
     cases a with
     | none =>
      go_wp2_with fail
      go_ret2
      exact⟨hbel.out,.inr ⟨_,_,_,hw'.out,rfl,⟨by simp,by omega,.inl rfl⟩⟩⟩
     | some ad =>
      go_wp2_with fail
      go_ret2
      exact⟨hbel.out,.inr ⟨_,_,_,hw'.out,rfl,⟨by simp,by omega,.inl rfl⟩⟩⟩
    ·go_wp2_with fail
     go_ret2
     exact⟨hbel.out,.inr ⟨_,_,_,hw'.out,rfl,hI'.out⟩⟩
   ·have hodd:2*((n+1)/2)=n+1:=by omega
    rw[hodd]at hI hw hr1 hr3⊢
    have hI':=aA (hI.take (Nat.le_succ n))
    obtain⟨g,rfl⟩:=hr3.resolve_left (by omega)
    obtain⟨b,off,hb,hlt',hc⟩:=hI.2.2.resolve_left (by omega)
    obtain⟨rfl,rfl⟩:g=b/\0=off:=by simpa using hb
    have hcn:=hc n (by omega)
    rw[Nat.zero_add]at hcn
    clear hb hc
    by_cases hzn:z.getD n 0=0
    ·rw[hzn]at hcn
     have hw':Hid (RD.weights s n=some (z.take n)):=by
      unfold Hid
      rw[hw.out,if_neg (by rw[hzn];simp)]
     go_wp2_with fail
     go_ret2
     exact⟨hbel.out,.inr ⟨_,_,_,hw'.out,rfl,hI'.out⟩⟩
    ·have hw':Hid (RD.weights s n=none):=by
      unfold Hid
      rw[hw.out,if_pos ⟨by omega,hzn⟩]
     have hzb:(z.getD n 0==0)=false:=by simpa using hzn
     generalize z.getD n 0=x at *
     go_wp2_with fail
     go_ret2
     exact⟨hbel.out,.inl ⟨hw'.out,rfl⟩⟩
theorem vJ(l:aj)(h:1<=l.length):au (l.take 1)=ak l 0:=by
 match l,h with
 | a::r,_=>simp[au,ak]
theorem bD.put{w:World}{p:Nat}{l:aj}(h:bD w p l)(t:aj):bD (w.setCell ⟨p,0,none⟩ (.string (ah t))) p t:=aB.put h 0 _
theorem bD.below{w w':World}{p:Nat}{l:aj}(h:bD w p l)(hb:Below w.heap.size w w'):bD w' p l:=aB.below h hb (aB.lt h)
theorem Xy(w:World)(t:TypeId)(x y:Value):∀j u,[x,y][j]?=some u->(w.alloc (.cells #[x,y] t)).cell? ((⟨w.heap.size,0,none⟩:Addr).add j)=some u:=by
 intro j u hj
 match j,hj with
 | 0,hj=>simp at hj;subst hj;simp[Addr.add]
 | 1,hj=>simp at hj;subst hj;simp[Addr.add]
theorem NI(x y:Int):∀u∈[Value.int .i64 x,.int .i64 y],u.oneCell'=true:=by
 intro u hu;simp at hu;rcases hu with rfl|rfl<;>rfl
theorem jW{B:Nat}{a w:World}(h:Below B a w):Below B a w.drew:=⟨h.os,h.tape,h.output,h.size,h.block⟩
def Xz(x:Fx)(p:Nat)(l:aj)(w:World)(e:Ending)(w':World):Prop :=
 Only (·=p) w w'/\(((l.length=0\/RD.weights (l.drop 1) (ak l 0)=none)/\e=.returned (.tuple #[.slice none 0 0,aW x.f])) \/
  ∃z a c,0<l.length/\RD.weights (l.drop 1) (ak l 0)=some z/\(ak l 0+1)/2<=(l.drop 1).length/\e=.returned (.tuple #[.slice a (ak l 0) c,.nilIface])/\Ints w' a (ak l 0) z/\bD w' p (l.drop (1+(ak l 0+1)/2)))
theorem XA(x:Fx)(p:Nat)(l:aj)(w:World)(h:bD w p l)(hV:bI x w)(hs:l.length<=1048576)(hpb:x.base<=p) :
  Calls prog 143 #[.pointer (some ⟨p,0,none⟩)] w (Xz x p l w):=by
 obtain⟨i0,hi0,hz0',hz1,hz2⟩:=info_parts oh
 go_enter func143,ntmps143
 go_wp2_with fail
 refine(vH x p l 1 _ h hV (by omega) (by omega)).mono ?_
 rintro e w1 (⟨h1,rfl,hb⟩|⟨h1,rfl,rfl⟩)
 ·have cF:=(hV.below hb).cF
  go_wp2_with fail
  go_ret2
  exact⟨aH hb,.inl ⟨.inl (by omega),rfl⟩⟩
 ·have hA1:bD (w.setCell ⟨p,0,none⟩ (.string (ah (l.drop 1)))) p (l.drop 1):=h.put _
  have aF:Only (·=p) w (w.setCell ⟨p,0,none⟩ (.string (ah (l.drop 1)))):=(Only.refl _ _).setCell _ _ (fun _=>rfl)
  have hV1:=hV.only aF (fun k e=>by omega)
  generalize w.setCell ⟨p,0,none⟩ (.string (ah (l.drop 1)))=w1 at *
  rw[vJ l h1]
  have hb0:=dQ l 0
  obtain⟨n,hn⟩:∃n,n=ak l 0:=⟨_,rfl⟩
  rw[<- hn]at hb0
  rw[<- hn]
  replace hn:=aA hn
  obtain⟨s,hsd⟩:∃s,s=l.drop 1:=⟨_,rfl⟩
  have hsl:s.length<=1048576:=by rw[hsd];simp;omega
  rw[<- hsd]at hA1
  replace hsd:=aA hsd
  have hq:((n:Int)+1)/2=(((n+1)/2:Nat):Int):=by omega
  obtain⟨k,hk⟩:∃k,k=(n+1)/2:=⟨_,rfl⟩
  rw[<- hk]at hq
  have hkb:k<=128:=by omega
  replace hk:=aA hk
  go_wp2_with fail
  refine(xu x p s k _ hA1 hV1 (by omega) (by omega)).mono ?_
  rintro e w2 (⟨h2,rfl,hb⟩|⟨h2,rfl,rfl⟩)
  ·have cF:=(hV1.below hb).cF
   clear hq
   go_wp2_with fail
   go_ret2
   refine⟨aF.below hb,.inl ⟨.inr ?_,rfl⟩⟩
   rw[<- hn.out,<- hsd.out,RD.weights,if_pos (by have:=hk.out;omega)]
  ·have hA2:bD (w1.setCell ⟨p,0,none⟩ (.string (ah (s.drop k)))) p (s.drop k):=hA1.put _
   have hO2:Only (·=p) w (w1.setCell ⟨p,0,none⟩ (.string (ah (s.drop k)))):=aF.setCell _ _ (fun _=>rfl)
   have hV2:=hV.only hO2 (fun k e=>by omega)
   generalize w1.setCell ⟨p,0,none⟩ (.string (ah (s.drop k)))=w2 at *
   clear hq
   have hst:(s.take k).length=k:=by simp;omega
   have hz:=aQ (s.take k)
   rw[hst]at hz
   clear hst
   go_wp2_with fail
   go_loopg[7,30] (k+1) (fun gh v iv wr=>∃i:Nat,gh=k+1-i/\i<=k/\iv=.int .i64 (i:Int)/\cO w2.heap.size wr v (RD.halves (s.take i))/\Below w2.heap.size w2 wr)
   case atStart=>exact⟨0,rfl,by omega,rfl,World.ownsRow_nil _ _ _ _,Below.refl _ _⟩
   case round =>
    obtain⟨i,rfl,hi,rfl,hown,hbel⟩:=hrel
    have hsz:=hbel.size
    by_cases hlt:i<k
    ·have hb':Hid _:=gq (s.take k) i (by omega)
     have hat:ak (s.take k) i=ak s i:=by
      rw[qL _ _ (by simp;omega),qL _ _ (by omega),List.getElem_take]
     rw[hat]at hb'
     have hb:=dQ s i
     have hht:=aA (NH s i (by omega))
     have zO:=Dy (s.take i)
     have Xw:(RD.halves (s.take i)).length<=512:=by rw[zO];simp;omega
     clear zO hat
     obtain⟨a,c,rfl⟩:=hown.slice
     replace hown:=aA hown
     replace hbel:=aA hbel
     have g1:IntKind.i64.wrap (bits .and .u8 (((ah (s.take k))[i]'(by omega)).toNat:Int) 15)=((ak s i%16:Nat):Int):=by
      have e:=u8_and_nat (ak s i) 15 (by omega) (by omega)
      rw[show(15:Nat)=2^4-1 by rfl,Nat.and_two_pow_sub_one_eq_mod]at e
      rw[hb'.out,show(15:Int)=((2^4-1:Nat):Int) by rfl,e,IntKind.wrap_i64]
      omega
     have g2:IntKind.i64.wrap ((((ah (s.take k))[i]'(by omega)).toNat:Int)/16)=((ak s i/16:Nat):Int):=by
      rw[hb'.out,IntKind.wrap_i64]
      omega
     go_wp2_with fail
     go_region_law(refine step_append_lies _ rfl (.tmp 33) (.tmp 44) 27 rfl w2.heap.size 3 i0 _ 1 8 underlying27 hi0 hz0' hz1 hz2 rfl (by decide) (.slice a (RD.halves (s.take i)).length c) _ _ rfl (World.ownsRow.alloc hown.out _) ⟨wr.heap.size,0,none⟩ 2 2 [.int .i64 ((ak s i%16:Nat):Int),.int .i64 ((ak s i/16:Nat):Int)] rfl rfl (Xy _ _ _ _) (NI _ _) (by omega) (by unfold maxLen;omega) (by omega) (by simp;omega) _ rfl ?_;intro g cap w3 hown3 hgrow hg hlt3)
     all_goals
      have hbd:Below w2.heap.size w2 (wr.alloc (.cells #[.int .i64 ((ak s i%16:Nat):Int),.int .i64 ((ak s i/16:Nat):Int)] 3)).drew:=jW (hbel.out.alloc hsz _)
      have jk:Hid (Below w2.heap.size w2 w3):=hbd.grown hgrow (by simp;omega) (fun k hk=>(World.ownsRow.lt hown.out k hk).1)
      have G_:Hid (cO w2.heap.size w3 (.slice (some ⟨g,0,none⟩) ((RD.halves (s.take i)).length+2) cap) (RD.halves (s.take (i+1)))):=by
       unfold Hid cO
       rw[hht.out,List.length_append,List.length_singleton,List.length_append,List.length_singleton]
       have e2:intCells (RD.halves (s.take i)++[((ak s i%16:Nat):Int)]++[((ak s i/16:Nat):Int)])=intCells (RD.halves (s.take i))++[.int .i64 ((ak s i%16:Nat):Int),.int .i64 ((ak s i/16:Nat):Int)]:=by simp[intCells]
       rw[e2]
       exact hown3
      clear hgrow hown3 hg hbd
      go_wp2
      go_roundg(k+1-(i+1))
      case rel=>exact⟨i+1,rfl,by omega,by go_num,G_.out,jk.out⟩
      case measure=>omega
    ·obtain rfl:i=k:=by omega
     have hl:(RD.halves (s.take i)).length=2*i:=by rw[Dy];simp;omega
     have hw:Hid (RD.weights s n=if n<(RD.halves (s.take i)).length/\(RD.halves (s.take i)).getD n 0≠0 then none else some ((RD.halves (s.take i)).take n)):=by
      unfold Hid RD.weights
      rw[if_neg (by have:=hk.out;omega),<- hk.out]
     obtain⟨a,c,rfl⟩:=hown.slice
     have hI:=hown.ints (by omega)
     obtain⟨hr1,hr2,hr3⟩:=hown.room
     unfold maxLen at hr2
     have vK:bD wr p (s.drop i):=aB.below hA2 hbel (aB.lt hA2)
     have jO:Hid (Only (·=p) w wr):=hO2.below hbel
     have cF:=(hV2.below hbel).cF
     have hAd:Hid (s.drop i=l.drop (1+(ak l 0+1)/2)):=by
      rw[Hid,hsd.out,hk.out,hn.out,List.drop_drop]
     have hls:(ak l 0+1)/2<=(l.drop 1).length:=by rw[<- hsd.out,<- hn.out,<- hk.out];omega
     rw[hAd.out]at vK
     clear hown hAd
     generalize RD.halves (s.take i)=z at *
     have hk2:=hk.out
     rw[hl]at hI hw hr1 hr3⊢
     replace hl:=aA hl
     replace vK:=aA vK
     by_cases zQ:2*i=n
     ·rw[zQ]at hI hw hr1 hr3⊢
      have hw':Hid (RD.weights s n=some (z.take n)):=by
       unfold Hid
       rw[hw.out,if_neg (by omega)]
      have hI':=aA (hI.take (Nat.le_refl n))
      clear hk2 zQ
      rcases hr3 with hr3|⟨g,rfl⟩
      ·subst hr3
       rw[hsd.out,hn.out]at hw'
       cases a with
       | none =>
        go_wp2_with fail
        go_ret2
        exact⟨jO.out,.inr ⟨_,_,_,by omega,hw'.out,hls,by rw[<- hn.out];rfl,by rw[<- hn.out];exact⟨by simp,by omega,.inl rfl⟩,vK.out⟩⟩
       | some ad =>
        go_wp2_with fail
        go_ret2
        exact⟨jO.out,.inr ⟨_,_,_,by omega,hw'.out,hls,by rw[<- hn.out];rfl,by rw[<- hn.out];exact⟨by simp,by omega,.inl rfl⟩,vK.out⟩⟩
      ·go_wp2_with fail
       go_ret2
       exact⟨jO.out,.inr ⟨z.take n,some ⟨g,0,none⟩,_,by omega,by rw[<- hsd.out,<- hn.out];exact hw'.out,hls,by rw[<- hn.out];rfl,by rw[<- hn.out];exact hI'.out,vK.out⟩⟩
     ·have hodd:2*i=n+1:=by omega
      rw[hodd]at hI hw hr1 hr3⊢
      have hI':=aA (hI.take (Nat.le_succ n))
      clear hk2 zQ hodd
      obtain⟨g,rfl⟩:=hr3.resolve_left (by omega)
      obtain⟨b,off,hb,hlt',hc⟩:=hI.2.2.resolve_left (by omega)
      obtain⟨rfl,rfl⟩:g=b/\0=off:=by simpa using hb
      have hcn:=hc n (by omega)
      rw[Nat.zero_add]at hcn
      clear hb hc
      by_cases hzn:z.getD n 0=0
      ·rw[hzn]at hcn
       have hw':Hid (RD.weights s n=some (z.take n)):=by
        unfold Hid
        rw[hw.out,if_neg (by rw[hzn];simp)]
       go_wp2_with fail
       go_ret2
       exact⟨jO.out,.inr ⟨z.take n,some ⟨g,0,none⟩,_,by omega,by rw[<- hsd.out,<- hn.out];exact hw'.out,hls,by rw[<- hn.out];rfl,by rw[<- hn.out];exact hI'.out,vK.out⟩⟩
      ·have hw':Hid (RD.weights s n=none):=by
        unfold Hid
        rw[hw.out,if_pos ⟨by omega,hzn⟩]
       have hzb:(z.getD n 0==0)=false:=by simpa using hzn
       generalize z.getD n 0=y at *
       go_wp2_with fail
       go_quiet(fail)
       go_wp2
       go_ret2
       exact⟨jO.out.drewN _,.inl ⟨.inr (by rw[<- hsd.out,<- hn.out];exact hw'.out),rfl⟩⟩
theorem aB.ne{w:World}{a b:Nat}{t u:TypeId}{xs ys:List Value}(h:aB w a t xs)(k:aB w b u ys)(hne:t≠u):a≠b:=by
 intro e
 subst e
 have h1:w.heap[a]?=some (.cells xs.toArray t (0,0)):=h
 have h2:w.heap[a]?=some (.cells ys.toArray u (0,0)):=k
 rw[h1]at h2
 injection h2 with h2
 injection h2 with _ h2
 exact hne h2
def vM(l:aj):Option (List CM.aG) :=
 if l.length=0 then none
 else match RD.weights (l.drop 1) (ak l 0)with
  | none=>none
  | some z=>if CM.good z=true then some (CM.codes z)else none
def XB(x:Fx)(p:Nat)(l:aj)(w:World)(e:Ending)(w':World):Prop :=
 Only (·=p) w w'/\((vM l=none/\e=.returned (.tuple #[.pointer none,aW x.f])) \/
  ∃cs T,vM l=some cs/\(ak l 0+1)/2<=(l.drop 1).length/\0<l.length/\e=.returned (.tuple #[.pointer (some ⟨T,0,none⟩),.nilIface])/\Dv w' T cs/\bD w' p (l.drop (1+(ak l 0+1)/2))/\w.heap.size<=T)
theorem XC(x:Fx)(p:Nat)(l:aj)(w:World)(h:bD w p l)(hV:bI x w)(hs:l.length<=1048576)(hpb:x.base<=p) :
  Calls prog 134 #[.pointer (some ⟨p,0,none⟩)] w (XB x p l w):=by
 go_enter func134,ntmps134
 go_wp2_with fail
 refine(XA x p l _ h hV hs hpb).mono ?_
 rintro e w1 ⟨ho,⟨hn,rfl⟩|⟨z,a,c,hl,hz,hln,rfl,hI,hA⟩⟩
 ·go_wp2_with fail
  go_ret2
  refine⟨ho,.inl ⟨?_,rfl⟩⟩
  unfold vM
  rcases hn with hn|hn
  ·rw[if_pos hn]
  ·rw[hn]
   split<;>rfl
 ·have hV1:=hV.only ho (fun k e=>by omega)
  have hsz:=ho.size
  have hwc:Hid (vM l=if CM.good z=true then some (CM.codes z)else none):=by
   unfold Hid vM
   rw[if_neg (by omega),hz]
  cases hg:CM.good z with
  | false =>
   rw[hg]at hwc
   have cF:=hV1.cF
   go_wp2_with fail
   refine(WI a _ c z _ hI hg).mono ?_
   rintro e w2 ⟨rfl,rfl⟩
   go_wp2_with fail
   go_quiet(fail)
   go_wp2
   go_ret2
   exact⟨ho.drewN _,.inl ⟨hwc.out,rfl⟩⟩
  | true =>
   rw[hg]at hwc
   have hok:=V7 hg
   have hpos:0<(CM.codes z).length:=by
    rcases Nat.eq_zero_or_pos (CM.codes z).length with e|e
    ·have:=hok.all
     rw[List.eq_nil_of_length_eq_zero e]at this
     simp[RD.entries]at this
    ·exact e
   go_wp2_with fail
   refine(WM a _ c z _ hI hg hpos).mono ?_
   rintro e w2 ⟨g,cc,rest,rfl,hg2,hB2,hc1,hc2,hc3,hb2⟩
   have hA2:=hA.below hb2
   generalize CM.codes z=cs at *
   go_wp2_with fail
   refine(WU g cc cs rest _ hok hB2 hc1).mono ?_
   rintro e w3 ⟨rfl,hB3,hb3⟩
   have hA3:=hA2.below hb3
   have hbs:=hb2.size
   go_wp2_with fail
   go_ret2
   exact⟨(ho.below hb2).below hb3,.inr ⟨cs,_,hwc.out,hln,hl,rfl,⟨hB3,hok⟩,hA3,by omega⟩⟩
def qV(w:World)(v:Value)(cs:List CM.aG):Prop:=(cs=[]/\v=.pointer none)\/∃T,v=.pointer (some ⟨T,0,none⟩)/\Dv w T cs
theorem qV.only{G:Nat->Prop}{w w':World}{v:Value}{cs:List CM.aG}(h:qV w v cs)(ho:Only G w w')(hn:∀T xs,aB w T 288 xs->¬G T):qV w' v cs:=by
 rcases h with h|⟨T,rfl,hB,hc⟩
 ·exact .inl h
 ·exact .inr ⟨T,rfl,hB.only ho (hn T _ hB),hc⟩
theorem XD{cs:List CM.aG}(h:zC cs):cs.length≠0:=by
 intro e
 have:=h.all
 rw[List.eq_nil_of_length_eq_zero e]at this
 simp[RD.entries]at this
def ng(l:aj)(cs:List CM.aG)(m:Nat):Option (aj×Nat) :=
 if cs.length=0\/l.length<2 then none
 else if l.length<2+au (l.take 2)then none
 else match RD.coded ((l.drop 2).take (au (l.take 2))) cs m with
  | none=>none
  | some out=>some (out,2+au (l.take 2))
theorem NJ(s:aj)(cs:List CM.aG)(m i:Nat)(h:i<=s.length):lY s cs m i=(ng (s.drop i) cs m).map fun r=>(r.1,i+r.2):=by
 unfold lY ng
 have e:(s.drop i).length=s.length-i:=by simp
 rw[e]
 by_cases h1:cs.length=0\/s.length<i+2
 ·rw[if_pos h1,if_pos (show cs.length=0\/s.length-i<2 by omega)];rfl
 ·rw[if_neg h1,if_neg (show ¬(cs.length=0\/s.length-i<2) by omega)]
  show(if s.length<i+2+au ((s.drop i).take 2)then none else match RD.coded ((s.drop (i+2)).take (au ((s.drop i).take 2))) cs m with
   | none=>none
   | some out=>some (out,i+2+au ((s.drop i).take 2)))=_
  by_cases h2:s.length<i+2+au ((s.drop i).take 2)
  ·rw[if_pos h2,if_pos (by omega)];rfl
  ·rw[if_neg h2,if_neg (by omega),List.drop_drop]
   cases RD.coded ((s.drop (i+2)).take (au ((s.drop i).take 2))) cs m with
   | none=>rfl
   | some out=>simp[Nat.add_assoc]
def XE(x:Fx)(p:Nat)(l:aj)(cs:List CM.aG)(m:Nat)(w:World)(e:Ending)(w':World):Prop :=
 Only (·=p) w w'/\((ng l cs m=none/\e=.returned (.tuple #[.string (ah []),aW x.f])) \/
  ∃out k,ng l cs m=some (out,k)/\k<=l.length/\e=.returned (.tuple #[.string (ah out),.nilIface])/\bD w' p (l.drop k))
theorem NK(x:Fx)(g o p:Nat)(t:TypeId)(gs:List Value)(v:Value)(cs:List CM.aG)(l:aj)(m:Nat)(w:World)(hG:aB w g t gs)(hv:gs[o]?=some v)(hL:qV w v cs)(bH:g≠p)
  (h:bD w p l) (hV:bI x w) (hs:l.length<=1048576) (hpb:x.base<=p) (hm:m<=1024) :
  Calls prog 135 #[.pointer (some ⟨g,o,none⟩),.pointer (some ⟨p,0,none⟩),.int .i64 m] w (XE x p l cs m w):=by
 have cG:=hG.cell hv
 rcases hL with⟨rfl,rfl⟩|⟨T,rfl,hB,hc⟩
 ·have cF:=hV.cF
  go_enter func135,ntmps135
  go_wp2_with fail
  go_quiet(fail)
  go_wp2
  go_ret2
  exact⟨(Only.refl _ w).drewN _,.inl ⟨by simp[ng],rfl⟩⟩
 ·have hne:=XD hc
  have NP:T≠p:=hB.ne h (by decide)
  go_enter func135,ntmps135
  go_wp2_with fail
  refine(vH x p l 2 _ h hV (by omega) (by omega)).mono ?_
  rintro e w1 (⟨h1,rfl,hb⟩|⟨h1,rfl,rfl⟩)
  ·go_wp2_with fail
   go_ret2
   exact⟨aH hb,.inl ⟨by rw[ng,if_pos (.inr h1)],rfl⟩⟩
  ·have hA1:=h.put (l.drop 2)
   have aF:Only (·=p) w (w.setCell ⟨p,0,none⟩ (.string (ah (l.drop 2)))):=(Only.refl _ _).setCell _ _ (fun _=>rfl)
   have hV1:=hV.only aF (fun k e=>by omega)
   have hB1:=hB.only aF NP
   have hG1:=hG.only aF bH
   generalize w.setCell ⟨p,0,none⟩ (.string (ah (l.drop 2)))=w1 at *
   have hz:=qP l 2 (by omega)
   have hbl:Hid (ng l cs m=if l.length<2+au (l.take 2)then none else match RD.coded ((l.drop 2).take (au (l.take 2))) cs m with
     | none=>none
     | some out=>some (out,2+au (l.take 2))):=by
    unfold Hid ng
    rw[if_neg (by omega)]
   have hld:(l.drop 2).length=l.length-2:=by simp
   replace hld:=aA hld
   generalize au (l.take 2)=z at *
   go_wp2_with fail
   refine(xu x p (l.drop 2) z _ hA1 hV1 (by have:=hld.out;omega) (by omega)).mono ?_
   rintro e w2 (⟨h2,rfl,hb⟩|⟨h2,rfl,rfl⟩)
   ·go_wp2_with fail
    go_ret2
    refine⟨aF.below hb,.inl ⟨?_,rfl⟩⟩
    rw[hbl.out,if_pos (by have:=hld.out;omega)]
   ·have hA2:=hA1.put ((l.drop 2).drop z)
    have hO2:Only (·=p) w (w1.setCell ⟨p,0,none⟩ (.string (ah ((l.drop 2).drop z)))):=aF.setCell _ _ (fun _=>rfl)
    have hV2:=hV.only hO2 (fun k e=>by omega)
    have hB2:=hB.only hO2 NP
    have cG2:=(hG.only hO2 bH).cell hv
    generalize w1.setCell ⟨p,0,none⟩ (.string (ah ((l.drop 2).drop z)))=w2 at *
    go_wp2_with fail
    refine(decode_any x T cs ((l.drop 2).take z) m _ ⟨hB2,hc⟩ hV2 (by simp;omega) hm).mono ?_
    rintro e w3 ⟨hb3,⟨hd,rfl⟩|⟨out,hd,rfl⟩⟩
    ·go_wp2_with fail
     go_ret2
     refine⟨hO2.below hb3,.inl ⟨?_,rfl⟩⟩
     rw[hbl.out,hd]
     split<;>rfl
    ·go_wp2_with fail
     go_ret2
     refine⟨hO2.below hb3,.inr ⟨out,2+z,?_,by have:=hld.out;omega,rfl,?_⟩⟩
     ·rw[hbl.out,if_neg (by have:=hld.out;omega),hd]
     ·have:=hA2.below hb3
      rwa[List.drop_drop]at this
theorem zS(a:Nat)(ha:a<9223372036854775808):bits .and .i64 (a:Int) 3=((a%4:Nat):Int):=by
 have:=zG a 3 ha (by omega)
 rw[show(3:Nat)=2^2-1 by rfl,Nat.and_two_pow_sub_one_eq_mod]at this
 exact this
theorem repeatL_one(b:UInt8)(n:Nat):Lib.repeatL [b] n=List.replicate n b:=by
 induction n with
 | zero=>rfl
 | succ n ih=>rw[Lib.repeatL,ih,List.replicate_succ];rfl
theorem repeatL_nil(n:Nat):Lib.repeatL [] n=[]:=by
 induction n with
 | zero=>rfl
 | succ n ih=>rw[Lib.repeatL,ih];rfl
theorem XF{cs:List CM.aG}{s:aj}(h:s.length<2):RD.literals cs s=none:=by rw[RD.literals,if_pos h]
theorem XG{cs:List CM.aG}{s:aj}(h:¬s.length<2)(hm:1024<au (s.take 2)/4):RD.literals cs s=none:=by
 have:=qP s 2 (by omega)
 rw[RD.literals,if_neg h]
 simp only[]
 rw[if_pos (by omega)]
theorem XH{cs:List CM.aG}{s:aj}(h:¬s.length<2)(hm:¬1024<au (s.take 2)/4):RD.literals cs s =
  if au (s.take 2)%4=0 then
   if s.length<2+au (s.take 2)/4 then none else some ((s.drop 2).take (au (s.take 2)/4),2+au (s.take 2)/4,cs)
  else if au (s.take 2)%4=1 then
   if s.length<3 then none else some (List.replicate (au (s.take 2)/4) (s.getD 2 0),3,cs)
  else if au (s.take 2)%4=2 then
   match vM (s.drop 2)with
   | none=>none
   | some c=>match ng (s.drop (3+(ak (s.drop 2) 0+1)/2)) c (au (s.take 2)/4)with
    | none=>none
    | some (out,k)=>some (out,3+(ak (s.drop 2) 0+1)/2+k,c)
  else
   match ng (s.drop 2) cs (au (s.take 2)/4)with
   | none=>none
   | some (out,k)=>some (out,2+k,cs):=by
 have hd:au (s.take 2)/4%2048=au (s.take 2)/4:=by omega
 have h8:¬(8192<=au (s.take 2)\/1024<au (s.take 2)/4):=by omega
 rw[RD.literals,if_neg h]
 simp only[hd]
 rw[if_neg h8]
 by_cases k0:au (s.take 2)%4=0
 ·rw[if_pos k0,if_pos k0]
 rw[if_neg k0,if_neg k0]
 by_cases k1:au (s.take 2)%4=1
 ·rw[if_pos k1,if_pos k1]
 rw[if_neg k1,if_neg k1]
 by_cases k2:au (s.take 2)%4=2
 ·rw[if_pos k2,if_pos k2]
  unfold vM
  have e1:(s.drop 2).length=s.length-2:=by simp
  have e2:ak (s.drop 2) 0=ak s 2:=by unfold ak;simp
  have e3:(s.drop 2).drop 1=s.drop 3:=by rw[List.drop_drop]
  rw[e1,e2,e3]
  by_cases k3:s.length<3
  ·rw[if_pos k3,if_pos (by omega)]
  rw[if_neg k3,if_neg (show ¬s.length-2=0 by omega)]
  cases hw:RD.weights (s.drop 3) (ak s 2)with
  | none=>rfl
  | some z =>
   have hlen:(ak s 2+1)/2<=(s.drop 3).length:=by
    unfold RD.weights at hw
    split at hw
    ·cases hw
    ·omega
   rw[List.length_drop]at hlen
   by_cases hg:CM.good z=true
   ·simp only[if_pos hg]
    rw[NJ _ _ _ _ (by omega)]
    cases ng (s.drop (3+(ak s 2+1)/2)) (CM.codes z) (au (s.take 2)/4)with
    | none=>rfl
    | some r=>rfl
   ·simp only[if_neg hg]
 ·rw[if_neg k2,if_neg k2,NJ _ _ _ _ (by omega)]
  cases ng (s.drop 2) cs (au (s.take 2)/4)with
  | none=>rfl
  | some r=>rfl
def ahO(x:Fx)(g o p:Nat)(t:TypeId)(gs:List Value)(cs:List CM.aG)(s:aj)(w:World)(e:Ending)(w':World):Prop :=
 Only (fun k=>k=g\/k=p) w w'/\((RD.literals cs s=none/\e=.returned (.tuple #[.string (ah []),aW x.f])) \/
  ∃out i cs' v',RD.literals cs s=some (out,i,cs')/\i<=s.length/\e=.returned (.tuple #[.string (ah out),.nilIface])/\bD w' p (s.drop i)/\aB w' g t (gs.set o v')/\qV w' v' cs')
theorem oz{a b:Nat}{w w':World}(h:Only (·=b) w w'):Only (fun k=>k=a\/k=b) w w':=h.weaken (fun _ _ e=>.inr e)
theorem qg{gs:List Value}{o:Nat}{v:Value}(h:gs[o]?=some v):gs.set o v=gs:=by
 apply List.ext_getElem?
 intro i
 rw[List.getElem?_set]
 split
 ·subst_vars
  split
  ·exact h.symm
  ·rw[List.getElem?_eq_none (by omega)]at h
   cases h
 ·rfl
end Go.Proofs.YtbhemchnjpajiaaGreatDoor
