/- Several texts in one: CfgM, RefNew, RefWh. -/
import Derived.Test.YtbhemchnjpajiaaGreatDoorMF
import Derived.Test.YtbhemchnjpajiaaGreatDoorLF
import Derived.Test.YtbhemchnjpajiaaGreatDoorLM
import Derived.Test.YtbhemchnjpajiaaGreatDoorMM
import Derived.Test.YtbhemchnjpajiaaGreatDoorLK
set_option linter.unusedVariables false
set_option linter.unusedSimpArgs false
set_option maxRecDepth 100000
set_option maxHeartbeats 4000000
namespace Go.Proofs.YtbhemchnjpajiaaGreatDoor
open Go.RowKit Go.Proofs.Tryz RD
def goodD(d:Int×aj):Bool:=decide (0<=d.1)&&decide (d.1<=255)&&decide (1<=d.2.length)&&decide (d.2.length<=256)
def jI(ds:List (Int×aj))(i:Nat):Bool:=goodD (ds.getD i (0,[]))&&(List.range i).all fun k=>(ds.getD k (0,[])).1 != (ds.getD i (0,[])).1
def dK(lim:Int)(ds:List (Int×aj)):Bool:=decide (64<=lim/\lim<=8192/\ds.length<=4)&&(List.range ds.length).all (jI ds)
theorem sU(d:Int×aj):goodD d=true↔(0<=d.1/\d.1<=255)/\(1<=d.2.length/\d.2.length<=256):=by
 unfold goodD
 simp only[Bool.and_eq_true,decide_eq_true_eq]
 omega
theorem Ti{lim:Int}{ds:List (Int×aj)}(h:¬(64<=lim/\lim<=8192/\ds.length<=4)):dK lim ds=false:=by
 unfold dK
 rw[decide_eq_false h]
 rfl
theorem Fv{lim:Int}{ds:List (Int×aj)}{i:Nat}(hi:i<ds.length)(h:jI ds i=false):dK lim ds=false:=by
 unfold dK
 rw[Bool.and_eq_false_iff]
 right
 rw[List.all_eq_false]
 exact⟨i,List.mem_range.2 hi,by rw[h];simp⟩
theorem Tj{lim:Int}{ds:List (Int×aj)}(h:64<=lim/\lim<=8192/\ds.length<=4)(hd:∀i,i<ds.length->jI ds i=true):dK lim ds=true:=by
 unfold dK
 rw[decide_eq_true h,Bool.true_and,List.all_eq_true]
 exact fun i hi=>hd i (List.mem_range.1 hi)
theorem af9{lim:Int}{ds:List (Int×aj)}(h:dK lim ds=true):(64<=lim/\lim<=8192/\ds.length<=4)/\∀i,i<ds.length->jI ds i=true:=by
 unfold dK at h
 rw[Bool.and_eq_true,decide_eq_true_eq,List.all_eq_true]at h
 exact⟨h.1,fun i hi=>h.2 i (List.mem_range.2 hi)⟩
theorem Tm{ds:List (Int×aj)}{i:Nat}(h:goodD (ds.getD i (0,[]))=false):jI ds i=false:=by
 unfold jI
 rw[h]
 rfl
theorem Tn{ds:List (Int×aj)}{i k:Nat}(hk:k<i)(h:(ds.getD k (0,[])).1=(ds.getD i (0,[])).1):jI ds i=false:=by
 unfold jI
 rw[Bool.and_eq_false_iff]
 right
 rw[List.all_eq_false]
 exact⟨k,List.mem_range.2 hk,by rw[h];simp⟩
theorem Tq{ds:List (Int×aj)}{i:Nat}(h:goodD (ds.getD i (0,[]))=true)(hn:∀k,k<i->(ds.getD k (0,[])).1≠(ds.getD i (0,[])).1):jI ds i=true:=by
 unfold jI
 rw[h,Bool.true_and,List.all_eq_true]
 exact fun k hk=>by simpa using hn k (List.mem_range.1 hk)
theorem Tt{ds:List (Int×aj)}{i:Nat}(h:jI ds i=true):goodD (ds.getD i (0,[]))=true/\∀k,k<i->(ds.getD k (0,[])).1≠(ds.getD i (0,[])).1:=by
 unfold jI at h
 rw[Bool.and_eq_true,List.all_eq_true]at h
 exact⟨h.1,fun k hk=>by simpa using h.2 k (List.mem_range.2 hk)⟩
theorem af_{ds:List (Int×aj)}{d:Int×aj}(h:d∈ds):∃i,i<ds.length/\ds.getD i (0,[])=d:=by
 obtain⟨i,hi,rfl⟩:=List.getElem_of_mem h
 exact⟨i,hi,by rw[List.getD_eq_getElem?_getD,List.getElem?_eq_getElem hi];rfl⟩
theorem FX{lim:Int}{ds:List (Int×aj)}(h:dK lim ds=true):nU ⟨lim,ds⟩/\acY ⟨lim,ds⟩/\sO ⟨lim,ds⟩:=by
 obtain⟨h1,h2⟩:=af9 h
 have hd:∀d∈ds,(0<=d.1/\d.1<=255)/\(1<=d.2.length/\d.2.length<=256):=fun d hd=>by
  obtain⟨i,hi,rfl⟩:=af_ hd
  exact(sU _).1 (Tt (h2 i hi)).1
 refine⟨⟨⟨h1.1,h1.2.1⟩,h1.2.2,fun d hm=>(hd d hm).2,?_⟩,fun d hm=>(hd d hm).1,⟨⟨h1.1,h1.2.1⟩,fun d hm=>⟨(hd d hm).1,(hd d hm).2.2⟩⟩⟩
 show(ds.map (·.1)).Nodup
 unfold List.Nodup
 rw[List.pairwise_iff_getElem]
 intro i j hi hj hij
 rw[List.length_map]at hi hj
 rw[List.getElem_map,List.getElem_map]
 have:=(Tt (h2 j hj)).2 i hij
 rw[List.getD_eq_getElem?_getD,List.getD_eq_getElem?_getD,List.getElem?_eq_getElem hi,List.getElem?_eq_getElem hj]at this
 exact this
def Fz(lim:Int)(ds:List (Int×aj))(w:World)(e:Ending)(w':World):Prop :=
 Below w.heap.size w w'/\((dK lim ds=false/\e=.returned (.tuple #[.pointer none,.int .i64 3])) \/
  (dK lim ds=true/\∃r v',w.heap.size<=r/\e=.returned (.tuple #[.pointer (some ⟨r,0,none⟩),.int .i64 0])/\dY w' r ⟨lim,ds⟩ v' [] false 0/\∀b,bJ v'=some b->w.heap.size<=b))
theorem aga{w:World}{B:Nat}{v:Value}{ds:List (Int×aj)}(h:w.ownsRow B 65 2 v ds.length (iJ ds))(h4:ds.length<=4):g_ w v ds/\(∀b,bJ v=some b->B<=b/\b<w.heap.size)/\∃a n k,v=.slice a n k:=by
 obtain⟨h1,h2⟩:=Rh h
 obtain⟨a,c,rfl,hc,h1⟩:=h1
 refine⟨⟨a,c,rfl,h4,?_⟩,fun b hb=>?_,_,_,_,rfl⟩
 ·rcases h1 with h1|⟨b,rfl,hb,h1⟩
  ·exact .inl (by rw[h1];rfl)
  ·exact .inr ⟨b,0,rfl,hb,fun i hi=>by have:=h1 i hi;simpa using this⟩
 ·refine h2 b ?_
  cases a with
  | none=>cases hb
  | some a=>exact hb
theorem Uu(lim:Int)(ds:List (Int×aj))(v:Value)(w:World)(lW:-9223372036854775808<=lim/\lim<=9223372036854775807)(hD:iE w v ds)(hn:ds.length<=140737488355328)(ht:∀d∈ds,d.2.length<=140737488355328) :
  Calls prog 31 #[.agg #[.int .i64 lim,v]] w (Fz lim ds w):=by
 obtain⟨a,cc,rfl,hcc,hd⟩:=hD
 obtain⟨i0,hi0,hz0,hz1,hz2⟩:=info_parts KP
 have hb0:Below w.heap.size w (w.alloc (.cells #[.int .i64 lim,.slice a ds.length cc] 24)):=(Below.refl _ w).alloc (Nat.le_refl _) _
 have hB0:=aB.new w 24 [.int .i64 lim,.slice a ds.length cc]
 by_cases hbase:64<=lim/\lim<=8192/\ds.length<=4
 ·obtain⟨hb1,hb2,hb3⟩:=id hbase
  have q1:¬lim<64:=by omega
  have q2:¬8192<lim:=by omega
  have q3:¬(4:Int)<(ds.length:Int):=by omega
  replace hbase:=aA hbase
  go_enter func31,ntmps31
  go_wp2_with fail
  obtain⟨W0,hW0⟩:∃W,w.alloc (.cells #[.int .i64 lim,.slice a ds.length cc] 24)=W:=⟨_,rfl⟩
  have Kt:aB W0 w.heap.size 24 [.int .i64 lim,.slice a ds.length cc]:=by rw[<- hW0];exact hB0
  rw[hW0]at hb0
  rw[hW0]
  clear hB0
  replace hW0:=aA hW0
  obtain⟨C,hC⟩:∃C,w.heap.size=C:=⟨_,rfl⟩
  rw[hC]at Kt hb0
  rw[hC]
  have wz:=Kt.lt
  replace hC:=aA hC
  replace hd:=aA hd
  go_loopg[4,5,6,7] (ds.length+1) (fun gh ov iv dv kv wr=>∃i:Nat,gh=ds.length+1-i/\i<=ds.length/\iv=.int .i64 (i:Int)/\Hid (∀j,j<i->jI ds j=true)/\Below C w wr/\aB wr C 24 [.int .i64 lim,.slice a ds.length cc]/\wr.ownsRow (C+1) 65 2 ov i (iJ (ds.take i)))
  case atStart=>exact⟨0,by omega,by omega,rfl,aA (fun j hj=>absurd hj (by omega)),hb0,Kt,World.ownsRow_nil _ _ _ _⟩
  case round =>
   obtain⟨i,rfl,hi,rfl,hok,hb,hBr,hown⟩:=hrel
   have k0:=hBr.cell (j:=0) rfl
   have k1:=hBr.cell (j:=1) rfl
   have yL:=hBr.lt
   replace hb:=aA hb
   replace hBr:=aA hBr
   replace hown:=aA hown
   by_cases hlt:i<ds.length
   ·have hlt':(i:Int)<(ds.length:Int):=by omega
    have hd':=hd.out
    rcases hd' with hd'|⟨b,o,rfl,hbl,hd'⟩
    ·rw[hd']at hlt;simp at hlt
    have Ku:b<C:=by rw[<- hC.out];exact hbl
    obtain⟨d0,d1⟩:=hd' i hlt
    have e0:=(hb.out.cell (p:=⟨b,o+i*2,none⟩) Ku).trans d0
    have e1:=(hb.out.cell (p:=⟨b,o+i*2+1,none⟩) Ku).trans d1
    have hsn:=QY ds i hlt
    have htl:=ht _ (getD_mem hlt)
    have hgd:=sU (ds.getD i (0,[]))
    have hno:=fun(h:goodD (ds.getD i (0,[]))=false)=>Fv (lim:=lim) hlt (Tm h)
    have hys:=fun h=>Tq (ds:=ds) (i:=i) h
    have htw:=fun k(hk:k<i) h=>Fv (lim:=lim) hlt (Tn (ds:=ds) (i:=i) hk h)
    obtain⟨I,hI⟩:∃I,(ds.getD i (0,[])).1=I:=⟨_,rfl⟩
    obtain⟨T,hT⟩:∃T,(ds.getD i (0,[])).2=T:=⟨_,rfl⟩
    rw[hI]at e0 hsn hgd
    rw[hT]at e1 htl hsn hgd
    have Kv:Hid (goodD (ds.getD i (0,[]))=true->(∀k,k<i->(ds.getD k (0,[])).1≠I)->jI ds i=true):=aA (fun h1 h2=>hys h1 (by rw[hI];exact h2))
    have Kw:Hid (∀k,k<i->(ds.getD k (0,[])).1=I->dK lim ds=false):=aA (fun k hk h=>htw k hk (by rw[hI];exact h))
    clear hys htw
    replace hI:=aA hI
    replace hT:=aA hT
    replace hd':=aA hd'
    replace hsn:=aA hsn
    replace hgd:=aA hgd
    replace hno:=aA hno
    have hzT:=aQ T
    have hN1:=aB.new wr 65 [.int .i64 I,.string (ah T)]
    have hb1:Below wr.heap.size wr (wr.alloc (.cells #[.int .i64 I,.string (ah T)] 65)):=(Below.refl _ wr).alloc (Nat.le_refl _) _
    have hown1:=hown.out.alloc (.cells #[.int .i64 I,.string (ah T)] 65)
    have hfin:dK lim ds=false->Fz lim ds w (.returned (.tuple #[.pointer none,.int .i64 3])) (wr.alloc (.cells #[.int .i64 I,.string (ah T)] 65)):=fun h=>⟨by rw[hC.out];exact hb.out.alloc (by have:=hb.out.size;have:=hC.out;omega) _,.inl ⟨h,rfl⟩⟩
    replace hfin:=aA hfin
    by_cases g1:I<0
    ·have hbad:Hid (dK lim ds=false):=aA (hno.out (by
      rw[<- Bool.not_eq_true,<- hI.out]at *
      intro h
      have:=(sU _).1 h
      omega))
     go_wp2_with fail
     go_ret2
     exact hfin.out hbad.out
    by_cases g2:255<I
    ·have hbad:Hid (dK lim ds=false):=aA (hno.out (by
      rw[<- Bool.not_eq_true]
      intro h
      have:=(sU _).1 h
      rw[hI.out]at this
      omega))
     go_wp2_with fail
     go_ret2
     exact hfin.out hbad.out
    by_cases g3:(T.length:Int)<1
    ·have hbad:Hid (dK lim ds=false):=aA (hno.out (by
      rw[<- Bool.not_eq_true]
      intro h
      have:=(sU _).1 h
      rw[hT.out]at this
      omega))
     go_wp2_with fail
     go_ret2
     exact hfin.out hbad.out
    by_cases g4:(256:Int)<(T.length:Int)
    ·have hbad:Hid (dK lim ds=false):=aA (hno.out (by
      rw[<- Bool.not_eq_true]
      intro h
      have:=(sU _).1 h
      rw[hT.out]at this
      omega))
     go_wp2_with fail
     go_ret2
     exact hfin.out hbad.out
    have hgo:Hid (goodD (ds.getD i (0,[]))=true):=aA (by
     rw[sU,hI.out,hT.out]
     omega)
    clear hfin
    go_wp2_with fail
    obtain⟨W1,hW1⟩:∃W,wr.alloc (.cells #[.int .i64 I,.string (ah T)] 65)=W:=⟨_,rfl⟩
    rw[hW1]at hN1 hb1 hown1
    try rw[hW1]
    replace hW1:=aA hW1
    obtain⟨D,hDe⟩:∃D,wr.heap.size=D:=⟨_,rfl⟩
    rw[hDe]at hN1 hb1 yL
    try rw[hDe]
    have hbW:Below C w W1:=hb.out.trans ⟨hb1.os,hb1.tape,hb1.output,hb1.size,fun k hk=>hb1.block k (by omega)⟩
    have hBW:=hBr.out.below hb1 yL
    have hDl:=hN1.lt
    replace hDe:=aA hDe
    replace hown1:=aA hown1
    clear k0 k1 e0 e1
    go_loopg[7] (i+1) (fun gh kv wx=>∃k:Nat,gh=i+1-k/\k<=i/\kv=.int .i64 (k:Int)/\Hid (∀j,j<k->(ds.getD j (0,[])).1≠I)/\Below W1.heap.size W1 wx)
    case atStart=>exact⟨0,by omega,by omega,rfl,aA (fun j hj=>absurd hj (by omega)),d_ W1⟩
    case round =>
     obtain⟨k,rfl,hk,rfl,hne,hbx⟩:=hrel
     have hbC:Below C w wr:=hbW.trans ⟨hbx.os,hbx.tape,hbx.output,hbx.size,fun k hk=>hbx.block k (by have:=hbW.size;have:=hC.out;omega)⟩
     have x0:=(hN1.below hbx hDl).cell (j:=0) rfl
     have x1:=(hN1.below hbx hDl).cell (j:=1) rfl
     have y1:=(hBW.below hbx hBW.lt).cell (j:=1) rfl
     by_cases hlk:k<i
     ·have Jt:(k:Int)<(i:Int):=by omega
      have z0:=(hbC.cell (p:=⟨b,o+k*2,none⟩) Ku).trans (hd'.out k (by omega)).1
      have kb0:(0:Int)<=(k:Int):=by omega
      have kb1:(k:Int)<(ds.length:Int):=by omega
      obtain⟨J,hJ⟩:∃J,(ds.getD k (0,[])).1=J:=⟨_,rfl⟩
      rw[hJ]at z0
      replace hbx:=aA hbx
      replace hbC:=aA hbC
      by_cases hq:J=I
      ·have hbad:Hid (dK lim ds=false):=aA (Kw.out k hlk (by rw[hJ];exact hq))
       have hq':(J==I)=true:=by simpa using hq
       replace hJ:=aA hJ
       replace hq:=aA hq
       go_wp2_with fail
       go_quiet(fail)
       go_wp2_with fail
       go_ret2
       exact⟨by rw[hC.out];exact⟨hbC.out.os,hbC.out.tape,hbC.out.output,hbC.out.size,hbC.out.block⟩,.inl ⟨hbad.out,rfl⟩⟩
      ·have hq':(J==I)=false:=by simpa using hq
       have hne2:Hid (∀j,j<k+1->(ds.getD j (0,[])).1≠I):=aA (fun j hj=>by
        rcases(by omega:j<k\/j=k)with e|rfl
        ·exact hne.out j e
        ·rw[hJ];exact hq)
       replace hJ:=aA hJ
       replace hq:=aA hq
       go_wp2_with fail
       go_quiet(fail)
       go_wp2_with fail
       go_roundg(i+1-(k+1))
       case rel=>exact⟨k+1,by omega,by omega,by go_num,hne2,hbx.out.trans ⟨rfl,rfl,rfl,Nat.le_refl _,fun _ _=>rfl⟩⟩
       case measure=>omega
     ·have hki:k=i:=by omega
      subst hki
      have hdk:Hid (∀j,j<k+1->jI ds j=true):=aA (fun j hj=>by
       rcases(by omega:j<k\/j=k)with e|rfl
       ·exact hok.out j e
       ·exact Kv.out hgo.out hne.out)
      have Jt:¬(k:Int)<(k:Int):=by omega
      have Ky:=own_below hown1.out hbx
      have hBx:=hBW.below hbx hBW.lt
      replace hBx:=aA hBx
      replace hbC:=aA hbC
      replace hbx:=aA hbx
      have hCx:C<wr.heap.size:=hBx.out.lt
      go_wp2_with(first|(at_builtin;refine wpList_append_own _ rfl _ _ 22 rfl (C+1) 65 i0 _ 2 24 underlying22 hi0 hz0 hz1 hz2 rfl (by decide) _ _ _ rfl (Ky.alloc _) ⟨wr.heap.size,0,none⟩ 1 1 [.int .i64 I,.string (ah T)] rfl rfl (QW _ _ _) (QX _ _) (by unfold maxLen;omega) (by omega) (by simp;omega) ?_))
      intro v' w1 hown' hgrow _
      have hbg:Below (C+1) wr w1:=((Below.refl (C+1) wr).alloc (by omega) _).grown hgrow (by simp;omega) (fun j hj=>(Ky.lt j hj).1)
      have hb2:Hid (Below C w w1):=aA (hbC.out.trans ⟨hbg.os,hbg.tape,hbg.output,hbg.size,fun k hk=>hbg.block k (by omega)⟩)
      have agb:=aA (hBx.out.below hbg (by omega))
      have hown2:Hid (w1.ownsRow (C+1) 65 2 v' (k+1) (iJ (ds.take (k+1)))):=by
       unfold Hid
       rw[hsn.out]
       exact hown'
      clear hgrow hown' hbg Ky
      go_wp2
      go_roundg(ds.length+1-(k+1))
      case rel=>exact⟨k+1,by omega,by omega,by go_num,hdk,hb2.out,agb.out,hown2.out⟩
      case measure=>omega
   ·have hin:i=ds.length:=by omega
    have hlt':¬(i:Int)<(ds.length:Int):=by omega
    have hgood:Hid (dK lim ds=true):=aA (Tj hbase.out (by rw[<- hin];exact hok.out))
    have hown2:=hown.out
    rw[hin,List.take_length]at hown2
    obtain⟨r1,r2,r3⟩:=aga hown2 (by omega)
    obtain⟨a',n',k',rfl⟩:=r3
    have r3:∃a n k,Value.slice a' n' k'=.slice a n k:=⟨_,_,_,rfl⟩
    have hR:=aB.new wr 81 [.int .i64 lim,(.slice a' n' k'),.string (ah []),.bool false,.int .i64 0]
    have hsz:=hb.out.size
    have hba:Below wr.heap.size wr (wr.alloc (.cells #[.int .i64 lim,(.slice a' n' k'),.string (ah []),.bool false,.int .i64 0] 81)):=(Below.refl _ wr).alloc (Nat.le_refl _) _
    have hbn:Below w.heap.size w (wr.alloc (.cells #[.int .i64 lim,(.slice a' n' k'),.string (ah []),.bool false,.int .i64 0] 81)):=by rw[hC.out];exact hb.out.alloc (by have:=hC.out;omega) _
    have hfin:Fz lim ds w (.returned (.tuple #[.pointer (some ⟨wr.heap.size,0,none⟩),.int .i64 0])) (wr.alloc (.cells #[.int .i64 lim,(.slice a' n' k'),.string (ah []),.bool false,.int .i64 0] 81)) :=
     ⟨hbn,.inr ⟨hgood.out,wr.heap.size,.slice a' n' k',hsz,rfl,⟨hR,r3,(FX hgood.out).2.2,r1.below hba,fun b hb'=>⟨by have:=r2 b hb';have:=hba.size;omega,by have:=r2 b hb';omega⟩,by simp⟩,fun b hb'=>by have:=r2 b hb';have:=hC.out;omega⟩⟩
    replace hfin:=aA hfin
    clear hown2 hR r1 r2 r3 hba hbn
    go_wp2_with fail
    go_ret2
    exact hfin.out
 ·have hbad:=Ti hbase
  replace hbad:=aA hbad
  have hfin:Fz lim ds w (.returned (.tuple #[.pointer none,.int .i64 3])) (w.alloc (.cells #[.int .i64 lim,.slice a ds.length cc] 24)):=⟨hb0,.inl ⟨hbad.out,rfl⟩⟩
  replace hfin:=aA hfin
  by_cases q1:lim<64
  ·replace hbase:=aA hbase
   go_enter func31,ntmps31
   go_wp2_with fail
   go_ret2
   exact hfin.out
  ·by_cases q2:8192<lim
   ·replace hbase:=aA hbase
    go_enter func31,ntmps31
    go_wp2_with fail
    go_ret2
    exact hfin.out
   ·have q3:(4:Int)<(ds.length:Int):=by omega
    replace hbase:=aA hbase
    go_enter func31,ntmps31
    go_wp2_with fail
    go_ret2
    exact hfin.out
theorem dY.feed{w:World}{r:Nat}{c:aC}{v:Value}{fed:aj}{closed:Bool}{given:Nat}(h:dY w r c v fed closed given)(s:aj)(hs:s.length<=268435456):dY (w.setCell ⟨r,2,none⟩ (.string (ah s))) r c v s closed given :=
 ⟨h.blk.put 2 _,h.slice,h.cfg,h.aP.put r 2 _ (fun e=>(h.inn r e).2 rfl),fun b hb=>⟨by simpa using(h.inn b hb).1,(h.inn b hb).2⟩,hs⟩
theorem dY.shut{w:World}{r:Nat}{c:aC}{v:Value}{fed:aj}{closed:Bool}{given:Nat}(h:dY w r c v fed closed given):dY (w.setCell ⟨r,3,none⟩ (.bool true)) r c v fed true given :=
 ⟨h.blk.put 3 _,h.slice,h.cfg,h.aP.put r 3 _ (fun e=>(h.inn r e).2 rfl),fun b hb=>⟨by simpa using(h.inn b hb).1,(h.inn b hb).2⟩,h.len⟩
theorem dY.below{w w':World}{r:Nat}{c:aC}{v:Value}{fed:aj}{closed:Bool}{given:Nat}(h:dY w r c v fed closed given)(hb:Below w.heap.size w w'):dY w' r c v fed closed given :=
 ⟨h.blk.below hb h.blk.lt,h.slice,h.cfg,h.aP.below hb,fun b hb'=>⟨Nat.lt_of_lt_of_le (h.inn b hb').1 hb.size,(h.inn b hb').2⟩,h.len⟩
def Tv(lim:Int)(ds:List (Int×aj))(s:aj)(w:World)(e:Ending)(w':World):Prop :=
 Below w.heap.size w w'/\((dK lim ds=false/\e=.returned (.tuple #[.string ⟨#[]⟩,.int .i64 3])) \/
  (dK lim ds=true/\e=.returned (.tuple #[.string (ah (RD.told ⟨lim,ds⟩ s true).1),.int .i64 (errOf (RD.told ⟨lim,ds⟩ s true).2.1:Nat)])))
theorem agc(RC:lU)(RS:je)(lim:Int)(ds:List (Int×aj))(v:Value)(s:aj)(w:World)(lW:-9223372036854775808<=lim/\lim<=9223372036854775807)(hD:iE w v ds)(hn:ds.length<=140737488355328)(ht:∀d∈ds,d.2.length<=140737488355328)(hs:s.length<=268435456) :
  Calls prog 18 #[.agg #[.int .i64 lim,v],.string (ah s)] w (Tv lim ds s w):=by
 obtain⟨a,cc,rfl,hcc,hd⟩:=id hD
 have hb0:Below w.heap.size w (w.alloc (.cells #[.int .i64 lim,.slice a ds.length cc] 24)):=(Below.refl _ w).alloc (Nat.le_refl _) _
 have hD0:iE (w.alloc (.cells #[.int .i64 lim,.slice a ds.length cc] 24)) (.slice a ds.length cc) ds:=by
  refine⟨a,cc,rfl,hcc,?_⟩
  rcases hd with hd|⟨b,o,rfl,hb,hd⟩
  ·exact .inl hd
  ·exact .inr ⟨b,o,rfl,Nat.lt_of_lt_of_le hb hb0.size,fun i hi=>⟨(hb0.cell (p:=⟨b,o+i*2,none⟩) hb).trans (hd i hi).1,(hb0.cell (p:=⟨b,o+i*2+1,none⟩) hb).trans (hd i hi).2⟩⟩
 have hnw:=Uu lim ds _ _ lW hD0 hn ht
 replace hd:=aA hd
 replace hD:=aA hD
 replace hD0:=aA hD0
 go_enter func18,ntmps18
 go_wp2_with fail
 refine hnw.mono ?_
 rintro e w1 ⟨hb1,⟨hg,rfl⟩|⟨hg,r,v',hr,rfl,uS,hv'⟩⟩
 ·have hbn:Below w.heap.size w w1:=hb0.trans ⟨hb1.os,hb1.tape,hb1.output,hb1.size,fun k hk=>hb1.block k (Nat.lt_of_lt_of_le hk hb0.size)⟩
  replace hg:=aA hg
  go_wp2_with fail
  go_ret2
  exact⟨hbn,.inl ⟨hg.out,rfl⟩⟩
 ·have hbn:Hid (Below w.heap.size w w1):=aA (hb0.trans ⟨hb1.os,hb1.tape,hb1.output,hb1.size,fun k hk=>hb1.block k (Nat.lt_of_lt_of_le hk hb0.size)⟩)
  have Kz:=(uS.feed s hs).shut
  have hal:=Tc RC RS r ⟨lim,ds⟩ v' s true 0 _ Kz
  have c2:=uS.blk.cell (j:=2) rfl
  have c3:=uS.blk.cell (j:=3) rfl
  have cz:=uS.blk.free
  have hrw:w.heap.size<=r:=by have:=hb0.size;omega
  have hb2:Below w.heap.size w ((w1.setCell ⟨r,2,none⟩ (.string (ah s))).setCell ⟨r,3,none⟩ (.bool true)):=jw (jw hbn.out r 2 _ hrw) r 3 _ hrw
  replace uS:=aA uS
  replace Kz:=aA Kz
  replace hg:=aA hg
  replace hb0:=aA hb0
  replace hb1:=aA hb1
  replace hv':=aA hv'
  go_wp2_with fail
  obtain⟨W2,hW2⟩:∃W,(w1.setCell ⟨r,2,none⟩ (.string (ah s))).setCell ⟨r,3,none⟩ (.bool true)=W:=⟨_,rfl⟩
  rw[hW2]at hal hb2
  rw[hW2]
  replace hW2:=aA hW2
  refine hal.mono ?_
  rintro e w3 ⟨hb3,rfl⟩
  have hb4:Hid (Below w.heap.size w w3):=aA (hb2.trans ⟨hb3.os,hb3.tape,hb3.output,hb3.size,fun k hk=>hb3.block k (Nat.lt_of_lt_of_le hk hb2.size)⟩)
  obtain⟨t,ht'⟩:∃t,RD.told ⟨lim,ds⟩ s true=t:=⟨_,rfl⟩
  rw[ht']
  unfold jV
  obtain⟨t0,t1,t2,t3⟩:=t
  simp only[]
  have hfin:∀W,Below w.heap.size w W->Tv lim ds s w (.returned (.tuple #[.string (ah t0),.int .i64 (errOf t1:Nat)])) W:=fun W hW=>⟨hW,.inr ⟨hg.out,by rw[ht']⟩⟩
  replace ht':=aA ht'
  replace hfin:=aA hfin
  by_cases h2:t1=2
  ·subst h2
   have e0:errOf 2=0:=rfl
   rw[e0]at hfin
   go_wp2_with fail
   go_ret2
   exact hfin.out _ (hb4.out.alloc (hb4.out.size) _)
  ·have h2':((t1:Int)==2)=false:=by simp;omega
   have e0:errOf t1=t1:=if_neg h2
   rw[e0]at hfin
   go_wp2_with fail
   go_quiet(fail)
   go_wp2_with fail
   go_ret2
   exact hfin.out _ (by
    have h:=hb4.out.alloc (o:=.cells #[.string (ah t0),.int .i64 (t1:Int),.int .i64 (t2:Int),.int .i64 (t3:Int)] 83) (hb4.out.size)
    exact⟨h.os,h.tape,h.output,h.size,h.block⟩)
end Go.Proofs.YtbhemchnjpajiaaGreatDoor
