/- Several texts in one: QNewA, QNewB. -/
import Derived.Test.YtbhemchnjpajiaaGreatDoorMN
import Derived.Test.YtbhemchnjpajiaaGreatDoorLK
set_option linter.unusedVariables false
set_option linter.unusedSimpArgs false
set_option maxRecDepth 100000
set_option maxHeartbeats 4000000
namespace Go.Proofs.YtbhemchnjpajiaaGreatDoor
open Go.RowKit Go.Proofs.Tryz RD
theorem iE.below{w w':World}{v:Value}{ds:List (Int×aj)}(h:iE w v ds)(hb:Below w.heap.size w w'):iE w' v ds:=by
 obtain⟨a,cc,rfl,hcc,hd⟩:=h
 refine⟨a,cc,rfl,hcc,?_⟩
 rcases hd with hd|⟨b,o,rfl,hl,hd⟩
 ·exact .inl hd
 ·exact .inr ⟨b,o,rfl,Nat.lt_of_lt_of_le hl hb.size,fun i hi=>⟨(hb.cell (p:=⟨b,o+i*2,none⟩) hl).trans (hd i hi).1,(hb.cell (p:=⟨b,o+i*2+1,none⟩) hl).trans (hd i hi).2⟩⟩
theorem iE.take{w:World}{a:Option Addr}{c:Nat}{ds:List (Int×aj)}(h:iE w (.slice a ds.length c) ds)(k:Nat)(hk:k<=ds.length):iE w (.slice a k c) (ds.take k):=by
 obtain⟨a',c',e,h1,h2⟩:=h
 injection e with e1 e2 e3
 subst e1 e3
 have hl:(ds.take k).length=k:=by rw[List.length_take];omega
 refine⟨a,c,by rw[hl],by omega,?_⟩
 rcases h2 with h2|⟨b,o,rfl,hb,hd⟩
 ·left;rw[h2];simp
 ·refine .inr ⟨b,o,rfl,hb,fun i hi=>?_⟩
  rw[hl]at hi
  have:=hd i (by omega)
  have e:(ds.take k).getD i (0,[])=ds.getD i (0,[]):=by
   rw[List.getD_eq_getElem?_getD,List.getD_eq_getElem?_getD,List.getElem?_take,if_pos hi]
  rw[e]
  exact this
theorem agd(id:Int)(t:aj)(w:World)(ht:t.length<=140737488355328)(h:goodD (id,t)=false) :
  Calls prog 54 #[.agg #[.int .i64 id,.string (ah t)]] w fun e w'=>e=.returned (.bool false)/\Below w.heap.size w w':=by
 have hz:=aQ t
 have hb0:Below w.heap.size w (w.alloc (.cells #[.int .i64 id,.string (ah t)] 65)):=(Below.refl _ w).alloc (Nat.le_refl _) _
 have hg:¬((0<=id/\id<=255)/\(1<=t.length/\t.length<=256)):=fun hx=>by rw[(sU (id,t)).2 hx]at h;cases h
 by_cases g1:id<0
 ·have d1:¬0<=id:=by omega
  clear hg
  go_enter func54,ntmps54
  go_wp2_with fail
  go_ret
  exact⟨rfl,hb0⟩
 have d1:0<=id:=by omega
 by_cases g2:255<id
 ·have d2:¬id<=255:=by omega
  clear hg
  go_enter func54,ntmps54
  go_wp2_with fail
  go_ret
  exact⟨rfl,hb0⟩
 have d2:id<=255:=by omega
 by_cases g3:(t.length:Int)<1
 ·have d3:¬(1:Int)<=(t.length:Int):=by omega
  clear hg
  go_enter func54,ntmps54
  go_wp2_with fail
  go_ret
  exact⟨rfl,hb0⟩
 have d3:(1:Int)<=(t.length:Int):=by omega
 have d4:¬(t.length:Int)<=256:=fun e=>hg ⟨⟨d1,d2⟩,by omega,by omega⟩
 have d5:decide ((t.length:Int)<=256)=false:=by simpa using d4
 clear hg
 go_enter func54,ntmps54
 go_wp2_with fail
 go_ret
 exact⟨rfl,hb0⟩
theorem agf(id:Int)(C:Nat)(a:Option Addr)(cc:Nat)(ds:List (Int×aj))(w:World)(hC:w.cell? ⟨C,0,none⟩=some (.int .i64 id))(hl:ds.length<=4)(hcc:ds.length<=cc)(hno:∀i,i<ds.length->(ds.getD i (0,[])).1≠id)
  (hd:ds=[]\/∃b o,a=some ⟨b,o,none⟩/\b<w.heap.size/\∀i,i<ds.length->w.cell? ⟨b,o+i*2,none⟩=some (.int .i64 (ds.getD i (0,[])).1)/\w.cell? ⟨b,o+i*2+1,none⟩=some (.string (ah (ds.getD i (0,[])).2))) :
  Calls prog 92 #[.slice a ds.length cc,.func (.func 75) #[] #[.pointer (some ⟨C,0,none⟩)]] w fun e w'=>e=.returned (.int .i64 (-1))/\Below w.heap.size w w':=by
 go_enter func92,ntmps92
 go_wp2_with fail
 go_loopg[8] (ds.length+1) (fun gh kv wr=>∃k:Nat,gh=ds.length+1-k/\k<=ds.length/\kv=.int .i64 (k:Int)/\Below w.heap.size w wr)
 case atStart=>exact⟨0,by omega,by omega,rfl,d_ w⟩
 case round =>
  obtain⟨k,rfl,hk,rfl,hb⟩:=hrel
  replace hb:=aA hb
  by_cases hlt:k<ds.length
  ·have hlt':(k:Int)<(ds.length:Int):=by omega
   rcases hd with hd|⟨b,o,rfl,hbl,hd⟩
   ·rw[hd]at hlt;simp at hlt
   obtain⟨d0,d1⟩:=hd k hlt
   have e0:=(hb.out.cell (p:=⟨b,o+k*2,none⟩) hbl).trans d0
   have e1:=(hb.out.cell (p:=⟨b,o+k*2+1,none⟩) hbl).trans d1
   have hne:=hno k hlt
   obtain⟨I,hI⟩:∃I,I=(ds.getD k (0,[])).1:=⟨_,rfl⟩
   obtain⟨T,hT⟩:∃T,T=(ds.getD k (0,[])).2:=⟨_,rfl⟩
   rw[<- hI]at e0 hne
   rw[<- hT]at e1
   replace hI:=aA hI
   replace hT:=aA hT
   replace hd:=aA hd
   have yL:wr.cell? ⟨C,0,none⟩=some (.int .i64 id):=(hb.out.cell (p:=⟨C,0,none⟩) (World.block_lt_of_cell? w _ hC)).trans hC
   have hcl:=QV id C I T wr yL
   rw[show(I==id)=false by simpa using hne]at hcl
   go_wp2_with fail
   refine hcl.mono ?_
   rintro e w1 ⟨rfl,hb1⟩
   have hb2:=aA (hb.out.trans ⟨hb1.os,hb1.tape,hb1.output,hb1.size,fun k hk=>hb1.block k (Nat.lt_of_lt_of_le hk hb.out.size)⟩)
   go_wp2_with fail
   go_roundg(ds.length+1-(k+1))
   case rel=>exact⟨k+1,rfl,by omega,by go_num,hb2.out⟩
   case measure=>omega
  ·obtain rfl:k=ds.length:=by omega
   go_wp2_with fail
   go_ret
   exact⟨rfl,hb.out⟩
theorem agh(id:Int)(C:Nat)(a:Option Addr)(cc:Nat)(ds:List (Int×aj))(w:World)(hC:w.cell? ⟨C,0,none⟩=some (.int .i64 id))(hl:ds.length<=4)(hcc:ds.length<=cc)(hsome:∃i,i<ds.length/\(ds.getD i (0,[])).1=id)
  (hd:ds=[]\/∃b o,a=some ⟨b,o,none⟩/\b<w.heap.size/\∀i,i<ds.length->w.cell? ⟨b,o+i*2,none⟩=some (.int .i64 (ds.getD i (0,[])).1)/\w.cell? ⟨b,o+i*2+1,none⟩=some (.string (ah (ds.getD i (0,[])).2))) :
  Calls prog 92 #[.slice a ds.length cc,.func (.func 75) #[] #[.pointer (some ⟨C,0,none⟩)]] w fun e w'=>(∃n:Nat,n<=4/\e=.returned (.int .i64 (n:Int)))/\Below w.heap.size w w':=by
 go_enter func92,ntmps92
 go_wp2_with fail
 go_loopg[8] (ds.length+1) (fun gh kv wr=>∃k:Nat,gh=ds.length+1-k/\k<=ds.length/\kv=.int .i64 (k:Int)/\Below w.heap.size w wr/\Hid (∀j,j<k->(ds.getD j (0,[])).1≠id))
 case atStart=>exact⟨0,by omega,by omega,rfl,d_ w,aA (fun j hj=>absurd hj (by omega))⟩
 case round =>
  obtain⟨k,rfl,hk,rfl,hb,hbef⟩:=hrel
  replace hb:=aA hb
  by_cases hlt:k<ds.length
  ·have hlt':(k:Int)<(ds.length:Int):=by omega
   rcases hd with hd|⟨b,o,rfl,hbl,hd⟩
   ·rw[hd]at hlt;simp at hlt
   obtain⟨d0,d1⟩:=hd k hlt
   have e0:=(hb.out.cell (p:=⟨b,o+k*2,none⟩) hbl).trans d0
   have e1:=(hb.out.cell (p:=⟨b,o+k*2+1,none⟩) hbl).trans d1
   obtain⟨I,hI⟩:∃I,I=(ds.getD k (0,[])).1:=⟨_,rfl⟩
   obtain⟨T,hT⟩:∃T,T=(ds.getD k (0,[])).2:=⟨_,rfl⟩
   rw[<- hI]at e0
   rw[<- hT]at e1
   replace hT:=aA hT
   replace hd:=aA hd
   have yL:wr.cell? ⟨C,0,none⟩=some (.int .i64 id):=(hb.out.cell (p:=⟨C,0,none⟩) (World.block_lt_of_cell? w _ hC)).trans hC
   have hcl:=QV id C I T wr yL
   by_cases hq:I=id
   ·rw[show(I==id)=true by simpa using hq]at hcl
    replace hI:=aA hI
    replace hq:=aA hq
    go_wp2_with fail
    refine hcl.mono ?_
    rintro e w1 ⟨rfl,hb1⟩
    have hb2:=aA (hb.out.trans ⟨hb1.os,hb1.tape,hb1.output,hb1.size,fun k hk=>hb1.block k (Nat.lt_of_lt_of_le hk hb.out.size)⟩)
    go_wp2_with fail
    go_ret
    exact⟨⟨k,by omega,rfl⟩,hb2.out⟩
   ·rw[show(I==id)=false by simpa using hq]at hcl
    have agi:Hid (∀j,j<k+1->(ds.getD j (0,[])).1≠id):=aA (fun j hj=>by
     rcases(by omega:j<k\/j=k)with e|rfl
     ·exact hbef.out j e
     ·rw[<- hI];exact hq)
    replace hI:=aA hI
    replace hq:=aA hq
    go_wp2_with fail
    refine hcl.mono ?_
    rintro e w1 ⟨rfl,hb1⟩
    have hb2:=aA (hb.out.trans ⟨hb1.os,hb1.tape,hb1.output,hb1.size,fun k hk=>hb1.block k (Nat.lt_of_lt_of_le hk hb.out.size)⟩)
    go_wp2_with fail
    go_roundg(ds.length+1-(k+1))
    case rel=>exact⟨k+1,rfl,by omega,by go_num,hb2.out,agi⟩
    case measure=>omega
  ·exfalso
   obtain⟨i,hi,he⟩:=hsome
   exact hbef.out i (by omega) he
theorem agj(id:Int)(v:Value)(ds:List (Int×aj))(w:World)(hD:iE w v ds)(hl:ds.length<=4)(hno:∀i,i<ds.length->(ds.getD i (0,[])).1≠id) :
  Calls prog 55 #[v,.int .i64 id] w fun e w'=>e=.returned (.bool false)/\Below w.heap.size w w':=by
 obtain⟨a,cc,rfl,hcc,hd⟩:=hD
 have hb0:Below w.heap.size w (w.alloc (.cells #[.int .i64 id] 3)):=(Below.refl _ w).alloc (Nat.le_refl _) _
 have hix:Calls prog 92 #[.slice a ds.length cc,.func (.func 75) #[] #[.pointer (some ⟨w.heap.size,0,none⟩)]] (w.alloc (.cells #[.int .i64 id] 3)) fun e w'=>e=.returned (.int .i64 (-1))/\Below (w.alloc (.cells #[.int .i64 id] 3)).heap.size (w.alloc (.cells #[.int .i64 id] 3)) w':=by
  refine agf id w.heap.size a cc ds _ ((aB.new w 3 [.int .i64 id]).cell (j:=0) rfl) hl hcc hno ?_
  rcases hd with hd|⟨b,o,rfl,hbl,hd⟩
  ·exact .inl hd
  ·exact .inr ⟨b,o,rfl,Nat.lt_of_lt_of_le hbl hb0.size,fun i hi=>⟨(hb0.cell (p:=⟨b,o+i*2,none⟩) hbl).trans (hd i hi).1,(hb0.cell (p:=⟨b,o+i*2+1,none⟩) hbl).trans (hd i hi).2⟩⟩
 have hcf:Calls prog 74 #[.slice a ds.length cc,.func (.func 75) #[] #[.pointer (some ⟨w.heap.size,0,none⟩)]] (w.alloc (.cells #[.int .i64 id] 3)) fun e w'=>e=.returned (.bool false)/\Below (w.alloc (.cells #[.int .i64 id] 3)).heap.size (w.alloc (.cells #[.int .i64 id] 3)) w':=by
  generalize w.alloc (.cells #[.int .i64 id] 3)=W at *
  clear hb0
  go_enter func74,ntmps74
  go_wp2_with fail
  refine hix.mono ?_
  rintro e w1 ⟨rfl,hb1⟩
  go_wp2_with fail
  go_ret
  exact⟨rfl,hb1⟩
 clear hix
 go_enter func55,ntmps55
 go_wp2_with fail
 refine hcf.mono ?_
 rintro e w1 ⟨rfl,hb1⟩
 go_wp2_with fail
 go_ret
 exact⟨rfl,hb0.trans ⟨hb1.os,hb1.tape,hb1.output,hb1.size,fun k hk=>hb1.block k (Nat.lt_of_lt_of_le hk hb0.size)⟩⟩
theorem agk(id:Int)(v:Value)(ds:List (Int×aj))(w:World)(hD:iE w v ds)(hl:ds.length<=4)(hsome:∃i,i<ds.length/\(ds.getD i (0,[])).1=id) :
  Calls prog 55 #[v,.int .i64 id] w fun e w'=>e=.returned (.bool true)/\Below w.heap.size w w':=by
 obtain⟨a,cc,rfl,hcc,hd⟩:=hD
 have hb0:Below w.heap.size w (w.alloc (.cells #[.int .i64 id] 3)):=(Below.refl _ w).alloc (Nat.le_refl _) _
 have hix:Calls prog 92 #[.slice a ds.length cc,.func (.func 75) #[] #[.pointer (some ⟨w.heap.size,0,none⟩)]] (w.alloc (.cells #[.int .i64 id] 3)) fun e w'=>(∃n:Nat,n<=4/\e=.returned (.int .i64 (n:Int)))/\Below (w.alloc (.cells #[.int .i64 id] 3)).heap.size (w.alloc (.cells #[.int .i64 id] 3)) w':=by
  refine agh id w.heap.size a cc ds _ ((aB.new w 3 [.int .i64 id]).cell (j:=0) rfl) hl hcc hsome ?_
  rcases hd with hd|⟨b,o,rfl,hbl,hd⟩
  ·exact .inl hd
  ·exact .inr ⟨b,o,rfl,Nat.lt_of_lt_of_le hbl hb0.size,fun i hi=>⟨(hb0.cell (p:=⟨b,o+i*2,none⟩) hbl).trans (hd i hi).1,(hb0.cell (p:=⟨b,o+i*2+1,none⟩) hbl).trans (hd i hi).2⟩⟩
 have hcf:Calls prog 74 #[.slice a ds.length cc,.func (.func 75) #[] #[.pointer (some ⟨w.heap.size,0,none⟩)]] (w.alloc (.cells #[.int .i64 id] 3)) fun e w'=>e=.returned (.bool true)/\Below (w.alloc (.cells #[.int .i64 id] 3)).heap.size (w.alloc (.cells #[.int .i64 id] 3)) w':=by
  generalize w.alloc (.cells #[.int .i64 id] 3)=W at *
  clear hb0
  go_enter func74,ntmps74
  go_wp2_with fail
  refine hix.mono ?_
  rintro e w1 ⟨⟨n,hn4,rfl⟩,hb1⟩
  have hn0:(0:Int)<=(n:Int):=by omega
  go_wp2_with fail
  go_ret
  exact⟨rfl,hb1⟩
 clear hix
 go_enter func55,ntmps55
 go_wp2_with fail
 refine hcf.mono ?_
 rintro e w1 ⟨rfl,hb1⟩
 go_wp2_with fail
 go_ret
 exact⟨rfl,hb0.trans ⟨hb1.os,hb1.tape,hb1.output,hb1.size,fun k hk=>hb1.block k (Nat.lt_of_lt_of_le hk hb0.size)⟩⟩
theorem Tz(lim:Int)(ds:List (Int×aj))(v:Value)(w:World)(lW:-9223372036854775808<=lim/\lim<=9223372036854775807)(hD:iE w v ds)(hn:ds.length<=140737488355328)(ht:∀d∈ds,d.2.length<=140737488355328) :
  Calls prog 38 #[.agg #[.int .i64 lim,v]] w fun e w'=>e=.returned (.bool (dK lim ds))/\Below w.heap.size w w':=by
 obtain⟨a,cc,rfl,hcc,hd⟩:=id hD
 have hb0:Below w.heap.size w (w.alloc (.cells #[.int .i64 lim,.slice a ds.length cc] 24)):=(Below.refl _ w).alloc (Nat.le_refl _) _
 by_cases hbase:64<=lim/\lim<=8192/\ds.length<=4
 ·obtain⟨hl1,hl2,hf⟩:=id hbase
  have hB0:=aB.new w 24 [.int .i64 lim,.slice a ds.length cc]
  have hC0:w.heap.size<(w.alloc (.cells #[.int .i64 lim,.slice a ds.length cc] 24)).heap.size:=by simp
  replace hbase:=aA hbase
  go_enter func38,ntmps38
  go_wp2_with fail
  generalize hW0:w.alloc (.cells #[.int .i64 lim,.slice a ds.length cc] 24)=W0 at *
  have yM:=hD.below hb0
  have wU:ds=[]\/∃b o,a=some ⟨b,o,none⟩/\b<W0.heap.size/\∀i,i<ds.length->W0.cell? ⟨b,o+i*2,none⟩=some (.int .i64 (ds.getD i (0,[])).1)/\W0.cell? ⟨b,o+i*2+1,none⟩=some (.string (ah (ds.getD i (0,[])).2)):=by
   obtain⟨a',c',e,_,h2⟩:=yM
   injection e with e1 _ _
   rw[e1]
   exact h2
  obtain⟨C,hC⟩:∃C,C=w.heap.size:=⟨_,rfl⟩
  rw[<- hC]at hB0 hC0⊢
  replace hC:=aA hC
  replace hW0:=aA hW0
  replace hd:=aA hd
  replace hD:=aA hD
  replace yM:=aA yM
  go_loopg[22] (ds.length+1) (fun gh kv wr=>∃k:Nat,gh=ds.length+1-k/\k<=ds.length/\kv=.int .i64 (k:Int)/\Below W0.heap.size W0 wr/\Hid (∀j,j<k->jI ds j=true))
  case atStart=>exact⟨0,by omega,by omega,rfl,d_ W0,aA (fun j hj=>absurd hj (by omega))⟩
  case round =>
   obtain⟨k,rfl,hk,rfl,hb,hok⟩:=hrel
   replace hb:=aA hb
   by_cases hlt:k<ds.length
   ·have hlt':(k:Int)<(ds.length:Int):=by omega
    have hmem:=getD_mem hlt
    have htx:=ht _ hmem
    have hno:=fun(h:goodD (ds.getD k (0,[]))=false)=>Fv (lim:=lim) hlt (Tm h)
    have hys:=fun h=>Tq (ds:=ds) (i:=k) h
    have htw:=fun j(hj:j<k) h=>Fv (lim:=lim) hlt (Tn (ds:=ds) (i:=k) hj h)
    rcases wU with wU|⟨b,o,rfl,hbl,wU⟩
    ·rw[wU]at hlt;simp at hlt
    obtain⟨d0,d1⟩:=wU k hlt
    have e0:=(hb.out.cell (p:=⟨b,o+k*2,none⟩) hbl).trans d0
    have e1:=(hb.out.cell (p:=⟨b,o+k*2+1,none⟩) hbl).trans d1
    have hDr:=(yM.out.below hb.out).take k hk
    obtain⟨I,hI⟩:∃I,(ds.getD k (0,[])).1=I:=⟨_,rfl⟩
    obtain⟨T,hT⟩:∃T,(ds.getD k (0,[])).2=T:=⟨_,rfl⟩
    have hP:ds.getD k (0,[])=(I,T):=by rw[<- hI,<- hT]
    rw[hP]at hno hys e0 e1 htx
    have Kv:Hid (goodD (I,T)=true->(∀j,j<k->(ds.getD j (0,[])).1≠I)->jI ds k=true):=aA (fun h1 h2=>hys h1 h2)
    have Kw:Hid (∀j,j<k->(ds.getD j (0,[])).1=I->dK lim ds=false):=aA (fun j hj h=>htw j hj (by rw[h,hI]))
    simp only[]at e0 e1 htx
    clear hys htw
    replace hP:=aA hP
    replace hI:=aA hI
    replace hT:=aA hT
    replace wU:=aA wU
    replace hno:=aA hno
    have hBr:=hB0.below hb.out hB0.lt
    have hb1:Below wr.heap.size wr (wr.alloc (.cells #[.int .i64 I,.string (ah T)] 65)):=(Below.refl _ wr).alloc (Nat.le_refl _) _
    have hN1:=aB.new wr 65 [.int .i64 I,.string (ah T)]
    have hB1:=hBr.alloc (.cells #[.int .i64 I,.string (ah T)] 65)
    have hD1:=hDr.below hb1
    replace hDr:=aA hDr
    replace hmem:=aA hmem
    go_wp2_with fail
    generalize hW1:wr.alloc (.cells #[.int .i64 I,.string (ah T)] 65)=W1 at *
    replace hW1:=aA hW1
    have hF1:∀z:fZ (Below W1.heap.size W1),z.w.cell? ⟨C,1,none⟩=some (.slice (some ⟨b,o,none⟩) ds.length cc):=fun z=>(hB1.below z.ok hB1.lt).cell (j:=1) rfl
    have hF2:∀z:fZ (Below W1.heap.size W1),z.w.cell? ⟨wr.heap.size,0,none⟩=some (.int .i64 I):=fun z=>(hN1.below z.ok hN1.lt).cell (j:=0) rfl
    have hF3:∀z:fZ (Below W1.heap.size W1),z.w.cell? ⟨wr.heap.size,1,none⟩=some (.string (ah T)):=fun z=>(hN1.below z.ok hN1.lt).cell (j:=1) rfl
    have hkn:¬(k:Int)<0:=by omega
    have hkc:k<=cc:=by omega
    have hsum:∀w2,Below W1.heap.size W1 w2->Below W0.heap.size W0 w2:=fun w2 hb2=>by
     have h12:Below wr.heap.size wr w2:=hb1.trans ⟨hb2.os,hb2.tape,hb2.output,hb2.size,fun k hk=>hb2.block k (Nat.lt_of_lt_of_le hk hb1.size)⟩
     exact hb.out.trans ⟨h12.os,h12.tape,h12.output,h12.size,fun k hk=>h12.block k (Nat.lt_of_lt_of_le hk hb.out.size)⟩
    replace hsum:=aA hsum
    haveI:Nonempty (fZ (Below W1.heap.size W1)):=⟨⟨W1,d_ W1⟩⟩
    by_cases hg:goodD (I,T)=true
    ·have FB:∀z:fZ (Below W1.heap.size W1),Calls prog 54 #[.agg #[.int .i64 I,.string (ah T)]] z.w fun e w'=>e=.returned (.bool true)/\∃z':fZ (Below W1.heap.size W1),w'=z'.w:=fun z=>by
      have hgi:=(sU (I,T)).1 hg
      refine(acX I T z.w hgi.1 hgi.2).mono ?_
      rintro e w' ⟨rfl,hb'⟩
      exact⟨rfl,⟨w',z.ok.trans ⟨hb'.os,hb'.tape,hb'.output,hb'.size,fun k hk=>hb'.block k (Nat.lt_of_lt_of_le hk z.ok.size)⟩⟩,rfl⟩
     by_cases uT:∃j,j<k/\(ds.getD j (0,[])).1=I
     ·have hbad:Hid (dK lim ds=false):=aA (by obtain⟨j,hj,he⟩:=uT;exact Kw.out j hj he)
      have hsome:∃i,i<(ds.take k).length/\((ds.take k).getD i (0,[])).1=I:=by
       obtain⟨j,hj,he⟩:=uT
       refine⟨j,by rw[List.length_take];omega,?_⟩
       rw[List.getD_eq_getElem?_getD,List.getElem?_take,if_pos (by omega),<- List.getD_eq_getElem?_getD]
       exact he
      have ny:∀z:fZ (Below W1.heap.size W1),Calls prog 55 #[.slice (some ⟨b,o,none⟩) k cc,.int .i64 I] z.w fun e w'=>e=.returned (.bool true)/\∃z':fZ (Below W1.heap.size W1),w'=z'.w:=fun z=>by
       refine(agk I _ (ds.take k) z.w (hD1.below z.ok) (by rw[List.length_take];omega) hsome).mono ?_
       rintro e w' ⟨rfl,hb'⟩
       exact⟨rfl,⟨w',z.ok.trans ⟨hb'.os,hb'.tape,hb'.output,hb'.size,fun k hk=>hb'.block k (Nat.lt_of_lt_of_le hk z.ok.size)⟩⟩,rfl⟩
      replace uT:=aA uT
      replace hsome:=aA hsome
      replace hg:=aA hg
      refine qW (Below W1.heap.size W1) (by kernel_rfl) (by kernel_rfl) (jW (d_ W1)) ?_
      repeat (go_big_quiet_step(first|exact FB _|exact ny _))
      refine wpQuiet_nil ?_
      rintro w2 ⟨⟨_,hb2⟩,rfl⟩
      have hb3:=aA (hsum.out _ hb2)
      go_wp2_with fail
      go_ret
      exact⟨by rw[hbad.out];rfl,hb0.trans ⟨hb3.out.os,hb3.out.tape,hb3.out.output,hb3.out.size,fun k hk=>hb3.out.block k (Nat.lt_of_lt_of_le hk hb0.size)⟩⟩
     ·have KA:∀i,i<(ds.take k).length->((ds.take k).getD i (0,[])).1≠I:=fun i hil=>by
       rw[List.length_take]at hil
       rw[List.getD_eq_getElem?_getD,List.getElem?_take,if_pos (by omega),<- List.getD_eq_getElem?_getD]
       exact fun e=>uT ⟨i,by omega,e⟩
      have hok2:Hid (∀j,j<k+1->jI ds j=true):=aA (fun j hj=>by
       rcases(by omega:j<k\/j=k)with e|rfl
       ·exact hok.out j e
       ·exact Kv.out hg (fun j hj e=>uT ⟨j,hj,e⟩))
      have ny:∀z:fZ (Below W1.heap.size W1),Calls prog 55 #[.slice (some ⟨b,o,none⟩) k cc,.int .i64 I] z.w fun e w'=>e=.returned (.bool false)/\∃z':fZ (Below W1.heap.size W1),w'=z'.w:=fun z=>by
       refine(agj I _ (ds.take k) z.w (hD1.below z.ok) (by rw[List.length_take];omega) KA).mono ?_
       rintro e w' ⟨rfl,hb'⟩
       exact⟨rfl,⟨w',z.ok.trans ⟨hb'.os,hb'.tape,hb'.output,hb'.size,fun k hk=>hb'.block k (Nat.lt_of_lt_of_le hk z.ok.size)⟩⟩,rfl⟩
      replace uT:=aA uT
      replace KA:=aA KA
      replace hg:=aA hg
      refine qW (Below W1.heap.size W1) (by kernel_rfl) (by kernel_rfl) (jW (d_ W1)) ?_
      repeat (go_big_quiet_step(first|exact FB _|exact ny _))
      refine wpQuiet_nil ?_
      rintro w2 ⟨⟨_,hb2⟩,rfl⟩
      have hb3:=aA (hsum.out _ hb2)
      go_wp2_with fail
      go_roundg(ds.length+1-(k+1))
      case rel=>exact⟨k+1,rfl,by omega,by go_num,hb3.out,hok2⟩
      case measure=>omega
    ·have hgf:goodD (I,T)=false:=by simpa using hg
     have hbad:Hid (dK lim ds=false):=aA (hno.out hgf)
     have FB:∀z:fZ (Below W1.heap.size W1),Calls prog 54 #[.agg #[.int .i64 I,.string (ah T)]] z.w fun e w'=>e=.returned (.bool false)/\∃z':fZ (Below W1.heap.size W1),w'=z'.w:=fun z=>by
      refine(agd I T z.w htx hgf).mono ?_
      rintro e w' ⟨rfl,hb'⟩
      exact⟨rfl,⟨w',z.ok.trans ⟨hb'.os,hb'.tape,hb'.output,hb'.size,fun k hk=>hb'.block k (Nat.lt_of_lt_of_le hk z.ok.size)⟩⟩,rfl⟩
     replace hg:=aA hg
     replace hgf:=aA hgf
     refine qW (Below W1.heap.size W1) (by kernel_rfl) (by kernel_rfl) (jW (d_ W1)) ?_
     repeat (go_big_quiet_step(first|exact FB _))
     refine wpQuiet_nil ?_
     rintro w2 ⟨⟨_,hb2⟩,rfl⟩
     have hb3:=aA (hsum.out _ hb2)
     go_wp2_with fail
     go_ret
     exact⟨by rw[hbad.out];rfl,hb0.trans ⟨hb3.out.os,hb3.out.tape,hb3.out.output,hb3.out.size,fun k hk=>hb3.out.block k (Nat.lt_of_lt_of_le hk hb0.size)⟩⟩
   ·have hke:k=ds.length:=by omega
    have hlt':¬(k:Int)<(ds.length:Int):=by omega
    have hgood:Hid (dK lim ds=true):=aA (Tj hbase.out (by rw[<- hke];exact hok.out))
    go_wp2_with fail
    go_ret
    exact⟨by rw[hgood.out];rfl,hb0.trans ⟨hb.out.os,hb.out.tape,hb.out.output,hb.out.size,fun k hk=>hb.out.block k (Nat.lt_of_lt_of_le hk hb0.size)⟩⟩
 ·have hbad:=Ti hbase
  rw[hbad]
  replace hbad:=aA hbad
  by_cases q1:lim<64
  ·replace hbase:=aA hbase
   go_enter func38,ntmps38
   go_wp2_with fail
   go_ret
   exact⟨rfl,hb0⟩
  ·by_cases q2:8192<lim
   ·replace hbase:=aA hbase
    go_enter func38,ntmps38
    go_wp2_with fail
    go_ret
    exact⟨rfl,hb0⟩
   ·have q3:(4:Int)<(ds.length:Int):=by omega
    replace hbase:=aA hbase
    go_enter func38,ntmps38
    go_wp2_with fail
    go_ret
    exact⟨rfl,hb0⟩
theorem agl(ds:List (Int×aj))(v:Value)(w:World)(hD:iE w v ds)(hl:ds.length<=4)(ht:∀d∈ds,d.2.length<=256) :
  Calls prog 40 #[v] w (ac0 ds w):=by
 obtain⟨a,cc,rfl,hcc,hd⟩:=hD
 obtain⟨i0,hi0,hz0,hz1,hz2⟩:=info_parts KP
 go_enter func40,ntmps40
 go_wp2_with fail
 go_loopg[3,8] (ds.length+1) (fun gh ov kv wr=>∃k:Nat,gh=ds.length+1-k/\k<=ds.length/\kv=.int .i64 (k:Int)/\Below w.heap.size w wr/\wr.ownsRow w.heap.size 65 2 ov k (iJ (ds.take k))/\∃oa oc,ov=.slice oa k oc)
 case atStart=>exact⟨0,by omega,by omega,rfl,d_ w,World.ownsRow_nil _ _ _ _,none,0,rfl⟩
 case round =>
  obtain⟨k,rfl,hk,rfl,hb,hown,oa,oc,rfl⟩:=hrel
  replace hb:=aA hb
  have hwr:=hb.out.size
  by_cases hlt:k<ds.length
  ·have hlt':(k:Int)<(ds.length:Int):=by omega
   rcases hd with hd|⟨b,o,rfl,hbl,hd⟩
   ·rw[hd]at hlt;simp at hlt
   obtain⟨d0,d1⟩:=hd k hlt
   have e0:=(hb.out.cell (p:=⟨b,o+k*2,none⟩) hbl).trans d0
   have e1:=(hb.out.cell (p:=⟨b,o+k*2+1,none⟩) hbl).trans d1
   have hsn:=QY ds k hlt
   have htl:=ht _ (getD_mem hlt)
   obtain⟨I,hI⟩:∃I,I=(ds.getD k (0,[])).1:=⟨_,rfl⟩
   obtain⟨T,hT⟩:∃T,T=(ds.getD k (0,[])).2:=⟨_,rfl⟩
   rw[<- hI]at e0 hsn
   rw[<- hT]at e1 htl hsn
   replace hI:=aA hI
   replace hT:=aA hT
   replace hd:=aA hd
   replace hsn:=aA hsn
   have hb1:Below wr.heap.size wr (wr.alloc (.cells #[.int .i64 I,.string (ah T)] 65)):=(Below.refl _ wr).alloc (Nat.le_refl _) _
   have hN1:=aB.new wr 65 [.int .i64 I,.string (ah T)]
   have hown1:=hown.alloc (.cells #[.int .i64 I,.string (ah T)] 65)
   replace hown:=aA hown
   go_wp2_with fail
   generalize hW1:wr.alloc (.cells #[.int .i64 I,.string (ah T)] 65)=W1 at *
   replace hW1:=aA hW1
   have n0:=hN1.cell (j:=0) rfl
   have n1:=hN1.cell (j:=1) rfl
   have hcl:∀W:World,jK W W1->Calls prog 47 #[.string (ah T)] W fun e w'=>e=.returned (.string (ah T))/\Below W1.heap.size W1 w'/\w'.cell? ⟨wr.heap.size,0,none⟩=some (.int .i64 I)/\w'.cell? ⟨wr.heap.size,1,none⟩=some (.string (ah T)):=fun W hW=>by
    refine(Ob (ah T) W (by rw[aQ];omega)).mono ?_
    rintro e w' ⟨rfl,hb'⟩
    have hb2:=hW.below hb'
    exact⟨rfl,hb2,(hN1.below hb2 hN1.lt).cell (j:=0) rfl,(hN1.below hb2 hN1.lt).cell (j:=1) rfl⟩
   go_region_law(first|(refine acZ rfl 47 #[.string (ah T)] (by simp[execOp,resolve,invoke,go_sem,Act.eval]) (hcl _ (by exact⟨rfl,rfl,rfl,rfl⟩)) ?_;rintro e w2 ⟨rfl,hb2,m0,m1⟩;refine⟨_,rfl,?_⟩)|(refine step_append_lies _ rfl (.tmp 12) (.tmp 19) 22 rfl w.heap.size 65 i0 _ 2 24 underlying22 hi0 hz0 hz1 hz2 rfl (by decide) (.slice oa k oc) _ _ rfl (World.ownsRow.alloc (own_below hown1 hb2) _) ⟨w2.heap.size,0,none⟩ 1 1 [.int .i64 I,.string (ah T)] rfl rfl (QW _ _ _) (QX _ _) (by omega) (by unfold maxLen;omega) (by omega) (by have hq1:=hb2.size;have hq2:=hb1.size;simp;omega) _ rfl ?_;intro g cap w3 hown3 hgrow hg hlt3))
   all_goals
    have h12:Below wr.heap.size wr w2:=hb1.trans ⟨hb2.os,hb2.tape,hb2.output,hb2.size,fun k hk=>hb2.block k (Nat.lt_of_lt_of_le hk hb1.size)⟩
    have hbw:Below w.heap.size w w2:=hb.out.trans ⟨h12.os,h12.tape,h12.output,h12.size,fun k hk=>h12.block k (Nat.lt_of_lt_of_le hk hb.out.size)⟩
    have hbd:Below w.heap.size w (w2.alloc (.cells #[.int .i64 I,.string (ah T)] 65)):=hbw.alloc hbw.size _
    have jk:Hid (Below w.heap.size w w3):=hbd.grown hgrow (by have:=hbw.size;simp;omega) (fun k hk=>(World.ownsRow.lt hown.out k hk).1)
    have G_:Hid (w3.ownsRow w.heap.size 65 2 (.slice (some ⟨g,0,none⟩) (k+1) cap) (k+1) (iJ (ds.take (k+1)))):=by
     unfold Hid
     rw[hsn.out]
     exact hown3
    clear hgrow hown3 hg hbd
    go_wp2
    go_roundg(ds.length+1-(k+1))
    case rel=>exact⟨k+1,rfl,by omega,by go_num,jk.out,G_.out,_,_,rfl⟩
    case measure=>omega
  ·obtain rfl:k=ds.length:=by omega
   go_wp2_with fail
   go_ret
   rw[List.take_length]at hown
   exact⟨hb.out,_,rfl,hown,_,_,rfl⟩
def agm(x:Fx)(c:aC)(w:World)(e:Ending)(w':World):Prop :=
 Below w.heap.size w w'/\∃R S G1 ss,e=.returned (.tuple #[.pointer (some ⟨R,0,none⟩),.int .i64 0])/\sJ x (fun k=>w.heap.size<=k/\k<w'.heap.size) c [] [] 0 R w' S MS.start (RD.St.start []) G1 ss (.slice none 0 0) (.slice none 0 0)/\∀v k,ss[1]?=some v->v.ownBlock=some k->w.heap.size<=k
theorem Uw(x:Fx)(c:aC)(hg:dK c.limit c.aP=true)(v:Value)(w:World)(hD:iE w v c.aP)(hV:bI x w)(hE:jE x w) :
  Calls prog 22 #[.agg #[.int .i64 c.limit,v]] w (agm x c w):=by
 have hc:nU c:=(FX hg).1
 have hlm:=hc.lim
 have hfw:=hc.few
 obtain⟨a,cc,rfl,hcc,-⟩:=id hD
 have hb0:Below w.heap.size w (w.alloc (.cells #[.int .i64 c.limit,.slice a c.aP.length cc] 24)):=(Below.refl _ w).alloc (Nat.le_refl _) _
 have hB0:=aB.new w 24 [.int .i64 c.limit,.slice a c.aP.length cc]
 have hD0:=hD.below hb0
 have hrc:=Tz c.limit c.aP _ _ (by omega) hD0 (by omega) (fun d hd=>by have:=hc.text d hd;omega)
 rw[hg]at hrc
 go_enter func22,ntmps22
 go_wp2_with fail
 generalize hW0:w.alloc (.cells #[.int .i64 c.limit,.slice a c.aP.length cc] 24)=W0 at *
 refine hrc.mono ?_
 rintro e w1 ⟨rfl,hb1⟩
 have hB1:=hB0.below hb1 hB0.lt
 have hD1:=hD0.below hb1
 have k0:=hB1.cell (j:=0) rfl
 have k1:=hB1.cell (j:=1) rfl
 have wY:Below w.heap.size w w1:=hb0.trans ⟨hb1.os,hb1.tape,hb1.output,hb1.size,fun k hk=>hb1.block k (Nat.lt_of_lt_of_le hk hb0.size)⟩
 have hcp:∀W:World,jK W w1->Calls prog 40 #[.slice a c.aP.length cc] W fun e w'=>∃da dc,e=.returned (.slice da c.aP.length dc)/\Below w1.heap.size w1 w'/\lJ w' (.slice da c.aP.length dc) c.aP/\(∀k,(Value.slice da c.aP.length dc).ownBlock=some k->w1.heap.size<=k/\k<w'.heap.size/\DB w' k)/\w'.cell? ⟨w.heap.size,0,none⟩=some (.int .i64 c.limit)/\w'.cell? ⟨w.heap.size,1,none⟩=some (.slice a c.aP.length cc):=fun W hW=>by
  have yM:iE W (.slice a c.aP.length cc) c.aP:=hD1.below ⟨hW.2.1,hW.2.2.1,hW.2.2.2,by rw[hW.1];exact Nat.le_refl _,fun k _=>by rw[hW.1]⟩
  refine(agl c.aP _ W yM hc.few (fun d hd=>(hc.text d hd).2)).mono ?_
  rintro e w' ⟨hb',v',rfl,hown,da,dc,rfl⟩
  have hb2:=hW.below hb'
  obtain⟨z1,z2⟩:=Rh hown
  exact⟨da,dc,rfl,hb2,z1,fun k hk=>⟨by have:=(z2 k hk).1;rw[hW.1]at this;exact this,(z2 k hk).2,adt hown k hk⟩,(hB1.below hb2 hB1.lt).cell (j:=0) rfl,(hB1.below hb2 hB1.lt).cell (j:=1) rfl⟩
 replace hW0:=aA hW0
 go_wp2_with fail
 go_region_with(first|(go_at_call 40;refine(hcp _ (by exact⟨rfl,rfl,rfl,rfl⟩)).mono ?_;rintro e w2 ⟨da,dc,rfl,hb2,hD2,hown2,m0,m1⟩)|(go_at_call 39;refine(acS _ _ _ _ _).mono ?_;rintro e w3 ⟨S,M,rfl,ajK,uz,hMh,hBS,hb3⟩))
 all_goals
  go_wp2_with fail
  go_ret2
  have lG:Below w.heap.size w w2:=wY.trans ⟨hb2.os,hb2.tape,hb2.output,hb2.size,fun k hk=>hb2.block k (Nat.lt_of_lt_of_le hk wY.size)⟩
  have yS:Below w.heap.size w w3:=lG.trans ⟨hb3.os,hb3.tape,hb3.output,hb3.size,fun k hk=>hb3.block k (Nat.lt_of_lt_of_le hk lG.size)⟩
  have hb4:Below w3.heap.size w3 (w3.alloc (.cells #[.pointer (some ⟨S,0,none⟩),.slice none 0 0,.nilIface,.bool false] 94)):=(Below.refl _ w3).alloc (Nat.le_refl _) _
  have hbf:=yS.trans ⟨hb4.os,hb4.tape,hb4.output,hb4.size,fun k hk=>hb4.block k (Nat.lt_of_lt_of_le hk yS.size)⟩
  have hVf:=hV.below hbf
  have hEf:=hE.below hV hbf
  have IY:=hBS.below hb4 hBS.lt
  have hDf:=(hD2.only (aH (G:=fun _=>False) hb3) (fun _ _ e=>e)).only (aH (G:=fun _=>False) hb4) (fun _ _ e=>e)
  have hsw:=hV.size
  have ajL:=lG.size
  have qx:=hBS.lt
  have hf4:=hb4.size
  have agq:M<w3.heap.size:=(Array.getElem?_eq_some_iff.1 hMh).1
  have hMf:(w3.alloc (.cells #[.pointer (some ⟨S,0,none⟩),.slice none 0 0,.nilIface,.bool false] 94)).heap[M]?=some (.map #[] 0):=by rw[hb4.block M agq];exact hMh
  obtain⟨hst,hc0⟩:=bF.start IY hMf uz hDf (fun k hk=>⟨by have:=hown2 k hk;omega,((hown2 k hk).2.2.only (aH (G:=fun _=>False) hb3) (fun e=>e)).only (aH (G:=fun _=>False) hb4) (fun e=>e)⟩) hVf (by omega)
  refine⟨hbf,w3.heap.size,S,(fun k=>k=S\/k=M),_,rfl,⟨aB.new w3 94 [.pointer (some ⟨S,0,none⟩),.slice none 0 0,.nilIface,.bool false],aT.nil 0 _,Nat.zero_le _,Lk.start c,rfl,?_,hst,fun k hk=>⟨⟨by omega,by omega⟩,by omega⟩,fun e=>by omega,fun k hk=>(by cases hk),qx,⟨by have:=yS.size;omega,by simp⟩,fun k hk=>by omega,hEf,by rw[hc0];exact Nat.le_refl _⟩,fun v k hv hk=>by cases hv;have:=(hown2 k hk).1;have:=wY.size;omega⟩
  show(0:Nat)<=_
  omega
theorem ags(x:Fx)(c:aC)(hg:dK c.limit c.aP=true)(v:Value)(w:World)(hD:iE w v c.aP)(hV:bI x w)(hE:jE x w) :
  Calls prog 22 #[.agg #[.int .i64 c.limit,v]] w (adu x c w) :=
 (Uw x c hg v w hD hV hE).mono fun e w'⟨h1,R,S,G1,ss,h2,h3,_⟩=>⟨h1,R,S,G1,ss,h2,h3⟩
theorem Ux(lim:Int)(ds:List (Int×aj))(v:Value)(w:World)(lW:-9223372036854775808<=lim/\lim<=9223372036854775807)(hD:iE w v ds)(hn:ds.length<=140737488355328)(ht:∀d∈ds,d.2.length<=140737488355328)(hg:dK lim ds=false) :
  Calls prog 22 #[.agg #[.int .i64 lim,v]] w fun e w'=>e=.returned (.tuple #[.pointer none,.int .i64 3])/\Below w.heap.size w w':=by
 obtain⟨a,cc,rfl,hcc,-⟩:=id hD
 have hb0:Below w.heap.size w (w.alloc (.cells #[.int .i64 lim,.slice a ds.length cc] 24)):=(Below.refl _ w).alloc (Nat.le_refl _) _
 have hrc:=Tz lim ds _ _ lW (hD.below hb0) hn ht
 rw[hg]at hrc
 go_enter func22,ntmps22
 go_wp2_with fail
 generalize hW0:w.alloc (.cells #[.int .i64 lim,.slice a ds.length cc] 24)=W0 at *
 replace hW0:=aA hW0
 refine hrc.mono ?_
 rintro e w1 ⟨rfl,hb1⟩
 go_wp2_with fail
 go_ret2
 exact⟨rfl,hb0.trans ⟨hb1.os,hb1.tape,hb1.output,hb1.size,fun k hk=>hb1.block k (Nat.lt_of_lt_of_le hk hb0.size)⟩⟩
theorem ahl(x:Fx)(c:aC)(hg:dK c.limit c.aP=true)(s:aj)(v:Value)(w:World)(hD:iE w v c.aP)(hV:bI x w)(hE:jE x w)(hlen:s.length<=268435456) :
  Calls prog 17 #[.agg #[.int .i64 c.limit,v],.string (ah s)] w (adv c s w):=by
 have hc:nU c:=(FX hg).1
 obtain⟨a,cc,rfl,-,-⟩:=id hD
 have hb0:Below w.heap.size w (w.alloc (.cells #[.int .i64 c.limit,.slice a c.aP.length cc] 24)):=(Below.refl _ w).alloc (Nat.le_refl _) _
 have hnw:=ags x c hg _ _ (hD.below hb0) (hV.below hb0) (hE.below hV hb0)
 go_enter func17,ntmps17
 go_wp2_with fail
 generalize hW0:w.alloc (.cells #[.int .i64 c.limit,.slice a c.aP.length cc] 24)=W0 at *
 replace hW0:=aA hW0
 refine hnw.mono ?_
 rintro e w1 ⟨hb1,R,S,G1,ss,rfl,hL⟩
 have wY:Below w.heap.size w w1:=hb0.trans ⟨hb1.os,hb1.tape,hb1.output,hb1.size,fun k hk=>hb1.block k (Nat.lt_of_lt_of_le hk hb0.size)⟩
 have hfd:=Ul x _ c hc [] s [] 0 R S _ _ _ _ _ _ w1 hL (by rw[List.nil_append];exact hlen)
 unfold Q5 at hfd
 rw[List.nil_append]at hfd
 go_wp2_with fail
 refine hfd.mono ?_
 rintro e w2 ⟨rfl,hO2,a2,G2,hG2,hr2,hcase⟩
 have hs0:=hb0.size
 have hs1:=hb1.size
 have hbw2:Below w.heap.size w w2:=Below.only wY hO2 (fun k hk=>by omega) (Nat.le_refl _)
 have wE:∀k,G2 k->w.heap.size<=k:=fun k hk=>by
  rcases hG2 k hk with e|e
  ·omega
  ·omega
 have hcl:Calls prog 25 #[.pointer (some ⟨R,0,none⟩)] w2 fun e w'=>e=.returned (.int .i64 0)/\Only G2 w2 w'/\∃n F vr text pl,RD.gave c s=(text,n)/\lD x G2 text n pl true 0 R w' F vr:=by
  rcases hcase with⟨hw,S2,m2,G3,ss2,v62,B_,hL2⟩|⟨n,F,B_,hn,hS2⟩
  ·refine(Um x G2 c s a2.text 0 R S2 m2 a2 G3 ss2 v62 B_ w2 hL2).mono ?_
   rintro e w' ⟨rfl,h1,n,F,h2,h3⟩
   exact⟨rfl,h1,n,F,B_,a2.text,_,by unfold RD.gave;rw[h2],h3⟩
  ·refine(Un x G2 a2.text n _ 0 R F B_ w2 hS2).mono ?_
   rintro e w' ⟨rfl,h1,h3⟩
   exact⟨rfl,h1,n,F,B_,a2.text,_,by unfold RD.gave;rw[xE true hr2 hn],h3⟩
 clear hcase hfd hL hnw
 go_wp2_with fail
 refine hcl.mono ?_
 rintro e w3 ⟨rfl,hO3,n,F,vr,text,pl,hgv,hS3⟩
 have hbw3:Below w.heap.size w w3:=Below.only hbw2 hO3 wE (Nat.le_refl _)
 have hpl:=Q_ x G2 text n pl true 0 R F vr w3 hS3
 go_wp2_with fail
 refine hpl.mono ?_
 rintro e w4 ⟨rfl,hb4⟩
 have agt:Below w.heap.size w w4:=hbw3.trans ⟨hb4.os,hb4.tape,hb4.output,hb4.size,fun k hk=>hb4.block k (Nat.lt_of_lt_of_le hk hbw3.size)⟩
 have hS4:lD x G2 text n pl true 0 R w4 F vr:=⟨hS3.blk.below hb4 hS3.blk.lt,hS3.row.only (aH (G:=fun _=>False) hb4) (fun _ _ e=>e),hS3.le,hS3.flt.below hb4 hS3.flt.lt,hS3.num,hS3.bW,hS3.nv,hS3.base,hS3.vars.below hb4,hS3.rows.below hS3.vars hb4⟩
 have htl:(text.drop 0).length<=(9223372036854775807:Int):=by
  obtain⟨_,c',e,h1,h2,_⟩:=hS3.row.form
  unfold maxLen at h2
  omega
 have hrd:=ads x G2 text n pl true 0 R F vr 9223372036854775807 w4 hS4 htl (by omega)
 rw[List.drop_zero]at hrd
 obtain⟨Q,hQ⟩:∃Q,Q=(if n=2 then 0 else n:Nat):=⟨_,rfl⟩
 rw[<- hQ]
 replace hQ:=aA hQ
 replace hgv:=aA hgv
 go_wp2_with fail
 refine hrd.mono ?_
 rintro e w5 ⟨z,rfl,dB⟩
 go_wp2_with fail
 go_ret2
 refine⟨?_,Below.only agt dB wE (Nat.le_refl _)⟩
 rw[hgv.out]
 have hq:errOf n=Q:=hQ.out.symm
 rw[hq]
 rfl
theorem ahm(lim:Int)(ds:List (Int×aj))(s:aj)(v:Value)(w:World)(lW:-9223372036854775808<=lim/\lim<=9223372036854775807)(hD:iE w v ds)(hn:ds.length<=140737488355328)(ht:∀d∈ds,d.2.length<=140737488355328)(hg:dK lim ds=false) :
  Calls prog 17 #[.agg #[.int .i64 lim,v],.string (ah s)] w fun e w'=>e=.returned (.tuple #[.string ⟨#[]⟩,.int .i64 3])/\Below w.heap.size w w':=by
 obtain⟨a,cc,rfl,hcc,-⟩:=id hD
 have hb0:Below w.heap.size w (w.alloc (.cells #[.int .i64 lim,.slice a ds.length cc] 24)):=(Below.refl _ w).alloc (Nat.le_refl _) _
 have hrc:=Ux lim ds _ _ lW (hD.below hb0) hn ht hg
 go_enter func17,ntmps17
 go_wp2_with fail
 generalize hW0:w.alloc (.cells #[.int .i64 lim,.slice a ds.length cc] 24)=W0 at *
 replace hW0:=aA hW0
 refine hrc.mono ?_
 rintro e w1 ⟨rfl,hb1⟩
 go_wp2_with fail
 go_ret2
 exact⟨rfl,hb0.trans ⟨hb1.os,hb1.tape,hb1.output,hb1.size,fun k hk=>hb1.block k (Nat.lt_of_lt_of_le hk hb0.size)⟩⟩
end Go.Proofs.YtbhemchnjpajiaaGreatDoor
