/- Several texts in one: RefHead3, RefHead4. -/
import Derived.Test.YtbhemchnjpajiaaGreatDoorMF
set_option linter.unusedVariables false
set_option maxRecDepth 100000
set_option maxHeartbeats 4000000
namespace Go.Proofs.YtbhemchnjpajiaaGreatDoor
open Go.RowKit Go.Proofs.Tryz RD
theorem aeF(p g:Nat)(c:aC)(v:Value)(l:aj)(fr:Nat)(text:aj)(w:World)(hpg:p≠g)(hR:bU w p c v l fr text)(hG:aB w g 122 (gG 1 0 false [] (.slice none 0 0)))(hc:sO c)(hD:g_ w v c.aP)(hdp:bJ v≠some p/\bJ v≠some g)(hl:l.length<=1099511627776)(h0:¬l.length=0)
  (h5:ak l 0/32%2=0) (h4:ak l 0/16%2=1) :
  Calls prog 71 #[.pointer (some ⟨p,0,none⟩),.pointer (some ⟨g,0,none⟩)] w (BD p g c v l fr text w):=by
 have hz:=aQ l
 have c2:w.cell? ⟨p,2,none⟩=some (.string (ah l)):=hR.cell rfl
 have hg:=gq l 0 (by omega)
 have hb:=dQ l 0
 have hne:(ah l).toList.isEmpty=false:=by
  rw[kH]
  cases l with
  | nil=>exact absurd rfl h0
  | cons b r=>rfl
 have m5:(((ak l 0:Nat):Int)/32).tmod 2=0:=by rw[Int.tmod_eq_emod_of_nonneg (by omega)];omega
 have m4:(((ak l 0:Nat):Int)/16).tmod 2=1:=by rw[Int.tmod_eq_emod_of_nonneg (by omega)];omega
 go_enter func71,ntmps71
 go_wp2_with fail
 refine(take_any p _ _ _ _ _ l 4 _ hR hl (by omega)).mono ?_
 rintro e w1 (⟨hlt,rfl,rfl⟩|⟨hle,rfl,rfl⟩)
 ·have hh:RD.header c l=.wants:=by
   unfold RD.header
   simp only[h5,h4]
   rw[if_neg h0,if_pos (by omega)]
  go_wp2_with fail
  go_ret
  exact⟨Only.refl _ _,.inl ⟨hh,rfl,hG,hR⟩⟩
 ·have hR1:bU (w.setCell ⟨p,2,none⟩ (.string (ah (l.drop 4)))) p c v (l.drop 4) fr text:=hR.put 2 _
  have hG1:aB (w.setCell ⟨p,2,none⟩ (.string (ah (l.drop 4)))) g 122 (gG 1 0 false [] (.slice none 0 0)):=hG.other _ _ (fun e=>hpg e.symm)
  have hD1:=hD.put p 2 (.string (ah (l.drop 4))) hdp.1
  have aF:=(Only.refl (fun b=>b=p\/b=g) w).setCell ⟨p,2,none⟩ (.string (ah (l.drop 4))) (fun _=>.inl rfl)
  generalize w.setCell ⟨p,2,none⟩ (.string (ah (l.drop 4)))=w1 at *
  clear c2 hR hG hD
  have hgl:=hG1.lt
  have hpl:=hR1.lt
  have fz:=hG1.free
  have g0:=hG1.cell (j:=0) rfl
  have g1:=hG1.cell (j:=1) rfl
  have g2:=hG1.cell (j:=2) rfl
  have g3:=hG1.cell (j:=3) rfl
  have g15:=hG1.cell (j:=15) rfl
  have p0:=hR1.cell (j:=0) rfl
  have p1:=hR1.cell (j:=1) rfl
  have hh:Hid (RD.header c l=if 64<=ak l 0 then .err 4
    else if c.limit<((64*2^(ak l 0%8):Nat):Int)then .err 5
    else if 0=1/\c.find (ak l 1)=[]then .err 6
    else .ok ({ RD.Fr.new with window:=64*2^(ak l 0%8),size:=if 1=1 then(au ((l.drop (4-3)).take 3):Nat)else -1,summed:=decide (ak l 0/8%2=1),dict:=if 0=1 then c.find (ak l 1)else[],last:=[1,4,8] },l.drop 4)):=by
   unfold Hid RD.header
   simp only[h5,h4]
   rw[if_neg h0,if_neg (by omega)]
  have m3:(((ak l 0:Nat):Int)/8).tmod 2=((ak l 0/8%2:Nat):Int):=by rw[Int.tmod_eq_emod_of_nonneg (by omega)];omega
  have m0:((ak l 0:Nat):Int).tmod 8=((ak l 0%8:Nat):Int):=by rw[Int.tmod_eq_emod_of_nonneg (by omega)];omega
  have hW:ak l 0%8<=7:=by omega
  have hS:ak l 0/8%2<=1:=by omega
  clear h5 h4
  generalize ak l 0/8%2=SB at *
  generalize ak l 0%8=WB at *
  generalize ak l 0=H at *
  go_wp2_with fail
  refine(qO _ _ (by omega) (by omega)).mono ?_
  rintro e' w2 ⟨rfl,rfl⟩
  rw[show((WB:Nat):Int).toNat=WB by omega]
  have hp1:=CM.pow_pos WB
  have hp2:=CM.iF WB 7 hW
  obtain⟨w3,hw3⟩:∃w3,w3=(((((w1.setCell ⟨g,0,none⟩ (.int .i64 (64*2^WB))).setCell ⟨g,2,none⟩ (.bool ((SB:Int)==1))).setCell ⟨g,1,none⟩ (.int .i64 (-1))).setCell ⟨g,15,none⟩ (.slice (some ⟨w1.heap.size,0,none⟩) 3 3)).alloc (.cells #[.int .i64 1,.int .i64 4,.int .i64 8] 3)):=⟨_,rfl⟩
  have hG3:aB w3 g 122 (gG (64*2^WB) (-1) ((SB:Int)==1) [] (.slice (some ⟨w1.heap.size,0,none⟩) 3 3)):=by
   rw[hw3]
   exact((((hG1.put 0 _).put 2 _).put 1 _).put 15 _).alloc _
  have aV:bU w3 p c v (l.drop 4) fr text:=by
   rw[hw3]
   exact(((((aB.other hR1 _ _ hpg).other _ _ hpg).other _ _ hpg).other _ _ hpg)).alloc _
  have hD3:g_ w3 v c.aP:=by
   rw[hw3]
   exact((((hD1.put g 0 _ hdp.2).put g 2 _ hdp.2).put g 1 _ hdp.2).put g 15 _ hdp.2).below ((Below.refl _ _).alloc (Nat.le_refl _) _)
  have hO3:Only (fun b=>b=p\/b=g) w w3:=by
   rw[hw3]
   exact((((aF.setCell _ _ (fun _=>.inr rfl)).setCell _ _ (fun _=>.inr rfl)).setCell _ _ (fun _=>.inr rfl)).setCell _ _ (fun _=>.inr rfl)).alloc _
  have hL3:eG w3 (.slice (some ⟨w1.heap.size,0,none⟩) 3 3) [1,4,8]:=by
   rw[hw3]
   have h9:=BA ((((w1.setCell ⟨g,0,none⟩ (.int .i64 (64*2^WB))).setCell ⟨g,2,none⟩ (.bool ((SB:Int)==1))).setCell ⟨g,1,none⟩ (.int .i64 (-1))).setCell ⟨g,15,none⟩ (.slice (some ⟨w1.heap.size,0,none⟩) 3 3)) 1 4 8
   simpa using h9
  by_cases h64:64<=H
  ·rw[if_pos h64]at hh
   rw[hw3]at hG3 aV hO3
   have hG3:=aA hG3
   have aV:=aA aV
   have hO3:=aA hO3
   go_wp2_with fail
   go_ret
   exact⟨hO3.out,.inr (.inl ⟨4,_,hh.out,rfl,⟨_,_,_,_,_,hG3.out⟩,aV.out⟩)⟩
  rw[if_neg h64]at hh
  have wK:=aA hw3
  clear hw3
  go_wp2_with fail
  rw[<- wK.out]
  have q0:=hG3.cell (j:=0) rfl
  have q3:=hG3.cell (j:=3) rfl
  have r0:=aV.cell (j:=0) rfl
  have r1:=aV.cell (j:=1) rfl
  go_quiet(fail)
  by_cases hlim:c.limit<64*2^WB
  ·rw[if_pos (by simpa using hlim)]at hh
   go_wp2_with fail
   go_ret
   exact⟨hO3.drewN nq,.inr (.inl ⟨5,_,hh.out,rfl,⟨_,_,_,_,_,hG3⟩,aV⟩)⟩
  rw[if_neg (by simpa using hlim)]at hh
  have hbne:w1.heap.size≠g:=by omega
  rw[if_neg (by omega),if_pos trivial,if_neg (by omega)]at hh
  have fz3:=hG3.free
  have q1:=hG3.cell (j:=1) rfl
  have hlt4:(l.take 4).length=4:=by simp;omega
  have hnum:au (((l.take 4).drop 1).take 3)=au ((l.drop (4-3)).take 3):=by
   rw[List.drop_take,List.take_take]
   rfl
  have hZ:=qP (l.drop (4-3)) 3 (by omega)
  go_wp2_with fail
  refine(mZ (l.take 4) 1 3 _ (by omega) (by omega) (by omega)).mono ?_
  rintro e9 w9 ⟨rfl,rfl⟩
  rw[hnum]
  generalize au ((l.drop (4-3)).take 3)=Z at *
  have JF:aB (w3.setCell ⟨g,1,none⟩ (.int .i64 (Z:Int))) g 122 (gG (64*2^WB) (Z:Int) ((SB:Int)==1) [] (.slice (some ⟨w1.heap.size,0,none⟩) 3 3)):=hG3.put 1 _
  have hoff:bJ (.slice (some ⟨w1.heap.size,0,none⟩) 3 3)≠some g:=by
   simp only[bJ,ne_eq,Option.some.injEq]
   exact hbne
  have hfin:=aA (EK JF (hL3.put g 1 _ hoff) hbne hW (by omega) (by simp))
  have JG:Hid (bU (w3.setCell ⟨g,1,none⟩ (.int .i64 (Z:Int))) p c v (l.drop 4) fr text):=aB.other aV _ _ hpg
  have JH:=aA (hO3.setCell ⟨g,1,none⟩ (.int .i64 (Z:Int)) (fun _=>.inr rfl))
  go_wp2_with fail
  go_ret
  exact⟨JH.out.below ⟨rfl,rfl,rfl,Nat.le_refl _,fun _ _=>rfl⟩,.inr (.inr ⟨_,_,hh.out,rfl,hfin.out.below ⟨rfl,rfl,rfl,Nat.le_refl _,fun _ _=>rfl⟩,JG.out⟩)⟩
theorem Rq{c:aC}(hc:sO c)(id:Int):(c.find id).length<=256:=by
 unfold aC.find
 have key:∀(ds:List (Int×aj))(acc:aj),acc.length<=256->(∀d∈ds,d.2.length<=256)->(ds.foldl (fun d(x:Int×aj)=>if x.1=id then x.2 else d) acc).length<=256:=by
  intro ds
  induction ds with
  | nil=>intro acc h _;exact h
  | cons x r ih =>
   intro acc h hd
   rw[List.foldl_cons]
   refine ih _ ?_ (fun d hd'=>hd d (by simp[hd']))
   split
   ·exact hd x (by simp)
   ·exact h
 exact key c.aP [] (by simp) (fun d hd=>(hc.2 d hd).2)
theorem aeG(p g:Nat)(c:aC)(v:Value)(l:aj)(fr:Nat)(text:aj)(w:World)(hpg:p≠g)(hR:bU w p c v l fr text)(hG:aB w g 122 (gG 1 0 false [] (.slice none 0 0)))(hc:sO c)(hD:g_ w v c.aP)(hdp:bJ v≠some p/\bJ v≠some g)(hl:l.length<=1099511627776)(h0:¬l.length=0)
  (h5:ak l 0/32%2=1) (h4:ak l 0/16%2=0) :
  Calls prog 71 #[.pointer (some ⟨p,0,none⟩),.pointer (some ⟨g,0,none⟩)] w (BD p g c v l fr text w):=by
 have hz:=aQ l
 have c2:w.cell? ⟨p,2,none⟩=some (.string (ah l)):=hR.cell rfl
 have hg:=gq l 0 (by omega)
 have hb:=dQ l 0
 have hne:(ah l).toList.isEmpty=false:=by
  rw[kH]
  cases l with
  | nil=>exact absurd rfl h0
  | cons b r=>rfl
 have m5:(((ak l 0:Nat):Int)/32).tmod 2=1:=by rw[Int.tmod_eq_emod_of_nonneg (by omega)];omega
 have m4:(((ak l 0:Nat):Int)/16).tmod 2=0:=by rw[Int.tmod_eq_emod_of_nonneg (by omega)];omega
 go_enter func71,ntmps71
 go_wp2_with fail
 refine(take_any p _ _ _ _ _ l 2 _ hR hl (by omega)).mono ?_
 rintro e w1 (⟨hlt,rfl,rfl⟩|⟨hle,rfl,rfl⟩)
 ·have hh:RD.header c l=.wants:=by
   unfold RD.header
   simp only[h5,h4]
   rw[if_neg h0,if_pos (by omega)]
  go_wp2_with fail
  go_ret
  exact⟨Only.refl _ _,.inl ⟨hh,rfl,hG,hR⟩⟩
 ·have hR1:bU (w.setCell ⟨p,2,none⟩ (.string (ah (l.drop 2)))) p c v (l.drop 2) fr text:=hR.put 2 _
  have hG1:aB (w.setCell ⟨p,2,none⟩ (.string (ah (l.drop 2)))) g 122 (gG 1 0 false [] (.slice none 0 0)):=hG.other _ _ (fun e=>hpg e.symm)
  have hD1:=hD.put p 2 (.string (ah (l.drop 2))) hdp.1
  have aF:=(Only.refl (fun b=>b=p\/b=g) w).setCell ⟨p,2,none⟩ (.string (ah (l.drop 2))) (fun _=>.inl rfl)
  generalize w.setCell ⟨p,2,none⟩ (.string (ah (l.drop 2)))=w1 at *
  clear c2 hR hG hD
  have hgl:=hG1.lt
  have hpl:=hR1.lt
  have fz:=hG1.free
  have g0:=hG1.cell (j:=0) rfl
  have g1:=hG1.cell (j:=1) rfl
  have g2:=hG1.cell (j:=2) rfl
  have g3:=hG1.cell (j:=3) rfl
  have g15:=hG1.cell (j:=15) rfl
  have p0:=hR1.cell (j:=0) rfl
  have p1:=hR1.cell (j:=1) rfl
  have hh:Hid (RD.header c l=if 64<=ak l 0 then .err 4
    else if c.limit<((64*2^(ak l 0%8):Nat):Int)then .err 5
    else if 1=1/\c.find (ak l 1)=[]then .err 6
    else .ok ({ RD.Fr.new with window:=64*2^(ak l 0%8),size:=if 0=1 then(au ((l.drop (2-3)).take 3):Nat)else -1,summed:=decide (ak l 0/8%2=1),dict:=if 1=1 then c.find (ak l 1)else[],last:=[1,4,8] },l.drop 2)):=by
   unfold Hid RD.header
   simp only[h5,h4]
   rw[if_neg h0,if_neg (by omega)]
  have m3:(((ak l 0:Nat):Int)/8).tmod 2=((ak l 0/8%2:Nat):Int):=by rw[Int.tmod_eq_emod_of_nonneg (by omega)];omega
  have m0:((ak l 0:Nat):Int).tmod 8=((ak l 0%8:Nat):Int):=by rw[Int.tmod_eq_emod_of_nonneg (by omega)];omega
  have hW:ak l 0%8<=7:=by omega
  have hS:ak l 0/8%2<=1:=by omega
  clear h5 h4
  generalize ak l 0/8%2=SB at *
  generalize ak l 0%8=WB at *
  generalize ak l 0=H at *
  go_wp2_with fail
  refine(qO _ _ (by omega) (by omega)).mono ?_
  rintro e' w2 ⟨rfl,rfl⟩
  rw[show((WB:Nat):Int).toNat=WB by omega]
  have hp1:=CM.pow_pos WB
  have hp2:=CM.iF WB 7 hW
  obtain⟨w3,hw3⟩:∃w3,w3=(((((w1.setCell ⟨g,0,none⟩ (.int .i64 (64*2^WB))).setCell ⟨g,2,none⟩ (.bool ((SB:Int)==1))).setCell ⟨g,1,none⟩ (.int .i64 (-1))).setCell ⟨g,15,none⟩ (.slice (some ⟨w1.heap.size,0,none⟩) 3 3)).alloc (.cells #[.int .i64 1,.int .i64 4,.int .i64 8] 3)):=⟨_,rfl⟩
  have hG3:aB w3 g 122 (gG (64*2^WB) (-1) ((SB:Int)==1) [] (.slice (some ⟨w1.heap.size,0,none⟩) 3 3)):=by
   rw[hw3]
   exact((((hG1.put 0 _).put 2 _).put 1 _).put 15 _).alloc _
  have aV:bU w3 p c v (l.drop 2) fr text:=by
   rw[hw3]
   exact(((((aB.other hR1 _ _ hpg).other _ _ hpg).other _ _ hpg).other _ _ hpg)).alloc _
  have hD3:g_ w3 v c.aP:=by
   rw[hw3]
   exact((((hD1.put g 0 _ hdp.2).put g 2 _ hdp.2).put g 1 _ hdp.2).put g 15 _ hdp.2).below ((Below.refl _ _).alloc (Nat.le_refl _) _)
  have hO3:Only (fun b=>b=p\/b=g) w w3:=by
   rw[hw3]
   exact((((aF.setCell _ _ (fun _=>.inr rfl)).setCell _ _ (fun _=>.inr rfl)).setCell _ _ (fun _=>.inr rfl)).setCell _ _ (fun _=>.inr rfl)).alloc _
  have hL3:eG w3 (.slice (some ⟨w1.heap.size,0,none⟩) 3 3) [1,4,8]:=by
   rw[hw3]
   have h9:=BA ((((w1.setCell ⟨g,0,none⟩ (.int .i64 (64*2^WB))).setCell ⟨g,2,none⟩ (.bool ((SB:Int)==1))).setCell ⟨g,1,none⟩ (.int .i64 (-1))).setCell ⟨g,15,none⟩ (.slice (some ⟨w1.heap.size,0,none⟩) 3 3)) 1 4 8
   simpa using h9
  by_cases h64:64<=H
  ·rw[if_pos h64]at hh
   rw[hw3]at hG3 aV hO3
   have hG3:=aA hG3
   have aV:=aA aV
   have hO3:=aA hO3
   go_wp2_with fail
   go_ret
   exact⟨hO3.out,.inr (.inl ⟨4,_,hh.out,rfl,⟨_,_,_,_,_,hG3.out⟩,aV.out⟩)⟩
  rw[if_neg h64]at hh
  have wK:=aA hw3
  clear hw3
  go_wp2_with fail
  rw[<- wK.out]
  have q0:=hG3.cell (j:=0) rfl
  have q3:=hG3.cell (j:=3) rfl
  have r0:=aV.cell (j:=0) rfl
  have r1:=aV.cell (j:=1) rfl
  go_quiet(fail)
  by_cases hlim:c.limit<64*2^WB
  ·rw[if_pos (by simpa using hlim)]at hh
   go_wp2_with fail
   go_ret
   exact⟨hO3.drewN nq,.inr (.inl ⟨5,_,hh.out,rfl,⟨_,_,_,_,_,hG3⟩,aV⟩)⟩
  rw[if_neg (by simpa using hlim)]at hh
  have hbne:w1.heap.size≠g:=by omega
  have hV:∃da dc,v=.slice da c.aP.length dc:=by
   obtain⟨da,dc,e,_⟩:=hD3
   exact⟨da,dc,e⟩
  obtain⟨da,dc,rfl⟩:=hV
  have hat:ak (l.take 2) 1=ak l 1:=by
   unfold ak
   rw[List.getD_eq_getElem?_getD,List.getD_eq_getElem?_getD,List.getElem?_take_of_lt (by omega)]
  have Ae:=aQ (l.take 2)
  have hlt2:(l.take 2).length=2:=by simp;omega
  rw[hlt2]at Ae
  have hg1:=gq (l.take 2) 1 (by omega)
  rw[hat]at hg1
  have hb1:=dQ l 1
  generalize ak l 1=ID at *
  have hcl:c.aP.length<=4:=by
   obtain⟨_,_,_,h4,_⟩:=hD3
   exact h4
  go_wp2_with fail
  go_loopg[9] c.aP.length (fun gh iv wr=>∃i:Nat,gh=c.aP.length-i/\i<=c.aP.length/\iv=.int .i64 (i:Int) /\
   aB wr g 122 (gG (64*2^WB) (-1) ((SB:Int)==1) ((c.aP.take i).foldl (fun d(x:Int×aj)=>if x.1=(ID:Int)then x.2 else d) []) (.slice (some ⟨w1.heap.size,0,none⟩) 3 3)) /\
   bU wr p c (.slice da c.aP.length dc) (l.drop 2) fr text/\g_ wr (.slice da c.aP.length dc) c.aP/\eG wr (.slice (some ⟨w1.heap.size,0,none⟩) 3 3) [1,4,8]/\Only (fun b=>b=p\/b=g) w wr)
  case atStart=>exact⟨0,by omega,by omega,rfl,hG3,aV,hD3,hL3,hO3.drewN nq⟩
  case round =>
   obtain⟨i,rfl,hi,rfl,gI,l9,ou,hLw,jO⟩:=hrel
   have x1:=l9.cell (j:=1) rfl
   have y3:=gI.cell (j:=3) rfl
   have fzw:=gI.free
   have JI:=aA ou
   by_cases hlt:i<c.aP.length
   ·obtain⟨da',dc',hde,_,hcell0⟩:=ou
    obtain⟨rfl,_,rfl⟩:=Value.slice.inj hde
    obtain⟨gd,off,rfl,hgd,hcell⟩:=hcell0.resolve_left (by omega)
    obtain⟨z0,z1⟩:=hcell i hlt
    clear hcell hcell0
    have hfs:=aA (Ro c (ID:Int) i hlt)
    generalize c.aP.getD i (0,[])=dd at *
    obtain⟨did,JJ⟩:=dd
    simp only at z0 z1 hfs
    have aeJ:gd≠g:=fun e=>hdp.2 (by rw[e];rfl)
    go_wp2_with fail
    go_quiet(fail)
    have hbd:Below wr.heap.size wr (wr.drewN nq):=⟨rfl,rfl,rfl,Nat.le_refl _,fun _ _=>rfl⟩
    have BF:bU (wr.drewN nq) p c (.slice (some ⟨gd,off,none⟩) c.aP.length dc) (l.drop 2) fr text:=aB.below l9 hbd l9.lt
    have hDq:=aA (JI.out.below hbd)
    have hLq:=hLw.below hbd
    have BG:=gI.below hbd gI.lt
    have BH:=jO.drewN nq
    by_cases wL:did=(ID:Int)
    ·subst wL
     rw[if_pos rfl]at hfs
     go_wp2_with fail
     go_roundg(c.aP.length-(i+1))
     case rel =>
      refine⟨i+1,rfl,by omega,by go_num,?_,aB.other BF _ _ hpg,hDq.out.put g 3 _ hdp.2,hLq.put g 3 _ (by simp only[bJ,ne_eq,Option.some.injEq];exact hbne),BH.setCell ⟨g,3,none⟩ (.string (ah JJ)) (fun _=>.inr rfl)⟩
      rw[hfs.out]
      exact BG.put 3 _
     case measure=>omega
    ·rw[if_neg wL]at hfs
     have aeK:(did==(ID:Int))=false:=by simpa using wL
     go_wp2_with fail
     go_roundg(c.aP.length-(i+1))
     case rel =>
      refine⟨i+1,rfl,by omega,by go_num,?_,BF,hDq.out,hLq,BH⟩
      rw[hfs.out]
      exact BG
     case measure=>omega
   ·obtain rfl:i=c.aP.length:=by omega
    rw[List.take_length]at gI y3
    have hfl:=Rq hc (ID:Int)
    have hfd:Hid (c.aP.foldl (fun d(x:Int×aj)=>if x.1=(ID:Int)then x.2 else d) []=c.find (ID:Int)):=rfl
    rw[hfd.out]at gI y3
    by_cases hfe:c.find (ID:Int)=[]
    ·rw[if_pos ⟨trivial,hfe⟩]at hh
     rw[hfe,pO]at y3
     go_wp2_with fail
     go_ret
     exact⟨jO,.inr (.inl ⟨6,_,hh.out,rfl,⟨_,_,_,_,_,gI⟩,l9⟩)⟩
    ·rw[if_neg (fun h=>hfe h.2)]at hh
     have hemp:(ah (c.find (ID:Int))).toList.isEmpty=false:=by
      rw[kH]
      cases hq:c.find (ID:Int)with
      | nil=>exact absurd hq hfe
      | cons b r=>rfl
     rw[if_neg (by omega),if_pos trivial]at hh
     have hfin:=aA (EK gI hLw hbne hW (by omega) hfl)
     go_wp2_with fail
     go_ret
     exact⟨jO,.inr (.inr ⟨_,_,hh.out,rfl,hfin.out,l9⟩)⟩
end Go.Proofs.YtbhemchnjpajiaaGreatDoor
