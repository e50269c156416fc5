/- Several texts in one: RefHead, RefHead2. -/
import Derived.Test.YtbhemchnjpajiaaGreatDoorME
set_option linter.unusedVariables false
set_option maxRecDepth 100000
set_option maxHeartbeats 4000000
namespace Go.Proofs.YtbhemchnjpajiaaGreatDoor
open Go.RowKit Go.Proofs.Tryz RD
def g_(w:World)(v:Value)(ds:List (Int×aj)):Prop :=
 ∃a c,v=.slice a ds.length c/\ds.length<=4/\(ds.length=0\/∃g off,a=some ⟨g,off,none⟩/\g<w.heap.size/\∀i,i<ds.length ->
  w.cell? ⟨g,off+i*2,none⟩=some (.int .i64 (ds.getD i (0,[])).1)/\w.cell? ⟨g,off+i*2+1,none⟩=some (.string (ah (ds.getD i (0,[])).2)))
def sO(c:aC):Prop:=(64<=c.limit/\c.limit<=8192)/\∀d∈c.aP,(0<=d.1/\d.1<=255)/\d.2.length<=256
def bU(w:World)(p:Nat)(c:aC)(v:Value)(l:aj)(frames:Nat)(text:aj):Prop :=
 aB w p 114 [.int .i64 c.limit,v,.string (ah l),.int .i64 frames,.string (ah text)]
theorem Ro(c:aC)(id:Int)(i:Nat)(h:i<c.aP.length):(c.aP.take (i+1)).foldl (fun d(x:Int×aj)=>if x.1=id then x.2 else d) [] =
  if(c.aP.getD i (0,[])).1=id then(c.aP.getD i (0,[])).2 else(c.aP.take i).foldl (fun d(x:Int×aj)=>if x.1=id then x.2 else d) []:=by
 rw[List.take_succ_eq_append_getElem h,List.foldl_append,List.getD_eq_getElem?_getD,List.getElem?_eq_getElem h]
 rfl
theorem g_.put{w:World}{v:Value}{ds:List (Int×aj)}(h:g_ w v ds)(g j:Nat)(x:Value)(ho:bJ v≠some g):g_ (w.setCell ⟨g,j,none⟩ x) v ds:=by
 obtain⟨a,c,rfl,h4,h⟩:=h
 refine⟨a,c,rfl,h4,?_⟩
 rcases h with h|⟨g',off,rfl,hg,h⟩
 ·exact .inl h
 ·have hne:g'≠g:=fun e=>ho (by rw[e];rfl)
  have hc:∀k,(w.setCell ⟨g,j,none⟩ x).cell? ⟨g',k,none⟩=w.cell? ⟨g',k,none⟩:=fun k=>World.cell?_of_block (w:=w) (Below.heap_setCell w ⟨g,j,none⟩ x g' hne)
  refine .inr ⟨g',off,rfl,by simpa using hg,fun i hi=>?_⟩
  rw[hc,hc]
  exact h i hi
theorem g_.below{w w':World}{v:Value}{ds:List (Int×aj)}(h:g_ w v ds)(hb:Below w.heap.size w w'):g_ w' v ds:=by
 obtain⟨a,c,rfl,h4,h⟩:=h
 refine⟨a,c,rfl,h4,?_⟩
 rcases h with h|⟨g,off,rfl,hg,h⟩
 ·exact .inl h
 ·refine .inr ⟨g,off,rfl,Nat.lt_of_lt_of_le hg hb.size,fun i hi=>?_⟩
  obtain⟨h1,h2⟩:=h i hi
  exact⟨(hb.cell (p:=⟨g,off+i*2,none⟩) hg).trans h1,(hb.cell (p:=⟨g,off+i*2+1,none⟩) hg).trans h2⟩
def gG(win size:Int)(summed:Bool)(dict:aj)(vl:Value):List Value :=
 [.int .i64 win,.int .i64 size,.bool summed,.string (ah dict),.string (ah []),.slice none 0 0,.bool false,.int .i64 0,.slice none 0 0,.bool false,.int .i64 0,.slice none 0 0,.bool false,.int .i64 0,.slice none 0 0,vl,.int .i64 0]
theorem EK{w:World}{g b:Nat}{W:Nat}{size:Int}{sb:Nat}{dict:aj}(hB:aB w g 122 (gG (64*2^W) size ((sb:Int)==1) dict (.slice (some ⟨b,0,none⟩) 3 3)))
  (hL:eG w (.slice (some ⟨b,0,none⟩) 3 3) [1,4,8]) (hb:b≠g) (hW:W<=7) (hs:-1<=size/\size<=16777216) (hd:dict.length<=256) :
  aJ w g { RD.Fr.new with window:=64*2^W,size:=size,summed:=decide (sb=1),dict:=dict,last:=[1,4,8] }:=by
 have h7:2^W<=2^7:=Nat.pow_le_pow_right (by omega) hW
 have hno:RTabOk zu:=⟨by show 0<=6;omega,fun h=>(by cases h),fun x hx=>(by cases hx)⟩
 refine⟨⟨(by show 64*2^W<=8192;omega),hs,hd,(by show 0<=1099511627776;omega),⟨fun x hx=>(by cases hx),by show 0<=1048576;omega⟩,hno,hno,hno,fun x hx=>?_,by show 0<=1099511627776;omega⟩,.slice none 0 0,.slice none 0 0,.slice none 0 0,.slice none 0 0,_,?_,⟨dA.empty w 0,by simp[bJ]⟩,⟨dA.empty w 0,by simp[bJ]⟩,⟨dA.empty w 0,by simp[bJ]⟩,⟨dA.empty w 0,by simp[bJ]⟩,hL,by simp only[bJ,ne_eq,Option.some.injEq];exact hb⟩
 ·simp only[List.mem_cons,List.not_mem_nil,or_false]at hx
  rcases hx with rfl|rfl|rfl<;>omega
 ·have e1:(64*2^W:Int)=((64*2^W:Nat):Int):=by simp
  have e2:((sb:Int)==1)=decide (sb=1):=by
   by_cases h:sb=1
   ·subst h;rfl
   ·rw[decide_eq_false h];simp;omega
  unfold gG at hB
  rw[e1,e2]at hB
  exact hB
def BD(p g:Nat)(c:aC)(v:Value)(l:aj)(fr:Nat)(text:aj)(w:World)(e:Ending)(w':World):Prop :=
 Only (fun b=>b=p\/b=g) w w'/\((RD.header c l=.wants/\e=.returned (.int .i64 (-2))/\aB w' g 122 (gG 1 0 false [] (.slice none 0 0))/\bU w' p c v l fr text) \/
  (∃n l',RD.header c l=.err n/\e=.returned (.int .i64 (n:Nat))/\(∃win size summed dict vl,aB w' g 122 (gG win size summed dict vl))/\bU w' p c v l' fr text) \/
  (∃f l',RD.header c l=.ok (f,l')/\e=.returned (.int .i64 (-1))/\aJ w' g f/\bU w' p c v l' fr text))
theorem aeE(p g:Nat)(c:aC)(v:Value)(l:aj)(fr:Nat)(text:aj)(w:World)(hpg:p≠g)(hR:bU w p c v l fr text)(hG:aB w g 122 (gG 1 0 false [] (.slice none 0 0)))(hc:sO c)(hD:g_ w v c.aP)(hdp:bJ v≠some p/\bJ v≠some g)(hl:l.length<=1099511627776)(h0:¬l.length=0)
  (h5:ak l 0/32%2=0) (h4:ak l 0/16%2=0) :
  Calls prog 71 #[.pointer (some ⟨p,0,none⟩),.pointer (some ⟨g,0,none⟩)] w (BD p g c v l fr text w):=by
 have hz:=aQ l
 have c2:w.cell? ⟨p,2,none⟩=some (.string (ah l)):=hR.cell rfl
 have hg:=gq l 0 (by omega)
 have hb:=dQ l 0
 have hne:(ah l).toList.isEmpty=false:=by
  rw[kH]
  cases l with
  | nil=>exact absurd rfl h0
  | cons b r=>rfl
 have m5:(((ak l 0:Nat):Int)/32).tmod 2=0:=by rw[Int.tmod_eq_emod_of_nonneg (by omega)];omega
 have m4:(((ak l 0:Nat):Int)/16).tmod 2=0:=by rw[Int.tmod_eq_emod_of_nonneg (by omega)];omega
 go_enter func71,ntmps71
 go_wp2_with fail
 refine(take_any p _ _ _ _ _ l 1 _ hR hl (by omega)).mono ?_
 rintro e w1 (⟨hlt,rfl,rfl⟩|⟨hle,rfl,rfl⟩)
 ·have hh:RD.header c l=.wants:=by
   unfold RD.header
   simp only[h5,h4]
   rw[if_neg h0,if_pos (by omega)]
  go_wp2_with fail
  go_ret
  exact⟨Only.refl _ _,.inl ⟨hh,rfl,hG,hR⟩⟩
 ·have hR1:bU (w.setCell ⟨p,2,none⟩ (.string (ah (l.drop 1)))) p c v (l.drop 1) fr text:=hR.put 2 _
  have hG1:aB (w.setCell ⟨p,2,none⟩ (.string (ah (l.drop 1)))) g 122 (gG 1 0 false [] (.slice none 0 0)):=hG.other _ _ (fun e=>hpg e.symm)
  have hD1:=hD.put p 2 (.string (ah (l.drop 1))) hdp.1
  have aF:=(Only.refl (fun b=>b=p\/b=g) w).setCell ⟨p,2,none⟩ (.string (ah (l.drop 1))) (fun _=>.inl rfl)
  generalize w.setCell ⟨p,2,none⟩ (.string (ah (l.drop 1)))=w1 at *
  clear c2 hR hG hD
  have hgl:=hG1.lt
  have hpl:=hR1.lt
  have fz:=hG1.free
  have g0:=hG1.cell (j:=0) rfl
  have g1:=hG1.cell (j:=1) rfl
  have g2:=hG1.cell (j:=2) rfl
  have g3:=hG1.cell (j:=3) rfl
  have g15:=hG1.cell (j:=15) rfl
  have p0:=hR1.cell (j:=0) rfl
  have p1:=hR1.cell (j:=1) rfl
  have hh:Hid (RD.header c l=if 64<=ak l 0 then .err 4
    else if c.limit<((64*2^(ak l 0%8):Nat):Int)then .err 5
    else if 0=1/\c.find (ak l 1)=[]then .err 6
    else .ok ({ RD.Fr.new with window:=64*2^(ak l 0%8),size:=if 0=1 then(au ((l.drop (1-3)).take 3):Nat)else -1,summed:=decide (ak l 0/8%2=1),dict:=if 0=1 then c.find (ak l 1)else[],last:=[1,4,8] },l.drop 1)):=by
   unfold Hid RD.header
   simp only[h5,h4]
   rw[if_neg h0,if_neg (by omega)]
  have m3:(((ak l 0:Nat):Int)/8).tmod 2=((ak l 0/8%2:Nat):Int):=by rw[Int.tmod_eq_emod_of_nonneg (by omega)];omega
  have m0:((ak l 0:Nat):Int).tmod 8=((ak l 0%8:Nat):Int):=by rw[Int.tmod_eq_emod_of_nonneg (by omega)];omega
  have hW:ak l 0%8<=7:=by omega
  have hS:ak l 0/8%2<=1:=by omega
  clear h5 h4
  generalize ak l 0/8%2=SB at *
  generalize ak l 0%8=WB at *
  generalize ak l 0=H at *
  go_wp2_with fail
  refine(qO _ _ (by omega) (by omega)).mono ?_
  rintro e' w2 ⟨rfl,rfl⟩
  rw[show((WB:Nat):Int).toNat=WB by omega]
  have hp1:=CM.pow_pos WB
  have hp2:=CM.iF WB 7 hW
  obtain⟨w3,hw3⟩:∃w3,w3=(((((w1.setCell ⟨g,0,none⟩ (.int .i64 (64*2^WB))).setCell ⟨g,2,none⟩ (.bool ((SB:Int)==1))).setCell ⟨g,1,none⟩ (.int .i64 (-1))).setCell ⟨g,15,none⟩ (.slice (some ⟨w1.heap.size,0,none⟩) 3 3)).alloc (.cells #[.int .i64 1,.int .i64 4,.int .i64 8] 3)):=⟨_,rfl⟩
  have hG3:aB w3 g 122 (gG (64*2^WB) (-1) ((SB:Int)==1) [] (.slice (some ⟨w1.heap.size,0,none⟩) 3 3)):=by
   rw[hw3]
   exact((((hG1.put 0 _).put 2 _).put 1 _).put 15 _).alloc _
  have aV:bU w3 p c v (l.drop 1) fr text:=by
   rw[hw3]
   exact(((((aB.other hR1 _ _ hpg).other _ _ hpg).other _ _ hpg).other _ _ hpg)).alloc _
  have hD3:g_ w3 v c.aP:=by
   rw[hw3]
   exact((((hD1.put g 0 _ hdp.2).put g 2 _ hdp.2).put g 1 _ hdp.2).put g 15 _ hdp.2).below ((Below.refl _ _).alloc (Nat.le_refl _) _)
  have hO3:Only (fun b=>b=p\/b=g) w w3:=by
   rw[hw3]
   exact((((aF.setCell _ _ (fun _=>.inr rfl)).setCell _ _ (fun _=>.inr rfl)).setCell _ _ (fun _=>.inr rfl)).setCell _ _ (fun _=>.inr rfl)).alloc _
  have hL3:eG w3 (.slice (some ⟨w1.heap.size,0,none⟩) 3 3) [1,4,8]:=by
   rw[hw3]
   have h9:=BA ((((w1.setCell ⟨g,0,none⟩ (.int .i64 (64*2^WB))).setCell ⟨g,2,none⟩ (.bool ((SB:Int)==1))).setCell ⟨g,1,none⟩ (.int .i64 (-1))).setCell ⟨g,15,none⟩ (.slice (some ⟨w1.heap.size,0,none⟩) 3 3)) 1 4 8
   simpa using h9
  by_cases h64:64<=H
  ·rw[if_pos h64]at hh
   rw[hw3]at hG3 aV hO3
   have hG3:=aA hG3
   have aV:=aA aV
   have hO3:=aA hO3
   go_wp2_with fail
   go_ret
   exact⟨hO3.out,.inr (.inl ⟨4,_,hh.out,rfl,⟨_,_,_,_,_,hG3.out⟩,aV.out⟩)⟩
  rw[if_neg h64]at hh
  have wK:=aA hw3
  clear hw3
  go_wp2_with fail
  rw[<- wK.out]
  have q0:=hG3.cell (j:=0) rfl
  have q3:=hG3.cell (j:=3) rfl
  have r0:=aV.cell (j:=0) rfl
  have r1:=aV.cell (j:=1) rfl
  go_quiet(fail)
  by_cases hlim:c.limit<64*2^WB
  ·rw[if_pos (by simpa using hlim)]at hh
   go_wp2_with fail
   go_ret
   exact⟨hO3.drewN nq,.inr (.inl ⟨5,_,hh.out,rfl,⟨_,_,_,_,_,hG3⟩,aV⟩)⟩
  rw[if_neg (by simpa using hlim)]at hh
  have hbne:w1.heap.size≠g:=by omega
  rw[if_neg (by omega),if_neg (by omega),if_neg (by omega)]at hh
  have hfin:=aA (EK hG3 hL3 hbne hW (by omega) (by simp))
  go_wp2_with fail
  go_ret
  exact⟨hO3.drewN nq,.inr (.inr ⟨_,_,hh.out,rfl,hfin.out.below ⟨rfl,rfl,rfl,Nat.le_refl _,fun _ _=>rfl⟩,aV⟩)⟩
end Go.Proofs.YtbhemchnjpajiaaGreatDoor
