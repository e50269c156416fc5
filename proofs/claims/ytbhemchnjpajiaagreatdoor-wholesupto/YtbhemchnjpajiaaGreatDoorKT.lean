/- Several texts in one: PrTb2. -/
import Derived.Test.YtbhemchnjpajiaaGreatDoorKR
set_option linter.unusedVariables false
set_option maxRecDepth 100000
set_option maxHeartbeats 4000000
namespace Go.Proofs.YtbhemchnjpajiaaGreatDoor
open Go.RowKit Go.Proofs.Tryz RD
theorem aaP(b:UInt8)(w:World) :
  Calls prog 175 #[.int .u8 (b.toNat:Nat)] w fun e w'=>e=.returned (.int .i64 (RD.countOf b))/\w'=w:=by
 have hb:=b.toNat_lt
 unfold RD.countOf
 by_cases h:b.toNat=255
 ·rw[if_pos h]
  have h2:((b.toNat:Nat):Int)=255:=by omega
  go_enter func175,ntmps175
  go_wp2
  go_ret
  exact⟨rfl,rfl⟩
 ·rw[if_neg h]
  have h2:¬((b.toNat:Nat):Int)=255:=by omega
  go_enter func175,ntmps175
  go_wp2
  go_ret
  exact⟨rfl,rfl⟩
theorem aaQ(l:aj)(i:Nat)(hi:i<l.length)(hl:l.length<=16):(TM.dN ((l.take i).map RD.countOf) (16-i)).set i (RD.countOf (l.getD i 0))=TM.dN ((l.take (i+1)).map RD.countOf) (16-(i+1)):=by
 have e:16-i=(16-(i+1))+1:=by omega
 have hll:((l.take i).map RD.countOf).length=i:=by rw[List.length_map,List.length_take];omega
 unfold TM.dN
 rw[List.set_append_right _ _ (by omega),hll,Nat.sub_self,e,List.replicate_succ,List.set_cons_zero,List.take_succ_eq_append_getElem hi,List.map_append,List.append_assoc,List.getD_eq_getElem?_getD,List.getElem?_eq_getElem hi]
 rfl
theorem aaR(a:Nat)(ha:a<9223372036854775808):bits .and .i64 (a:Int) 15=((a%16:Nat):Int):=by
 have:=zG a 15 ha (by omega)
 rw[show(15:Nat)=2^4-1 by rfl,Nat.and_two_pow_sub_one_eq_mod]at this
 exact this
theorem IV{k:Nat}{old:RD.Tab}{s:aj}(h:s.length=0\/s.length<2+ak s 0/16\/RD.most k<1+ak s 0/16):aZ k 2 old s=none:=by
 rw[aZ,if_neg (by decide),if_neg (by decide),if_pos rfl,if_pos h]
theorem aaS{k:Nat}{old:RD.Tab}{s:aj}(h:¬(s.length=0\/s.length<2+ak s 0/16\/RD.most k<1+ak s 0/16)):aZ k 2 old s=if dI ((ak s 0%16:Nat):Int) (((s.drop 1).take (1+ak s 0/16)).map RD.countOf)then some (⟨true,ak s 0%16,table (ak s 0%16) (((s.drop 1).take (1+ak s 0/16)).map RD.countOf)⟩,2+ak s 0/16)else none:=by
 rw[aZ,if_neg (by decide),if_neg (by decide),if_pos rfl,if_neg h]
theorem aaT(x:Fx)(g o k p M n:Nat)(t:TypeId)(gs:List Value)(old:RD.Tab)(s:aj)(w:World)(hG:aB w g t gs)(hg0:gs[o]?=some (.map (some M)))(hk:k<=2)(h:bD w p s)(hV:bI x w)(hs:s.length<=1048576)(hM:bP w M n)(hn:n<1000000000)(hpb:x.base<=p)(fV:x.base<=M)(bH:g≠p) :
  Calls prog 163 #[.pointer (some ⟨g,o,none⟩),.int .i64 k,.pointer (some ⟨p,0,none⟩)] w (vY x p M n s (aZ k 2 old s) w):=by
 have hl:=aB.lt h
 have hb0:Below w.heap.size w (w.alloc (.cells #[.int .i64 0,.slice none 0 0] 133)):=(Below.refl _ w).alloc (Nat.le_refl _) _
 have hT0:=aB.new w 133 [.int .i64 0,.slice none 0 0]
 have h0:bD (w.alloc (.cells #[.int .i64 0,.slice none 0 0] 133)) p s:=aB.below h hb0 hl
 have hV0:=hV.below hb0
 have hG0:=hG.below hb0 hG.lt
 have hM0:=hM.only (aH (G:=fun _=>False) hb0) (fun e=>e) (fun _ _ _ e=>e)
 have hs0:(w.alloc (.cells #[.int .i64 0,.slice none 0 0] 133)).heap.size=w.heap.size+1:=World.size_alloc _ _
 have h8:=hV.eight
 have jP:=hV.size
 have hgl:=hG.lt
 go_enter func163,ntmps163
 go_wp2_with fail
 refine(vH x p s 1 _ h0 hV0 (by omega) (by omega)).mono ?_
 obtain⟨C,hC⟩:∃C,C=w.heap.size:=⟨_,rfl⟩
 rw[<- hC]at hT0 hs0 jP hl hgl⊢
 generalize w.alloc (.cells #[.int .i64 0,.slice none 0 0] 133)=w1 at *
 replace hC:=aA hC
 rintro e w2 (⟨h1,rfl,hb⟩|⟨h1,rfl,rfl⟩)
 ·have hT2:=hT0.below hb hT0.lt
  have c0:=hT2.cell (j:=0) rfl
  have c1:=hT2.cell (j:=1) rfl
  have fz:=hT2.free
  have bZ:=(hT2.put 0 (.int .i64 0)).put 1 (.slice none 0 0)
  have r0:=bZ.cell (j:=0) rfl
  have r1:=bZ.cell (j:=1) rfl
  have hO:Only (fun b=>b=p\/b=M) w ((w2.setCell ⟨C,0,none⟩ (.int .i64 0)).setCell ⟨C,1,none⟩ (.slice none 0 0)):=(((aH hb0).trans (aH hb)).setCell ⟨C,0,none⟩ _ (fun e=>by rw[hC.out]at e;simp at e)).setCell ⟨C,1,none⟩ _ (fun e=>by rw[hC.out]at e;simp at e)
  replace hO:=aA hO
  replace bZ:=aA bZ
  go_wp2_with fail
  refine bodyPost_ret (v:=.tuple #[.agg #[.int .i64 0,.slice none 0 0],aW x.f]) (by simp[results,results163,go_sem,r0,r1]) rfl ?_
  exact⟨hO.out,.inl ⟨IV (.inl (by omega)),rfl⟩⟩
 ·have hnum:au (s.take 1)=ak s 0:=vJ s (by omega)
  have hat:ak s 0<=255:=dQ s 0
  have aF:Only (fun b=>b=p\/b=M) w (w1.setCell ⟨p,0,none⟩ (.string (ah (s.drop 1)))):=(aH hb0).setCell ⟨p,0,none⟩ _ (fun _=>.inl rfl)
  have Ef:C≠p:=fun e=>by
   have:=hC.out
   omega
  have gW:=(Only.refl (·=p) w1).setCell ⟨p,0,none⟩ (.string (ah (s.drop 1))) (fun _=>rfl)
  have hT2:=hT0.only gW Ef
  have hG2:=hG0.only gW bH
  have hM2:=hM0.only gW (fun e=>hM0.ne h0 e) (fun b xs hb e=>hb.apart h0 (by decide) e)
  have hp2:bD (w1.setCell ⟨p,0,none⟩ (.string (ah (s.drop 1)))) p (s.drop 1):=aB.put h0 0 _
  have hV2:=hV0.only gW (fun k e=>by rw[e];exact hpb)
  rw[hnum]
  replace hnum:=aA hnum
  clear gW
  generalize w1.setCell ⟨p,0,none⟩ (.string (ah (s.drop 1)))=w2 at *
  have c0:=hT2.cell (j:=0) rfl
  have c1:=hT2.cell (j:=1) rfl
  have fz:=hT2.free
  have cF:=hV2.cF
  obtain⟨c,hc⟩:∃c,ak s 0=c:=⟨_,rfl⟩
  rw[hc]at hat⊢
  obtain⟨m,hm⟩:∃m,RD.most k=m:=⟨_,rfl⟩
  have hmb:m<=16:=by rw[<- hm];unfold RD.most;split<;>omega
  have hsy:=fun W=>PE k W hk
  rw[hm]at hsy
  replace hsy:=aA hsy
  obtain⟨N,hN⟩:∃N,N=c/16+1:=⟨_,rfl⟩
  have hNb:N<=16:=by omega
  have hNi:(c:Int)/16+1=(N:Int):=by omega
  replace hN:=aA hN
  go_wp2_with fail
  refine(hsy.out _).mono ?_
  rintro e w3 ⟨rfl,hw3⟩
  subst hw3
  by_cases hge:m<N
  ·have IL:(m:Int)<(N:Int):=by omega
   have bZ:=(hT2.put 0 (.int .i64 0)).put 1 (.slice none 0 0)
   have r0:=bZ.cell (j:=0) rfl
   have r1:=bZ.cell (j:=1) rfl
   have hO:Only (fun b=>b=p\/b=M) w ((w3.setCell ⟨C,0,none⟩ (.int .i64 0)).setCell ⟨C,1,none⟩ (.slice none 0 0)):=(aF.setCell ⟨C,0,none⟩ _ (fun e=>by rw[hC.out]at e;simp at e)).setCell ⟨C,1,none⟩ _ (fun e=>by rw[hC.out]at e;simp at e)
   have PG:¬C=6:=by omega
   replace hO:=aA hO
   replace bZ:=aA bZ
   go_wp2_with fail
   go_region_with(fail)
   all_goals go_wp2_with fail
   all_goals
    refine bodyPost_ret (v:=.tuple #[.agg #[.int .i64 0,.slice none 0 0],aW x.f]) (by simp[results,results163,go_sem,r0,r1]) rfl ?_
    exact⟨hO.out.drew,.inl ⟨IV (.inr (.inr (by rw[hc,hm];have:=hN.out;omega))),rfl⟩⟩
  ·have IL:¬(m:Int)<(N:Int):=by omega
   have hbt:=aA (xu x p (s.drop 1) N w3 hp2 hV2 (by rw[List.length_drop];omega) (by omega))
   go_wp2_with fail
   refine hbt.out.mono ?_
   rintro e w4 (⟨h4,rfl,hb4⟩|⟨h4,rfl,rfl⟩)
   ·have gV:=hT2.below hb4 hT2.lt
    have d0:=gV.cell (j:=0) rfl
    have d1:=gV.cell (j:=1) rfl
    have Pz:=gV.free
    have kW:=(gV.put 0 (.int .i64 0)).put 1 (.slice none 0 0)
    have r0:=kW.cell (j:=0) rfl
    have r1:=kW.cell (j:=1) rfl
    have hO:Only (fun b=>b=p\/b=M) w ((w4.setCell ⟨C,0,none⟩ (.int .i64 0)).setCell ⟨C,1,none⟩ (.slice none 0 0)):=((aF.trans (aH hb4)).setCell ⟨C,0,none⟩ _ (fun e=>by rw[hC.out]at e;simp at e)).setCell ⟨C,1,none⟩ _ (fun e=>by rw[hC.out]at e;simp at e)
    replace hO:=aA hO
    replace kW:=aA kW
    go_wp2_with fail
    refine bodyPost_ret (v:=.tuple #[.agg #[.int .i64 0,.slice none 0 0],aW x.f]) (by simp[results,results163,go_sem,r0,r1]) rfl ?_
    exact⟨hO.out,.inl ⟨IV (.inr (.inl (by rw[hc];have:=hN.out;rw[List.length_drop]at h4;omega))),rfl⟩⟩
   ·have gW:=(Only.refl (·=p) w3).setCell ⟨p,0,none⟩ (.string (ah ((s.drop 1).drop N))) (fun _=>rfl)
    have gV:=hT2.only gW Ef
    have hG4:=hG2.only gW bH
    have kZ:=hM2.only gW (fun e=>hM2.ne hp2 e) (fun b xs hb e=>hb.apart hp2 (by decide) e)
    have xZ:bD (w3.setCell ⟨p,0,none⟩ (.string (ah ((s.drop 1).drop N)))) p ((s.drop 1).drop N):=aB.put hp2 0 _
    have x9:=hV2.only gW (fun k e=>by rw[e];exact hpb)
    have hO4:Only (fun b=>b=p\/b=M) w (w3.setCell ⟨p,0,none⟩ (.string (ah ((s.drop 1).drop N)))):=aF.setCell ⟨p,0,none⟩ _ (fun _=>.inl rfl)
    clear gW
    generalize w3.setCell ⟨p,0,none⟩ (.string (ah ((s.drop 1).drop N)))=w4 at *
    have had:=aaR c (by omega)
    obtain⟨lg,iw⟩:∃lg,c%16=lg:=⟨_,rfl⟩
    have aaU:lg<=15:=by omega
    rw[iw]at had
    obtain⟨L,hL⟩:∃L,(s.drop 1).take N=L:=⟨_,rfl⟩
    have iU:L.length=N:=by rw[<- hL,List.length_take];omega
    have hLz:=aQ L
    rw[iU]at hLz
    rw[hL]
    replace hL:=aA hL
    replace iU:=aA iU
    replace iw:=aA iw
    go_wp2_with fail
    have IW:aB (w4.alloc (.cells #[.int .i64 (lg:Int),.int .i64 0,.int .i64 0,.int .i64 0,.int .i64 0,.int .i64 0,.int .i64 0,.int .i64 0,.int .i64 0,.int .i64 0,.int .i64 0,.int .i64 0,.int .i64 0,.int .i64 0,.int .i64 0,.int .i64 0,.int .i64 0] 294)) w4.heap.size 294 (.int .i64 (lg:Int)::intCells (TM.dN ((L.take 0).map RD.countOf) (16-0))):=aB.new w4 294 _
    have hb5:Below w4.heap.size w4 (w4.alloc (.cells #[.int .i64 (lg:Int),.int .i64 0,.int .i64 0,.int .i64 0,.int .i64 0,.int .i64 0,.int .i64 0,.int .i64 0,.int .i64 0,.int .i64 0,.int .i64 0,.int .i64 0,.int .i64 0,.int .i64 0,.int .i64 0,.int .i64 0,.int .i64 0] 294)):=(Below.refl _ w4).alloc (Nat.le_refl _) _
    obtain⟨Q,hQ⟩:∃Q,w4.heap.size=Q:=⟨_,rfl⟩
    rw[hQ]at IW⊢
    generalize w4.alloc (.cells #[.int .i64 (lg:Int),.int .i64 0,.int .i64 0,.int .i64 0,.int .i64 0,.int .i64 0,.int .i64 0,.int .i64 0,.int .i64 0,.int .i64 0,.int .i64 0,.int .i64 0,.int .i64 0,.int .i64 0,.int .i64 0,.int .i64 0,.int .i64 0] 294)=w5 at *
    replace hQ:=aA hQ
    replace hb5:=aA hb5
    go_loopg[46] (N+1) (fun gh iv wj=>∃i:Nat,gh=N+1-i/\i<=N/\iv=.int .i64 (i:Int)/\aB wj Q 294 (.int .i64 (lg:Int)::intCells (TM.dN ((L.take i).map RD.countOf) (16-i)))/\Only (·=Q) w5 wj)
    case atStart=>exact⟨0,by omega,by omega,rfl,IW,Only.refl _ _⟩
    case round =>
     obtain⟨i,rfl,hi,rfl,hB,jD⟩:=hrel
     by_cases hil:i<N
     ·have IX:(i:Int)<(N:Int):=by omega
      have hiL:i<L.length:=by rw[iU.out];exact hil
      have hz9:i<(ah L).size:=by rw[hLz];exact hil
      have hby:Hid ((ah L)[i]=L.getD i 0):=Lr L i hz9
      have hct:=aA (fun W=>aaP (L.getD i 0) W)
      have IY:=hB.free
      have hps:=aaQ L i hiL (by rw[iU.out];exact hNb)
      have hBn:=hB.put (1+i) (.int .i64 (RD.countOf (L.getD i 0)))
      have rH:Only (·=Q) w5 (wr.setCell ⟨Q,1+i,none⟩ (.int .i64 (RD.countOf (L.getD i 0)))):=jD.setCell ⟨Q,1+i,none⟩ _ (fun _=>rfl)
      replace hBn:=aA hBn
      replace rH:=aA rH
      replace hps:=aA hps
      have hcell:=hB.cell (j:=1+i) (by rw[Nat.add_comm,List.getElem?_cons_succ];exact zx _ i (by rw[TM.Aw,List.length_map,List.length_take];omega))
      go_wp2_with fail
      rw[hby.out]
      refine(hct.out _).mono ?_
      rintro e w6 ⟨rfl,hw6⟩
      subst hw6
      obtain⟨V,oG⟩:∃V,RD.countOf (L.getD i 0)=V:=⟨_,rfl⟩
      rw[oG]at hBn rH hps⊢
      replace oG:=aA oG
      have aiK:i<16:=by omega
      have aiL:(i:Int)<16:=by omega
      go_wp2_with fail
      go_roundg(N+1-(i+1))
      case rel =>
       refine⟨i+1,rfl,by omega,by go_num,?_,?_⟩
       ·have:=hBn.out
        rw[Nat.add_comm 1 i,List.set_cons_succ]at this
        have e:(intCells (TM.dN ((L.take i).map RD.countOf) (16-i))).set i (.int .i64 V)=intCells (TM.dN ((L.take (i+1)).map RD.countOf) (16-(i+1))):=by
         rw[<- hps.out]
         unfold intCells
         rw[List.map_set]
        rw[e]at this
        first|exact this|(rw[Nat.add_comm 1 i];exact this)|(rw[Nat.add_comm i 1]at this;exact this)
       ·first|exact rH.out|(rw[Nat.add_comm 1 i];exact rH.out)
      case measure=>omega
     ·obtain rfl:i=N:=by omega
      have IX:¬(i:Int)<(i:Int):=by omega
      have aaW:(TM.dN ((L.take i).map RD.countOf) (16-i)).length=16:=by rw[TM.Aw,List.length_map,List.length_take,iU.out];omega
      have hzb:∀y∈TM.dN ((L.take i).map RD.countOf) (16-i),-1<=y/\y<=255:=by
       intro y hy
       unfold TM.dN at hy
       rcases List.mem_append.1 hy with hy|hy
       ·obtain⟨b,-,rfl⟩:=List.mem_map.1 hy
        have:=b.toNat_lt
        unfold RD.countOf
        split<;>omega
       ·rw[(List.mem_replicate.1 hy).2];omega
      obtain⟨z0,z1,z2,z3,z4,z5,z6,z7,z8,z9,z10,z11,z12,z13,bf,bC,hze⟩:∃z0 z1 z2 z3 z4 z5 z6 z7 z8 z9 z10 z11 z12 z13 bf bC,TM.dN ((L.take i).map RD.countOf) (16-i)=[z0,z1,z2,z3,z4,z5,z6,z7,z8,z9,z10,z11,z12,z13,bf,bC]:=by
       match TM.dN ((L.take i).map RD.countOf) (16-i),aaW with
       | [z0,z1,z2,z3,z4,z5,z6,z7,z8,z9,z10,z11,z12,z13,bf,bC],_=>exact⟨_,_,_,_,_,_,_,_,_,_,_,_,_,_,_,_,rfl⟩
      rw[hze]at hB hzb
      have PI:=hQ.out
      have oQ:Only (fun b=>b=p\/b=M) w w5:=hO4.trans (aH hb5.out)
      have hws:w.heap.size<=w4.heap.size:=hO4.size
      have dB:Only (fun b=>b=p\/b=M) w wr:=⟨jD.os.trans oQ.os,jD.tape.trans oQ.tape,jD.output.trans oQ.output,Nat.le_trans oQ.size jD.size,fun k hk hn=>(jD.block k (Nat.lt_of_lt_of_le hk oQ.size) (by omega)).trans (oQ.block k hk hn)⟩
      have Eh:=(hG4.below hb5.out hG4.lt).only jD (fun e=>by have:=hG4.lt;omega)
      have hTr:=(gV.below hb5.out gV.lt).only jD (fun e=>by have:=gV.lt;omega)
      have hpr:bD wr p ((s.drop 1).drop i):=aB.only (aB.below xZ hb5.out (aB.lt xZ)) jD (fun e=>by have:=aB.lt xZ;omega)
      have IZ:=kZ.only (aH (G:=fun _=>False) hb5.out) (fun e=>e) (fun _ _ _ e=>e)
      have hMr:=IZ.only jD (fun e=>by have:=kZ.lt;omega) (fun b xs hb e=>hb.apart IW (by decide) e)
      have H6:=(x9.below hb5.out).only jD (fun k e=>by have:=x9.size;omega)
      have hof:∀W:World,Only (fun _=>False) wr W->Calls prog 160 #[.map (some M),.agg #[.int .i64 (lg:Int),.int .i64 z0,.int .i64 z1,.int .i64 z2,.int .i64 z3,.int .i64 z4,.int .i64 z5,.int .i64 z6,.int .i64 z7,.int .i64 z8,.int .i64 z9,.int .i64 z10,.int .i64 z11,.int .i64 z12,.int .i64 z13,.int .i64 bf,.int .i64 bC]] W (IK x M n lg [z0,z1,z2,z3,z4,z5,z6,z7,z8,z9,z10,z11,z12,z13,bf,bC] W):=fun W hW =>
       PD x M n lg [z0,z1,z2,z3,z4,z5,z6,z7,z8,z9,z10,z11,z12,z13,bf,bC] W rfl (hMr.only hW (fun e=>e) (fun _ _ _ e=>e)) (H6.only hW (fun _ e=>e.elim)) aaU hzb hn fV
      have hR0:¬(s.length=0\/s.length<2+ak s 0/16\/RD.most k<1+ak s 0/16):=by
       rw[hc,hm]
       have:=hN.out
       rw[List.length_drop]at h4
       omega
      have AB:=aaS (k:=k) (old:=old) hR0
      have hz1:((s.drop 1).take (1+ak s 0/16)).map RD.countOf=(L.take i).map RD.countOf:=by
       rw[hc,show 1+c/16=i by have:=hN.out;omega,hL.out,List.take_of_length_le (by rw[iU.out];exact Nat.le_refl _)]
      rw[hz1,hc,iw.out]at AB
      have hl1:((L.take i).map RD.countOf).length=i:=by rw[List.length_map,List.length_take,iU.out];omega
      have hi1:1<=i:=by have:=hN.out;omega
      have yc:=OV (lg:Int) ((L.take i).map RD.countOf) (16-i) (by omega) (by omega)
      rw[hze]at yc
      have hdr:(s.drop 1).drop i=s.drop (2+c/16):=by rw[List.drop_drop];congr 1;have:=hN.out;omega
      have hcm:C≠M:=fun e=>hMr.ne hTr e.symm
      replace PI:=aA PI
      replace AB:=aA AB
      replace yc:=aA yc
      replace hdr:=aA hdr
      replace hz1:=aA hz1
      have y0:=hB.cell (j:=0) rfl
      have y1:=hB.cell (j:=1) rfl
      have y2:=hB.cell (j:=2) rfl
      have y3:=hB.cell (j:=3) rfl
      have y4:=hB.cell (j:=4) rfl
      have y5:=hB.cell (j:=5) rfl
      have y6:=hB.cell (j:=6) rfl
      have y7:=hB.cell (j:=7) rfl
      have y8:=hB.cell (j:=8) rfl
      have y9:=hB.cell (j:=9) rfl
      have y10:=hB.cell (j:=10) rfl
      have y11:=hB.cell (j:=11) rfl
      have y12:=hB.cell (j:=12) rfl
      have y13:=hB.cell (j:=13) rfl
      have y14:=hB.cell (j:=14) rfl
      have y15:=hB.cell (j:=15) rfl
      have y16:=hB.cell (j:=16) rfl
      have g0:=Eh.cell hg0
      replace hof:=aA hof
      cases hgd:dI (lg:Int) [z0,z1,z2,z3,z4,z5,z6,z7,z8,z9,z10,z11,z12,z13,bf,bC]with
      | false =>
       have rQ:Hid (∀W:World,Only (fun _=>False) wr W->Calls prog 160 #[.map (some M),.agg #[.int .i64 (lg:Int),.int .i64 z0,.int .i64 z1,.int .i64 z2,.int .i64 z3,.int .i64 z4,.int .i64 z5,.int .i64 z6,.int .i64 z7,.int .i64 z8,.int .i64 z9,.int .i64 z10,.int .i64 z11,.int .i64 z12,.int .i64 z13,.int .i64 bf,.int .i64 bC]] W fun e w'=>e=.returned (.tuple #[.agg #[.int .i64 0,.slice none 0 0],aW x.f])/\Only (·=M) W w'):=fun W hW=>(hof.out W hW).mono fun e w' h=>by
        obtain⟨h1,h2|⟨v,h2,-⟩⟩:=h
        ·exact⟨h2.2,h1⟩
        ·rw[hgd]at h2;cases h2
       go_wp2_with fail
       go_region_with(go_at_call 160;refine(rQ.out _ (by first|exact Only.refl _ _|exact(Only.refl _ _).drew)).mono ?_;rintro e w7 ⟨rfl,dU⟩;have iW:=hTr.only (dM dU) hcm;have d0:=iW.cell (j:=0) rfl;have d1:=iW.cell (j:=1) rfl;have uo:=iW.free)
       all_goals go_wp2_with fail
       all_goals
        have AL:Only (fun b=>b=p\/b=M) w w7:=dB.trans ((dM dU).weaken (fun _ _ e=>.inr e))
        have uq:=(iW.put 0 (.int .i64 0)).put 1 (.slice none 0 0)
        have r0:=uq.cell (j:=0) rfl
        have r1:=uq.cell (j:=1) rfl
        have AO:Only (fun b=>b=p\/b=M) w ((w7.setCell ⟨C,0,none⟩ (.int .i64 0)).setCell ⟨C,1,none⟩ (.slice none 0 0)):=(AL.setCell ⟨C,0,none⟩ _ (fun e=>by rw[hC.out]at e;simp at e)).setCell ⟨C,1,none⟩ _ (fun e=>by rw[hC.out]at e;simp at e)
        refine bodyPost_ret (v:=.tuple #[.agg #[.int .i64 0,.slice none 0 0],aW x.f]) (by simp[results,results163,go_sem,r0,r1]) rfl ?_
        refine⟨AO,.inl ⟨?_,rfl⟩⟩
        rw[AB.out,<- yc.out,hgd]
        rfl
      | true =>
       have rU:Hid (∀W:World,Only (fun _=>False) wr W->Calls prog 160 #[.map (some M),.agg #[.int .i64 (lg:Int),.int .i64 z0,.int .i64 z1,.int .i64 z2,.int .i64 z3,.int .i64 z4,.int .i64 z5,.int .i64 z6,.int .i64 z7,.int .i64 z8,.int .i64 z9,.int .i64 z10,.int .i64 z11,.int .i64 z12,.int .i64 z13,.int .i64 bf,.int .i64 bC]] W fun e w'=>∃b7 jc,e=.returned (.tuple #[.agg #[.int .i64 (lg:Int),.slice (some ⟨b7,0,none⟩) (table lg [z0,z1,z2,z3,z4,z5,z6,z7,z8,z9,z10,z11,z12,z13,bf,bC]).length jc],.nilIface])/\aB w' b7 226 (CM.cellsOf (table lg [z0,z1,z2,z3,z4,z5,z6,z7,z8,z9,z10,z11,z12,z13,bf,bC]))/\bP w' M (n+1)/\Only (·=M) W w'):=fun W hW=>(hof.out W hW).mono fun e w' h=>by
        obtain⟨h1,h2|⟨v,h2,rfl,⟨b7,jc,rfl,hb7⟩,iy⟩⟩:=h
        ·rw[hgd]at h2;cases h2.1
        ·exact⟨b7,jc,rfl,hb7,iy,h1⟩
       go_wp2_with fail
       go_region_with(go_at_call 160;refine(rU.out _ (by first|exact Only.refl _ _|exact(Only.refl _ _).drew)).mono ?_;rintro e w7 ⟨b7,jc,rfl,hb7,iy,dU⟩;have iW:=hTr.only (dM dU) hcm;have d0:=iW.cell (j:=0) rfl;have d1:=iW.cell (j:=1) rfl;have uo:=iW.free)
       all_goals go_wp2_with fail
       all_goals
        obtain⟨aiS,aiT⟩:∃q,(table lg [z0,z1,z2,z3,z4,z5,z6,z7,z8,z9,z10,z11,z12,z13,bf,bC]).length=q:=⟨_,rfl⟩
        have AL:Only (fun b=>b=p\/b=M) w w7:=dB.trans ((dM dU).weaken (fun _ _ e=>.inr e))
        have uq:=(iW.put 0 (.int .i64 (lg:Int))).put 1 (.slice (some ⟨b7,0,none⟩) (table lg [z0,z1,z2,z3,z4,z5,z6,z7,z8,z9,z10,z11,z12,z13,bf,bC]).length jc)
        have r0:=uq.cell (j:=0) rfl
        have r1:=uq.cell (j:=1) rfl
        have AO:Only (fun b=>b=p\/b=M) w ((w7.setCell ⟨C,0,none⟩ (.int .i64 (lg:Int))).setCell ⟨C,1,none⟩ (.slice (some ⟨b7,0,none⟩) (table lg [z0,z1,z2,z3,z4,z5,z6,z7,z8,z9,z10,z11,z12,z13,bf,bC]).length jc)):=(AL.setCell ⟨C,0,none⟩ _ (fun e=>by rw[hC.out]at e;simp at e)).setCell ⟨C,1,none⟩ _ (fun e=>by rw[hC.out]at e;simp at e)
        have jd:Only (·=C) w7 ((w7.setCell ⟨C,0,none⟩ (.int .i64 (lg:Int))).setCell ⟨C,1,none⟩ (.slice (some ⟨b7,0,none⟩) (table lg [z0,z1,z2,z3,z4,z5,z6,z7,z8,z9,z10,z11,z12,z13,bf,bC]).length jc)):=((Only.refl (·=C) w7).setCell ⟨C,0,none⟩ _ (fun _=>rfl)).setCell ⟨C,1,none⟩ _ (fun _=>rfl)
        have kE:=hb7.only jd (fun e=>hb7.apart iW (by decide) e)
        have oU:=iy.only jd (fun e=>iy.ne iW e) (fun b xs hb e=>hb.apart iW (by decide) e)
        have jQ:bD w7 p ((s.drop 1).drop i):=aB.only hpr (dM dU) (fun e=>hMr.ne hpr e.symm)
        have oV:bD _ p ((s.drop 1).drop i):=aB.only jQ jd (fun e=>aB.apart jQ iW (by decide) e)
        refine bodyPost_ret (v:=.tuple #[.agg #[.int .i64 (lg:Int),.slice (some ⟨b7,0,none⟩) (table lg [z0,z1,z2,z3,z4,z5,z6,z7,z8,z9,z10,z11,z12,z13,bf,bC]).length jc],.nilIface]) (by simp[results,results163,go_sem,r0,r1]) rfl ?_
        obtain⟨n5,e5,vZ,hfb⟩:=Eb (yc.out.symm.trans hgd)
        obtain rfl:n5=lg:=by omega
        have htp:=OW (16-i) vZ hfb
        rw[hze]at htp
        refine⟨AO,.inr ⟨⟨true,n5,table n5 ((L.take i).map RD.countOf)⟩,2+c/16,.slice (some ⟨b7,0,none⟩) (table n5 [z0,z1,z2,z3,z4,z5,z6,z7,z8,z9,z10,z11,z12,z13,bf,bC]).length jc,?_,rfl,⟨b7,jc,by rw[htp],by rw[<- htp];exact kE⟩,by rw[<- hdr.out];exact oV,oU⟩⟩
        rw[AB.out,<- yc.out,hgd]
        rfl
end Go.Proofs.YtbhemchnjpajiaaGreatDoor
