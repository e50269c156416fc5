/- Several texts in one: QRd7. -/
import Derived.Test.YtbhemchnjpajiaaGreatDoorLB
set_option linter.unusedVariables false
set_option maxRecDepth 100000
set_option maxHeartbeats 4000000
namespace Go.Proofs.YtbhemchnjpajiaaGreatDoor
open Go.RowKit Go.Proofs.Tryz RD
section
attribute [local irreducible] dw
theorem ab6(x:Fx)(G:Nat->Prop)(c:aC)(m:MS)(b:aj)(S:Nat)(ss:List Value)(v6:Value)(w:World)(h:bF x G c m S ss v6 w)(h0:m.nx=5)(hkd:m.kd<=2)(hb:b.length=bQ 5 b m.kd m.nm)(hcn:gX w S<900000000)(hf:m.fr<=1099511627776)(hbk:m.f.blocks<=1099511627776)(ht:m.f.text.length<=1099511627776) :
  Calls prog 83 #[.pointer (some ⟨S,0,none⟩),.string (ah b)] w (eY x G c m b S v6 w):=by
 obtain⟨v,W8,g1,g2,-⟩:=h.frame (by omega)
 obtain⟨M,hM,hM1,hM2,gK⟩:=h.tabs
 rw[wC h.blk hM]at hcn
 have hu:m.unit c b=match RD.inner m.f m.kd m.nm b with
   | none=>.err 4
   | some r=>if Over m.f m.lk r.1.length then .err 4 else .ok (m.behind (MS.grown m.f r.2 r.1)) r.1:=by
  unfold MS.unit
  rw[if_neg (by omega),if_neg (by omega),if_neg (by omega),if_neg (by omega),if_neg (by omega),if_pos h0]
  cases RD.inner m.f m.kd m.nm b<;>rfl
 have c31:=h.blk.cell h.lk
 have c32:=h.blk.cell h.kd
 have N8:=h.blk.cell h.nm
 have hct:∀W:World,jK W w->Calls prog 97 #[.pointer (some ⟨S,8,none⟩),.agg #[.bool m.lk,.int .i64 (m.kd:Nat),.int .i64 (m.nm:Nat)],.string (ah b)] W (yh x S M ss m v W8 b w):=fun W hW=>by
  have sF:Below w.heap.size w W:=⟨hW.2.1,hW.2.2.1,hW.2.2.2,by rw[hW.1];exact Nat.le_refl _,fun k hk=>by rw[hW.1]⟩
  have hNW:bK W M=bK w M:=by unfold bK;rw[hW.1]
  refine(ab4 x G c m b S M ss v6 v W8 W (h.below sF) h0 hkd hM (g1.turn (fun _ _ _=>rfl) (aH (G:=fun _=>False) sF) (fun _ _ e=>e)) (fun k hk=>(g2 k hk).1) hb (by omega)).mono ?_
  exact fun e w' q=>q.same hW
 have uz:¬M=S:=fun e=>hM2.ne h.blk e
 have Qp:∀k,v.ownBlock=some k->k≠M:=fun k hk e=>(g1.row.blk hk).2.o_ (e▸hM2)
 have hSv:∀k,v.ownBlock=some k->k≠S:=fun k hk=>g1.ne h.blk hk
 obtain⟨LK,sG⟩:∃LK,LK=m.lk:=⟨_,rfl⟩
 obtain⟨KD,Ew⟩:∃KD,KD=m.kd:=⟨_,rfl⟩
 obtain⟨NM,hNM⟩:∃NM,NM=m.nm:=⟨_,rfl⟩
 rw[<- sG]at c31
 rw[<- Ew]at c32
 rw[<- hNM]at N8
 rw[<- sG,<- Ew,<- hNM]at hct
 replace sG:=aA sG
 replace Ew:=aA Ew
 replace hNM:=aA hNM
 replace hu:=aA hu
 replace h0:=aA h0
 replace hkd:=aA hkd
 replace g1:=aA g1
 replace g2:=aA g2
 replace hM:=aA hM
 replace gK:=aA gK
 replace hb:=aA hb
 have Ey:∀k,(k=M\/k=S\/v.ownBlock=some k)->G k:=fun k e=>by
  rcases e with rfl|rfl|e
  ·exact hM1
  ·exact h.bW.1
  ·exact(g2.out k e).1
 by_cases hbad:∀q,RD.inner m.f m.kd m.nm b=some q->1024<q.1.length
 ·have hcb:∀W:World,jK W w->Calls prog 97 #[.pointer (some ⟨S,8,none⟩),.agg #[.bool LK,.int .i64 (KD:Nat),.int .i64 (NM:Nat)],.string (ah b)] W fun e w'=>e=.returned (.tuple #[.string (ah []),aW x.f])/\Only (fun k=>k=M\/k=S\/v.ownBlock=some k) w w'/\∃ss',aB w' S 146 ss'/\(∀j,j<18\/29<=j->ss'[j]?=ss[j]?):=fun W hW=>by
   refine(hct W hW).mono ?_
   rintro e w' ⟨q1,q2,ss',q3,q4,q5,(⟨q6,q7⟩|⟨t,f',q6,q7,q8⟩)⟩
   ·exact⟨q7,q1,ss',q3,q5⟩
   ·have:=hbad _ q6
    simp only[]at this
    omega
  clear hct
  have hub:Hid (m.unit c b=.err 4):=by
   rw[Hid,hu.out]
   cases hi:RD.inner m.f m.kd m.nm b with
   | none=>rfl
   | some r=>exact if_pos (.inl (hbad r hi))
  clear hbad
  go_enter func83,ntmps83
  go_wp2_with fail
  go_region_with(go_at_call 97;refine(hcb _ (by exact⟨rfl,rfl,rfl,rfl⟩)).mono ?_;rintro e w2 ⟨rfl,hO2,ss2,hB2,hs2⟩)
  go_wp2_with fail
  go_ret2
  exact eY.worse (n:=4) h hub.out (hO2.weaken (fun k _ e=>Ey k e)) hB2 (hs2 3 (by omega)) (hs2 4 (by omega))
 ·obtain⟨t,f',hin,htl⟩:∃t f',RD.inner m.f m.kd m.nm b=some (t,f')/\t.length<=1024:=by
   by_cases e:∃t f',RD.inner m.f m.kd m.nm b=some (t,f')/\t.length<=1024
   ·exact e
   ·exact absurd (fun q hq=>Nat.lt_of_not_le fun hl=>e ⟨q.1,q.2,hq,hl⟩) hbad
  clear hbad
  have hcg:∀W:World,jK W w->Calls prog 97 #[.pointer (some ⟨S,8,none⟩),.agg #[.bool LK,.int .i64 (KD:Nat),.int .i64 (NM:Nat)],.string (ah b)] W fun e w'=>e=.returned (.tuple #[.string (ah t),.nilIface])/\Only (fun k=>k=M\/k=S\/v.ownBlock=some k) w w'/\aT 0 w' v W8/\∃ss',aB w' S 146 ss'/\ss'.length=34/\(∀j,j<18\/29<=j->ss'[j]?=ss[j]?)/\Alike f' m.f/\gY w' ss' 8 M (bK w' M) f'/\bK w' M<=bK w M+3:=fun W hW=>by
   refine(hct W hW).mono ?_
   rintro e w' ⟨q1,q2,ss',q3,q4,q5,(⟨q6,q7⟩|⟨t',f'',q6,q7,q8,q9,q10,q11⟩)⟩
   ·have:=q6 _ hin
    simp only[]at this
    omega
   ·rw[hin]at q6
    injection q6 with q6
    injection q6 with e1 e2
    subst e1 e2
    exact⟨q9,q1,q2,ss',q3,q4,q5,q8,q10,q11⟩
  clear hct
  rw[hin]at hu
  replace hin:=aA hin
  go_enter func83,ntmps83
  go_wp2_with fail
  go_region_with(go_at_call 97;refine(hcg _ (by exact⟨rfl,rfl,rfl,rfl⟩)).mono ?_;rintro e w2 ⟨rfl,hO2,hR2,ss2,hB2,hl2,hs2,hal,hP2,hT2⟩)
  have hF2:jG f' ss2 v W8 w2:=g1.out.alike hal hR2 hs2
  have hV2:bI x w2:=h.vars.only hO2 (fun k e=>h.base k (Ey k e))
  have e31:w2.cell? ⟨S,31,none⟩=some (.bool LK):=hB2.cell (by rw[hs2 31 (by omega),sG.out];exact h.lk)
  have Ez:∀W:World,jK W w2->Calls prog 98 #[.pointer (some ⟨S,8,none⟩),.string (ah t),.bool LK] W (Et x S ss2 f' v t LK w2):=fun W hW=>by
   have sF:Below w2.heap.size w2 W:=⟨hW.2.1,hW.2.2.1,hW.2.2.2,by rw[hW.1];exact Nat.le_refl _,fun k hk=>by rw[hW.1]⟩
   refine(abV x S ss2 f' v W8 t LK W (hB2.below sF hB2.lt) hl2 (hF2.turn (fun _ _ _=>rfl) (aH (G:=fun _=>False) sF) (fun _ _ e=>e)) htl (by rw[hal.2.2.1];exact ht) (hV2.below sF)).mono ?_
   rintro e w' (⟨h1,h2,h3⟩|⟨h1,h2,ss',v',Bc,h3,h4,h5,h6,h7,h8⟩)
   ·exact .inl ⟨h1,h2,hW.below h3⟩
   ·refine .inr ⟨h1,h2,ss',v',Bc,h3,h4,h5,h6,hW.only h7,?_⟩
    rw[hW.1]at h8
    exact h8
  have hoi:Over m.f m.lk t.length↔qy f' LK t.length:=by rw[sG.out,ab2 hal];exact ab3 htl
  replace hoi:=aA hoi
  replace hF2:=aA hF2
  clear hcg
  by_cases hov:qy f' LK t.length
  ·have hbad:∀W:World,jK W w2->Calls prog 98 #[.pointer (some ⟨S,8,none⟩),.string (ah t),.bool LK] W fun e w'=>e=.returned (aW x.f)/\Below w2.heap.size w2 w':=fun W hW=>by
    refine(Ez W hW).mono ?_
    rintro e w' (⟨h1,h2,h3⟩|⟨h1,h2⟩)
    ·exact⟨h2,h3⟩
    ·exact absurd hov h1
   clear Ez
   have hub:Hid (m.unit c b=.err 4):=hu.out.trans (if_pos (hoi.out.2 hov))
   replace hov:=aA hov
   replace hP2:=aA hP2
   go_wp2_with fail
   go_region_with(go_at_call 98;refine(hbad _ (by exact⟨rfl,rfl,rfl,rfl⟩)).mono ?_;rintro e w3 ⟨rfl,hb3⟩)
   go_wp2_with fail
   go_ret2
   exact eY.worse (n:=4) h hub.out ((hO2.weaken (fun k _ e=>Ey k e)).trans (aH hb3)) (hB2.below hb3 hB2.lt) (hs2 3 (by omega)) (hs2 4 (by omega))
  ·have hgood:∀W:World,jK W w2->Calls prog 98 #[.pointer (some ⟨S,8,none⟩),.string (ah t),.bool LK] W fun e w'=>e=.returned .nilIface/\∃ss' v' Bc,aB w' S 146 ss'/\ss'.length=34/\(∀j,j<8\/30<j\/(18<=j/\j<29)->ss'[j]?=ss2[j]?)/\jG (MS.grown f' f' t) ss' v' Bc w' /\
     Only (fun k=>k=S\/v.ownBlock=some k) w2 w'/\(v'.ownBlock=v.ownBlock\/∃k,v'.ownBlock=some k/\w2.heap.size<=k):=fun W hW=>by
    refine(Ez W hW).mono ?_
    rintro e w' (⟨h1,h2,h3⟩|⟨h1,h2,h3⟩)
    ·exact absurd h1 hov
    ·exact⟨h2,h3⟩
   clear Ez
   have hub:Hid (m.unit c b=.ok (m.behind (MS.grown m.f f' t)) t):=hu.out.trans (if_neg (fun e=>hov (hoi.out.1 e)))
   replace hov:=aA hov
   replace hP2:=aA hP2
   go_wp2_with fail
   go_region_with(go_at_call 98;refine(hgood _ (by exact⟨rfl,rfl,rfl,rfl⟩)).mono ?_;rintro e w3 ⟨rfl,iP,v2,W82,hB3,hl3,hs3,hF3,hO3,oC⟩)
   clear hgood
   have hgr:MS.grown f' f' t=MS.grown m.f f' t:=by unfold MS.grown;rw[hal.2.2.1,hal.2.2.2.2.2]
   rw[hgr]at hF3
   have hsum:(MS.grown m.f f' t).summed=m.f.summed:=hal.1
   have sH:Only (fun k=>k=M\/k=S\/v.ownBlock=some k) w w3:=hO2.trans (hO3.weaken (fun _ _ e=>.inr e))
   have hkp:∀j,j<8\/30<j->iP[j]?=ss[j]?:=fun j hj=>by rw[hs3 j (by omega),hs2 j (by omega)]
   have hM':∀k,ss[2]?=some (.map (some k))->k=M:=fun k hk=>by
    have e:=hM.out
    rw[hk]at e
    injection e with e
    injection e with e
    injection e with e
   have EC:∀k,G k->k=S\/ss[2]?=some (.map (some k))->((G k/\v.ownBlock≠some k)\/v2.ownBlock=some k):=fun k hk e=>.inl ⟨hk,fun ev=>by
    rcases e with e|e
    ·exact hSv k ev e
    ·exact Qp k ev (hM' k e)⟩
   have hv2:∀k,v2.ownBlock=some k->((G k/\v.ownBlock≠some k)\/v2.ownBlock=some k)/\v6.ownBlock≠some k:=fun k hk=>by
    refine⟨.inr hk,fun e=>?_⟩
    rcases oC with h1|⟨k',h1,h2⟩
    ·exact(g2.out k (h1.symm.trans hk)).2 e
    ·rw[h1]at hk
     injection hk with hk
     have h3:=(h.row.blk e).2.lt
     have h4:=hO2.size
     omega
   have hG2:∀k,((G k/\v.ownBlock≠some k)\/v2.ownBlock=some k)->G k\/w.heap.size<=k:=fun k hk=>by
    rcases hk with hk|hk
    ·exact .inl hk.1
    ·rcases oC with h1|⟨k',h1,h2⟩
     ·exact .inl (g2.out k (h1.symm.trans hk)).1
     ·rw[h1]at hk
      injection hk with hk
      have h4:=hO2.size
      exact .inr (by omega)
   have ED:∀k,v6.ownBlock=some k->((G k/\v.ownBlock≠some k)\/v2.ownBlock=some k):=fun k hk=>.inl ⟨h.bW.2 k hk,fun e=>(g2.out k e).2 hk⟩
   have hv6:∀W,Only (fun k=>k=M\/k=S\/v.ownBlock=some k) w W->aT 0 W v6 m.bg:=fun W hW=>h.row.only hW (fun k hk e=>by
    rcases e with e|e|e
    ·exact(h.row.blk hk).2.o_ (e▸hM2)
    ·exact h.ne hk e
    ·exact(g2.out k e).2 hk)
   have hn2:∀k,v2.ownBlock=some k->k≠S:=fun k hk=>hF3.ne hB3 hk
   have Jk:∀k,k<w.heap.size->(k=M\/k=S\/v.ownBlock=some k)->G k:=fun k _ e=>Ey k e
   have Jl:∀k,k<w2.heap.size->(k=S\/v.ownBlock=some k)->b_ w2 k:=fun k _ e=>by
    rcases e with e|e
    ·rw[e];exact b_.jg hB2 (by decide) (by decide)
    ·exact b_.uy (hR2.blk e).2
   have lS:¬(M=S\/v.ownBlock=some M):=fun e=>e.elim uz (fun e=>Qp M e rfl)
   -- the tables behind the block,and which blocks are its own
   have Bf:∀(jo:List Value)(w4:World),aB w4 S 146 jo->Only (·=S) w3 w4->bP w4 M (bK w4 M)/\bK w4 M<=bK w M+3/\((∀j,18<=j->j<29->jo[j]?=iP[j]?)->gY w4 jo 8 M (bK w4 M) (MS.grown m.f f' t)) /\
     (∀k,((G k/\v.ownBlock≠some k)\/v2.ownBlock=some k)->k<w4.heap.size/\b_ w4 k):=by
    intro jo w4 b1 b2
    have Jm:Only (fun k=>k=S\/v.ownBlock=some k) w2 w4:=hO3.trans (b2.weaken (fun _ _ e=>.inl e))
    have hO4:Only (fun k=>k=M\/k=S\/v.ownBlock=some k) w w4:=sH.trans (b2.weaken (fun _ _ e=>.inr (.inl e)))
    have hN:bK w4 M=bK w2 M:=wB Jm hP2.out.tabs.lt lS
    have hT:bP w4 M (bK w4 M):=by rw[hN];exact hP2.out.tabs.only Jm lS (fun b xs hb e=>(Jl b hb.lt e).1 xs hb)
    refine⟨hT,by omega,fun hs=>?_,fun k hk=>?_⟩
    ·rw[hN]
     exact(hP2.out.carry (fun j h1 h2=>by rw[hs j h1 h2,hs3 j (by omega)]) Jm lS Jl).grown
    ·rcases hk with⟨hk,hne⟩|hk
     ·refine⟨Nat.lt_of_lt_of_le (h.pure k hk).1 hO4.size,?_⟩
      by_cases e1:k=S
      ·rw[e1];exact b_.jg b1 (by decide) (by decide)
      ·by_cases e2:k=M
       ·rw[e2];exact b_.of_map hT
       ·exact(h.pure k hk).2.same (hO4.block k (h.pure k hk).1 (fun e=>e.elim e2 (fun e=>e.elim e1 hne)))
     ·have:=((hF3.row.only b2 (fun k hk e=>hn2 k hk e)).blk hk).2
      exact⟨this.lt,b_.uy this⟩
   -- the stream behind the block,wherever it goes on
   have hgoes:∀(n:Nat)(jo:List Value)(w4:World),aB w4 S 146 jo->Only (·=S) w3 w4->jo.length=34->(∀j,j≠4->j≠5->jo[j]?=iP[j]?)->jo[4]?=some (.int .i64 ((m.f.blocks+1:Nat):Int))->jo[5]?=some (.int .i64 (n:Nat))->n<7->4<=n->(n=6->m.f.summed=true) ->
     bF x (fun k=>(G k/\v.ownBlock≠some k)\/v2.ownBlock=some k) c { m with nx:=n,f:=MS.grown m.f f' t } S jo v6 w4:=by
    intro n jo w4 b1 b2 b3 b4 b5 b6 b7 b8 b9
    obtain⟨z1,z2,z3,z4⟩:=Bf jo w4 b1 b2
    have hk:∀j,j≠4->j≠5->(j<8\/30<j)->jo[j]?=ss[j]?:=fun j h1 h2 h3=>by rw[b4 j h1 h2,hkp j h3]
    have hO4:Only (fun k=>k=M\/k=S\/v.ownBlock=some k) w w4:=sH.trans (b2.weaken (fun _ _ e=>.inr (.inl e)))
    exact h.over (m':={ m with nx:=n,f:=MS.grown m.f f' t }) b1 hO4 Jk EC hG2 b3 (fun j hj=>hk j (by omega) (by omega) (by omega)) (by rw[hk 3 (by omega) (by omega) (by omega)];exact h.fr) b5 b6 (by rw[hk 6 (by omega) (by omega) (by omega)];exact h.bg) (hv6 w4 hO4) ED (by rw[hk 7 (by omega) (by omega) (by omega)];exact h.lf)
     (by rw[hk 31 (by omega) (by omega) (by omega)];exact h.lk) (by rw[hk 32 (by omega) (by omega) (by omega)];exact h.kd) (by rw[hk 33 (by omega) (by omega) (by omega)];exact h.nm) b7 h.gZ (fun e=>by have:n<4:=e;omega) (fun _=>⟨v2,W82,hF3.turn (fun j h1 h2=>b4 j (by omega) (by omega)) b2 (fun k hk e=>hn2 k hk e),hv2,fun e=>hsum.trans (b9 e)⟩)
     z4 (fun M' Jo=>by
      rw[hM' M' Jo]
      exact⟨z1,fun _=>z3 (fun j h1 h2=>b4 j (by omega) (by omega))⟩)
   replace hgoes:=aA hgoes
   have hcnt:∀(jo:List Value)(w4:World),aB w4 S 146 jo->Only (·=S) w3 w4->jo[2]?=iP[2]?->gX w4 S<=gX w S+3:=fun jo w4 b1 b2 b3=>by
    have e2:jo[2]?=some (.map (some M)):=by rw[b3,hkp 2 (by omega)];exact hM.out
    rw[wC b1 e2,wC h.blk hM.out]
    exact(Bf jo w4 b1 b2).2.1
   replace Bf:=aA Bf
   replace hcnt:=aA hcnt
   have d4:=hB3.cell (j:=4) (v:=.int .i64 (m.f.blocks:Nat)) (by rw[hkp 4 (by omega)];exact h.bl)
   have d31:=hB3.cell (j:=31) (v:=.bool LK) (by rw[hkp 31 (by omega),sG.out];exact h.lk)
   obtain⟨Qq,hSM⟩:∃s,s=m.f.summed:=⟨_,rfl⟩
   have d8:=hB3.cell (j:=8) (v:=.bool Qq) (by rw[hSM,<- hsum];exact hF3.summed)
   have d5:=hB3.cell (j:=5) (v:=.int .i64 (m.nx:Nat)) (by rw[hkp 5 (by omega)];exact h.nx)
   have fz3:=hB3.free
   obtain⟨BL,hBL⟩:∃BL,BL=m.f.blocks:=⟨_,rfl⟩
   rw[<- hBL]at d4 hbk
   replace hBL:=aA hBL
   replace hSM:=aA hSM
   replace hF3:=aA hF3
   replace hsum:=aA hsum
   replace hgr:=aA hgr
   have hB4:=hB3.put 4 (.int .i64 ((BL:Int)+1))
   have hO4:Only (·=S) w3 (w3.setCell ⟨S,4,none⟩ (.int .i64 ((BL:Int)+1))):=(Only.refl (·=S) w3).setCell ⟨S,4,none⟩ _ (fun _=>rfl)
   have hl4:(iP.set 4 (.int .i64 ((BL:Int)+1))).length=34:=by rw[List.length_set];exact hl3
   have hend:=Ho S 146 (iP.set 4 (.int .i64 ((BL:Int)+1))) m.fr (w3.setCell ⟨S,4,none⟩ (.int .i64 ((BL:Int)+1))) hB4 hl4 (by rw[aN (by omega),hkp 3 (by omega)];exact h.fr) hf
   have Jp:∀W,Only (·=S) w3 W->Only G w W:=fun W hW=>(sH.trans (hW.weaken (fun _ _ e=>.inr (.inl e)))).weaken Jk
   have hcells:∀n:Nat,(∀j,j≠4->j≠5->((iP.set 4 (.int .i64 ((BL:Int)+1))).set 5 (.int .i64 (n:Nat)))[j]?=iP[j]?)/\((iP.set 4 (.int .i64 ((BL:Int)+1))).set 5 (.int .i64 (n:Nat)))[4]?=some (.int .i64 ((m.f.blocks+1:Nat):Int))/\((iP.set 4 (.int .i64 ((BL:Int)+1))).set 5 (.int .i64 (n:Nat)))[5]?=some (.int .i64 (n:Nat))/\((iP.set 4 (.int .i64 ((BL:Int)+1))).set 5 (.int .i64 (n:Nat))).length=34:=fun n =>
    ⟨fun j h1 h2=>by rw[aN (by omega),aN (by omega)],by rw[aN (by omega),lq hl3 (by omega),<- hBL.out];rfl,lq hl4 (by omega),by rw[List.length_set];exact hl4⟩
   replace hcells:=aA hcells
   replace EC:=aA EC
   replace hv6:=aA hv6
   replace ED:=aA ED
   clear hv2 Jl lS
   cases LK with
   | false =>
    go_wp2_with fail
    go_ret2
    have dB:Only (·=S) w3 ((w3.setCell ⟨S,4,none⟩ (.int .i64 ((BL:Int)+1))).setCell ⟨S,5,none⟩ (.int .i64 ((4:Nat):Int))):=hO4.setCell ⟨S,5,none⟩ _ (fun _=>rfl)
    obtain⟨z1,z2,z3,z4⟩:=hcells.out 4
    refine⟨Jp _ dB,?_⟩
    rw[hub.out]
    have Bg:m.behind (MS.grown m.f f' t)={ m with nx:=4,f:=MS.grown m.f f' t }:=by unfold MS.behind;rw[if_pos sG.out.symm]
    rw[Bg]
    exact⟨rfl,_,_,hgoes.out 4 _ _ (hB4.put 5 _) dB z4 z1 z2 z3 (by omega) (by omega) (by omega),hG2,hcnt.out _ _ (hB4.put 5 _) dB (z1 2 (by omega) (by omega))⟩
   | true =>
    have hlk:¬m.lk=false:=by rw[<- sG.out];simp
    replace hlk:=aA hlk
    cases Qq with
    | true =>
     go_wp2_with fail
     go_ret2
     have dB:Only (·=S) w3 ((w3.setCell ⟨S,4,none⟩ (.int .i64 ((BL:Int)+1))).setCell ⟨S,5,none⟩ (.int .i64 ((6:Nat):Int))):=hO4.setCell ⟨S,5,none⟩ _ (fun _=>rfl)
     obtain⟨z1,z2,z3,z4⟩:=hcells.out 6
     refine⟨Jp _ dB,?_⟩
     rw[hub.out]
     have Bg:m.behind (MS.grown m.f f' t)={ m with nx:=6,f:=MS.grown m.f f' t }:=by unfold MS.behind;rw[if_neg hlk.out,if_pos (hsum.out.trans hSM.out.symm)]
     rw[Bg]
     exact⟨rfl,_,_,hgoes.out 6 _ _ (hB4.put 5 _) dB z4 z1 z2 z3 (by omega) (by omega) (fun _=>hSM.out.symm),hG2,hcnt.out _ _ (hB4.put 5 _) dB (z1 2 (by omega) (by omega))⟩
    | false =>
     go_wp2_with fail
     refine hend.mono ?_
     rintro e w5 ⟨rfl,qj,dB⟩
     go_wp2_with fail
     go_ret2
     have oQ:Only (·=S) w3 w5:=hO4.trans dB
     refine⟨Jp _ oQ,?_⟩
     rw[hub.out]
     have Bg:m.behind (MS.grown m.f f' t)=({ m with f:=MS.grown m.f f' t }:MS).ended:=by unfold MS.behind;rw[if_neg hlk.out,if_neg (show ¬(MS.grown m.f f' t).summed=true from by rw[hsum.out,<- hSM.out];simp)]
     rw[Bg]
     obtain⟨e1,e2,e3,e4,e5⟩:=Jg hl4 m.fr
     have hk:∀j,(j<3\/(5<j/\j<8)\/30<j)->(ku (iP.set 4 (.int .i64 ((BL:Int)+1))) m.fr)[j]?=ss[j]?:=fun j hj=>by rw[e2 j hj,aN (by omega),hkp j (by omega)]
     have bT:Only (fun k=>k=M\/k=S\/v.ownBlock=some k) w w5:=sH.trans (oQ.weaken (fun _ _ e=>.inr (.inl e)))
     obtain⟨y1,y2,y3,y4⟩:=Bf.out _ w5 qj oQ
     exact⟨rfl,_,_,h.over (m':=({ m with f:=MS.grown m.f f' t }:MS).ended) qj bT Jk EC.out hG2 e1 (fun j hj=>hk j (.inl hj)) e3 e4 e5 (by rw[hk 6 (by omega)];exact h.bg) (hv6.out w5 bT) ED.out (by rw[hk 7 (by omega)];exact h.lf) (by rw[hk 31 (by omega)];exact h.lk) (by rw[hk 32 (by omega)];exact h.kd) (by rw[hk 33 (by omega)];exact h.nm)
      (by show 0<7;omega) h.gZ (fun _=>rfl) (fun e=>by have:4<=0:=e;omega) y4 (fun M' Jo=>⟨by rw[hM' M' Jo];exact y1,fun e=>by have:4<=0:=e;omega⟩),hG2,hcnt.out _ w5 qj oQ (by rw[e2 2 (by omega),aN (by omega)])⟩
end
end Go.Proofs.YtbhemchnjpajiaaGreatDoor
