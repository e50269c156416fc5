/- Several texts in one: RefAll. -/
import Derived.Test.YtbhemchnjpajiaaGreatDoorML
set_option linter.unusedVariables false
set_option maxRecDepth 100000
set_option maxHeartbeats 4000000
namespace Go.Proofs.YtbhemchnjpajiaaGreatDoor
open Go.RowKit Go.Proofs.Tryz RD
theorem BZ{B:Nat}{G:Nat->Prop}{w w1 w2:World}(h:Below B w w1)(ho:Only G w1 w2)(hG:∀k,G k->B<=k)(hB:B<=w.heap.size):Below B w w2 :=
 h.trans ⟨ho.os,ho.tape,ho.output,ho.size,fun k hk=>ho.block k (by have:=h.size;omega) (fun e=>by have:=hG k e;omega)⟩
theorem wR{w w2:World}{B:Nat}(hb:Below B w w2)(hB:w.heap.size=B)(x0 x1 x2 x3:Value)(o:Obj):Below w.heap.size w (((((w2.setCell ⟨B,0,none⟩ x0).setCell ⟨B,1,none⟩ x1).setCell ⟨B,2,none⟩ x2).setCell ⟨B,3,none⟩ x3).alloc o).drew:=by
 have h:=jw (jw (jw (jw hb B 0 x0 (Nat.le_refl _)) B 1 x1 (Nat.le_refl _)) B 2 x2 (Nat.le_refl _)) B 3 x3 (Nat.le_refl _)
 rw[hB]
 exact jW (h.alloc (by have:=hb.size;simp;omega) o)
theorem wS{w2:World}{B:Nat}{t:TypeId}{y0 y1 y2 y3:Value}(hT:aB w2 B t [y0,y1,y2,y3])(x0 x1 x2 x3:Value)(o:Obj):aB (((((w2.setCell ⟨B,0,none⟩ x0).setCell ⟨B,1,none⟩ x1).setCell ⟨B,2,none⟩ x2).setCell ⟨B,3,none⟩ x3).alloc o).drew B t [x0,x1,x2,x3] :=
 aB.drew (aB.alloc ((((hT.put 0 x0).put 1 x1).put 2 x2).put 3 x3) o)
theorem af5{c:aC}{s u:RD.St}(h:RD.step c s=.ok u):u.frames<=s.frames+1:=by
 obtain⟨fr,ph,f,l,text⟩:=s
 unfold RD.step at h
 cases ph with
 | letters =>
  simp only[]at h
  split at h
  ·cases h
  ·split at h
   ·cases h;exact Nat.le_succ _
   ·split at h
    ·cases h;exact Nat.le_succ _
    ·cases h
 | skip =>
  simp only[]at h
  split at h
  ·cases h
  ·cases h;exact Nat.le_refl _
 | header =>
  simp only[]at h
  split at h
  ·cases h
  ·cases h
  ·cases h;exact Nat.le_succ _
 | blocks =>
  simp only[]at h
  split at h
  ·cases h
  ·cases h
  ·split at h
   ·cases h;exact Nat.le_succ _
   ·split at h
    ·cases h;exact Nat.le_succ _
    ·cases h;exact Nat.le_refl _
 | sum =>
  simp only[]at h
  split at h
  ·cases h
  ·split at h
   ·cases h
   ·cases h;exact Nat.le_refl _
theorem RD.Reach.frames{c:aC}{a b:RD.St}(h:RD.Reach c a b):b.frames+b.left.length<=a.frames+a.left.length:=by
 induction h with
 | refl=>exact Nat.le_refl _
 | tail _ e ih =>
  have h1:=af5 e
  have h2:=(xC e).1
  omega
theorem RD.Reach.strict{c:aC}{a b:RD.St}(h:RD.Reach c a b):b=a\/b.left.length<a.left.length:=by
 induction h with
 | refl=>exact .inl rfl
 | tail h e ih =>
  have h1:=(xC e).1
  have h2:=h.less.1
  exact .inr (by omega)
theorem g_.of{w w':World}{v:Value}{ds:List (Int×aj)}{B:Nat}(h:g_ w v ds)(hb:Below B w w')(hi:∀b,bJ v=some b->b<B):g_ w' v ds:=by
 obtain⟨a,c,rfl,h4,h⟩:=h
 refine⟨a,c,rfl,h4,?_⟩
 rcases h with h|⟨g,off,rfl,hg,h⟩
 ·exact .inl h
 ·refine .inr ⟨g,off,rfl,Nat.lt_of_lt_of_le hg hb.size,fun i hi'=>?_⟩
  have hgB:=hi g rfl
  obtain⟨h1,h2⟩:=h i hi'
  exact⟨(hb.cell (p:=⟨g,off+i*2,none⟩) hgB).trans h1,(hb.cell (p:=⟨g,off+i*2+1,none⟩) hgB).trans h2⟩
structure dY(w:World)(r:Nat)(c:aC)(v:Value)(fed:aj)(closed:Bool)(given:Nat):Prop where
 blk:aB w r 81 [.int .i64 c.limit,v,.string (ah fed),.bool closed,.int .i64 (given:Int)]
 slice:∃a n k,v=.slice a n k
 cfg:sO c
 aP:g_ w v c.aP
 inn:∀b,bJ v=some b->b<w.heap.size/\b≠r
 len:fed.length<=268435456
def jV(t:aj×Nat×(Nat×Nat)):Value:=.agg #[.string (ah t.1),.int .i64 (t.2.1:Nat),.int .i64 (t.2.2.1:Nat),.int .i64 (t.2.2.2:Nat)]
def S_(c:aC)(fed:aj)(closed:Bool)(w:World)(e:Ending)(w':World):Prop :=
 Below w.heap.size w w'/\e=.returned (jV (RD.told c fed closed))
theorem Tc(RC:lU)(RS:je)(r:Nat)(c:aC)(v:Value)(fed:aj)(closed:Bool)(given:Nat)(w:World)(h:dY w r c v fed closed given) :
  Calls prog 32 #[.pointer (some ⟨r,0,none⟩)] w (S_ c fed closed w):=by
 have hlen:=h.len
 have c0:=h.blk.cell (j:=0) rfl
 have c1:=h.blk.cell (j:=1) rfl
 have c2:=h.blk.cell (j:=2) rfl
 have c3:=h.blk.cell (j:=3) rfl
 have FW:=h.blk.lt
 obtain⟨a,n,k,rfl⟩:=h.slice
 go_enter func32,ntmps32
 go_wp2_with fail
 go_region
 obtain⟨W0,hW0⟩:∃W,W=((w.alloc (.cells #[.string ⟨#[]⟩,.int .i64 0,.int .i64 0,.int .i64 0] 83)).alloc (.cells #[.int .i64 c.limit,.slice a n k,.string (ah fed),.int .i64 0,.string ⟨#[]⟩] 114)).drew:=⟨_,rfl⟩
 have hb0:Below w.heap.size w W0:=by
  rw[hW0]
  exact jW (((Below.refl _ w).alloc (Nat.le_refl _) _).alloc (by simp) _)
 have hT0:aB W0 w.heap.size 83 [.string ⟨#[]⟩,.int .i64 0,.int .i64 0,.int .i64 0]:=by
  rw[hW0]
  exact((aB.new w 83 [.string ⟨#[]⟩,.int .i64 0,.int .i64 0,.int .i64 0]).alloc _).drew
 have hR0:bU W0 (w.heap.size+1) c (.slice a n k) fed 0 []:=by
  rw[hW0]
  have:=aB.new (w.alloc (.cells #[.string ⟨#[]⟩,.int .i64 0,.int .i64 0,.int .i64 0] 83)) 114 [.int .i64 c.limit,.slice a n k,.string (ah fed),.int .i64 0,.string ⟨#[]⟩]
  simp only[World.size_alloc]at this
  exact this.drew
 go_wp2_with fail
 rw[<- hW0]
 replace hW0:=aA hW0
 obtain⟨B,hB⟩:∃B,w.heap.size=B:=⟨_,rfl⟩
 rw[hB]at hb0 hT0 hR0 FW
 rw[hB]
 replace hB:=aA hB
 have H:=aA h
 clear h
 go_loopg[4,5] (fed.length+1) (fun gh fv ev wr=>∃(fr:Nat)(l text:aj),gh=l.length+1/\Hid (Below B w wr)/\Hid (aB wr B 83 [.string ⟨#[]⟩,.int .i64 0,.int .i64 0,.int .i64 0])/\Hid (bU wr (B+1) c (.slice a n k) l fr text)/\Hid (RD.Reach c (RD.St.start fed) (RD.St.lets fr l text)))
 case atStart=>exact⟨0,fed,[],rfl,aA hb0,aA hT0,aA hR0,aA (RD.Reach.refl _)⟩
 case round =>
  clear hb0 hT0 hR0
  obtain⟨fr,l,text,rfl,hb,hT,hR,hr⟩:=hrel
  have hless:=hr.out.less
  have Td:=hr.out.frames
  have hl1:l.length<=fed.length:=hless.1
  have hl2:text.length+1024*l.length<=1024*fed.length:=by
   have:=hless.2.2
   simpa[RD.St.lets,RD.St.start]using this
  have hfb:fr<=fed.length:=by
   have:fr+l.length<=0+fed.length:=Td
   omega
  clear hless Td
  obtain⟨q,hq⟩:∃q,wr.heap.size=q:=⟨_,rfl⟩
  obtain⟨W1,hW1⟩:∃W,W=wr.alloc (.cells (gG 0 0 false [] (.slice none 0 0)).toArray 122):=⟨_,rfl⟩
  have hb1:Below q wr W1:=by rw[hW1,<- hq];exact(Below.refl _ _).alloc (Nat.le_refl _) _
  have hN1:aB W1 q 122 (gG 0 0 false [] (.slice none 0 0)):=by rw[hW1,<- hq];exact aB.new wr 122 (gG 0 0 false [] (.slice none 0 0))
  have hTl:=hT.out.lt
  have hRl:=aB.lt hR.out
  rw[hq]at hTl hRl
  have uQ:Below B w W1:=hb.out.trans ⟨hb1.os,hb1.tape,hb1.output,hb1.size,fun k hk=>hb1.block k (by omega)⟩
  have hR1:bU W1 (B+1) c (.slice a n k) l fr text:=aB.below hR.out hb1 hRl
  have hT1:=hT.out.below hb1 hTl
  have Tf:uP W1 (B+1) q c (.slice a n k) l fr text:=⟨hR1,⟨a,n,k,rfl⟩,hN1,H.out.cfg,H.out.aP.of uQ (fun b hb=>hB.out▸(H.out.inn b hb).1),⟨fun e=>by have:=(H.out.inn _ e).1;have:=hB.out;omega,fun e=>by have:=(H.out.inn _ e).1;have:=hB.out;omega⟩,by omega,by omega⟩
  have hfr:=af4 RC RS (B+1) q c (.slice a n k) l fr text W1 Tf
  have c3':W1.cell? ⟨r,3,none⟩=some (.bool closed):=(uQ.cell (p:=⟨r,3,none⟩) FW).trans c3
  clear Tf hN1
  replace uQ:=aA uQ
  replace hT1:=aA hT1
  replace hR1:=aA hR1
  replace hb1:=aA hb1
  go_wp2_with fail
  have hW1':wr.alloc (.cells #[.int .i64 0,.int .i64 0,.bool false,.string ⟨#[]⟩,.string ⟨#[]⟩,.slice none 0 0,.bool false,.int .i64 0,.slice none 0 0,.bool false,.int .i64 0,.slice none 0 0,.bool false,.int .i64 0,.slice none 0 0,.slice none 0 0,.int .i64 0] 122)=W1:=by rw[hW1];rfl
  rw[hW1']
  replace hW1:=aA hW1
  replace hW1':=aA hW1'
  replace hq:=aA hq
  refine hfr.mono ?_
  rintro e w2 ⟨ho2,⟨l2,af6,hr2,rfl,hR2⟩|⟨s,l2,cs,win,hr2,hs2,hsf,rfl,hR2,hG2,g0,g16,hcase⟩|⟨s,m,l2,cs,hr2,hs2,hsf,rfl,hR2,hG2,g16⟩⟩
  ·have hst:=hr2.strict
   have hm:l2.length<l.length:=by
    rcases hst with e|e
    ·exact absurd (congrArg RD.St.frames e) (by show ¬fr+1=fr;omega)
    ·exact e
   replace hst:=aA hst
   have p3:w2.cell? ⟨B+1,3,none⟩=some (.int .i64 (fr:Int)):=aB.cell hR2 (j:=3) rfl
   have pz:=aB.free hR2
   have hb2:Hid (Below B w w2):=aA (BZ uQ.out ho2 (fun k hk=>by omega) (by have:=hB.out;omega))
   have hT2:=aA (hT1.out.only ho2 (by omega))
   have hr3:=aA (hr.out.trans hr2)
   replace hr2:=aA hr2
   replace ho2:=aA ho2
   go_wp2_with fail
   go_roundg(l2.length+1)
   case rel=>exact⟨fr+1,l2,af6,rfl,aA (jw hb2.out (B+1) 3 _ (by omega)),aA (hT2.out.other ⟨B+1,3,none⟩ _ (by show B≠B+1;omega)),aA (aB.put hR2 3 _),hr3⟩
   case measure=>omega
  ·have htold:=yQ closed (hr.out.trans hr2) hs2
   have p4:w2.cell? ⟨B+1,4,none⟩=some (.string (ah s.text)):=aB.cell hR2 (j:=4) rfl
   have p3:w2.cell? ⟨B+1,3,none⟩=some (.int .i64 (fr:Int)):=aB.cell hR2 (j:=3) rfl
   have p2:w2.cell? ⟨B+1,2,none⟩=some (.string (ah l2)):=aB.cell hR2 (j:=2) rfl
   have k16:=hG2.cell g16
   have k0:=hG2.cell g0
   have c3w:w2.cell? ⟨r,3,none⟩=some (.bool closed):=ho2.cell c3' (by have:=uQ.out.size;have:=hB.out;omega) (by omega)
   have hb2:Hid (Below B w w2):=aA (BZ uQ.out ho2 (fun k hk=>by omega) (by have:=hB.out;omega))
   have hT2:=hT1.out.only ho2 (by omega)
   have t0:=hT2.cell (j:=0) rfl
   have t1:=hT2.cell (j:=1) rfl
   have t2:=hT2.cell (j:=2) rfl
   have t3:=hT2.cell (j:=3) rfl
   have tz:=hT2.free
   have tlt:=hT2.lt
   have qlt:=hG2.lt
   have CG:=aB.lt hR2
   have ajF:r<w2.heap.size:=by omega
   replace htold:=aA htold
   rw[hsf]at htold
   have hzl:=kH l2
   cases closed with
   | false =>
    have htd:Hid (RD.told c fed false=(s.text,1,(fr,s.f.blocks))):=aA (htold.out)
    go_wp2_with fail
    go_region
    go_wp2_with fail
    have hcl:=wS hT2 (.string (ah s.text)) (.int .i64 1) (.int .i64 (fr:Int)) (.int .i64 (s.f.blocks:Int)) (.cells #[.string (ah s.text),.int .i64 1,.int .i64 (fr:Int),.int .i64 (s.f.blocks:Int)] 83)
    have hbe:=wR hb2.out hB.out (.string (ah s.text)) (.int .i64 1) (.int .i64 (fr:Int)) (.int .i64 (s.f.blocks:Int)) (.cells #[.string (ah s.text),.int .i64 1,.int .i64 (fr:Int),.int .i64 (s.f.blocks:Int)] 83)
    generalize(((((w2.setCell ⟨B,0,none⟩ (.string (ah s.text))).setCell ⟨B,1,none⟩ (.int .i64 1)).setCell ⟨B,2,none⟩ (.int .i64 (fr:Int))).setCell ⟨B,3,none⟩ (.int .i64 (s.f.blocks:Int))).alloc (.cells #[.string (ah s.text),.int .i64 1,.int .i64 (fr:Int),.int .i64 (s.f.blocks:Int)] 83)).drew=WF at *
    have f0:=hcl.cell (j:=0) rfl
    have f1:=hcl.cell (j:=1) rfl
    have f2:=hcl.cell (j:=2) rfl
    have f3:=hcl.cell (j:=3) rfl
    refine bodyPost_ret (v:=jV (s.text,1,(fr,s.f.blocks))) (by simp[results,results32,go_sem,jV,f0,f1,f2,f3]) rfl ?_
    exact⟨hbe,by rw[htd.out]⟩
   | true =>
    rcases hcase with⟨z1,z2,z3,z4⟩|⟨z1,z2⟩
    ·by_cases hn:l2=[]
     ·have htd:Hid (RD.told c fed true=(s.text,2,(fr,s.f.blocks))):=aA (by rw[htold.out];simp[z1,<- z3,hn])
      have b1:((s.f.blocks:Int)==0)=true:=by rw[z4];rfl
      have b2:(ah l2).toList.isEmpty=true:=by rw[hzl,hn];rfl
      have b3:((win:Int)==0)=true:=by rw[z2];rfl
      replace z3:=aA z3
      replace z2:=aA z2
      replace z4:=aA z4
      replace hn:=aA hn
      replace hzl:=aA hzl
      go_wp2_with fail
      go_region
      go_wp2_with fail
      have hcl:=wS hT2 (.string (ah s.text)) (.int .i64 2) (.int .i64 (fr:Int)) (.int .i64 (s.f.blocks:Int)) (.cells #[.string (ah s.text),.int .i64 2,.int .i64 (fr:Int),.int .i64 (s.f.blocks:Int)] 83)
      have hbe:=wR hb2.out hB.out (.string (ah s.text)) (.int .i64 2) (.int .i64 (fr:Int)) (.int .i64 (s.f.blocks:Int)) (.cells #[.string (ah s.text),.int .i64 2,.int .i64 (fr:Int),.int .i64 (s.f.blocks:Int)] 83)
      generalize(((((w2.setCell ⟨B,0,none⟩ (.string (ah s.text))).setCell ⟨B,1,none⟩ (.int .i64 2)).setCell ⟨B,2,none⟩ (.int .i64 (fr:Int))).setCell ⟨B,3,none⟩ (.int .i64 (s.f.blocks:Int))).alloc (.cells #[.string (ah s.text),.int .i64 2,.int .i64 (fr:Int),.int .i64 (s.f.blocks:Int)] 83)).drew=WF at *
      have f0:=hcl.cell (j:=0) rfl
      have f1:=hcl.cell (j:=1) rfl
      have f2:=hcl.cell (j:=2) rfl
      have f3:=hcl.cell (j:=3) rfl
      refine bodyPost_ret (v:=jV (s.text,2,(fr,s.f.blocks))) (by simp[results,results32,go_sem,jV,f0,f1,f2,f3]) rfl ?_
      exact⟨hbe,by rw[htd.out]⟩
     ·have htd:Hid (RD.told c fed true=(s.text,7,(fr,s.f.blocks))):=aA (by rw[htold.out];simp[z1,<- z3,hn])
      have b1:((s.f.blocks:Int)==0)=true:=by rw[z4];rfl
      have b2:(ah l2).toList.isEmpty=false:=by rw[hzl];simpa using hn
      replace z3:=aA z3
      replace z2:=aA z2
      replace z4:=aA z4
      replace hn:=aA hn
      replace hzl:=aA hzl
      go_wp2_with fail
      go_region
      go_wp2_with fail
      have hcl:=wS hT2 (.string (ah s.text)) (.int .i64 7) (.int .i64 (fr:Int)) (.int .i64 (s.f.blocks:Int)) (.cells #[.string (ah s.text),.int .i64 7,.int .i64 (fr:Int),.int .i64 (s.f.blocks:Int)] 83)
      have hbe:=wR hb2.out hB.out (.string (ah s.text)) (.int .i64 7) (.int .i64 (fr:Int)) (.int .i64 (s.f.blocks:Int)) (.cells #[.string (ah s.text),.int .i64 7,.int .i64 (fr:Int),.int .i64 (s.f.blocks:Int)] 83)
      generalize(((((w2.setCell ⟨B,0,none⟩ (.string (ah s.text))).setCell ⟨B,1,none⟩ (.int .i64 7)).setCell ⟨B,2,none⟩ (.int .i64 (fr:Int))).setCell ⟨B,3,none⟩ (.int .i64 (s.f.blocks:Int))).alloc (.cells #[.string (ah s.text),.int .i64 7,.int .i64 (fr:Int),.int .i64 (s.f.blocks:Int)] 83)).drew=WF at *
      have f0:=hcl.cell (j:=0) rfl
      have f1:=hcl.cell (j:=1) rfl
      have f2:=hcl.cell (j:=2) rfl
      have f3:=hcl.cell (j:=3) rfl
      refine bodyPost_ret (v:=jV (s.text,7,(fr,s.f.blocks))) (by simp[results,results32,go_sem,jV,f0,f1,f2,f3]) rfl ?_
      exact⟨hbe,by rw[htd.out]⟩
    ·have htd:Hid (RD.told c fed true=(s.text,7,(fr,s.f.blocks))):=aA (by rw[htold.out];simp[z1])
     have b3:((win:Int)==0)=false:=by simp;omega
     by_cases y1:s.f.blocks=0
     ·have b1:((s.f.blocks:Int)==0)=true:=by rw[y1];rfl
      replace y1:=aA y1
      by_cases hn:l2=[]
      ·have b2:(ah l2).toList.isEmpty=true:=by rw[hzl,hn];rfl
       replace hn:=aA hn
       replace hzl:=aA hzl
       go_wp2_with fail
       go_region
       go_wp2_with fail
       have hcl:=wS hT2 (.string (ah s.text)) (.int .i64 7) (.int .i64 (fr:Int)) (.int .i64 (s.f.blocks:Int)) (.cells #[.string (ah s.text),.int .i64 7,.int .i64 (fr:Int),.int .i64 (s.f.blocks:Int)] 83)
       have hbe:=wR hb2.out hB.out (.string (ah s.text)) (.int .i64 7) (.int .i64 (fr:Int)) (.int .i64 (s.f.blocks:Int)) (.cells #[.string (ah s.text),.int .i64 7,.int .i64 (fr:Int),.int .i64 (s.f.blocks:Int)] 83)
       generalize(((((w2.setCell ⟨B,0,none⟩ (.string (ah s.text))).setCell ⟨B,1,none⟩ (.int .i64 7)).setCell ⟨B,2,none⟩ (.int .i64 (fr:Int))).setCell ⟨B,3,none⟩ (.int .i64 (s.f.blocks:Int))).alloc (.cells #[.string (ah s.text),.int .i64 7,.int .i64 (fr:Int),.int .i64 (s.f.blocks:Int)] 83)).drew=WF at *
       have f0:=hcl.cell (j:=0) rfl
       have f1:=hcl.cell (j:=1) rfl
       have f2:=hcl.cell (j:=2) rfl
       have f3:=hcl.cell (j:=3) rfl
       refine bodyPost_ret (v:=jV (s.text,7,(fr,s.f.blocks))) (by simp[results,results32,go_sem,jV,f0,f1,f2,f3]) rfl ?_
       exact⟨hbe,by rw[htd.out]⟩
      ·have b2:(ah l2).toList.isEmpty=false:=by rw[hzl];simpa using hn
       replace hn:=aA hn
       replace hzl:=aA hzl
       go_wp2_with fail
       go_region
       go_wp2_with fail
       have hcl:=wS hT2 (.string (ah s.text)) (.int .i64 7) (.int .i64 (fr:Int)) (.int .i64 (s.f.blocks:Int)) (.cells #[.string (ah s.text),.int .i64 7,.int .i64 (fr:Int),.int .i64 (s.f.blocks:Int)] 83)
       have hbe:=wR hb2.out hB.out (.string (ah s.text)) (.int .i64 7) (.int .i64 (fr:Int)) (.int .i64 (s.f.blocks:Int)) (.cells #[.string (ah s.text),.int .i64 7,.int .i64 (fr:Int),.int .i64 (s.f.blocks:Int)] 83)
       generalize(((((w2.setCell ⟨B,0,none⟩ (.string (ah s.text))).setCell ⟨B,1,none⟩ (.int .i64 7)).setCell ⟨B,2,none⟩ (.int .i64 (fr:Int))).setCell ⟨B,3,none⟩ (.int .i64 (s.f.blocks:Int))).alloc (.cells #[.string (ah s.text),.int .i64 7,.int .i64 (fr:Int),.int .i64 (s.f.blocks:Int)] 83)).drew=WF at *
       have f0:=hcl.cell (j:=0) rfl
       have f1:=hcl.cell (j:=1) rfl
       have f2:=hcl.cell (j:=2) rfl
       have f3:=hcl.cell (j:=3) rfl
       refine bodyPost_ret (v:=jV (s.text,7,(fr,s.f.blocks))) (by simp[results,results32,go_sem,jV,f0,f1,f2,f3]) rfl ?_
       exact⟨hbe,by rw[htd.out]⟩
     ·have b1:((s.f.blocks:Int)==0)=false:=by simp;omega
      replace y1:=aA y1
      replace hzl:=aA hzl
      go_wp2_with fail
      go_region
      go_wp2_with fail
      have hcl:=wS hT2 (.string (ah s.text)) (.int .i64 7) (.int .i64 (fr:Int)) (.int .i64 (s.f.blocks:Int)) (.cells #[.string (ah s.text),.int .i64 7,.int .i64 (fr:Int),.int .i64 (s.f.blocks:Int)] 83)
      have hbe:=wR hb2.out hB.out (.string (ah s.text)) (.int .i64 7) (.int .i64 (fr:Int)) (.int .i64 (s.f.blocks:Int)) (.cells #[.string (ah s.text),.int .i64 7,.int .i64 (fr:Int),.int .i64 (s.f.blocks:Int)] 83)
      generalize(((((w2.setCell ⟨B,0,none⟩ (.string (ah s.text))).setCell ⟨B,1,none⟩ (.int .i64 7)).setCell ⟨B,2,none⟩ (.int .i64 (fr:Int))).setCell ⟨B,3,none⟩ (.int .i64 (s.f.blocks:Int))).alloc (.cells #[.string (ah s.text),.int .i64 7,.int .i64 (fr:Int),.int .i64 (s.f.blocks:Int)] 83)).drew=WF at *
      have f0:=hcl.cell (j:=0) rfl
      have f1:=hcl.cell (j:=1) rfl
      have f2:=hcl.cell (j:=2) rfl
      have f3:=hcl.cell (j:=3) rfl
      refine bodyPost_ret (v:=jV (s.text,7,(fr,s.f.blocks))) (by simp[results,results32,go_sem,jV,f0,f1,f2,f3]) rfl ?_
      exact⟨hbe,by rw[htd.out]⟩
  ·have htold:=xE closed (hr.out.trans hr2) hs2
   rw[hsf]at htold
   have p4:w2.cell? ⟨B+1,4,none⟩=some (.string (ah s.text)):=aB.cell hR2 (j:=4) rfl
   have p3:w2.cell? ⟨B+1,3,none⟩=some (.int .i64 (fr:Int)):=aB.cell hR2 (j:=3) rfl
   have k16:=hG2.cell g16
   have hb2:Hid (Below B w w2):=aA (BZ uQ.out ho2 (fun k hk=>by omega) (by have:=hB.out;omega))
   have hT2:=hT1.out.only ho2 (by omega)
   have t0:=hT2.cell (j:=0) rfl
   have t1:=hT2.cell (j:=1) rfl
   have t2:=hT2.cell (j:=2) rfl
   have t3:=hT2.cell (j:=3) rfl
   have tz:=hT2.free
   have tlt:=hT2.lt
   have qlt:=hG2.lt
   have CG:=aB.lt hR2
   have hmm:((m:Int)==-1)=false:=by simp
   have ajG:((m:Int)==-2)=false:=by simp
   replace htold:=aA htold
   go_wp2_with fail
   go_region
   go_wp2_with fail
   have hcl:=wS hT2 (.string (ah s.text)) (.int .i64 (m:Int)) (.int .i64 (fr:Int)) (.int .i64 (s.f.blocks:Int)) (.cells #[.string (ah s.text),.int .i64 (m:Int),.int .i64 (fr:Int),.int .i64 (s.f.blocks:Int)] 83)
   have hbe:=wR hb2.out hB.out (.string (ah s.text)) (.int .i64 (m:Int)) (.int .i64 (fr:Int)) (.int .i64 (s.f.blocks:Int)) (.cells #[.string (ah s.text),.int .i64 (m:Int),.int .i64 (fr:Int),.int .i64 (s.f.blocks:Int)] 83)
   generalize(((((w2.setCell ⟨B,0,none⟩ (.string (ah s.text))).setCell ⟨B,1,none⟩ (.int .i64 (m:Int))).setCell ⟨B,2,none⟩ (.int .i64 (fr:Int))).setCell ⟨B,3,none⟩ (.int .i64 (s.f.blocks:Int))).alloc (.cells #[.string (ah s.text),.int .i64 (m:Int),.int .i64 (fr:Int),.int .i64 (s.f.blocks:Int)] 83)).drew=WF at *
   have f0:=hcl.cell (j:=0) rfl
   have f1:=hcl.cell (j:=1) rfl
   have f2:=hcl.cell (j:=2) rfl
   have f3:=hcl.cell (j:=3) rfl
   refine bodyPost_ret (v:=jV (s.text,m,(fr,s.f.blocks))) (by simp[results,results32,go_sem,jV,f0,f1,f2,f3]) rfl ?_
   exact⟨hbe,by rw[htold.out]⟩
end Go.Proofs.YtbhemchnjpajiaaGreatDoor
