/- Several texts in one: PrBld, QFd1. -/
import Derived.Test.YtbhemchnjpajiaaGreatDoorJJ
import Derived.Test.YtbhemchnjpajiaaGreatDoorLC
set_option linter.unusedVariables false
set_option maxRecDepth 100000
set_option maxHeartbeats 2000000
namespace Go.Proofs.YtbhemchnjpajiaaGreatDoor
open Go.RowKit Go.Shelf Go.Proofs.Tryz RD
theorem ab9(b:Nat)(w:World)(h0:w.cell? ⟨b,0,none⟩=some (.pointer (some ⟨b,0,none⟩))) :
  Calls prog 85 #[.pointer (some ⟨b,0,none⟩)] w fun e w'=>e=.returned (.tuple #[])/\w'=w :=
 Any.Builder_copyCheck_used { MQ with } GK.toX72 b w h0
theorem ab_(b:Nat)(w:World)(h0:w.cell? ⟨b,0,none⟩=some (.pointer none))(hsh:w.shape? b=some (149,2))(hfz:w.frozen? ⟨b,0,none⟩=false) :
  Calls prog 85 #[.pointer (some ⟨b,0,none⟩)] w fun e w'=>e=.returned (.tuple #[])/\w'=w.setCell ⟨b,0,none⟩ (.pointer (some ⟨b,0,none⟩)) :=
 Any.Builder_copyCheck_fresh { MQ with } GK.toX72 b w h0 hsh hfz
structure lT(b:Nat)(p v:Value)(l:aj)(w:World):Prop where
 ptr:p=.pointer none\/p=.pointer (some ⟨b,0,none⟩)
 blk:aB w b 149 [p,v]
 row:aT 0 w v l
 front:(v=.slice none 0 0/\l=[])\/l≠[]/\∃g c,v=.slice (some ⟨g,0,none⟩) l.length c
theorem lT.only{G:Nat->Prop}{b:Nat}{p v:Value}{l:aj}{w w':World}(h:lT b p v l w)(ho:Only G w w')(hb:¬G b)(hv:∀k,v.ownBlock=some k->¬G k):lT b p v l w' :=
 ⟨h.ptr,h.blk.only ho hb,h.row.only ho hv,h.front⟩
theorem lT.new(w:World):lT w.heap.size (.pointer none) (.slice none 0 0) [] (w.alloc (.cells #[.pointer none,.slice none 0 0] 149)) :=
 ⟨.inl rfl,aB.new w _ [.pointer none,.slice none 0 0],aT.nil 0 _,.inl ⟨rfl,rfl⟩⟩
def acd(b:Nat)(v:Value)(l s:aj)(w:World)(e:Ending)(w':World):Prop :=
 e=.returned (.tuple #[.int .i64 s.length,.nilIface])/\∃v',lT b (.pointer (some ⟨b,0,none⟩)) v' (l++s) w'/\Only (fun k=>k=b\/v.ownBlock=some k) w w'/\(v'.ownBlock=v.ownBlock\/v'.ownBlock=some w.heap.size)
theorem ace(b:Nat)(p v:Value)(l s:aj)(w:World)(h:lT b p v l w)(hlen:l.length+s.length<=140737488355328) :
  Calls prog 60 #[.pointer (some ⟨b,0,none⟩),.string (ah s)] w (acd b v l s w):=by
 have hcc:Calls prog 85 #[.pointer (some ⟨b,0,none⟩)] w fun e w'=>e=.returned (.tuple #[])/\lT b (.pointer (some ⟨b,0,none⟩)) v l w'/\Only (·=b) w w'/\w'.heap.size=w.heap.size:=by
  obtain⟨hp,hb,hr,hf⟩:=h
  have c0:=hb.cell (j:=0) rfl
  rcases hp with rfl|rfl
  ·have hsh:w.shape? b=some (149,2):=by
    have hb':w.heap[b]?=some (.cells #[.pointer none,v] 149 (0,0)):=hb
    simp[World.shape?,hb']
   refine(ab_ b w c0 hsh (hb.free 0)).mono ?_
   rintro e w' ⟨rfl,rfl⟩
   have hO:Only (·=b) w (w.setCell ⟨b,0,none⟩ (.pointer (some ⟨b,0,none⟩))):=(Only.refl (·=b) w).setCell ⟨b,0,none⟩ _ (fun _=>rfl)
   exact⟨rfl,⟨.inr rfl,hb.put 0 _,hr.only hO (fun k hk e=>(hr.blk hk).2.ne hb (by decide) e),hf⟩,hO,by simp⟩
  ·refine(ab9 b w c0).mono ?_
   rintro e w' ⟨rfl,rfl⟩
   exact⟨rfl,⟨.inr rfl,hb,hr,hf⟩,Only.refl _ _,rfl⟩
 go_enter func60,ntmps60
 go_wp2_with fail
 refine hcc.mono ?_
 rintro e w1 ⟨rfl,⟨-,hb1,hr1,hf1⟩,aF,hs1⟩
 have c1:=hb1.cell (j:=1) rfl
 obtain⟨v2,w2,hrun,⟨hR2,hO2,iD⟩,hA2⟩:=ND 0 9 36 w1 v _ l s hr1 (zN w1 s) hlen (Nat.zero_le _)
 obtain⟨a,cc,rfl,q1,q2,q3⟩:=hr1.form
 have hb2:=hb1.only hO2 (fun e=>(hr1.blk e).2.ne hb1 (by decide) rfl)
 obtain⟨a2,nV,rfl,p1,p2,p3⟩:=hR2.form
 have qA:(l++s).length=l.length+s.length:=List.length_append
 rw[qA]at hrun hR2 iD hA2 p1
 replace qA:=aA qA
 have d1:=hb2.cell (j:=1) rfl
 have DC:=hb2.free
 have hz:=aQ s
 go_wp2_with(at_builtin;refine wpList_append_run rfl _ _ 36 9 rfl _ _ _ w2 rfl rfl hrun ?_)
 go_ret2
 have hO3:Only (fun k=>k=b\/(Value.slice a l.length cc).ownBlock=some k) w (w2.setCell ⟨b,1,none⟩ (.slice a2 (l.length+s.length) nV)):=((aF.weaken (fun _ _ e=>.inl e)).trans (hO2.weaken (fun _ _ e=>.inr e))).setCell ⟨b,1,none⟩ _ (fun _=>.inl rfl)
 refine⟨rfl,_,⟨.inr rfl,hb2.put 1 _,hR2.only ((Only.refl (·=b) _).setCell ⟨b,1,none⟩ _ (fun _=>rfl)) (fun k hk e=>(hR2.blk hk).2.ne hb2 (by decide) e),?_⟩,hO3,by rw[hs1]at iD;exact iD⟩
 by_cases hls:l++s=[]
 ·obtain⟨rfl,rfl⟩:=List.append_eq_nil_iff.1 hls
  rcases hf1 with⟨e,-⟩|⟨e,-⟩
  ·injection e with e1 e2 e3
   subst e1 e3
   rcases hA2 with⟨a',n,c,n',e1,e2⟩|⟨e0,n,c,e1⟩
   ·injection e1 with x1 x2 x3
    injection e2 with y1 y2 y3
    subst x1 x3
    rw[y1,y3]
    exact .inl ⟨rfl,rfl⟩
   ·exact absurd rfl e0
  ·exact absurd rfl e
 ·refine .inr ⟨hls,?_⟩
  rcases hA2 with⟨a',n,c,n',e1,e2⟩|⟨e0,n,c,e1⟩
  ·injection e1 with x1 x2 x3
   injection e2 with y1 y2 y3
   subst x1 x3
   rcases hf1 with⟨e,e'⟩|⟨-,g,c',e⟩
   ·injection e with z1 z2 z3
    subst z1 z3 y1 y3
    rcases p3 with⟨-,h,-⟩|⟨g,off,h,-⟩
    ·exact absurd h hls
    ·cases h
   ·injection e with z1 z2 z3
    subst z1 y1 y3
    exact⟨g,_,by rw[qA.out]⟩
  ·injection e1 with y1 y2 y3
   subst y1
   exact⟨_,_,by rw[qA.out]⟩
theorem acf(w:World)(g n:Nat):Only (·=g) w (w.freeze ⟨g,0,none⟩ n):=by
 unfold World.freeze
 split
 ·exact Only.refl _ w
 ·exact⟨rfl,rfl,rfl,by simp,fun k _ hn=>by
   simp only[Array.getElem?_modify]
   rw[if_neg (fun e=>hn e.symm)]⟩
theorem Qr(b:Nat)(p v:Value)(l:aj)(w:World)(h:lT b p v l w) :
  Calls prog 57 #[.pointer (some ⟨b,0,none⟩)] w fun e w'=>e=.returned (.string (ah l))/\Only (fun k=>v.ownBlock=some k) w w':=by
 rcases h.front with⟨rfl,rfl⟩|⟨hl,g,cap,rfl⟩
 ·refine(Any.Builder_String_nil Tryz.lays169 Tryz.Builder_Extra_169 w.heap.size b p w h.blk).mono ?_
  rintro e w' ⟨rfl,hb⟩
  exact⟨rfl,aH hb⟩
 ·have hl0:l.length≠0:=by simpa using hl
  have hrow:=h.row
  have c1:=h.blk.cell (j:=1) rfl
  have hc:l.length<=cap/\cap<=maxLen:=by
   obtain⟨a,c,e,h1,h2,-⟩:=hrow.form
   injection e with _ _ e
   rw[e]
   exact⟨h1,h2⟩
  have hcells:∀i,i<l.length->w.cell? ⟨g,i,none⟩=some (.int .u8 (ak l i:Nat)):=fun i hi=>by
   have:=hrow.cells i hi
   rw[Nat.zero_add]at this
   exact this
  obtain⟨cur,Qs,hg⟩:=(hrow.blk (k:=g) rfl).2
  have hsize:l.length<=cur.size:=by
   have:=hcells (l.length-1) (by omega)
   rw[cell_of_row w g (l.length-1) cur 5 Qs hg]at this
   have:=(Array.getElem?_eq_some_iff.1 this).1
   omega
  have c1':w.drew.cell? ⟨b,1,none⟩=some (.slice (some ⟨g,0,none⟩) l.length cap):=c1
  have hSD:(Builtin.unsafeSliceData_ #[36] 177 #[.slice (some ⟨g,0,none⟩) l.length cap]).run prog w.drew=.ok (.pointer (some ⟨g,0,none⟩)) w.drew:=Lib.run_unsafeSliceData_row _ _ _ _ _ _ (by omega)
  have hUS:(Builtin.unsafeString_ #[177,3] 9 #[.pointer (some ⟨g,0,none⟩),.int .i64 l.length]).run prog w.drew=.ok (.string ⟨l.toArray⟩) (w.drew.freeze ⟨g,0,none⟩ l.length):=by
   refine Lib.run_unsafeString_row w.drew 177 3 9 5 underlying177 (by kernel_rfl) g cur.size (by have hg':w.drew.heap[g]?=some (.cells cur 5 Qs):=hg;simp[World.shape?,hg']) l hl hsize (by have:=hc.2;unfold maxLen at this;omega) ?_
   intro j y hy
   have hj:=(List.getElem?_eq_some_iff.1 hy).1
   rw[Addr.add_mid,Nat.zero_add]
   have:=hcells j hj
   rw[qL l j hj]at this
   have hy':=(List.getElem?_eq_some_iff.1 hy).2
   rw[hy']at this
   exact this
  have hO:=acf w.drew g l.length
  have mixed:prog.follows .mixedOrders=true:=by kernel_rfl
  clear hcells hrow hg hsize hc hl hl0
  go_enter func57,ntmps57
  go_wp2
  go_region_o
  all_goals
   go_wp2
   go_ret
   exact⟨rfl,⟨hO.os,hO.tape,hO.output,hO.size,fun k hk hn=>hO.block k hk (fun e=>hn (by rw[e];rfl))⟩⟩
end Go.Proofs.YtbhemchnjpajiaaGreatDoor
namespace Go.Proofs.YtbhemchnjpajiaaGreatDoor
open Go.RowKit Go.Proofs.Tryz RD
theorem eY.ret{x:Fx}{G:Nat->Prop}{c:aC}{m:MS}{b:aj}{S:Nat}{v6:Value}{w w':World}{e:Ending}(h:eY x G c m b S v6 w e w'):∃p q,e=.returned (.tuple #[.string p,q]):=by
 obtain⟨-,h⟩:=h
 revert h
 cases m.unit c b with
 | err n=>exact fun h=>⟨_,_,h.1⟩
 | ok m' p=>exact fun h=>⟨_,_,h.1⟩
theorem acg(x:Fx)(G:Nat->Prop)(c:aC)(m:MS)(b:aj)(S:Nat)(ss:List Value)(v6:Value)(w:World)(h:bF x G c m S ss v6 w)(h0:m.nx=5)(hp:Calls prog 83 #[.pointer (some ⟨S,0,none⟩),.string (ah b)] w (eY x G c m b S v6 w)) :
  Calls prog 58 #[.pointer (some ⟨S,0,none⟩),.string (ah b)] w (eY x G c m b S v6 w):=by
 have c5:=h.blk.cell h.nx
 rw[h0]at c5
 replace h0:=aA h0
 go_enter func58,ntmps58
 go_wp2_with fail
 refine hp.mono ?_
 intro e w1 hpost
 obtain⟨p,q,rfl⟩:=hpost.ret
 replace hpost:=aA hpost
 go_wp2_with fail
 go_ret2
 exact hpost.out
def Small(m:MS):Prop:=m.fr<=1099511627776/\m.f.blocks<=1099511627776/\m.f.text.length<=1099511627776
theorem ach(x:Fx)(G:Nat->Prop)(c:aC)(hc:nU c)(m:MS)(b:aj)(S:Nat)(ss:List Value)(v6:Value)(w:World)(h:bF x G c m S ss v6 w)(hw:m.whole b)(hs:Small m)(hk:m.nx=5->m.kd<=2)(hcn:gX w S<900000000) :
  Calls prog 58 #[.pointer (some ⟨S,0,none⟩),.string (ah b)] w (eY x G c m b S v6 w):=by
 have h7:=h.lV
 unfold MS.whole at hw
 obtain h0|h0|h0|h0|h0|h0|h0:m.nx=0\/m.nx=1\/m.nx=2\/m.nx=3\/m.nx=4\/m.nx=5\/m.nx=6:=by omega
 all_goals rw[h0]at hw
 ·exact abI x G c m b S ss v6 w h h0
 ·exact abJ x G c m b S ss v6 w h h0 hw
 ·exact abK x G c m b S ss v6 w h h0 hs.1
 ·refine abZ x G c hc m b S ss v6 w h h0 ?_
  have hb:¬b=[]:=fun e=>by subst e;simp[bQ]at hw
  have hu:bQ 3 b m.kd m.nm=hlen (ak b 0):=if_neg hb
  rw[hu]at hw
  exact hw
 ·exact abL x G c m b S ss v6 w h h0 hw
 ·exact acg x G c m b S ss v6 w h h0 (ab6 x G c m b S ss v6 w h h0 (hk h0) hw hcn hs.1 hs.2.1 hs.2.2)
 ·exact abM x G c m b S ss v6 w h h0 hw hs.1 hs.2.2
theorem bF.trim{x:Fx}{G:Nat->Prop}{c:aC}{m:MS}{S:Nat}{ss:List Value}{v6:Value}{w:World}(h:bF x G c m S ss v6 w):bF x (fun k=>G k/\k<w.heap.size) c m S ss v6 w:=by
 obtain⟨v,d1,d2,d3⟩:=h.wX
 obtain⟨M,hM,hM1,hM2,gK⟩:=h.tabs
 refine⟨h.blk,h.len,h.lim,⟨v,d1,d2,fun k hk=>⟨fun e=>(d3 k hk).1 e.1,(d3 k hk).2⟩⟩,⟨M,hM,⟨hM1,hM2.lt⟩,hM2,gK⟩,fun k hk=>h.pure k hk.1,h.fr,h.bl,h.nx,h.bg,h.row,h.lf,h.lk,h.kd,h.nm,h.lV,h.gZ,⟨⟨h.bW.1,h.blk.lt⟩,fun k hk=>⟨h.bW.2 k hk,(h.row.blk hk).2.lt⟩⟩,h.vars,fun k hk=>h.base k hk.1,h.early,fun e=>?_⟩
 obtain⟨u,W8,g1,g2,g3⟩:=h.frame e
 exact⟨u,W8,g1,fun k hk=>⟨⟨(g2 k hk).1,(g1.row.blk hk).2.lt⟩,(g2 k hk).2⟩,g3⟩
def Qu(x:Fx)(G:Nat->Prop)(c:aC)(m:MS)(s:aj)(S:Nat)(v6:Value)(w:World)(e:Ending)(w':World):Prop :=
 Only G w w'/\∃(k:Nat)(m':MS)(q:Bool)(G':Nat->Prop)(ss':List Value)(sD:Value),e=.returned (.tuple #[.string (ah (s.drop k)),.bool q])/\k<=s.length/\bF x G' c m' S ss' sD w'/\(∀j,G' j->G j\/w.heap.size<=j)/\gX w' S=gX w S /\
  ((m.nx≠2/\m'={ m with bg:=m.bg++s.take k }/\((q=true/\m.whole (m.bg++s.take k))\/(q=false/\k=s.length/\(m.bg++s).length<bQ m.nx (m.bg++s) m.kd m.nm))) \/
   (m.nx=2/\k=min m.lf s.length/\m'={ m with lf:=m.lf-k }/\q=decide (m.lf<=s.length)))
theorem aci(x:Fx)(G:Nat->Prop)(c:aC)(m:MS)(s:aj)(S:Nat)(ss:List Value)(v6:Value)(w:World)(h:bF x G c m S ss v6 w)(h0:m.nx=2)(hs:s.length<=1099511627776) :
  Calls prog 56 #[.pointer (some ⟨S,0,none⟩),.string (ah s)] w (Qu x G c m s S v6 w):=by
 have c5:=h.blk.cell h.nx
 rw[h0]at c5
 have hp:=X4 S 146 ss m.lf s w h.blk h.lf h.gZ.2.1 hs
 have hlf:=h.gZ.2.1
 replace h0:=aA h0
 go_enter func56,ntmps56
 go_wp2_with fail
 refine hp.mono ?_
 rintro e w1 ⟨rfl,hB,hO⟩
 go_wp2_with fail
 go_ret2
 refine⟨hO.weaken (fun k _ e=>e▸h.bW.1),min m.lf s.length,{ m with lf:=m.lf-min m.lf s.length },decide (m.lf<=s.length),G,_,v6,rfl,by omega,h.turn hB hO (by rw[List.length_set];exact h.len) (fun j hj=>aN (by omega)) (by rw[aN (by omega)];exact h.fr) (by rw[aN (by omega)];exact h.bl) (by rw[aN (by omega)];exact h.nx) (aN (by omega)) rfl (lq h.len (by omega)) (by rw[aN (by omega)];exact h.lk) (by rw[aN (by omega)];exact h.kd) (by rw[aN (by omega)];exact h.nm) h.lV ⟨h.gZ.1,by show m.lf-_<=_;omega⟩ h.early (fun e=>?_) (fun e=>?_),fun j hj=>.inl hj,qJ h hO (fun M hM e=>hM.ne h.blk e) hB (aN (by omega)),.inr ⟨h0.out,rfl,rfl,rfl⟩⟩
 all_goals
  have:4<=m.nx:=e
  have:=h0.out
  omega
theorem acj(x:Fx)(G:Nat->Prop)(c:aC)(m:MS)(s:aj)(S:Nat)(ss:List Value)(v6:Value)(w:World)(h:bF x G c m S ss v6 w)(hle:m.bg.length<=bQ m.nx m.bg m.kd m.nm)(hs:s.length<=1099511627776) :
  Calls prog 56 #[.pointer (some ⟨S,0,none⟩),.string (ah s)] w (Qu x G c m s S v6 w):=by
 by_cases h2:m.nx=2
 ·exact aci x G c m s S ss v6 w h h2 hs
 refine(Yv 0 S 146 ss m.nx v6 m.bg s m.lk m.kd m.nm w h.un hle h2 hs (by decide) (Nat.zero_le _)).mono ?_
 rintro e w' ⟨k,v',hk,hu,rfl,hor,hB,hR,hO,hat⟩
 have hK:∀j,j<w.heap.size->(j=S\/v6.ownBlock=some j)->G j:=fun j _ e=>by
  rcases e with rfl|e
  ·exact h.bW.1
  ·exact h.bW.2 j e
 obtain⟨M,hM,hM1,hM2,gK⟩:=h.tabs
 have hM':∀k,ss[2]?=some (.map (some k))->k=M:=fun k hk=>by
  rw[hk]at hM
  injection hM with e
  injection e with e
  injection e with e
 have hG2:∀j,((G j/\v6.ownBlock≠some j)\/v'.ownBlock=some j)->G j\/w.heap.size<=j:=fun j hj=>by
  rcases hj with hj|hj
  ·exact .inl hj.1
  ·rcases hat with h1|⟨i,h1,h3⟩
   ·exact .inl (h.bW.2 j (h1.symm.trans hj))
   ·rw[h1]at hj
    injection hj with hj
    exact .inr (by omega)
 refine⟨hO.weaken hK,k,{ m with bg:=m.bg++s.take k },_,fun j=>(G j/\v6.ownBlock≠some j)\/v'.ownBlock=some j,_,v',rfl,hk,h.over (m':={ m with bg:=m.bg++s.take k }) hB hO hK (fun j hj e=>.inl ⟨hj,fun ev=>e.elim (h.ne ev) (fun e=>(h.row.blk ev).2.o_ ((hM' j e).symm▸hM2))⟩) hG2 (by rw[List.length_set];exact h.len) (fun j hj=>aN (by omega)) (by rw[aN (by omega)];exact h.fr) (by rw[aN (by omega)];exact h.bl) (by rw[aN (by omega)];exact h.nx) (lq h.len (by omega)) hR (fun j hj=>.inr hj) (by rw[aN (by omega)];exact h.lf) (by rw[aN (by omega)];exact h.lk) (by rw[aN (by omega)];exact h.kd) (by rw[aN (by omega)];exact h.nm) h.lV ⟨h.gZ.1,h.gZ.2.1,?_⟩ h.early (fun e=>?_) (fun j hj=>?_) (h.Ji hO (fun j _ e=>?_) (fun _ j h1 h2=>aN (by omega))),hG2,qJ h hO (fun M hM e=>e.elim (hM.ne h.blk) (fun e=>(h.row.blk e).2.o_ hM)) hB (aN (by omega)),.inl ⟨h2,rfl,?_⟩⟩
 ·exact Nat.le_trans hu (Hw _ _ _ _ (by have:=h.gZ.1;omega))
 ·obtain⟨u,W8,g1,g2,g3⟩:=h.frame e
  refine⟨u,W8,g1.turn (fun j h1 h2=>aN (by omega)) hO (fun j hj e=>?_),fun j hj=>⟨.inl ⟨(g2 j hj).1,(g2 j hj).2⟩,fun e=>?_⟩,g3⟩
  ·rcases e with e|e
   ·exact g1.ne h.blk hj e
   ·exact(g2 j hj).2 e
  ·rcases hat with h1|⟨i,h1,h3⟩
   ·exact(g2 j hj).2 (h1.symm.trans e)
   ·rw[h1]at e
    injection e with e
    have:=(g1.row.blk hj).2.lt
    omega
 ·rcases hj with⟨hj,hne⟩|hj
  ·refine⟨Nat.lt_of_lt_of_le (h.pure j hj).1 hO.size,?_⟩
   by_cases e:j=S
   ·rw[e];exact b_.jg hB (by decide) (by decide)
   ·exact(h.pure j hj).2.same (hO.block j (h.pure j hj).1 (fun e'=>e'.elim e hne))
  ·exact⟨(hR.blk hj).2.lt,b_.uy (hR.blk hj).2⟩
 ·rcases e with e|e
  ·rw[e];exact h.noS
  ·exact(h.row.blk e).2.no
 ·by_cases hq:(m.bg++s.take k).length=bQ m.nx (m.bg++s.take k) m.kd m.nm
  ·exact .inl ⟨by simpa using hq,hq⟩
  ·rcases hor with hor|hor
   ·exact absurd hor hq
   ·refine .inr ⟨by simpa using hq,hor,?_⟩
    rw[hor,List.take_length]at hq hu
    omega
end Go.Proofs.YtbhemchnjpajiaaGreatDoor
