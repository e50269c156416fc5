/- Several texts in one: PrSt. -/
import Derived.Test.YtbhemchnjpajiaaGreatDoorKL
set_option linter.unusedVariables false
set_option maxRecDepth 100000
set_option maxHeartbeats 4000000
namespace Go.Proofs.YtbhemchnjpajiaaGreatDoor
open Go.RowKit Go.Proofs.Tryz RD
theorem _root_.Go.Proofs.YtbhemchnjpajiaaGreatDoor.RD.cZ.pos{t:RD.Tab}(h:cZ t):0<t.l.length:=by rw[h.1];exact Nat.two_pow_pos _
def gU(x0 x1 x2:CM.aG):List Value:=[.int .i64 x0.1,.int .i64 x0.2.1,.int .i64 x0.2.2,.int .i64 x1.1,.int .i64 x1.2.1,.int .i64 x1.2.2,.int .i64 x2.1,.int .i64 x2.2.1,.int .i64 x2.2.2]
structure uj(w:World)(gs:List Value)(o:Nat)(t0 t1 t2:RD.Tab):Prop where
 ex:∃v0 v1 v2,gs[o+1]?=some (.int .i64 t0.log)/\gs[o+2]?=some v0/\gs[o+3]?=some (.int .i64 t1.log)/\gs[o+4]?=some v1/\gs[o+5]?=some (.int .i64 t2.log)/\gs[o+6]?=some v2/\dA w v0 t0.l/\dA w v1 t1.l/\dA w v2 t2.l
def rJ(w:World)(gs:List Value)(o a:Nat):Prop:=∃(d n c:Nat),gs[o+2]?=some (.slice (some ⟨a,d,none⟩) n c)\/gs[o+4]?=some (.slice (some ⟨a,d,none⟩) n c)\/gs[o+6]?=some (.slice (some ⟨a,d,none⟩) n c)
theorem dM{G:Nat->Prop}{w w':World}(h:Only G w.drew w'):Only G w w':=⟨h.os,h.tape,h.output,h.size,h.block⟩
def Ib(p:Nat)(t0 t1 t2:RD.Tab)(s:aj)(w:World)(e:Ending)(w':World):Prop :=
 e=.returned (.agg (gU (aS t0.l (RD.pk (ay s) 0 t0.log)) (aS t1.l (RD.pk (ay s) t0.log t1.log)) (aS t2.l (RD.pk (ay s) (t0.log+t1.log) t2.log))).toArray) /\
  aY w' p s (t0.log+t1.log+t2.log)/\Only (fun b=>b=p) w w'
theorem xP{w:World}{b:Nat}{l:List CM.aG}(h:∀i,i<l.length->w.cell? ⟨b,i*3,none⟩=some (.int .i64 (l.getD i (0,0,0)).1)/\w.cell? ⟨b,i*3+1,none⟩=some (.int .i64 (l.getD i (0,0,0)).2.1)/\w.cell? ⟨b,i*3+2,none⟩=some (.int .i64 (l.getD i (0,0,0)).2.2)){P:Nat}(hP:P<l.length) :
  w.cell? ⟨b,P*3,none⟩=some (.int .i64 (aS l (P:Int)).1)/\w.cell? ⟨b,P*3+1,none⟩=some (.int .i64 (aS l (P:Int)).2.1)/\w.cell? ⟨b,P*3+2,none⟩=some (.int .i64 (aS l (P:Int)).2.2):=by
 have:=h P hP
 unfold aS
 rw[Int.toNat_natCast]
 exact this
theorem Y5(g o p:Nat)(t:TypeId)(gs:List Value)(t0 t1 t2:RD.Tab)(s:aj)(w:World)(hG:aB w g t gs)(hT:uj w gs o t0 t1 t2)(f0:cZ t0)(f1:cZ t1)(f2:cZ t2)(h:aY w p s 0)(hs:s.length<=1048576)
  (hp0:∀a,rJ w gs o a->a≠p) :
  Calls prog 148 #[.pointer (some ⟨g,o,none⟩),.pointer (some ⟨p,0,none⟩)] w (Ib p t0 t1 t2 s w):=by
 obtain⟨v0,v1,v2,g1,g2,g3,g4,g5,g6,⟨a0,k0,rfl,T0⟩,⟨a1,k1,rfl,T1⟩,⟨a2,k2,rfl,T2⟩⟩:=hT.ex
 have l0:=f0.pos
 have l1:=f1.pos
 have l2:=f2.pos
 obtain⟨b0,rfl,hb0,T0⟩:=T0.resolve_left (by omega)
 obtain⟨b1,rfl,hb1,T1⟩:=T1.resolve_left (by omega)
 obtain⟨b2,rfl,hb2,T2⟩:=T2.resolve_left (by omega)
 have n0:b0≠p:=hp0 b0 ⟨_,_,_,.inl g2⟩
 have n1:b1≠p:=hp0 b1 ⟨_,_,_,.inr (.inl g4)⟩
 have n2:b2≠p:=hp0 b2 ⟨_,_,_,.inr (.inr g6)⟩
 have hgl:=hG.lt
 have hpl:=aB.lt h
 have c1:=hG.cell g1
 have c2:w.cell? ⟨g,o+1+1,none⟩=_:=hG.cell g2
 have c3:w.cell? ⟨g,o+1+2,none⟩=_:=hG.cell g3
 have c4:w.cell? ⟨g,o+1+3,none⟩=_:=hG.cell g4
 have c5:w.cell? ⟨g,o+1+4,none⟩=_:=hG.cell g5
 have c6:w.cell? ⟨g,o+1+5,none⟩=_:=hG.cell g6
 have q0:=f0.2.1
 have q1:=f1.2.1
 have q2:=f2.2.1
 have hbb:=kM s
 have m0:=iT hbb 0 t0.log
 have m1:=iT hbb t0.log t1.log
 have m2:=iT hbb (t0.log+t1.log) t2.log
 obtain⟨P0,hP0⟩:=Int.eq_ofNat_of_zero_le m0.1
 obtain⟨P1,hP1⟩:=Int.eq_ofNat_of_zero_le m1.1
 obtain⟨P2,hP2⟩:=Int.eq_ofNat_of_zero_le m2.1
 have z0:P0<t0.l.length:=by
                  rw[f0.1];have e:((2^t0.log:Nat):Int)=2^t0.log:=by simp
                  omega
 have z1:P1<t1.l.length:=by
                  rw[f1.1];have e:((2^t1.log:Nat):Int)=2^t1.log:=by simp
                  omega
 have z2:P2<t2.l.length:=by
                  rw[f2.1];have e:((2^t2.log:Nat):Int)=2^t2.log:=by simp
                  omega
 obtain⟨Ic,Ie,Ig⟩:=xP T0 z0
 obtain⟨Ih,Ii,Ij⟩:=xP T1 z1
 obtain⟨Ik,Il,Io⟩:=xP T2 z2
 have hfin:Hid (∀e w',(e=.returned (.agg (gU (aS t0.l P0) (aS t1.l P1) (aS t2.l P2)).toArray)/\aY w' p s (t0.log+t1.log+t2.log)/\Only (fun b=>b=p) w w')->Ib p t0 t1 t2 s w e w'):=by
  intro e w' hh
  unfold Ib
  rw[hP0,hP1,hP2]
  exact hh
 have Ip:∀W,aY W p s 0->Calls prog 164 #[.pointer (some ⟨p,0,none⟩),.int .i64 t0.log] W fun e w'=>e=.returned (.int .i64 (P0:Int))/\aY w' p s t0.log/\Only (·=p) W w':=fun W hW=>by
  have:=tX p s 0 t0.log W hW hs (by omega) (by omega)
  rw[hP0,Nat.zero_add]at this
  exact this
 have tk1:∀W,aY W p s t0.log->Calls prog 164 #[.pointer (some ⟨p,0,none⟩),.int .i64 t1.log] W fun e w'=>e=.returned (.int .i64 (P1:Int))/\aY w' p s (t0.log+t1.log)/\Only (·=p) W w':=fun W hW=>by
  have:=tX p s t0.log t1.log W hW hs (by omega) (by omega)
  rw[hP1]at this
  exact this
 have tk2:∀W,aY W p s (t0.log+t1.log)->Calls prog 164 #[.pointer (some ⟨p,0,none⟩),.int .i64 t2.log] W fun e w'=>e=.returned (.int .i64 (P2:Int))/\aY w' p s (t0.log+t1.log+t2.log)/\Only (·=p) W w':=fun W hW=>by
  have:=tX p s (t0.log+t1.log) t2.log W hW hs (by omega) (by omega)
  rw[hP2]at this
  exact this
 clear m0 m1 m2 hP0 hP1 hP2 T0 T1 T2 hbb
 generalize aS t0.l P0=x0 at *
 generalize aS t1.l P1=x1 at *
 generalize aS t2.l P2=x2 at *
 have Iq:(P0:Int)<(t0.l.length:Int):=by omega
 have Ir:(P1:Int)<(t1.l.length:Int):=by omega
 have zi2:(P2:Int)<(t2.l.length:Int):=by omega
 have Y6:=Y2
 have Y7:=Y3
 have Y8:=Y4
 go_enter func148,ntmps148
 go_wp2_with fail
 have mg:aB ((w.alloc (.cells #[.int .i64 0,.int .i64 0,.int .i64 0,.int .i64 0,.int .i64 0,.int .i64 0,.int .i64 0,.int .i64 0,.int .i64 0] 275)).alloc (.cells #[.int .i64 0,.int .i64 0,.int .i64 0,.int .i64 0,.int .i64 0,.int .i64 0,.int .i64 0,.int .i64 0,.int .i64 0] 275)) (w.heap.size+1) 275 [.int .i64 0,.int .i64 0,.int .i64 0,.int .i64 0,.int .i64 0,.int .i64 0,.int .i64 0,.int .i64 0,.int .i64 0]:=by
  have:=aB.new (w.alloc (.cells #[.int .i64 0,.int .i64 0,.int .i64 0,.int .i64 0,.int .i64 0,.int .i64 0,.int .i64 0,.int .i64 0,.int .i64 0] 275)) 275 [.int .i64 0,.int .i64 0,.int .i64 0,.int .i64 0,.int .i64 0,.int .i64 0,.int .i64 0,.int .i64 0,.int .i64 0]
  simpa using this
 have hR0:aB ((w.alloc (.cells #[.int .i64 0,.int .i64 0,.int .i64 0,.int .i64 0,.int .i64 0,.int .i64 0,.int .i64 0,.int .i64 0,.int .i64 0] 275)).alloc (.cells #[.int .i64 0,.int .i64 0,.int .i64 0,.int .i64 0,.int .i64 0,.int .i64 0,.int .i64 0,.int .i64 0,.int .i64 0] 275)) w.heap.size 275 [.int .i64 0,.int .i64 0,.int .i64 0,.int .i64 0,.int .i64 0,.int .i64 0,.int .i64 0,.int .i64 0,.int .i64 0]:=(aB.new w 275 [.int .i64 0,.int .i64 0,.int .i64 0,.int .i64 0,.int .i64 0,.int .i64 0,.int .i64 0,.int .i64 0,.int .i64 0]).alloc _
 have vV:Below w.heap.size w ((w.alloc (.cells #[.int .i64 0,.int .i64 0,.int .i64 0,.int .i64 0,.int .i64 0,.int .i64 0,.int .i64 0,.int .i64 0,.int .i64 0] 275)).alloc (.cells #[.int .i64 0,.int .i64 0,.int .i64 0,.int .i64 0,.int .i64 0,.int .i64 0,.int .i64 0,.int .i64 0,.int .i64 0] 275)):=((Below.refl _ w).alloc (Nat.le_refl _) _).alloc (by simp) _
 generalize(w.alloc (.cells #[.int .i64 0,.int .i64 0,.int .i64 0,.int .i64 0,.int .i64 0,.int .i64 0,.int .i64 0,.int .i64 0,.int .i64 0] 275)).alloc (.cells #[.int .i64 0,.int .i64 0,.int .i64 0,.int .i64 0,.int .i64 0,.int .i64 0,.int .i64 0,.int .i64 0,.int .i64 0] 275)=w2 at *
 have hi0:aY w2 p s 0:=aB.below h vV hpl
 have iL:Only (fun b=>b=p) w w2:=aH vV
 obtain⟨S,hS⟩:∃S,S=w.heap.size:=⟨_,rfl⟩
 rw[<- hS]at mg hR0 hpl hgl hb0 hb1 hb2
 rw[<- hS]
 replace hS:=aA hS
 clear vV
 go_loopg[12] 4 (fun gh kv wr=>∃(k i:Nat)(cs:List Value),gh=4-k/\k<=3/\kv=.int .i64 (k:Int)/\Hid ((k=0/\i=0/\cs=[.int .i64 0,.int .i64 0,.int .i64 0,.int .i64 0,.int .i64 0,.int .i64 0,.int .i64 0,.int .i64 0,.int .i64 0])\/(k=1/\i=t0.log/\cs=[.int .i64 x0.1,.int .i64 x0.2.1,.int .i64 x0.2.2,.int .i64 0,.int .i64 0,.int .i64 0,.int .i64 0,.int .i64 0,.int .i64 0])\/(k=2/\i=t0.log+t1.log/\cs=[.int .i64 x0.1,.int .i64 x0.2.1,.int .i64 x0.2.2,.int .i64 x1.1,.int .i64 x1.2.1,.int .i64 x1.2.2,.int .i64 0,.int .i64 0,.int .i64 0])\/(k=3/\i=t0.log+t1.log+t2.log/\cs=[.int .i64 x0.1,.int .i64 x0.2.1,.int .i64 x0.2.2,.int .i64 x1.1,.int .i64 x1.2.1,.int .i64 x1.2.2,.int .i64 x2.1,.int .i64 x2.2.1,.int .i64 x2.2.2])) /\
   aY wr p s i/\aB wr (S+1) 275 cs/\(∃rs,aB wr S 275 rs/\rs.length=9)/\Only (fun b=>b=p) w wr)
 case atStart=>exact⟨0,0,_,by omega,by omega,rfl,.inl ⟨rfl,rfl,rfl⟩,hi0,mg,⟨_,hR0,rfl⟩,iL⟩
 case round =>
  obtain⟨k,i,cs,rfl,hk,rfl,hA,hbi,hF,⟨rs,hR,hrl⟩,hO⟩:=hrel
  have hsz:=hO.size
  rw[<- hS.out]at hsz
  have kV:=hF.lt
  rcases hA.out with⟨rfl,rfl,rfl⟩|⟨rfl,rfl,rfl⟩|⟨rfl,rfl,rfl⟩|⟨rfl,rfl,rfl⟩
  ·have w0:=hO.cell Ic (by have:=hS.out;omega) n0
   have w1:=hO.cell Ie (by have:=hS.out;omega) n0
   have w2:=hO.cell Ig (by have:=hS.out;omega) n0
   have iM:Only (fun b=>b=p) w (wr.alloc (.cells #[.int .i64 t0.log,.slice (some ⟨b0,0,none⟩) t0.l.length k0] 133)):=hO.alloc _
   have hba:Below wr.heap.size wr (wr.alloc (.cells #[.int .i64 t0.log,.slice (some ⟨b0,0,none⟩) t0.l.length k0] 133)):=(Below.refl _ wr).alloc (Nat.le_refl _) _
   have hN:aB (wr.alloc (.cells #[.int .i64 t0.log,.slice (some ⟨b0,0,none⟩) t0.l.length k0] 133)) wr.heap.size 133 [.int .i64 t0.log,.slice (some ⟨b0,0,none⟩) t0.l.length k0]:=aB.new _ _ _
   go_wp2_with fail
   have oH:aY _ p s 0:=aB.below hbi hba (aB.lt hbi)
   have hF':=hF.below hba kV
   have hR':=hR.below hba hR.lt
   have v0':=(World.cell?_of_block (w:=wr) (a:=⟨b0,P0*3,none⟩) (hba.block b0 (by omega))).trans w0
   have v1':=(World.cell?_of_block (w:=wr) (a:=⟨b0,P0*3+1,none⟩) (hba.block b0 (by omega))).trans w1
   have v2':=(World.cell?_of_block (w:=wr) (a:=⟨b0,P0*3+2,none⟩) (hba.block b0 (by omega))).trans w2
   have hbl:=hba.size
   generalize wr.alloc (.cells #[.int .i64 t0.log,.slice (some ⟨b0,0,none⟩) t0.l.length k0] 133)=w4 at *
   have hNl:=hN.lt
   have eu:¬wr.heap.size=p:=by omega
   have eU:¬S+1=p:=by omega
   have jB:¬S=p:=by omega
   have hNF:¬wr.heap.size=S+1:=by omega
   have y0:=hN.cell (j:=0) rfl
   have y1:=hN.cell (j:=1) rfl
   have hbw:b0<w4.heap.size:=by omega
   clear hA hbi hF hR hO w0 w1 w2 hba
   replace hN:=aA hN
   replace hF':=aA hF'
   replace hR':=aA hR'
   replace iM:=aA iM
   generalize wr.heap.size=M at *
   go_region_with(go_at_call 164;refine(Ip w4.drew oH).mono ?_;rintro e w5 ⟨rfl,hb5,oI⟩;(have aX:=dM oI);(have y0':=aX.cell y0 hNl eu);(have y1':=aX.cell y1 hNl eu);(have Af:=aX.cell v0' hbw n0);(have Ag:=aX.cell v1' hbw n0);(have Ah:=aX.cell v2' hbw n0);(have bV:=hF'.out.only aX eU);(have fz:=bV.free);(have e0:=bV.cell (j:=0) rfl);(have e1:=bV.cell (j:=1) rfl);(have e2:=bV.cell (j:=2) rfl);(replace bV:=aA bV))
   all_goals
    have dX:=((bV.out.put 0 (.int .i64 x0.1)).put 1 (.int .i64 x0.2.1)).put 2 (.int .i64 x0.2.2)
    have hb6:aY (((w5.setCell ⟨S+1,0,none⟩ (.int .i64 x0.1)).setCell ⟨S+1,1,none⟩ (.int .i64 x0.2.1)).setCell ⟨S+1,2,none⟩ (.int .i64 x0.2.2)) p s t0.log:=aB.other (aB.other (aB.other hb5 ⟨S+1,0,none⟩ _ (fun e=>eU e.symm)) ⟨S+1,1,none⟩ _ (fun e=>eU e.symm)) ⟨S+1,2,none⟩ _ (fun e=>eU e.symm)
    have fO:=(((hR'.out.only aX jB).other ⟨S+1,0,none⟩ (.int .i64 x0.1) (by show S≠S+1;omega)).other ⟨S+1,1,none⟩ (.int .i64 x0.2.1) (by show S≠S+1;omega)).other ⟨S+1,2,none⟩ (.int .i64 x0.2.2) (by show S≠S+1;omega)
    have bT:Only (fun b=>b=p) w (((w5.setCell ⟨S+1,0,none⟩ (.int .i64 x0.1)).setCell ⟨S+1,1,none⟩ (.int .i64 x0.2.1)).setCell ⟨S+1,2,none⟩ (.int .i64 x0.2.2)) :=
     (((iM.out.trans aX).setCell _ _ (fun e=>absurd e (by have:=hS.out;show ¬(S+1<_);omega))).setCell _ _ (fun e=>absurd e (by have:=hS.out;show ¬(S+1<_);omega))).setCell _ _ (fun e=>absurd e (by have:=hS.out;show ¬(S+1<_);omega))
    replace dX:=aA dX
    replace hb6:=aA hb6
    replace fO:=aA fO
    replace bT:=aA bT
    go_wp2_with fail
    go_roundg(4-1)
    case rel=>exact⟨1,t0.log,_,by omega,by omega,by go_num,.inr (.inl ⟨rfl,rfl,rfl⟩),hb6.out,dX.out,⟨rs,fO.out,hrl⟩,bT.out⟩
    case measure=>omega
  ·have w0:=hO.cell Ih (by have:=hS.out;omega) n1
   have w1:=hO.cell Ii (by have:=hS.out;omega) n1
   have w2:=hO.cell Ij (by have:=hS.out;omega) n1
   have iM:Only (fun b=>b=p) w (wr.alloc (.cells #[.int .i64 t1.log,.slice (some ⟨b1,0,none⟩) t1.l.length k1] 133)):=hO.alloc _
   have hba:Below wr.heap.size wr (wr.alloc (.cells #[.int .i64 t1.log,.slice (some ⟨b1,0,none⟩) t1.l.length k1] 133)):=(Below.refl _ wr).alloc (Nat.le_refl _) _
   have hN:aB (wr.alloc (.cells #[.int .i64 t1.log,.slice (some ⟨b1,0,none⟩) t1.l.length k1] 133)) wr.heap.size 133 [.int .i64 t1.log,.slice (some ⟨b1,0,none⟩) t1.l.length k1]:=aB.new _ _ _
   go_wp2_with fail
   have oH:aY _ p s t0.log:=aB.below hbi hba (aB.lt hbi)
   have hF':=hF.below hba kV
   have hR':=hR.below hba hR.lt
   have v0':=(World.cell?_of_block (w:=wr) (a:=⟨b1,P1*3,none⟩) (hba.block b1 (by omega))).trans w0
   have v1':=(World.cell?_of_block (w:=wr) (a:=⟨b1,P1*3+1,none⟩) (hba.block b1 (by omega))).trans w1
   have v2':=(World.cell?_of_block (w:=wr) (a:=⟨b1,P1*3+2,none⟩) (hba.block b1 (by omega))).trans w2
   have hbl:=hba.size
   generalize wr.alloc (.cells #[.int .i64 t1.log,.slice (some ⟨b1,0,none⟩) t1.l.length k1] 133)=w4 at *
   have hNl:=hN.lt
   have eu:¬wr.heap.size=p:=by omega
   have eU:¬S+1=p:=by omega
   have jB:¬S=p:=by omega
   have hNF:¬wr.heap.size=S+1:=by omega
   have y0:=hN.cell (j:=0) rfl
   have y1:=hN.cell (j:=1) rfl
   have hbw:b1<w4.heap.size:=by omega
   clear hA hbi hF hR hO w0 w1 w2 hba
   replace hN:=aA hN
   replace hF':=aA hF'
   replace hR':=aA hR'
   replace iM:=aA iM
   generalize wr.heap.size=M at *
   go_region_with(go_at_call 164;refine(tk1 w4.drew oH).mono ?_;rintro e w5 ⟨rfl,hb5,oI⟩;(have aX:=dM oI);(have y0':=aX.cell y0 hNl eu);(have y1':=aX.cell y1 hNl eu);(have Af:=aX.cell v0' hbw n1);(have Ag:=aX.cell v1' hbw n1);(have Ah:=aX.cell v2' hbw n1);(have bV:=hF'.out.only aX eU);(have fz:=bV.free);(have e0:=bV.cell (j:=3) rfl);(have e1:=bV.cell (j:=4) rfl);(have e2:=bV.cell (j:=5) rfl);(replace bV:=aA bV))
   all_goals
    have dX:=((bV.out.put 3 (.int .i64 x1.1)).put 4 (.int .i64 x1.2.1)).put 5 (.int .i64 x1.2.2)
    have hb6:aY (((w5.setCell ⟨S+1,3,none⟩ (.int .i64 x1.1)).setCell ⟨S+1,4,none⟩ (.int .i64 x1.2.1)).setCell ⟨S+1,5,none⟩ (.int .i64 x1.2.2)) p s (t0.log+t1.log):=aB.other (aB.other (aB.other hb5 ⟨S+1,3,none⟩ _ (fun e=>eU e.symm)) ⟨S+1,4,none⟩ _ (fun e=>eU e.symm)) ⟨S+1,5,none⟩ _ (fun e=>eU e.symm)
    have fO:=(((hR'.out.only aX jB).other ⟨S+1,3,none⟩ (.int .i64 x1.1) (by show S≠S+1;omega)).other ⟨S+1,4,none⟩ (.int .i64 x1.2.1) (by show S≠S+1;omega)).other ⟨S+1,5,none⟩ (.int .i64 x1.2.2) (by show S≠S+1;omega)
    have bT:Only (fun b=>b=p) w (((w5.setCell ⟨S+1,3,none⟩ (.int .i64 x1.1)).setCell ⟨S+1,4,none⟩ (.int .i64 x1.2.1)).setCell ⟨S+1,5,none⟩ (.int .i64 x1.2.2)) :=
     (((iM.out.trans aX).setCell _ _ (fun e=>absurd e (by have:=hS.out;show ¬(S+1<_);omega))).setCell _ _ (fun e=>absurd e (by have:=hS.out;show ¬(S+1<_);omega))).setCell _ _ (fun e=>absurd e (by have:=hS.out;show ¬(S+1<_);omega))
    replace dX:=aA dX
    replace hb6:=aA hb6
    replace fO:=aA fO
    replace bT:=aA bT
    go_wp2_with fail
    go_roundg(4-2)
    case rel=>exact⟨2,(t0.log+t1.log),_,by omega,by omega,by go_num,.inr (.inr (.inl ⟨rfl,rfl,rfl⟩)),hb6.out,dX.out,⟨rs,fO.out,hrl⟩,bT.out⟩
    case measure=>omega
  ·have w0:=hO.cell Ik (by have:=hS.out;omega) n2
   have w1:=hO.cell Il (by have:=hS.out;omega) n2
   have w2:=hO.cell Io (by have:=hS.out;omega) n2
   have iM:Only (fun b=>b=p) w (wr.alloc (.cells #[.int .i64 t2.log,.slice (some ⟨b2,0,none⟩) t2.l.length k2] 133)):=hO.alloc _
   have hba:Below wr.heap.size wr (wr.alloc (.cells #[.int .i64 t2.log,.slice (some ⟨b2,0,none⟩) t2.l.length k2] 133)):=(Below.refl _ wr).alloc (Nat.le_refl _) _
   have hN:aB (wr.alloc (.cells #[.int .i64 t2.log,.slice (some ⟨b2,0,none⟩) t2.l.length k2] 133)) wr.heap.size 133 [.int .i64 t2.log,.slice (some ⟨b2,0,none⟩) t2.l.length k2]:=aB.new _ _ _
   go_wp2_with fail
   have oH:aY _ p s (t0.log+t1.log):=aB.below hbi hba (aB.lt hbi)
   have hF':=hF.below hba kV
   have hR':=hR.below hba hR.lt
   have v0':=(World.cell?_of_block (w:=wr) (a:=⟨b2,P2*3,none⟩) (hba.block b2 (by omega))).trans w0
   have v1':=(World.cell?_of_block (w:=wr) (a:=⟨b2,P2*3+1,none⟩) (hba.block b2 (by omega))).trans w1
   have v2':=(World.cell?_of_block (w:=wr) (a:=⟨b2,P2*3+2,none⟩) (hba.block b2 (by omega))).trans w2
   have hbl:=hba.size
   generalize wr.alloc (.cells #[.int .i64 t2.log,.slice (some ⟨b2,0,none⟩) t2.l.length k2] 133)=w4 at *
   have hNl:=hN.lt
   have eu:¬wr.heap.size=p:=by omega
   have eU:¬S+1=p:=by omega
   have jB:¬S=p:=by omega
   have hNF:¬wr.heap.size=S+1:=by omega
   have y0:=hN.cell (j:=0) rfl
   have y1:=hN.cell (j:=1) rfl
   have hbw:b2<w4.heap.size:=by omega
   clear hA hbi hF hR hO w0 w1 w2 hba
   replace hN:=aA hN
   replace hF':=aA hF'
   replace hR':=aA hR'
   replace iM:=aA iM
   generalize wr.heap.size=M at *
   go_region_with(go_at_call 164;refine(tk2 w4.drew oH).mono ?_;rintro e w5 ⟨rfl,hb5,oI⟩;(have aX:=dM oI);(have y0':=aX.cell y0 hNl eu);(have y1':=aX.cell y1 hNl eu);(have Af:=aX.cell v0' hbw n2);(have Ag:=aX.cell v1' hbw n2);(have Ah:=aX.cell v2' hbw n2);(have bV:=hF'.out.only aX eU);(have fz:=bV.free);(have e0:=bV.cell (j:=6) rfl);(have e1:=bV.cell (j:=7) rfl);(have e2:=bV.cell (j:=8) rfl);(replace bV:=aA bV))
   all_goals
    have dX:=((bV.out.put 6 (.int .i64 x2.1)).put 7 (.int .i64 x2.2.1)).put 8 (.int .i64 x2.2.2)
    have hb6:aY (((w5.setCell ⟨S+1,6,none⟩ (.int .i64 x2.1)).setCell ⟨S+1,7,none⟩ (.int .i64 x2.2.1)).setCell ⟨S+1,8,none⟩ (.int .i64 x2.2.2)) p s (t0.log+t1.log+t2.log):=aB.other (aB.other (aB.other hb5 ⟨S+1,6,none⟩ _ (fun e=>eU e.symm)) ⟨S+1,7,none⟩ _ (fun e=>eU e.symm)) ⟨S+1,8,none⟩ _ (fun e=>eU e.symm)
    have fO:=(((hR'.out.only aX jB).other ⟨S+1,6,none⟩ (.int .i64 x2.1) (by show S≠S+1;omega)).other ⟨S+1,7,none⟩ (.int .i64 x2.2.1) (by show S≠S+1;omega)).other ⟨S+1,8,none⟩ (.int .i64 x2.2.2) (by show S≠S+1;omega)
    have bT:Only (fun b=>b=p) w (((w5.setCell ⟨S+1,6,none⟩ (.int .i64 x2.1)).setCell ⟨S+1,7,none⟩ (.int .i64 x2.2.1)).setCell ⟨S+1,8,none⟩ (.int .i64 x2.2.2)) :=
     (((iM.out.trans aX).setCell _ _ (fun e=>absurd e (by have:=hS.out;show ¬(S+1<_);omega))).setCell _ _ (fun e=>absurd e (by have:=hS.out;show ¬(S+1<_);omega))).setCell _ _ (fun e=>absurd e (by have:=hS.out;show ¬(S+1<_);omega))
    replace dX:=aA dX
    replace hb6:=aA hb6
    replace fO:=aA fO
    replace bT:=aA bT
    go_wp2_with fail
    go_roundg(4-3)
    case rel=>exact⟨3,(t0.log+t1.log+t2.log),_,by omega,by omega,by go_num,.inr (.inr (.inr (⟨rfl,rfl,rfl⟩))),hb6.out,dX.out,⟨rs,fO.out,hrl⟩,bT.out⟩
    case measure=>omega
  ·have Y9:=hF.free
   have Oy:=hR.free
   have d0:=hF.cell (j:=0) rfl
   have d1:=hF.cell (j:=1) rfl
   have d2:=hF.cell (j:=2) rfl
   have d3:=hF.cell (j:=3) rfl
   have d4:=hF.cell (j:=4) rfl
   have d5:=hF.cell (j:=5) rfl
   have d6:=hF.cell (j:=6) rfl
   have d7:=hF.cell (j:=7) rfl
   have d8:=hF.cell (j:=8) rfl
   obtain⟨r0,r1,r2,r3,r4,r5,r6,r7,r8,rfl⟩:∃r0 r1 r2 r3 r4 r5 r6 r7 r8,rs=[r0,r1,r2,r3,r4,r5,r6,r7,r8]:=by
    match rs,hrl with
    | [r0,r1,r2,r3,r4,r5,r6,r7,r8],_=>exact⟨r0,r1,r2,r3,r4,r5,r6,r7,r8,rfl⟩
   have Y_:=hR.cell (j:=0) rfl
   have f1':=hR.cell (j:=1) rfl
   have f2':=hR.cell (j:=2) rfl
   have f3':=hR.cell (j:=3) rfl
   have Za:=hR.cell (j:=4) rfl
   have Zb:=hR.cell (j:=5) rfl
   have Zc:=hR.cell (j:=6) rfl
   have f7':=hR.cell (j:=7) rfl
   have Zd:=hR.cell (j:=8) rfl
   have fP:p≠S:=by omega
   have hno:S<w.heap.size->S=p:=fun e=>absurd e (by have:=hS.out;omega)
   have f_:aB (((((((((wr.setCell ⟨S,0,none⟩ (.int .i64 x0.1)).setCell ⟨S,1,none⟩ (.int .i64 x0.2.1)).setCell ⟨S,2,none⟩ (.int .i64 x0.2.2)).setCell ⟨S,3,none⟩ (.int .i64 x1.1)).setCell ⟨S,4,none⟩ (.int .i64 x1.2.1)).setCell ⟨S,5,none⟩ (.int .i64 x1.2.2)).setCell ⟨S,6,none⟩ (.int .i64 x2.1)).setCell ⟨S,7,none⟩ (.int .i64 x2.2.1)).setCell ⟨S,8,none⟩ (.int .i64 x2.2.2)) S 275 (gU x0 x1 x2):=(((((((((hR.put 0 (.int .i64 x0.1)).put 1 (.int .i64 x0.2.1)).put 2 (.int .i64 x0.2.2)).put 3 (.int .i64 x1.1)).put 4 (.int .i64 x1.2.1)).put 5 (.int .i64 x1.2.2)).put 6 (.int .i64 x2.1)).put 7 (.int .i64 x2.2.1)).put 8 (.int .i64 x2.2.2))
   have hbf:aY (((((((((wr.setCell ⟨S,0,none⟩ (.int .i64 x0.1)).setCell ⟨S,1,none⟩ (.int .i64 x0.2.1)).setCell ⟨S,2,none⟩ (.int .i64 x0.2.2)).setCell ⟨S,3,none⟩ (.int .i64 x1.1)).setCell ⟨S,4,none⟩ (.int .i64 x1.2.1)).setCell ⟨S,5,none⟩ (.int .i64 x1.2.2)).setCell ⟨S,6,none⟩ (.int .i64 x2.1)).setCell ⟨S,7,none⟩ (.int .i64 x2.2.1)).setCell ⟨S,8,none⟩ (.int .i64 x2.2.2)) p s (t0.log+t1.log+t2.log):=(aB.other (aB.other (aB.other (aB.other (aB.other (aB.other (aB.other (aB.other (aB.other hbi ⟨S,0,none⟩ (.int .i64 x0.1) fP) ⟨S,1,none⟩ (.int .i64 x0.2.1) fP) ⟨S,2,none⟩ (.int .i64 x0.2.2) fP) ⟨S,3,none⟩ (.int .i64 x1.1) fP) ⟨S,4,none⟩ (.int .i64 x1.2.1) fP) ⟨S,5,none⟩ (.int .i64 x1.2.2) fP) ⟨S,6,none⟩ (.int .i64 x2.1) fP) ⟨S,7,none⟩ (.int .i64 x2.2.1) fP) ⟨S,8,none⟩ (.int .i64 x2.2.2) fP)
   have oJ:Only (fun b=>b=p) w (((((((((wr.setCell ⟨S,0,none⟩ (.int .i64 x0.1)).setCell ⟨S,1,none⟩ (.int .i64 x0.2.1)).setCell ⟨S,2,none⟩ (.int .i64 x0.2.2)).setCell ⟨S,3,none⟩ (.int .i64 x1.1)).setCell ⟨S,4,none⟩ (.int .i64 x1.2.1)).setCell ⟨S,5,none⟩ (.int .i64 x1.2.2)).setCell ⟨S,6,none⟩ (.int .i64 x2.1)).setCell ⟨S,7,none⟩ (.int .i64 x2.2.1)).setCell ⟨S,8,none⟩ (.int .i64 x2.2.2)):=(((((((((hO.setCell ⟨S,0,none⟩ (.int .i64 x0.1) hno).setCell ⟨S,1,none⟩ (.int .i64 x0.2.1) hno).setCell ⟨S,2,none⟩ (.int .i64 x0.2.2) hno).setCell ⟨S,3,none⟩ (.int .i64 x1.1) hno).setCell ⟨S,4,none⟩ (.int .i64 x1.2.1) hno).setCell ⟨S,5,none⟩ (.int .i64 x1.2.2) hno).setCell ⟨S,6,none⟩ (.int .i64 x2.1) hno).setCell ⟨S,7,none⟩ (.int .i64 x2.2.1) hno).setCell ⟨S,8,none⟩ (.int .i64 x2.2.2) hno)
   go_wp2_with fail
   generalize(((((((((wr.setCell ⟨S,0,none⟩ (.int .i64 x0.1)).setCell ⟨S,1,none⟩ (.int .i64 x0.2.1)).setCell ⟨S,2,none⟩ (.int .i64 x0.2.2)).setCell ⟨S,3,none⟩ (.int .i64 x1.1)).setCell ⟨S,4,none⟩ (.int .i64 x1.2.1)).setCell ⟨S,5,none⟩ (.int .i64 x1.2.2)).setCell ⟨S,6,none⟩ (.int .i64 x2.1)).setCell ⟨S,7,none⟩ (.int .i64 x2.2.1)).setCell ⟨S,8,none⟩ (.int .i64 x2.2.2))=wF at *
   have h0':=f_.cell (j:=0) rfl
   have h1':=f_.cell (j:=1) rfl
   have h2':=f_.cell (j:=2) rfl
   have h3':=f_.cell (j:=3) rfl
   have h4':=f_.cell (j:=4) rfl
   have h5':=f_.cell (j:=5) rfl
   have h6':=f_.cell (j:=6) rfl
   have Iu:=f_.cell (j:=7) rfl
   have h8':=f_.cell (j:=8) rfl
   exact bodyPost_ret (v:=.agg (gU x0 x1 x2).toArray) (by simp[results,results148,go_sem,gU, *]) rfl (hfin.out _ _ ⟨rfl,hbf,oJ⟩)
end Go.Proofs.YtbhemchnjpajiaaGreatDoor
