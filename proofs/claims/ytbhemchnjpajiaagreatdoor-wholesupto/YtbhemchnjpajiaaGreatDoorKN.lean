/- Several texts in one: PrNx. -/
import Derived.Test.YtbhemchnjpajiaaGreatDoorKM
set_option linter.unusedVariables false
set_option maxRecDepth 100000
set_option maxHeartbeats 4000000
namespace Go.Proofs.YtbhemchnjpajiaaGreatDoor
open Go.RowKit Go.Proofs.Tryz RD
def oK(t:RD.Tab)(x:CM.aG):Prop:=0<=x.1/\x.1<=15/\0<=x.2.1/\x.2.1<=6/\0<=x.2.2/\x.2.2+2^x.2.1.toNat<=2^t.log
def Iw(p i:Nat)(t0 t1 t2:RD.Tab)(x0 x1 x2:CM.aG)(s:aj)(w:World)(e:Ending)(w':World):Prop :=
 e=.returned (.agg (gU (aS t0.l (x0.2.2+RD.pk (ay s) i x0.2.1.toNat)) (aS t1.l (x1.2.2+RD.pk (ay s) (i+x0.2.1.toNat+x2.2.1.toNat) x1.2.1.toNat)) (aS t2.l (x2.2.2+RD.pk (ay s) (i+x0.2.1.toNat) x2.2.1.toNat))).toArray) /\
  aY w' p s (i+x0.2.1.toNat+x2.2.1.toNat+x1.2.1.toNat)/\Only (fun b=>b=p) w w'
theorem oK.nat{t:RD.Tab}{x:CM.aG}(h:oK t x):∃A B C:Nat,x=((A:Int),(B:Int),(C:Int))/\A<=15/\B<=6/\(C:Int)+2^B<=2^t.log:=by
 obtain⟨a,b,c⟩:=x
 obtain⟨h1,h2,h3,h4,h5,h6⟩:=h
 simp only[]at h1 h2 h3 h4 h5 h6
 obtain⟨A,rfl⟩:=Int.eq_ofNat_of_zero_le h1
 obtain⟨B,rfl⟩:=Int.eq_ofNat_of_zero_le h3
 obtain⟨C,rfl⟩:=Int.eq_ofNat_of_zero_le h5
 exact⟨A,B,C,rfl,by omega,by omega,by simpa using h6⟩
theorem Ze(a b c:Value)(W:World):(Instr.index 135 (.agg #[a,b,c]) (.int .i64 0)).run prog W=.ok a W:=by kernel_rfl
theorem Zf(a b c:Value)(W:World):(Instr.index 135 (.agg #[a,b,c]) (.int .i64 1)).run prog W=.ok b W:=by kernel_rfl
theorem Zg(a b c:Value)(W:World):(Instr.index 135 (.agg #[a,b,c]) (.int .i64 2)).run prog W=.ok c W:=by kernel_rfl
theorem Zh(g o p i:Nat)(t:TypeId)(gs:List Value)(t0 t1 t2:RD.Tab)(x0 x1 x2:CM.aG)(s:aj)(w:World)(hG:aB w g t gs)(hT:uj w gs o t0 t1 t2)(f0:cZ t0)(f1:cZ t1)(f2:cZ t2)
  (e0:oK t0 x0) (e1:oK t1 x1) (e2:oK t2 x2) (h:aY w p s i) (hs:s.length<=1048576) (hi:i<=1099511627) (hp0:∀a,rJ w gs o a->a≠p) (bH:g≠p) :
  Calls prog 150 #[.pointer (some ⟨g,o,none⟩),.agg (gU x0 x1 x2).toArray,.pointer (some ⟨p,0,none⟩)] w (Iw p i t0 t1 t2 x0 x1 x2 s w):=by
 obtain⟨v0,v1,v2,g1,g2,g3,g4,g5,g6,⟨a0,k0,rfl,T0⟩,⟨a1,k1,rfl,T1⟩,⟨a2,k2,rfl,T2⟩⟩:=hT.ex
 have l0:=f0.pos
 have l1:=f1.pos
 have l2:=f2.pos
 obtain⟨b0,rfl,hb0,T0⟩:=T0.resolve_left (by omega)
 obtain⟨b1,rfl,hb1,T1⟩:=T1.resolve_left (by omega)
 obtain⟨b2,rfl,hb2,T2⟩:=T2.resolve_left (by omega)
 have n0:b0≠p:=hp0 b0 ⟨_,_,_,.inl g2⟩
 have n1:b1≠p:=hp0 b1 ⟨_,_,_,.inr (.inl g4)⟩
 have n2:b2≠p:=hp0 b2 ⟨_,_,_,.inr (.inr g6)⟩
 have hgl:=hG.lt
 have hpl:=aB.lt h
 have c2:=hG.cell g2
 have c4:=hG.cell g4
 have c6:=hG.cell g6
 obtain⟨A0,B0,C0,rfl,hA0,hB0,hC0⟩:=e0.nat
 obtain⟨A1,B1,C1,rfl,hA1,hB1,oL⟩:=e1.nat
 obtain⟨A2,B2,C2,rfl,hA2,hB2,hC2⟩:=e2.nat
 have hbb:=kM s
 have m0:=iT hbb i B0
 have m2:=iT hbb (i+B0) B2
 have m1:=iT hbb (i+B0+B2) B1
 obtain⟨P0,hP0⟩:=Int.eq_ofNat_of_zero_le m0.1
 obtain⟨P1,hP1⟩:=Int.eq_ofNat_of_zero_le m1.1
 obtain⟨P2,hP2⟩:=Int.eq_ofNat_of_zero_le m2.1
 have z0:C0+P0<t0.l.length:=by
                    rw[f0.1];have e:((2^t0.log:Nat):Int)=2^t0.log:=by simp
                    omega
 have z1:C1+P1<t1.l.length:=by
                    rw[f1.1];have e:((2^t1.log:Nat):Int)=2^t1.log:=by simp
                    omega
 have z2:C2+P2<t2.l.length:=by
                    rw[f2.1];have e:((2^t2.log:Nat):Int)=2^t2.log:=by simp
                    omega
 have L0:t0.l.length<=64:=by rw[f0.1];exact Nat.pow_le_pow_right (by omega) f0.2.1
 have L1:t1.l.length<=64:=by rw[f1.1];exact Nat.pow_le_pow_right (by omega) f1.2.1
 have L2:t2.l.length<=64:=by rw[f2.1];exact Nat.pow_le_pow_right (by omega) f2.2.1
 obtain⟨Ic,Ie,Ig⟩:=xP T0 z0
 obtain⟨Ih,Ii,Ij⟩:=xP T1 z1
 obtain⟨Ik,Il,Io⟩:=xP T2 z2
 have hfin:Hid (∀e w',(e=.returned (.agg (gU (aS t0.l ((C0+P0:Nat):Int)) (aS t1.l ((C1+P1:Nat):Int)) (aS t2.l ((C2+P2:Nat):Int))).toArray)/\aY w' p s (i+B0+B2+B1)/\Only (fun b=>b=p) w w')->Iw p i t0 t1 t2 ((A0:Int),(B0:Int),(C0:Int)) ((A1:Int),(B1:Int),(C1:Int)) ((A2:Int),(B2:Int),(C2:Int)) s w e w'):=by
  intro e w' hh
  unfold Iw
  simp only[Int.toNat_natCast,hP0,hP1,hP2]
  simpa using hh
 have Ip:∀W,aY W p s i->Calls prog 164 #[.pointer (some ⟨p,0,none⟩),.int .i64 (B0:Int)] W fun e w'=>e=.returned (.int .i64 (P0:Int))/\aY w' p s (i+B0)/\Only (·=p) W w':=fun W hW=>by
  have:=tX p s i B0 W hW hs (by omega) (by omega)
  rw[hP0]at this
  exact this
 have tk2:∀W,aY W p s (i+B0)->Calls prog 164 #[.pointer (some ⟨p,0,none⟩),.int .i64 (B2:Int)] W fun e w'=>e=.returned (.int .i64 (P2:Int))/\aY w' p s (i+B0+B2)/\Only (·=p) W w':=fun W hW=>by
  have:=tX p s (i+B0) B2 W hW hs (by omega) (by omega)
  rw[hP2]at this
  exact this
 have tk1:∀W,aY W p s (i+B0+B2)->Calls prog 164 #[.pointer (some ⟨p,0,none⟩),.int .i64 (B1:Int)] W fun e w'=>e=.returned (.int .i64 (P1:Int))/\aY w' p s (i+B0+B2+B1)/\Only (·=p) W w':=fun W hW=>by
  have:=tX p s (i+B0+B2) B1 W hW hs (by omega) (by omega)
  rw[hP1]at this
  exact this
 clear m0 m1 m2 hP0 hP1 hP2 T0 T1 T2 hbb hC0 oL hC2 e0 e1 e2
 generalize aS t0.l ((C0+P0:Nat):Int)=y0 at *
 generalize aS t1.l ((C1+P1:Nat):Int)=y1 at *
 generalize aS t2.l ((C2+P2:Nat):Int)=y2 at *
 have iw0:IntKind.i64.wrap ((C0:Int)+(P0:Int))=(C0:Int)+(P0:Int):=by rw[IntKind.wrap_i64];omega
 have ia0:(0:Int)<=(C0:Int)+(P0:Int):=by omega
 have ib0:(C0:Int)+(P0:Int)<(t0.l.length:Int):=by omega
 have ic0:((C0:Int)+(P0:Int)).toNat=C0+P0:=by omega
 have iw1:IntKind.i64.wrap ((C1:Int)+(P1:Int))=(C1:Int)+(P1:Int):=by rw[IntKind.wrap_i64];omega
 have ia1:(0:Int)<=(C1:Int)+(P1:Int):=by omega
 have ib1:(C1:Int)+(P1:Int)<(t1.l.length:Int):=by omega
 have ic1:((C1:Int)+(P1:Int)).toNat=C1+P1:=by omega
 have iw2:IntKind.i64.wrap ((C2:Int)+(P2:Int))=(C2:Int)+(P2:Int):=by rw[IntKind.wrap_i64];omega
 have ia2:(0:Int)<=(C2:Int)+(P2:Int):=by omega
 have ib2:(C2:Int)+(P2:Int)<(t2.l.length:Int):=by omega
 have ic2:((C2:Int)+(P2:Int)).toNat=C2+P2:=by omega
 have Y6:=Ze
 have Y7:=Zf
 have Y8:=Zg
 go_enter func150,ntmps150
 go_wp2_with fail
 have mg:aB ((w.alloc (.cells (gU ((A0:Int),(B0:Int),(C0:Int)) ((A1:Int),(B1:Int),(C1:Int)) ((A2:Int),(B2:Int),(C2:Int))).toArray 275)).alloc (.cells #[.int .i64 0,.int .i64 0,.int .i64 0,.int .i64 0,.int .i64 0,.int .i64 0,.int .i64 0,.int .i64 0,.int .i64 0] 275)) w.heap.size 275 [.int .i64 (A0:Int),.int .i64 (B0:Int),.int .i64 (C0:Int),.int .i64 (A1:Int),.int .i64 (B1:Int),.int .i64 (C1:Int),.int .i64 (A2:Int),.int .i64 (B2:Int),.int .i64 (C2:Int)]:=(aB.new w 275 (gU ((A0:Int),(B0:Int),(C0:Int)) ((A1:Int),(B1:Int),(C1:Int)) ((A2:Int),(B2:Int),(C2:Int)))).alloc _
 have hR0:aB ((w.alloc (.cells (gU ((A0:Int),(B0:Int),(C0:Int)) ((A1:Int),(B1:Int),(C1:Int)) ((A2:Int),(B2:Int),(C2:Int))).toArray 275)).alloc (.cells #[.int .i64 0,.int .i64 0,.int .i64 0,.int .i64 0,.int .i64 0,.int .i64 0,.int .i64 0,.int .i64 0,.int .i64 0] 275)) (w.heap.size+1) 275 [.int .i64 0,.int .i64 0,.int .i64 0,.int .i64 0,.int .i64 0,.int .i64 0,.int .i64 0,.int .i64 0,.int .i64 0]:=by
  have:=aB.new (w.alloc (.cells (gU ((A0:Int),(B0:Int),(C0:Int)) ((A1:Int),(B1:Int),(C1:Int)) ((A2:Int),(B2:Int),(C2:Int))).toArray 275)) 275 [.int .i64 0,.int .i64 0,.int .i64 0,.int .i64 0,.int .i64 0,.int .i64 0,.int .i64 0,.int .i64 0,.int .i64 0]
  simpa using this
 have vV:Below w.heap.size w ((w.alloc (.cells (gU ((A0:Int),(B0:Int),(C0:Int)) ((A1:Int),(B1:Int),(C1:Int)) ((A2:Int),(B2:Int),(C2:Int))).toArray 275)).alloc (.cells #[.int .i64 0,.int .i64 0,.int .i64 0,.int .i64 0,.int .i64 0,.int .i64 0,.int .i64 0,.int .i64 0,.int .i64 0] 275)):=((Below.refl _ w).alloc (Nat.le_refl _) _).alloc (by simp) _
 generalize((w.alloc (.cells (gU ((A0:Int),(B0:Int),(C0:Int)) ((A1:Int),(B1:Int),(C1:Int)) ((A2:Int),(B2:Int),(C2:Int))).toArray 275)).alloc (.cells #[.int .i64 0,.int .i64 0,.int .i64 0,.int .i64 0,.int .i64 0,.int .i64 0,.int .i64 0,.int .i64 0,.int .i64 0] 275))=w2 at *
 have hi0:aY w2 p s i:=aB.below h vV hpl
 have iL:Only (fun b=>b=p) w w2:=aH vV
 obtain⟨S,hS⟩:∃S,S=w.heap.size:=⟨_,rfl⟩
 rw[<- hS]at mg hR0 hpl hgl hb0 hb1 hb2
 rw[<- hS]
 replace hS:=aA hS
 clear vV
 go_loopg[11] 4 (fun gh kv wr=>∃(k j:Nat)(cs:List Value),gh=4-k/\k<=3/\kv=.int .i64 (k:Int)/\Hid ((k=0/\j=i/\cs=[.int .i64 (A0:Int),.int .i64 (B0:Int),.int .i64 (C0:Int),.int .i64 (A1:Int),.int .i64 (B1:Int),.int .i64 (C1:Int),.int .i64 (A2:Int),.int .i64 (B2:Int),.int .i64 (C2:Int)])\/(k=1/\j=(i+B0)/\cs=[.int .i64 y0.1,.int .i64 y0.2.1,.int .i64 y0.2.2,.int .i64 (A1:Int),.int .i64 (B1:Int),.int .i64 (C1:Int),.int .i64 (A2:Int),.int .i64 (B2:Int),.int .i64 (C2:Int)])\/(k=2/\j=(i+B0+B2)/\cs=[.int .i64 y0.1,.int .i64 y0.2.1,.int .i64 y0.2.2,.int .i64 (A1:Int),.int .i64 (B1:Int),.int .i64 (C1:Int),.int .i64 y2.1,.int .i64 y2.2.1,.int .i64 y2.2.2])\/(k=3/\j=(i+B0+B2+B1)/\cs=[.int .i64 y0.1,.int .i64 y0.2.1,.int .i64 y0.2.2,.int .i64 y1.1,.int .i64 y1.2.1,.int .i64 y1.2.2,.int .i64 y2.1,.int .i64 y2.2.1,.int .i64 y2.2.2])) /\
   aY wr p s j/\aB wr S 275 cs/\(∃rs,aB wr (S+1) 275 rs/\rs.length=9)/\Only (fun b=>b=p) w wr)
 case atStart=>exact⟨0,i,_,by omega,by omega,rfl,.inl ⟨rfl,rfl,rfl⟩,hi0,mg,⟨_,hR0,rfl⟩,iL⟩
 case round =>
  obtain⟨k,j,cs,rfl,hk,rfl,hA,hbi,hF,⟨rs,hR,hrl⟩,hO⟩:=hrel
  have hsz:=hO.size
  rw[<- hS.out]at hsz
  have kV:=hF.lt
  have hRl:=hR.lt
  rcases hA.out with⟨rfl,hj0,rfl⟩|⟨rfl,rfl,rfl⟩|⟨rfl,rfl,rfl⟩|⟨rfl,rfl,rfl⟩
  ·rw[hj0]at hbi
   have w0:=hO.cell Ic (by have:=hS.out;omega) n0
   have w1:=hO.cell Ie (by have:=hS.out;omega) n0
   have w2:=hO.cell Ig (by have:=hS.out;omega) n0
   have cg:=hO.cell c2 (by have:=hS.out;omega) bH
   have t0':=hF.cell (j:=0) rfl
   have t1':=hF.cell (j:=1) rfl
   have t2':=hF.cell (j:=2) rfl
   have iM:Only (fun b=>b=p) w (wr.alloc (.cells #[.int .i64 (A0:Int),.int .i64 (B0:Int),.int .i64 (C0:Int)] 226)):=hO.alloc _
   have hba:Below wr.heap.size wr (wr.alloc (.cells #[.int .i64 (A0:Int),.int .i64 (B0:Int),.int .i64 (C0:Int)] 226)):=(Below.refl _ wr).alloc (Nat.le_refl _) _
   have hN:aB (wr.alloc (.cells #[.int .i64 (A0:Int),.int .i64 (B0:Int),.int .i64 (C0:Int)] 226)) wr.heap.size 226 [.int .i64 (A0:Int),.int .i64 (B0:Int),.int .i64 (C0:Int)]:=aB.new _ _ _
   go_wp2_with fail
   have oH:aY _ p s i:=aB.below hbi hba (aB.lt hbi)
   have hF':=hF.below hba kV
   have hR':=hR.below hba hR.lt
   have v0':=(World.cell?_of_block (w:=wr) (a:=⟨b0,(C0+P0)*3,none⟩) (hba.block b0 (by omega))).trans w0
   have v1':=(World.cell?_of_block (w:=wr) (a:=⟨b0,(C0+P0)*3+1,none⟩) (hba.block b0 (by omega))).trans w1
   have v2':=(World.cell?_of_block (w:=wr) (a:=⟨b0,(C0+P0)*3+2,none⟩) (hba.block b0 (by omega))).trans w2
   have oM:=(World.cell?_of_block (w:=wr) (a:=⟨g,o+2,none⟩) (hba.block g (by omega))).trans cg
   have hbl:=hba.size
   generalize(wr.alloc (.cells #[.int .i64 (A0:Int),.int .i64 (B0:Int),.int .i64 (C0:Int)] 226))=w4 at *
   have hNl:=hN.lt
   have eu:¬wr.heap.size=p:=by omega
   have eU:¬S=p:=by omega
   have jB:¬S+1=p:=by omega
   have Ai:=hN.cell (j:=0) rfl
   have Aj:=hN.cell (j:=1) rfl
   have Ak:=hN.cell (j:=2) rfl
   have hbw:b0<w4.heap.size:=by omega
   have hgw:g<w4.heap.size:=by omega
   have Am:w4.cell? ⟨g,o+1+0+1,none⟩=some (.slice (some ⟨b0,0,none⟩) t0.l.length k0):=oM
   have Ap:w4.cell? ⟨g,o+1+1,none⟩=some (.slice (some ⟨b0,0,none⟩) t0.l.length k0):=oM
   clear hA hbi hF hR hO w0 w1 w2 hba t0' t1' t2' cg
   replace hN:=aA hN
   replace hF':=aA hF'
   replace hR':=aA hR'
   replace iM:=aA iM
   generalize wr.heap.size=M at *
   go_region_with(go_at_call 164;refine(Ip w4.drew oH).mono ?_;rintro e w5 ⟨rfl,hb5,oI⟩;(have aX:=dM oI);(have Oz:=aX.cell Ai hNl eu);(have OA:=aX.cell Aj hNl eu);(have OB:=aX.cell Ak hNl eu);(have OC:=aX.cell oM hgw bH);(have OD:=aX.cell Am hgw bH);(have OE:=aX.cell Ap hgw bH);(have Af:=aX.cell v0' hbw n0);(have Ag:=aX.cell v1' hbw n0);(have Ah:=aX.cell v2' hbw n0);(have bV:=hF'.out.only aX eU);(have fz:=bV.free);(have d0:=bV.cell (j:=0) rfl);(have d1:=bV.cell (j:=1) rfl);(have d2:=bV.cell (j:=2) rfl);(replace bV:=aA bV))
   all_goals
    have dX:=((bV.out.put 0 (.int .i64 y0.1)).put 1 (.int .i64 y0.2.1)).put 2 (.int .i64 y0.2.2)
    have hb6:aY (((w5.setCell ⟨S,0,none⟩ (.int .i64 y0.1)).setCell ⟨S,1,none⟩ (.int .i64 y0.2.1)).setCell ⟨S,2,none⟩ (.int .i64 y0.2.2)) p s (i+B0):=aB.other (aB.other (aB.other hb5 ⟨S,0,none⟩ _ (fun e=>eU e.symm)) ⟨S,1,none⟩ _ (fun e=>eU e.symm)) ⟨S,2,none⟩ _ (fun e=>eU e.symm)
    have fO:=(((hR'.out.only aX jB).other ⟨S,0,none⟩ (.int .i64 y0.1) (by show S+1≠S;omega)).other ⟨S,1,none⟩ (.int .i64 y0.2.1) (by show S+1≠S;omega)).other ⟨S,2,none⟩ (.int .i64 y0.2.2) (by show S+1≠S;omega)
    have bT:Only (fun b=>b=p) w (((w5.setCell ⟨S,0,none⟩ (.int .i64 y0.1)).setCell ⟨S,1,none⟩ (.int .i64 y0.2.1)).setCell ⟨S,2,none⟩ (.int .i64 y0.2.2)) :=
     (((iM.out.trans aX).setCell _ _ (fun e=>absurd e (by have:=hS.out;show ¬(S<_);omega))).setCell _ _ (fun e=>absurd e (by have:=hS.out;show ¬(S<_);omega))).setCell _ _ (fun e=>absurd e (by have:=hS.out;show ¬(S<_);omega))
    replace dX:=aA dX
    replace hb6:=aA hb6
    replace fO:=aA fO
    replace bT:=aA bT
    go_wp2_with fail
    go_roundg(4-1)
    case rel=>exact⟨1,(i+B0),_,by omega,by omega,by go_num,.inr (.inl ⟨rfl,rfl,rfl⟩),hb6.out,dX.out,⟨rs,fO.out,hrl⟩,bT.out⟩
    case measure=>omega
  ·skip
   have w0:=hO.cell Ik (by have:=hS.out;omega) n2
   have w1:=hO.cell Il (by have:=hS.out;omega) n2
   have w2:=hO.cell Io (by have:=hS.out;omega) n2
   have cg:=hO.cell c6 (by have:=hS.out;omega) bH
   have t0':=hF.cell (j:=6) rfl
   have t1':=hF.cell (j:=7) rfl
   have t2':=hF.cell (j:=8) rfl
   have iM:Only (fun b=>b=p) w (wr.alloc (.cells #[.int .i64 (A2:Int),.int .i64 (B2:Int),.int .i64 (C2:Int)] 226)):=hO.alloc _
   have hba:Below wr.heap.size wr (wr.alloc (.cells #[.int .i64 (A2:Int),.int .i64 (B2:Int),.int .i64 (C2:Int)] 226)):=(Below.refl _ wr).alloc (Nat.le_refl _) _
   have hN:aB (wr.alloc (.cells #[.int .i64 (A2:Int),.int .i64 (B2:Int),.int .i64 (C2:Int)] 226)) wr.heap.size 226 [.int .i64 (A2:Int),.int .i64 (B2:Int),.int .i64 (C2:Int)]:=aB.new _ _ _
   go_wp2_with fail
   have oH:aY _ p s (i+B0):=aB.below hbi hba (aB.lt hbi)
   have hF':=hF.below hba kV
   have hR':=hR.below hba hR.lt
   have v0':=(World.cell?_of_block (w:=wr) (a:=⟨b2,(C2+P2)*3,none⟩) (hba.block b2 (by omega))).trans w0
   have v1':=(World.cell?_of_block (w:=wr) (a:=⟨b2,(C2+P2)*3+1,none⟩) (hba.block b2 (by omega))).trans w1
   have v2':=(World.cell?_of_block (w:=wr) (a:=⟨b2,(C2+P2)*3+2,none⟩) (hba.block b2 (by omega))).trans w2
   have oM:=(World.cell?_of_block (w:=wr) (a:=⟨g,o+6,none⟩) (hba.block g (by omega))).trans cg
   have hbl:=hba.size
   generalize(wr.alloc (.cells #[.int .i64 (A2:Int),.int .i64 (B2:Int),.int .i64 (C2:Int)] 226))=w4 at *
   have hNl:=hN.lt
   have eu:¬wr.heap.size=p:=by omega
   have eU:¬S=p:=by omega
   have jB:¬S+1=p:=by omega
   have Ai:=hN.cell (j:=0) rfl
   have Aj:=hN.cell (j:=1) rfl
   have Ak:=hN.cell (j:=2) rfl
   have hbw:b2<w4.heap.size:=by omega
   have hgw:g<w4.heap.size:=by omega
   have Am:w4.cell? ⟨g,o+1+4+1,none⟩=some (.slice (some ⟨b2,0,none⟩) t2.l.length k2):=oM
   have Ap:w4.cell? ⟨g,o+1+5,none⟩=some (.slice (some ⟨b2,0,none⟩) t2.l.length k2):=oM
   clear hA hbi hF hR hO w0 w1 w2 hba t0' t1' t2' cg
   replace hN:=aA hN
   replace hF':=aA hF'
   replace hR':=aA hR'
   replace iM:=aA iM
   generalize wr.heap.size=M at *
   go_region_with(go_at_call 164;refine(tk2 w4.drew oH).mono ?_;rintro e w5 ⟨rfl,hb5,oI⟩;(have aX:=dM oI);(have Oz:=aX.cell Ai hNl eu);(have OA:=aX.cell Aj hNl eu);(have OB:=aX.cell Ak hNl eu);(have OC:=aX.cell oM hgw bH);(have OD:=aX.cell Am hgw bH);(have OE:=aX.cell Ap hgw bH);(have Af:=aX.cell v0' hbw n2);(have Ag:=aX.cell v1' hbw n2);(have Ah:=aX.cell v2' hbw n2);(have bV:=hF'.out.only aX eU);(have fz:=bV.free);(have d0:=bV.cell (j:=6) rfl);(have d1:=bV.cell (j:=7) rfl);(have d2:=bV.cell (j:=8) rfl);(replace bV:=aA bV))
   all_goals
    have dX:=((bV.out.put 6 (.int .i64 y2.1)).put 7 (.int .i64 y2.2.1)).put 8 (.int .i64 y2.2.2)
    have hb6:aY (((w5.setCell ⟨S,6,none⟩ (.int .i64 y2.1)).setCell ⟨S,7,none⟩ (.int .i64 y2.2.1)).setCell ⟨S,8,none⟩ (.int .i64 y2.2.2)) p s (i+B0+B2):=aB.other (aB.other (aB.other hb5 ⟨S,6,none⟩ _ (fun e=>eU e.symm)) ⟨S,7,none⟩ _ (fun e=>eU e.symm)) ⟨S,8,none⟩ _ (fun e=>eU e.symm)
    have fO:=(((hR'.out.only aX jB).other ⟨S,6,none⟩ (.int .i64 y2.1) (by show S+1≠S;omega)).other ⟨S,7,none⟩ (.int .i64 y2.2.1) (by show S+1≠S;omega)).other ⟨S,8,none⟩ (.int .i64 y2.2.2) (by show S+1≠S;omega)
    have bT:Only (fun b=>b=p) w (((w5.setCell ⟨S,6,none⟩ (.int .i64 y2.1)).setCell ⟨S,7,none⟩ (.int .i64 y2.2.1)).setCell ⟨S,8,none⟩ (.int .i64 y2.2.2)) :=
     (((iM.out.trans aX).setCell _ _ (fun e=>absurd e (by have:=hS.out;show ¬(S<_);omega))).setCell _ _ (fun e=>absurd e (by have:=hS.out;show ¬(S<_);omega))).setCell _ _ (fun e=>absurd e (by have:=hS.out;show ¬(S<_);omega))
    replace dX:=aA dX
    replace hb6:=aA hb6
    replace fO:=aA fO
    replace bT:=aA bT
    go_wp2_with fail
    go_roundg(4-2)
    case rel=>exact⟨2,(i+B0+B2),_,by omega,by omega,by go_num,.inr (.inr (.inl ⟨rfl,rfl,rfl⟩)),hb6.out,dX.out,⟨rs,fO.out,hrl⟩,bT.out⟩
    case measure=>omega
  ·skip
   have w0:=hO.cell Ih (by have:=hS.out;omega) n1
   have w1:=hO.cell Ii (by have:=hS.out;omega) n1
   have w2:=hO.cell Ij (by have:=hS.out;omega) n1
   have cg:=hO.cell c4 (by have:=hS.out;omega) bH
   have t0':=hF.cell (j:=3) rfl
   have t1':=hF.cell (j:=4) rfl
   have t2':=hF.cell (j:=5) rfl
   have iM:Only (fun b=>b=p) w (wr.alloc (.cells #[.int .i64 (A1:Int),.int .i64 (B1:Int),.int .i64 (C1:Int)] 226)):=hO.alloc _
   have hba:Below wr.heap.size wr (wr.alloc (.cells #[.int .i64 (A1:Int),.int .i64 (B1:Int),.int .i64 (C1:Int)] 226)):=(Below.refl _ wr).alloc (Nat.le_refl _) _
   have hN:aB (wr.alloc (.cells #[.int .i64 (A1:Int),.int .i64 (B1:Int),.int .i64 (C1:Int)] 226)) wr.heap.size 226 [.int .i64 (A1:Int),.int .i64 (B1:Int),.int .i64 (C1:Int)]:=aB.new _ _ _
   go_wp2_with fail
   have oH:aY _ p s (i+B0+B2):=aB.below hbi hba (aB.lt hbi)
   have hF':=hF.below hba kV
   have hR':=hR.below hba hR.lt
   have v0':=(World.cell?_of_block (w:=wr) (a:=⟨b1,(C1+P1)*3,none⟩) (hba.block b1 (by omega))).trans w0
   have v1':=(World.cell?_of_block (w:=wr) (a:=⟨b1,(C1+P1)*3+1,none⟩) (hba.block b1 (by omega))).trans w1
   have v2':=(World.cell?_of_block (w:=wr) (a:=⟨b1,(C1+P1)*3+2,none⟩) (hba.block b1 (by omega))).trans w2
   have oM:=(World.cell?_of_block (w:=wr) (a:=⟨g,o+4,none⟩) (hba.block g (by omega))).trans cg
   have hbl:=hba.size
   generalize(wr.alloc (.cells #[.int .i64 (A1:Int),.int .i64 (B1:Int),.int .i64 (C1:Int)] 226))=w4 at *
   have hNl:=hN.lt
   have eu:¬wr.heap.size=p:=by omega
   have eU:¬S=p:=by omega
   have jB:¬S+1=p:=by omega
   have Ai:=hN.cell (j:=0) rfl
   have Aj:=hN.cell (j:=1) rfl
   have Ak:=hN.cell (j:=2) rfl
   have hbw:b1<w4.heap.size:=by omega
   have hgw:g<w4.heap.size:=by omega
   have Am:w4.cell? ⟨g,o+1+2+1,none⟩=some (.slice (some ⟨b1,0,none⟩) t1.l.length k1):=oM
   have Ap:w4.cell? ⟨g,o+1+3,none⟩=some (.slice (some ⟨b1,0,none⟩) t1.l.length k1):=oM
   clear hA hbi hF hR hO w0 w1 w2 hba t0' t1' t2' cg
   replace hN:=aA hN
   replace hF':=aA hF'
   replace hR':=aA hR'
   replace iM:=aA iM
   generalize wr.heap.size=M at *
   go_region_with(go_at_call 164;refine(tk1 w4.drew oH).mono ?_;rintro e w5 ⟨rfl,hb5,oI⟩;(have aX:=dM oI);(have Oz:=aX.cell Ai hNl eu);(have OA:=aX.cell Aj hNl eu);(have OB:=aX.cell Ak hNl eu);(have OC:=aX.cell oM hgw bH);(have OD:=aX.cell Am hgw bH);(have OE:=aX.cell Ap hgw bH);(have Af:=aX.cell v0' hbw n1);(have Ag:=aX.cell v1' hbw n1);(have Ah:=aX.cell v2' hbw n1);(have bV:=hF'.out.only aX eU);(have fz:=bV.free);(have d0:=bV.cell (j:=3) rfl);(have d1:=bV.cell (j:=4) rfl);(have d2:=bV.cell (j:=5) rfl);(replace bV:=aA bV))
   all_goals
    have dX:=((bV.out.put 3 (.int .i64 y1.1)).put 4 (.int .i64 y1.2.1)).put 5 (.int .i64 y1.2.2)
    have hb6:aY (((w5.setCell ⟨S,3,none⟩ (.int .i64 y1.1)).setCell ⟨S,4,none⟩ (.int .i64 y1.2.1)).setCell ⟨S,5,none⟩ (.int .i64 y1.2.2)) p s (i+B0+B2+B1):=aB.other (aB.other (aB.other hb5 ⟨S,3,none⟩ _ (fun e=>eU e.symm)) ⟨S,4,none⟩ _ (fun e=>eU e.symm)) ⟨S,5,none⟩ _ (fun e=>eU e.symm)
    have fO:=(((hR'.out.only aX jB).other ⟨S,3,none⟩ (.int .i64 y1.1) (by show S+1≠S;omega)).other ⟨S,4,none⟩ (.int .i64 y1.2.1) (by show S+1≠S;omega)).other ⟨S,5,none⟩ (.int .i64 y1.2.2) (by show S+1≠S;omega)
    have bT:Only (fun b=>b=p) w (((w5.setCell ⟨S,3,none⟩ (.int .i64 y1.1)).setCell ⟨S,4,none⟩ (.int .i64 y1.2.1)).setCell ⟨S,5,none⟩ (.int .i64 y1.2.2)) :=
     (((iM.out.trans aX).setCell _ _ (fun e=>absurd e (by have:=hS.out;show ¬(S<_);omega))).setCell _ _ (fun e=>absurd e (by have:=hS.out;show ¬(S<_);omega))).setCell _ _ (fun e=>absurd e (by have:=hS.out;show ¬(S<_);omega))
    replace dX:=aA dX
    replace hb6:=aA hb6
    replace fO:=aA fO
    replace bT:=aA bT
    go_wp2_with fail
    go_roundg(4-3)
    case rel=>exact⟨3,(i+B0+B2+B1),_,by omega,by omega,by go_num,.inr (.inr (.inr ⟨rfl,rfl,rfl⟩)),hb6.out,dX.out,⟨rs,fO.out,hrl⟩,bT.out⟩
    case measure=>omega
  ·have Y9:=hF.free
   have Oy:=hR.free
   have d0:=hF.cell (j:=0) rfl
   have d1:=hF.cell (j:=1) rfl
   have d2:=hF.cell (j:=2) rfl
   have d3:=hF.cell (j:=3) rfl
   have d4:=hF.cell (j:=4) rfl
   have d5:=hF.cell (j:=5) rfl
   have d6:=hF.cell (j:=6) rfl
   have d7:=hF.cell (j:=7) rfl
   have d8:=hF.cell (j:=8) rfl
   obtain⟨r0,r1,r2,r3,r4,r5,r6,r7,r8,rfl⟩:∃r0 r1 r2 r3 r4 r5 r6 r7 r8,rs=[r0,r1,r2,r3,r4,r5,r6,r7,r8]:=by
    match rs,hrl with
    | [r0,r1,r2,r3,r4,r5,r6,r7,r8],_=>exact⟨r0,r1,r2,r3,r4,r5,r6,r7,r8,rfl⟩
   have Y_:=hR.cell (j:=0) rfl
   have f1':=hR.cell (j:=1) rfl
   have f2':=hR.cell (j:=2) rfl
   have f3':=hR.cell (j:=3) rfl
   have Za:=hR.cell (j:=4) rfl
   have Zb:=hR.cell (j:=5) rfl
   have Zc:=hR.cell (j:=6) rfl
   have f7':=hR.cell (j:=7) rfl
   have Zd:=hR.cell (j:=8) rfl
   have fP:p≠S+1:=by omega
   have hno:S+1<w.heap.size->S+1=p:=fun e=>absurd e (by have:=hS.out;omega)
   have f_:aB (((((((((wr.setCell ⟨S+1,0,none⟩ (.int .i64 y0.1)).setCell ⟨S+1,1,none⟩ (.int .i64 y0.2.1)).setCell ⟨S+1,2,none⟩ (.int .i64 y0.2.2)).setCell ⟨S+1,3,none⟩ (.int .i64 y1.1)).setCell ⟨S+1,4,none⟩ (.int .i64 y1.2.1)).setCell ⟨S+1,5,none⟩ (.int .i64 y1.2.2)).setCell ⟨S+1,6,none⟩ (.int .i64 y2.1)).setCell ⟨S+1,7,none⟩ (.int .i64 y2.2.1)).setCell ⟨S+1,8,none⟩ (.int .i64 y2.2.2)) (S+1) 275 (gU y0 y1 y2):=(((((((((hR.put 0 (.int .i64 y0.1)).put 1 (.int .i64 y0.2.1)).put 2 (.int .i64 y0.2.2)).put 3 (.int .i64 y1.1)).put 4 (.int .i64 y1.2.1)).put 5 (.int .i64 y1.2.2)).put 6 (.int .i64 y2.1)).put 7 (.int .i64 y2.2.1)).put 8 (.int .i64 y2.2.2))
   have hbf:aY (((((((((wr.setCell ⟨S+1,0,none⟩ (.int .i64 y0.1)).setCell ⟨S+1,1,none⟩ (.int .i64 y0.2.1)).setCell ⟨S+1,2,none⟩ (.int .i64 y0.2.2)).setCell ⟨S+1,3,none⟩ (.int .i64 y1.1)).setCell ⟨S+1,4,none⟩ (.int .i64 y1.2.1)).setCell ⟨S+1,5,none⟩ (.int .i64 y1.2.2)).setCell ⟨S+1,6,none⟩ (.int .i64 y2.1)).setCell ⟨S+1,7,none⟩ (.int .i64 y2.2.1)).setCell ⟨S+1,8,none⟩ (.int .i64 y2.2.2)) p s (i+B0+B2+B1):=(aB.other (aB.other (aB.other (aB.other (aB.other (aB.other (aB.other (aB.other (aB.other hbi ⟨S+1,0,none⟩ (.int .i64 y0.1) fP) ⟨S+1,1,none⟩ (.int .i64 y0.2.1) fP) ⟨S+1,2,none⟩ (.int .i64 y0.2.2) fP) ⟨S+1,3,none⟩ (.int .i64 y1.1) fP) ⟨S+1,4,none⟩ (.int .i64 y1.2.1) fP) ⟨S+1,5,none⟩ (.int .i64 y1.2.2) fP) ⟨S+1,6,none⟩ (.int .i64 y2.1) fP) ⟨S+1,7,none⟩ (.int .i64 y2.2.1) fP) ⟨S+1,8,none⟩ (.int .i64 y2.2.2) fP)
   have oJ:Only (fun b=>b=p) w (((((((((wr.setCell ⟨S+1,0,none⟩ (.int .i64 y0.1)).setCell ⟨S+1,1,none⟩ (.int .i64 y0.2.1)).setCell ⟨S+1,2,none⟩ (.int .i64 y0.2.2)).setCell ⟨S+1,3,none⟩ (.int .i64 y1.1)).setCell ⟨S+1,4,none⟩ (.int .i64 y1.2.1)).setCell ⟨S+1,5,none⟩ (.int .i64 y1.2.2)).setCell ⟨S+1,6,none⟩ (.int .i64 y2.1)).setCell ⟨S+1,7,none⟩ (.int .i64 y2.2.1)).setCell ⟨S+1,8,none⟩ (.int .i64 y2.2.2)):=(((((((((hO.setCell ⟨S+1,0,none⟩ (.int .i64 y0.1) hno).setCell ⟨S+1,1,none⟩ (.int .i64 y0.2.1) hno).setCell ⟨S+1,2,none⟩ (.int .i64 y0.2.2) hno).setCell ⟨S+1,3,none⟩ (.int .i64 y1.1) hno).setCell ⟨S+1,4,none⟩ (.int .i64 y1.2.1) hno).setCell ⟨S+1,5,none⟩ (.int .i64 y1.2.2) hno).setCell ⟨S+1,6,none⟩ (.int .i64 y2.1) hno).setCell ⟨S+1,7,none⟩ (.int .i64 y2.2.1) hno).setCell ⟨S+1,8,none⟩ (.int .i64 y2.2.2) hno)
   go_wp2_with fail
   generalize(((((((((wr.setCell ⟨S+1,0,none⟩ (.int .i64 y0.1)).setCell ⟨S+1,1,none⟩ (.int .i64 y0.2.1)).setCell ⟨S+1,2,none⟩ (.int .i64 y0.2.2)).setCell ⟨S+1,3,none⟩ (.int .i64 y1.1)).setCell ⟨S+1,4,none⟩ (.int .i64 y1.2.1)).setCell ⟨S+1,5,none⟩ (.int .i64 y1.2.2)).setCell ⟨S+1,6,none⟩ (.int .i64 y2.1)).setCell ⟨S+1,7,none⟩ (.int .i64 y2.2.1)).setCell ⟨S+1,8,none⟩ (.int .i64 y2.2.2))=wF at *
   have h0':=f_.cell (j:=0) rfl
   have h1':=f_.cell (j:=1) rfl
   have h2':=f_.cell (j:=2) rfl
   have h3':=f_.cell (j:=3) rfl
   have h4':=f_.cell (j:=4) rfl
   have h5':=f_.cell (j:=5) rfl
   have h6':=f_.cell (j:=6) rfl
   have Iu:=f_.cell (j:=7) rfl
   have h8':=f_.cell (j:=8) rfl
   exact bodyPost_ret (v:=.agg (gU y0 y1 y2).toArray) (by simp[results,results150,go_sem,gU, *]) rfl (hfin.out _ _ ⟨rfl,hbf,oJ⟩)
end Go.Proofs.YtbhemchnjpajiaaGreatDoor
