/- Several texts in one: PrSmall, PrOff, PrRd, PrIx. -/
import Derived.Test.YtbhemchnjpajiaaGreatDoorJH
import Derived.Test.YtbhemchnjpajiaaGreatDoorJG
import Derived.Laws.IdiomCopy
set_option linter.unusedVariables false
set_option maxRecDepth 100000
set_option maxHeartbeats 1000000
namespace Go.Proofs.YtbhemchnjpajiaaGreatDoor
open Go RD
theorem Ov{c:aC}{fed:aj}{a:RD.St}(h:RD.Reach c (RD.St.start fed) a):a.frames+a.left.length<=fed.length/\a.f.blocks+a.left.length<=fed.length/\a.f.text.length<=a.text.length/\a.text.length+1024*a.left.length<=1024*fed.length:=by
 refine⟨?_,?_,?_,?_⟩
 case refine_4 =>
  have:=(RD.Reach.less h).2.2
  simpa[RD.St.start]using this
 all_goals
  generalize hs:RD.St.start fed=s at h
  induction h with
  | refl=>subst hs;simp[RD.St.start,RD.Fr.new]
  | tail hr hst ih =>
   have hl:=xC hst
   rename_i t u
   obtain⟨fr,ph,f,left,text⟩:=t
   unfold RD.step at hst
   cases ph with
   | letters =>
    simp only[]at hst
    split at hst
    ·cases hst
    ·split at hst
     ·cases hst;simp only[]at ih hl⊢;omega
     ·split at hst
      ·cases hst;simp only[]at ih hl⊢;omega
      ·cases hst
   | skip =>
    simp only[]at hst
    split at hst
    ·cases hst
    ·cases hst;simp only[RD.Fr.new,List.length_nil]at ih hl⊢;omega
   | header =>
    simp only[]at hst
    cases hx:RD.header c left with
    | wants=>rw[hx]at hst;cases hst
    | err e=>rw[hx]at hst;cases hst
    | ok r =>
     rw[hx]at hst
     cases hst
     have hn:r.1.blocks=0/\r.1.text=[]:=by
      unfold RD.header at hx
      repeat' (first|split at hx|(simp only[]at hx))
      all_goals first|(cases hx;done)|(cases hx;exact⟨rfl,rfl⟩)
     simp only[hn.1,hn.2,List.length_nil]at ih hl⊢
     omega
   | blocks =>
    simp only[]at hst
    cases hx:RD.block f left with
    | wants=>rw[hx]at hst;cases hst
    | err e=>rw[hx]at hst;cases hst
    | ok r =>
     rw[hx]at hst
     have hbl:=DI hx
     obtain⟨last,f',l',t'⟩:=r
     simp only[]at hst hbl
     split at hst
     ·cases hst
      simp only[hbl.2.2.1,hbl.2.2.2,List.length_append]at ih hl⊢
      omega
     ·split at hst
      ·cases hst
       simp only[hbl.2.2.1,hbl.2.2.2,List.length_append]at ih hl⊢
       omega
      ·cases hst
       simp only[RD.Fr.new,List.length_nil,List.length_append]at ih hl⊢
       omega
   | sum =>
    simp only[]at hst
    split at hst
    ·cases hst
    ·split at hst
     ·cases hst
     ·cases hst;simp only[RD.Fr.new,List.length_nil]at ih hl⊢;omega
end Go.Proofs.YtbhemchnjpajiaaGreatDoor
namespace Go.Proofs.YtbhemchnjpajiaaGreatDoor
open Go.RowKit Go.Proofs.Tryz RD
theorem H_{P:Program}{ops:Array Oper}{o:Oper}{a:Act}{w:World}{K:Act->World->Prop}{Q:Exit->Act->World->Prop}{E:Prop}(hg:o.guard=none)(d s:Operand)(dT sT:TypeId)
  (hop:o.op=Op.call { callee:=Callee.builtin Builtin.copy,args:=#[d,s],argTypes:=#[dT,sT] }) (u v r:Value) (w':World) (hd:a.eval d=u) (hs:a.eval s=v) (hrun:(Builtin.copy_ #[dT,sT] o.type #[u,v]).run P w=.ok r w') (hK:K (a.put o.dst r) w') :
  if Region.wanted o (yielded ops a.tmps)=true then Oper.wp P o a w K Q else E:=by
 have hw:Region.wanted o (yielded ops a.tmps)=true:=by simp[Region.wanted,hg]
 rw[if_pos hw]
 unfold Oper.wp
 simp[execOp,hop,resolve,invoke,builtin,hd,hs,hrun,Result.andThen]
 exact hK
def iq(x y z v n:Int):Int×Nat :=
 if 3<v then(v-3,2)
 else if(if n=0 then v+1 else v)=4 then(x-1,2)
 else if(if n=0 then v+1 else v)=1 then(x,0)
 else if(if n=0 then v+1 else v)=2 then(y,1)
 else(z,2)
theorem YV(g o:Nat)(t:TypeId)(gs:List Value)(x y z v n:Int)(w:World)(hG:aB w g t gs)(h0:gs[o]?=some (.int .i64 x))(h1:gs[o+1]?=some (.int .i64 y))(h2:gs[o+2]?=some (.int .i64 z))
  (hv:1<=v/\v<=65536) (hn:0<=n/\n<=65536) (hx:1<=x/\x<=65536) :
  Calls prog 176 #[.pointer (some ⟨g,o,none⟩),.int .i64 v,.int .i64 n] w fun e w'=>e=.returned (.tuple #[.int .i64 (iq x y z v n).1,.int .i64 ((iq x y z v n).2:Nat)])/\Below w.heap.size w w':=by
 have c0:=hG.cell h0
 have c1:=hG.cell h1
 have c2:=hG.cell h2
 by_cases h3:3<v
 ·have hf:iq x y z v n=(v-3,2):=by unfold iq;rw[if_pos h3]
  rw[hf]
  clear hf
  go_enter func176,ntmps176
  go_wp2
  go_ret2
  exact⟨rfl,d_ _⟩
 ·by_cases hz:n=0
  ·subst hz
   rcases(by omega:v=1\/v=2\/v=3)with rfl|rfl|rfl
   all_goals
    go_enter func176,ntmps176
    go_wp2
    try(go_quiet(fail);go_wp2)
    go_ret2
    first|exact⟨rfl,d_ _⟩|exact⟨rfl,below_drewN _ _⟩
  ·have hzb:(n==0)=false:=by simpa using hz
   have hf:iq x y z v n=if v=1 then(x,0)else if v=2 then(y,1)else(z,2):=by
    unfold iq
    rw[if_neg h3,if_neg hz,if_neg (by omega)]
   rw[hf]
   clear hf
   rcases(by omega:v=1\/v=2\/v=3)with rfl|rfl|rfl
   all_goals
    go_enter func176,ntmps176
    go_wp2
    try(go_quiet(fail);go_wp2)
    go_ret2
    first|exact⟨rfl,d_ _⟩|exact⟨rfl,below_drewN _ _⟩
theorem YW(x y z v n:Int)(hv:1<=v):(bG [x,y,z] v n).1=(iq x y z v n).1 /\
  (bG [x,y,z] v n).2=(if(iq x y z v n).2=2 then[(iq x y z v n).1,x,y]else if(iq x y z v n).2=1 then[(iq x y z v n).1,x,z]else[(iq x y z v n).1,y,z]):=by
 unfold bG iq
 by_cases h3:3<v
 ·rw[if_pos h3,if_pos h3]
  exact⟨rfl,rfl⟩
 rw[if_neg h3,if_neg h3]
 simp only[]
 generalize(if n=0 then v+1 else v)=i
 by_cases h4:i=4
 ·rw[if_pos h4,if_pos h4]
  exact⟨rfl,rfl⟩
 rw[if_neg h4,if_neg h4]
 by_cases h1:i=1
 ·rw[if_pos h1,if_pos h1]
  exact⟨rfl,rfl⟩
 rw[if_neg h1,if_neg h1]
 by_cases h2:i=2
 ·rw[if_pos h2,if_pos h2]
  exact⟨rfl,rfl⟩
 rw[if_neg h2,if_neg h2]
 exact⟨rfl,rfl⟩
theorem YX(x y z v n:Int):(iq x y z v n).2=0\/(iq x y z v n).2=1\/(iq x y z v n).2=2:=by
 unfold iq
 repeat' split
 all_goals simp
theorem YZ(g o:Nat)(t:TypeId)(gs:List Value)(x y z v n:Int)(w:World)(hG:aB w g t gs)(h0:gs[o]?=some (.int .i64 x))(h1:gs[o+1]?=some (.int .i64 y))(h2:gs[o+2]?=some (.int .i64 z))
  (hv:1<=v/\v<=65536) (hn:0<=n/\n<=65536) (hx:1<=x/\x<=65536) :
  Calls prog 167 #[.pointer (some ⟨g,o,none⟩),.int .i64 v,.int .i64 n] w fun e w'=>e=.returned (.int .i64 (bG [x,y,z] v n).1) /\
   ∃a b c,bG [x,y,z] v n=((bG [x,y,z] v n).1,[a,b,c])/\aB w' g t (((gs.set o (.int .i64 a)).set (o+1) (.int .i64 b)).set (o+2) (.int .i64 c))/\Only (·=g) w w':=by
 obtain⟨hb1,hb2⟩:=YW x y z v n hv.1
 have hfr:=YX x y z v n
 go_enter func167,ntmps167
 go_wp2_with fail
 refine(YV g o t gs x y z v n _ hG h0 h1 h2 hv hn hx).mono ?_
 rintro e w1 ⟨rfl,hbel⟩
 have hG1:=hG.below hbel hG.lt
 have hbb:Hid (bG [x,y,z] v n=((iq x y z v n).1,if(iq x y z v n).2=2 then[(iq x y z v n).1,x,y]else if(iq x y z v n).2=1 then[(iq x y z v n).1,x,z]else[(iq x y z v n).1,y,z])):=by
  rw[Hid,<- hb2,<- hb1]
 clear hb1 hb2
 generalize iq x y z v n=F at *
 obtain⟨O,k⟩:=F
 simp only[]at hfr hbb⊢
 have c0:=hG1.cell h0
 have c1:=hG1.cell h1
 have c2:=hG1.cell h2
 have fz:=hG1.free
 have hu:prog.underlying 27=some (.slice 3):=underlying27
 have hsz:(prog.info? 3).map (·.size)=some 1:=by kernel_rfl
 have hol:=List.getElem?_eq_some_iff.1 h2
 obtain⟨hol,-⟩:=hol
 have rH:Only (·=g) w w1:=aH hbel
 have hsame:∀{l:List Value}{j:Nat}{u:Value},l[j]?=some u->l.set j u=l:=fun h=>qg h
 rcases hfr with rfl|rfl|rfl
 ·have hG2:=hG1.put o (.int .i64 O)
  go_wp2_with fail
  go_region_law(refine H_ rfl (.tmp 18) (.tmp 22) 27 27 rfl (.slice (some ⟨g,o+1,none⟩) 2 2) (.slice (some ⟨g,o,none⟩) 0 3) (goInt 0) _ (by simp[Act.eval,Act.put]) (by simp[Act.eval,Act.put]) (run_copy_none _ _ _ _ _ _ _ _ _ _ _ hu hsz (by decide)) ?_)
  go_wp2_with fail
  go_ret
  refine⟨by rw[hbb.out];rfl,O,y,z,by rw[hbb.out];rfl,?_,(rH.drew).setCell _ _ (fun _=>rfl)⟩
  rw[hsame (l:=gs.set o (.int .i64 O)) (by rw[List.getElem?_set_ne (by omega)];exact h1),hsame (by rw[List.getElem?_set_ne (by omega)];exact h2)]
  exact hG2
 ·have hG2:=(hG1.put (o+1) (.int .i64 x)).put o (.int .i64 O)
  have hrun:=fun W(hc0:W.cell? ⟨g,o,none⟩=some (.int .i64 x))(hc1:W.cell? ⟨g,o+1,none⟩=some (.int .i64 y))(hz:∀j,W.frozen? ⟨g,j,none⟩=false) =>
   run_copy_cells (P:=prog) W 27 27 3 3 g (o+1) 2 2 ⟨g,o,none⟩ 1 3 [.int .i64 x] hu hsz rfl
    (fun j u hj=>by
     match j,hj with
     | 0,hj=>rw[addr_add];simp at hj;subst hj;exact hc0)
    (fun j hj=>by
     match j,hj with
     | 0,hj=>rw[Nat.add_zero,hc1];rfl) (fun j hj=>hz _) (one_one _)
  go_wp2_with fail
  go_region_law(refine H_ rfl (.tmp 18) (.tmp 22) 27 27 rfl (.slice (some ⟨g,o+1,none⟩) 2 2) (.slice (some ⟨g,o,none⟩) 1 3) _ _ (by simp[Act.eval,Act.put]) (by simp[Act.eval,Act.put]) (hrun _ c0 c1 fz) ?_)
  all_goals
   simp only[World.setCells]
   go_wp2_with fail
   go_ret
   refine⟨by rw[hbb.out];rfl,O,x,z,by rw[hbb.out];rfl,?_,?_⟩
   ·rw[List.set_comm _ _ (show o≠o+1 by omega),hsame (l:=(gs.set (o+1) (.int .i64 x)).set o (.int .i64 O)) (by rw[List.getElem?_set_ne (by omega),List.getElem?_set_ne (by omega)];exact h2)]
    exact hG2
   ·exact((rH.drew).setCell _ _ (fun _=>rfl)).setCell _ _ (fun _=>rfl)
 ·have hG2:=((hG1.put (o+1) (.int .i64 x)).put (o+2) (.int .i64 y)).put o (.int .i64 O)
  have hrun:=fun W(hc0:W.cell? ⟨g,o,none⟩=some (.int .i64 x))(hc1:W.cell? ⟨g,o+1,none⟩=some (.int .i64 y))(hc2:W.cell? ⟨g,o+2,none⟩=some (.int .i64 z))(hz:∀j,W.frozen? ⟨g,j,none⟩=false) =>
   run_copy_cells (P:=prog) W 27 27 3 3 g (o+1) 2 2 ⟨g,o,none⟩ 2 3 [.int .i64 x,.int .i64 y] hu hsz rfl
    (fun j u hj=>by
     match j,hj with
     | 0,hj=>rw[addr_add];simp at hj;subst hj;exact hc0
     | 1,hj=>rw[addr_add];simp at hj;subst hj;exact hc1)
    (fun j hj=>by
     match j,hj with
     | 0,hj=>rw[Nat.add_zero,hc1];rfl
     | 1,hj=>rw[hc2];rfl) (fun j hj=>hz _) (NI _ _)
  go_wp2_with fail
  go_region_law(refine H_ rfl (.tmp 18) (.tmp 22) 27 27 rfl (.slice (some ⟨g,o+1,none⟩) 2 2) (.slice (some ⟨g,o,none⟩) 2 3) _ _ (by simp[Act.eval,Act.put]) (by simp[Act.eval,Act.put]) (hrun _ c0 c1 c2 fz) ?_)
  all_goals
   simp only[World.setCells]
   go_wp2_with fail
   go_ret
   refine⟨by rw[hbb.out];rfl,O,x,y,by rw[hbb.out];rfl,?_,?_⟩
   ·rw[List.set_comm _ _ (show o≠o+1 by omega),List.set_comm _ _ (show o≠o+2 by omega)]
    exact hG2
   ·exact(((rH.drew).setCell _ _ (fun _=>rfl)).setCell _ _ (fun _=>rfl)).setCell _ _ (fun _=>rfl)
theorem Y0(c:Nat)(h:c<=16):((2^c:Nat):Int)<=65536/\(0:Int)<((2^c:Nat):Int):=by
 have a:2^c<=2^16:=Nat.pow_le_pow_right (by omega) h
 have b:=Nat.two_pow_pos c
 omega
theorem Ia(c:Nat)(h:c<=16):(0:Int)<2^c/\(2:Int)^c<=65536:=by
 have:=Y0 c h
 have e:((2^c:Nat):Int)=(2:Int)^c:=by simp
 omega
theorem Y1(p:Nat)(s:aj)(i c:Nat)(w:World)(h:aY w p s i)(hs:s.length<=1048576)(hi:i<=549755813888)(hc:c<=15) :
  Calls prog 165 #[.int .i64 c,.pointer (some ⟨p,0,none⟩)] w fun e w'=>e=.returned (.int .i64 (2^c+RD.pk (ay s) i c))/\aY w' p s (i+c)/\Only (·=p) w w':=by
 have hpk:=Dk (kM s) i c (by omega)
 have hp:=aA (Ia c (by omega))
 go_enter func165,ntmps165
 go_wp2_with fail
 go_region_with(go_at_call 164;refine(tX p s i c w.drew h hs hi (by omega)).mono ?_;rintro e w1 ⟨rfl,hb,ho⟩)
 go_wp2
 go_ret
 refine⟨xk ?_,hb,⟨ho.os,ho.tape,ho.output,ho.size,ho.block⟩⟩
 have hp:=hp.out
 generalize(2:Int)^c=P at *
 simp only[IntKind.wrap_i64]
 omega
theorem Ox(p:Nat)(s:aj)(i c:Nat)(w:World)(h:aY w p s i)(hs:s.length<=1048576)(hi:i<=549755813888)(hc:c<=15) :
  Calls prog 166 #[.int .i64 c,.pointer (some ⟨p,0,none⟩)] w fun e w'=>e=.returned (.int .i64 (aU (ay s) i c).1)/\aY w' p s (aU (ay s) i c).2/\Only (·=p) w w':=by
 by_cases h8:c<8
 ·go_enter func166,ntmps166
  go_wp2_with fail
  go_ret
  unfold aU
  rw[if_pos h8]
  exact⟨rfl,h,Only.refl _ _⟩
 ·obtain⟨d,rfl⟩:∃d,c=d+7:=⟨c-7,by omega⟩
  have hpk:=Dk (kM s) i d (by omega)
  have hpl:Hid (aU (ay s) i (d+7)=(2^d+6+RD.pk (ay s) i d,i+d)):=by
   unfold Hid aU
   rw[if_neg h8,Nat.add_sub_cancel]
  go_enter func166,ntmps166
  go_wp2_with fail
  go_region_with(go_at_call 164;refine(tX p s i d w.drew h hs hi (by omega)).mono ?_;rintro e w1 ⟨rfl,hb,ho⟩)
  go_wp2
  go_ret
  have hp:=Ia d (by omega)
  rw[hpl.out]
  refine⟨xk ?_,hb,⟨ho.os,ho.tape,ho.output,ho.size,ho.block⟩⟩
  simp only[]
  generalize(2:Int)^d=P at *
  simp only[IntKind.wrap_i64]
  omega
theorem Y2(a b c d e f:Value)(W:World):(Instr.index 134 (.agg #[a,b,c,d,e,f]) (.int .i64 0)).run prog W=.ok (.agg #[a,b]) W:=by kernel_rfl
theorem Y3(a b c d e f:Value)(W:World):(Instr.index 134 (.agg #[a,b,c,d,e,f]) (.int .i64 1)).run prog W=.ok (.agg #[c,d]) W:=by kernel_rfl
theorem Y4(a b c d e f:Value)(W:World):(Instr.index 134 (.agg #[a,b,c,d,e,f]) (.int .i64 2)).run prog W=.ok (.agg #[e,f]) W:=by kernel_rfl
end Go.Proofs.YtbhemchnjpajiaaGreatDoor
