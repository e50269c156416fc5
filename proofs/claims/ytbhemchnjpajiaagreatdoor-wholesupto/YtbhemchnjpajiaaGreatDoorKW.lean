/- Several texts in one: PrTb5, PrFil. -/
import Derived.Test.YtbhemchnjpajiaaGreatDoorKV
import Derived.Test.YtbhemchnjpajiaaGreatDoorJH
set_option linter.unusedVariables false
set_option maxRecDepth 100000
set_option maxHeartbeats 4000000
namespace Go.Proofs.YtbhemchnjpajiaaGreatDoor
open Go.RowKit Go.Proofs.Tryz RD
theorem PS(lg:Nat)(z:List Int)(h:lg=5\/lg=6)(hf:TM.dZ z (2^lg:Nat)=true) :
  (table lg z).length=2^lg/\∀x∈table lg z,0<=x.1/\x.1<=15/\0<=x.2.1/\x.2.1<=6/\0<=x.2.2/\x.2.2+2^x.2.1.toNat<=2^lg:=by
 refine⟨TM.mW _ _,fun x hx=>?_⟩
 obtain⟨f1,f2,f3,f4⟩:=TM.CY hf
 have hS:TM.Size (2^lg):=by rcases h with rfl|rfl;exact .inl rfl;exact .inr rfl
 have hS1:1<=2^lg:=Nat.one_le_two_pow
 have rY:lg<=6:=by omega
 obtain⟨p,hp,rfl⟩:∃p,p<2^lg/\x=TM.st z lg (2^lg:Nat) (TM.F z (2^lg) z.length) p:=by
  unfold table TM.tab at hx
  obtain⟨p,hp,rfl⟩:=List.mem_map.1 hx
  exact⟨p,by simpa using hp,rfl⟩
 obtain⟨s,hs,hsn,hpl⟩:=TM.syms z (2^lg) z.length hS f1 f4 p hp
 obtain⟨x1,x2⟩:=TM.CX z (2^lg) hS1 f1 (TM.F z (2^lg) z.length) p hp ⟨s,hs,hpl⟩
 generalize TM.F z (2^lg) z.length=F at *
 unfold TM.st TM.bs
 simp only
 generalize TM.X z F p=X at *
 have e2:(2:Int)^(lg+1)=2*((2^lg:Nat):Int):=by rw[Int.pow_succ];simp;omega
 obtain⟨b1,b2,b3,b4⟩:=TM.zo lg rY X x1 (by rw[e2];omega)
 have e1:((2^lg:Nat):Int)=(2:Int)^lg:=by simp
 rw[e2]at b4
 rw[e1]at b4⊢
 rw[Int.add_mul,Int.one_mul]at b4
 refine⟨by omega,by omega,b1,by omega,by omega,by omega⟩
theorem Ej{k wy:Nat}{old:RD.Tab}{s:aj}{r:RD.Tab×Nat}(hk:k<=2)(h:aZ k wy old s=some r)(ho:old.there=true->cZ old):cZ r.1:=by
 have hm:RD.most k<=16:=by unfold RD.most;split<;>omega
 unfold aZ at h
 split at h
 ·injection h with h
  rw[<- h]
  obtain⟨p1,p2,-,-⟩:=PK k hk
  obtain⟨n5,e5,vZ,hfb⟩:=Eb p1
  obtain rfl:n5=5:=by omega
  have:=PS 5 (iV k) vZ hfb
  rw[p2]at this
  exact⟨this.1,(by decide:5<=6),this.2⟩
 ·split at h
  ·split at h
   ·cases h
   ·rename_i h1
    injection h with h
    rw[<- h]
    refine⟨rfl,(by decide:0<=6),fun x hx=>?_⟩
    rw[List.mem_singleton.1 hx]
    simp only
    have h2:¬RD.most k<=ak s 0:=fun e=>h1 (.inr e)
    refine⟨by omega,by omega,by omega,by omega,by omega,by decide⟩
  ·split at h
   ·split at h
    ·cases h
    ·simp only[]at h
     split at h
     ·rename_i hg
      injection h with h
      rw[<- h]
      obtain⟨n5,e5,vZ,hfb⟩:=Eb hg
      obtain rfl:ak s 0%16=n5:=by omega
      have:=PS _ _ vZ hfb
      exact⟨this.1,(by omega:ak s 0%16<=6),this.2⟩
     ·cases h
   ·split at h
    ·rename_i hth
     injection h with h
     rw[<- h]
     exact ho hth
    ·cases h
def wu(T:Tabs):Prop:=∀k,k<=2->(nS k T).there=true->cZ (nS k T)
theorem PU{md:Nat}{T:Tabs}{s:aj}(hT:wu T):∀k,k<=3->∀{T':Tabs}{q:Nat},gy md T s k=some (T',q)->wu T'/\∀j,j<k->(nS j T').there=true
 | 0,_,T',q,h=>by
  obtain⟨rfl,rfl⟩:=Prod.mk.inj (Option.some.inj h)
  exact⟨hT,fun j hj=>by omega⟩
 | k+1,hk,T',q,h=>by
  cases e:gy md T s k with
  | none=>rw[gy,e]at h;cases h
  | some r =>
   obtain⟨T1,q1⟩:=r
   obtain⟨i1,i2⟩:=PU hT k (by omega) e
   rw[AQ e]at h
   cases e2:aZ k (md/4^k%4) (nS k T1) (s.drop q1)with
   | none=>rw[e2]at h;cases h
   | some r2 =>
    obtain⟨t,c⟩:=r2
    rw[e2]at h
    obtain⟨rfl,rfl⟩:=Prod.mk.inj (Option.some.inj h)
    have hf:=Ej (by omega) e2 (fun e=>i1 k (by omega) e)
    have ht:=Ei e2
    refine⟨fun j hj hth=>?_,fun j hj=>?_⟩
    ·by_cases ej:j=k
     ·subst ej;rw[I4 j t T1 hj];exact hf
     ·rw[I5 k j t T1 (by omega) hj ej]at hth⊢;exact i1 j hj hth
    ·by_cases ej:j=k
     ·subst ej;rw[I4 j t T1 (by omega)];exact ht
     ·rw[I5 k j t T1 (by omega) (by omega) ej];exact i2 j (by omega)
theorem rV.AA{w:World}{v:Value}{t:RD.Tab}(h:rV w v t):dA w v t.l:=by
 rcases h with⟨rfl,rfl⟩|⟨-,h⟩
 ·exact⟨none,0,rfl,.inl rfl⟩
 ·exact h.AA
theorem iC.tabs{w:World}{gs:List Value}{o:Nat}{T:Tabs}(h:iC w gs o T):uj w gs o T.1 T.2.1 T.2.2:=by
 obtain⟨v0,a0,b0,c0⟩:=h 0 (by omega)
 obtain⟨v1,a1,b1,c1⟩:=h 1 (by omega)
 obtain⟨v2,a2,b2,c2⟩:=h 2 (by omega)
 exact⟨v0,v1,v2,a0,b0,a1,b1,a2,b2,c0.AA,c1.AA,c2.AA⟩
def nT(T:Tabs)(last:List Int)(s:aj):Option (List RD.S3×Tabs×List Int) :=
 if s.length=0 then none
 else if ak s 0=0 then(if s.length=1 then some ([],T,last)else none)
 else if s.length=1\/64<=ak s 1 then none
 else match gy (ak s 1) T (s.drop 2) 3 with
  | none=>none
  | some (T',q)=>match kN (ay (s.drop (2+q))) T'.1 T'.2.1 T'.2.2 last (ak s 0-1)with
   | none=>none
   | some (L,pos,la)=>if pos<=(ay (s.drop (2+q))).length/\RD.rest (ay (s.drop (2+q))) pos=true then some (L,T',la)else none
def aa8(x:Fx)(g o M n:Nat)(t:TypeId)(gs:List Value)(T:Tabs)(last:List Int)(s:aj)(w:World)(e:Ending)(w':World):Prop :=
 Only (fun b=>b=M\/b=g) w w' /\
  ((nT T last s=none/\e=.returned (.tuple #[.slice none 0 0,aW x.f])/\∃gs',aB w' g t gs'/\gs'.length=gs.length/\∀j,j<o+1\/o+10<=j->gs'[j]?=gs[j]?) \/
   ∃L T' a b c v gs',nT T last s=some (L,T',[a,b,c])/\e=.returned (.tuple #[v,.nilIface])/\(∀q∈L,qo q)/\dG [a,b,c]/\wu T'/\L.length<=255/\w'.ownsRow w.heap.size 264 3 v L.length (fB L)/\aB w' g t gs'/\(∀j,j<o+1\/o+10<=j->gs'[j]?=gs[j]?)/\gs'.length=gs.length/\gs'[o+7]?=some (.int .i64 a)/\gs'[o+8]?=some (.int .i64 b)/\gs'[o+9]?=some (.int .i64 c)/\iC w' gs' o T'/\bP w' M (n+3))
theorem iC.lives{w:World}{gs:List Value}{o a:Nat}{T:Tabs}(h:iC w gs o T)(ha:rJ w gs o a):∃xs,aB w a 226 xs:=by
 have key:∀k,k<=2->∀d n c,gs[o+1+k*2+1]?=some (.slice (some ⟨a,d,none⟩) n c)->∃xs,aB w a 226 xs:=fun k hk d n c e=>by
  obtain⟨v,-,h2,h3⟩:=h k hk
  rw[e]at h2
  injection h2 with h2
  rcases h3 with⟨-,h3⟩|⟨-,b,cc,h3,hb⟩
  ·rw[<- h2]at h3;cases h3
  ·rw[<- h2]at h3
   injection h3 with h3 _ _
   injection h3 with h3
   injection h3 with h3 _ _
   rw[h3]
   exact⟨_,hb⟩
 obtain⟨d,n,c,e|e|e⟩:=ha
 ·exact key 0 (by omega) d n c e
 ·exact key 1 (by omega) d n c e
 ·exact key 2 (by omega) d n c e
theorem Only.then'{G G2:Nat->Prop}{a b c:World}(h:Only G a b)(k:Only G2 b c)(hg:∀i,i<a.heap.size->G2 i->G i):Only G a c :=
 ⟨k.os.trans h.os,k.tape.trans h.tape,k.output.trans h.output,Nat.le_trans h.size k.size,fun i hi hn=>(k.block i (Nat.lt_of_lt_of_le hi h.size) (fun e=>hn (hg i hi e))).trans (h.block i hi hn)⟩
theorem aa9(x:Fx)(s:aj)(w:World)(hV:bI x w) :
  Calls prog 136 #[.string (ah s)] w fun e w'=>e=.returned (if s.length=0 then .nilIface else aW x.f)/\Below w.heap.size w w':=by
 have cF:=hV.cF
 by_cases h:s.length=0
 ·rw[if_pos h]
  have hs:ah s=⟨#[]⟩:=by rw[List.length_eq_zero_iff.1 h];rfl
  rw[hs]
  go_enter func136,ntmps136
  go_wp2_with fail
  go_ret
  exact⟨rfl,d_ w⟩
 ·rw[if_neg h]
  have hs:(ah s).toList.isEmpty=false:=by
   rw[ByteArray.toList_eq,lX]
   cases s with
   | nil=>simp at h
   | cons a r=>rfl
  have hz:=aQ s
  have hs2:¬ah s=⟨#[]⟩:=fun e=>by rw[e]at hz;exact h hz.symm
  go_enter func136,ntmps136
  go_wp2_with fail
  go_ret
  exact⟨rfl,d_ w⟩
theorem aa_(x:Fx)(g o M n:Nat)(t:TypeId)(gs:List Value)(T:Tabs)(r0 r1 r2:Int)(s:aj)(w:World)(hG:aB w g t gs)(hg0:gs[o]?=some (.map (some M)))(hT:iC w gs o T)(hF:wu T)(hV:bI x w)(hs:s.length<=1048576)(hM:bP w M n)(hn:n<900000000)(fV:x.base<=M)(hgb:x.base<=g)(htt:t≠226)
  (hr0:gs[o+7]?=some (.int .i64 r0)) (hr1:gs[o+8]?=some (.int .i64 r1)) (hr2:gs[o+9]?=some (.int .i64 r2)) (hla:dG [r0,r1,r2]) :
  Calls prog 124 #[.pointer (some ⟨g,o,none⟩),.string (ah s)] w (aa8 x g o M n t gs T [r0,r1,r2] s w):=by
 go_enter func124,ntmps124
 have hb0:Below w.heap.size w (w.alloc (.cells #[.string (ah s)] 216)):=(Below.refl _ w).alloc (Nat.le_refl _) _
 have h0:bD (w.alloc (.cells #[.string (ah s)] 216)) w.heap.size s:=aB.new w 216 [.string (ah s)]
 have hV0:=hV.below hb0
 have hG0:=hG.below hb0 hG.lt
 have hM0:=hM.only (aH (G:=fun _=>False) hb0) (fun e=>e) (fun _ _ _ e=>e)
 have hT0:=hT.only (aH (G:=fun _=>False) hb0) (fun _ _ _ e=>e)
 have jP:=hV.size
 have hgl:=hG.lt
 go_wp2_with fail
 refine(vH x w.heap.size s 1 _ h0 hV0 (by omega) (by omega)).mono ?_
 obtain⟨p,hp⟩:∃p,p=w.heap.size:=⟨_,rfl⟩
 rw[<- hp]at h0 jP hgl⊢
 have gI:∀i,i<w.heap.size->(i=p\/i=M\/i=g)->(i=M\/i=g):=fun i hi e=>e.elim (fun e=>by omega) id
 generalize w.alloc (.cells #[.string (ah s)] 216)=w1 at *
 replace hp:=aA hp
 have bH:g≠p:=by omega
 rintro e w2 (⟨h1,rfl,hb⟩|⟨h1,rfl,rfl⟩)
 ·go_wp2_with fail
  go_ret2
  exact⟨(aH hb0).trans (aH hb),.inl ⟨by rw[nT,if_pos (by omega)],rfl,gs,hG0.below hb hG0.lt,rfl,fun _ _=>rfl⟩⟩
 ·have hnum:au (s.take 1)=ak s 0:=vJ s (by omega)
  have hat:ak s 0<=255:=dQ s 0
  have gW:=(Only.refl (·=p) w1).setCell ⟨p,0,none⟩ (.string (ah (s.drop 1))) (fun _=>rfl)
  have aF:Only (fun b=>b=M\/b=g) w (w1.setCell ⟨p,0,none⟩ (.string (ah (s.drop 1)))):=(aH (G:=fun b=>b=M\/b=g) hb0).then' gW (fun i hi e=>by have:=hp.out;omega)
  have hG1:=hG0.only gW bH
  have hM1:=hM0.only gW (fun e=>hM0.ne h0 e) (fun b xs hb e=>hb.apart h0 (by decide) e)
  have hp1:bD (w1.setCell ⟨p,0,none⟩ (.string (ah (s.drop 1)))) p (s.drop 1):=aB.put h0 0 _
  have hV1:=hV0.only gW (fun k e=>by rw[e];exact jP)
  have hT1:=hT0.only gW (fun b xs hb e=>hb.apart h0 (by decide) e)
  rw[hnum]
  replace hnum:=aA hnum
  clear gW
  generalize w1.setCell ⟨p,0,none⟩ (.string (ah (s.drop 1)))=w2 at *
  obtain⟨c,hc⟩:∃c,ak s 0=c:=⟨_,rfl⟩
  rw[hc]at hat⊢
  obtain⟨s1,hs1⟩:∃s1,s.drop 1=s1:=⟨_,rfl⟩
  have aiV:s1.length=s.length-1:=by rw[<- hs1,List.length_drop]
  have ha1:ak s1 0=ak s 1:=by
   rw[<- hs1]
   unfold ak
   rw[List.getD_eq_getElem?_getD,List.getD_eq_getElem?_getD,List.getElem?_drop]
  have hd1:s1.drop 1=s.drop 2:=by rw[<- hs1,List.drop_drop]
  rw[hs1]at hp1
  have cp:=aB.cell hp1 (j:=0) rfl
  have PN:s1.length<=1048576:=by omega
  replace hs1:=aA hs1
  replace hd1:=aA hd1
  replace ha1:=aA ha1
  by_cases hc0:c=0
  ·subst hc0
   have hwn:=aA (fun W hV=>aa9 x s1 W hV)
   by_cases hl0:s1.length=0
   ·go_wp2_with fail
    refine(hwn.out _ hV1).mono ?_
    rintro e w3 ⟨rfl,hb3⟩
    rw[if_pos hl0]
    go_wp2_with fail
    go_ret2
    have hle:s.length=1:=by omega
    refine⟨aF.trans (aH hb3),.inr ⟨[],T,r0,r1,r2,.slice none 0 0,gs,by rw[nT,if_neg (by omega),if_pos hc,if_pos hle],rfl,by simp,hla,hF,by simp,World.ownsRow_nil _ _ _ _,hG1.below hb3 hG1.lt,fun _ _=>rfl,rfl,hr0,hr1,hr2,hT1.only (aH (G:=fun _=>False) hb3) (fun _ _ _ e=>e),(hM1.only (aH (G:=fun _=>False) hb3) (fun e=>e) (fun _ _ _ e=>e)).up.up.up⟩⟩
   ·go_wp2_with fail
    refine(hwn.out _ hV1).mono ?_
    rintro e w3 ⟨rfl,hb3⟩
    rw[if_neg hl0]
    go_wp2_with fail
    go_ret2
    exact⟨aF.trans (aH hb3),.inl ⟨by rw[nT,if_neg (by omega),if_pos hc,if_neg (by omega)],rfl,gs,hG1.below hb3 hG1.lt,rfl,fun _ _=>rfl⟩⟩
  ·have aiW:¬(c:Int)=0:=by omega
   have hrt:=aA (aa4 x g o p M n t gs T s1 w2 hG1 hg0 hT1 hp1 hV1 PN hM1 hn jP fV hgb bH htt)
   go_wp2_with fail
   refine hrt.out.mono ?_
   rintro e w3 ⟨hO3,(⟨hbad,rfl,AX,rO,PV⟩|⟨T',q,gs',k1,k2,k3,rfl,hG3,dL,bZ,hp3,gK⟩)⟩
   ·go_wp2_with fail
    go_ret2
    refine⟨aF.then' hO3 gI,.inl ⟨?_,rfl,AX,rO,PV.1,fun j hj=>PV.2 j (by omega)⟩⟩
    rw[ha1.out,hd1.out]at hbad
    rw[nT,if_neg (by omega),if_neg (by rw[hc];exact hc0)]
    rcases hbad with hbad|hbad|hbad
    ·rw[if_pos (.inl (by omega))]
    ·rw[if_pos (.inr hbad)]
    ·rw[hbad]
     split<;>rfl
   ·rw[ha1.out]at k2 k3
    rw[hd1.out]at k3
    rw[<- hs1.out,List.drop_drop]at hp3
    have qh:=aF.then' hO3 gI
    obtain⟨hF3,I7⟩:=PU hF 3 (by omega) k3
    obtain⟨S2,hS2⟩:∃S2,s.drop (2+q)=S2:=⟨_,rfl⟩
    rw[show 1+(1+q)=2+q by omega,hS2]at hp3
    have PW:S2.length<=1048576:=by rw[<- hS2,List.length_drop];omega
    have cp3:=aB.cell hp3 (j:=0) rfl
    have pY:=hV1.only hO3 (fun k e=>e.elim (fun e=>by rw[e];exact jP) (fun e=>e.elim (fun e=>by rw[e];exact fV) (fun e=>by rw[e];exact hgb)))
    have hseq:nT T [r0,r1,r2] s=match kN (ay S2) T'.1 T'.2.1 T'.2.2 [r0,r1,r2] (c-1)with
      | none=>none
      | some (L,pos,la)=>if pos<=(ay S2).length/\RD.rest (ay S2) pos=true then some (L,T',la)else none:=by
     rw[nT,if_neg (by omega),if_neg (by rw[hc];exact hc0),if_neg (by omega),k3]
     simp only[]
     rw[hS2,hc]
    have hbp:=aA (fun W=>MN S2 W)
    have hb4:Below w3.heap.size w3 (w3.alloc (.cells #[.string (ah S2),.int .i64 0] 274)):=(Below.refl _ w3).alloc (Nat.le_refl _) _
    have hB4:=aY.new S2 w3
    have hG4:=hG3.below hb4 hG3.lt
    have kZ:=gK.only (aH (G:=fun _=>False) hb4) (fun e=>e) (fun _ _ _ e=>e)
    have gV:=bZ.only (aH (G:=fun _=>False) hb4) (fun _ _ _ e=>e)
    have x9:=pY.below hb4
    have hO4:Only (fun b=>b=M\/b=g) w (w3.alloc (.cells #[.string (ah S2),.int .i64 0] 274)):=qh.trans (aH hb4)
    have hws:w.heap.size<=w3.heap.size:=qh.size
    have abb:=pY.size
    have abd:=hG3.lt
    replace hS2:=aA hS2
    replace hseq:=aA hseq
    replace hO3:=aA hO3
    replace qh:=aA qh
    replace hb4:=aA hb4
    replace k3:=aA k3
    go_wp2_with fail
    refine(hbp.out _).mono ?_
    rintro e w4 ⟨rfl,hw4⟩
    rw[<- hw4]at hB4 hG4 kZ gV x9 hO4
    obtain⟨P2,hP2⟩:∃P2,w3.heap.size=P2:=⟨_,rfl⟩
    rw[hP2]at hB4 hws abb abd⊢
    replace hw4:=aA hw4
    replace hP2:=aA hP2
    have hlv:∀a,rJ w4 gs' o a->¬(a=P2\/a=g):=fun a ha=>by
     obtain⟨xs,hxs⟩:=gV.lives ha
     exact fun e=>e.elim (fun e=>hxs.apart hB4 (by decide) e) (fun e=>hxs.apart hG4 (fun e=>htt e.symm) e)
    have hrl:=aA (Zz x g o P2 c t gs' T'.1 T'.2.1 T'.2.2 r0 r1 r2 S2 w4 hG4 gV.tabs (hF3 0 (by omega) (I7 0 (by omega))) (hF3 1 (by omega) (I7 1 (by omega))) (hF3 2 (by omega) (I7 2 (by omega))) hB4 PW ⟨by omega,by omega⟩ ((dL.2 (o+7) (.inr (by omega))).trans hr0) ((dL.2 (o+8) (.inr (by omega))).trans hr1) ((dL.2 (o+9) (.inr (by omega))).trans hr2) hla hlv (by omega) x9 (by omega) hgb)
    go_wp2_with fail
    refine hrl.out.mono ?_
    rintro e w5 ⟨dB,(⟨hnone,rfl,AX,ae,be,ce,rO,hRe⟩|⟨L,pos,a,b,c',v,gs5,k5,rfl,k6,k7,k8,k9,hown,qj,oN,jC⟩)⟩
    ·go_wp2_with fail
     go_ret2
     refine⟨hO4.then' dB (fun i hi e=>e.elim (fun e=>by omega) .inr),.inl ⟨?_,rfl,AX,rO,by rw[hRe.len];exact dL.1,fun j hj=>by rw[hRe.rest j (by omega) (by omega) (by omega)];exact dL.2 j (by omega)⟩⟩
     rw[hseq.out,hnone]
    ·have xY:=hO4.then' dB (fun i hi e=>e.elim (fun e=>by omega) .inr)
     have abe:w.heap.size<=w4.heap.size:=hO4.size
     have kW:iC w5 gs5 o T':=fun k hk=>by
      obtain⟨v',e1,e2,e3⟩:=gV k hk
      exact⟨v',by rw[jC.rest _ (by omega) (by omega) (by omega)];exact e1,by rw[jC.rest _ (by omega) (by omega) (by omega)];exact e2,e3.only dB (fun b xs hb e=>e.elim (fun e=>hb.apart hB4 (by decide) e) (fun e=>hb.apart hG4 (fun e=>htt e.symm) e))⟩
     have IZ:=kZ.only dB (fun e=>e.elim (fun e=>kZ.ne hB4 e) (fun e=>kZ.ne hG4 e)) (fun b xs hb e=>e.elim (fun e=>hb.apart hB4 (by decide) e) (fun e=>hb.apart hG4 (fun e=>htt e.symm) e))
     have xQ:=x9.only dB (fun k e=>e.elim (fun e=>by omega) (fun e=>by omega))
     have hbd:=aA (MP P2 S2 pos w5 qj PW (by omega))
     have cF:=xQ.cF
     have Em:=tH S2
     replace dB:=aA dB
     replace hown:=aA hown
     replace kW:=aA kW
     replace jC:=aA jC
     replace k5:=aA k5
     replace Em:=aA Em
     go_wp2_with fail
     refine hbd.out.mono ?_
     rintro e w6 ⟨rfl,hb6⟩
     have cF6:=(xQ.below hb6).cF
     cases hd:(decide (pos<=8*S2.length)&&RD.rest (ay S2) pos)with
     | false =>
      go_wp2_with fail
      go_region_with(fail)
      all_goals go_wp2_with fail
      all_goals go_ret2
      all_goals
       refine⟨(xY.trans (aH hb6)).drew,.inl ⟨?_,rfl,gs5,(oN.below hb6 oN.lt).drew,by rw[jC.out.len];exact dL.1,fun j hj=>by rw[jC.out.rest j (by omega) (by omega) (by omega)];exact dL.2 j (by omega)⟩⟩
       rw[hseq.out,k5.out]
       simp only[]
       rw[if_neg (fun e=>by
        rw[Em.out]at e
        rw[decide_eq_true e.1,e.2]at hd
        cases hd)]
     | true =>
      go_wp2_with fail
      go_ret2
      simp only[Bool.and_eq_true,decide_eq_true_eq]at hd
      refine⟨xY.trans (aH hb6),.inr ⟨L,T',a,b,c',v,gs5,?_,rfl,k8,k9,hF3,by omega,?_,oN.below hb6 oN.lt,fun j hj=>?_,?_,jC.out.a,jC.out.b,jC.out.c,kW.out.only (aH (G:=fun _=>False) hb6) (fun _ _ _ e=>e),IZ.only (aH (G:=fun _=>False) hb6) (fun e=>e) (fun _ _ _ e=>e)⟩⟩
      ·rw[hseq.out,k5.out]
       simp only[]
       rw[if_pos ⟨by rw[Em.out];exact hd.1,hd.2⟩]
      ·rw[k6]
       exact ownsRow_base (lZ hown.out (aH (G:=fun _=>False) hb6) (fun _ _ e=>e)) abe
      ·rw[jC.out.rest j (by omega) (by omega) (by omega)]
       exact dL.2 j (by omega)
      ·rw[jC.out.len];exact dL.1
def I8(w w':World)(v v':Value):Prop:=(∃a n c n',v=.slice a n c/\v'=.slice a n' c)\/∃n c,v'=.slice (some ⟨w.heap.size,0,none⟩) n c/\Below w.heap.size w w'
theorem PX(B:Nat)(tx ty:TypeId)(w:World)(v x:Value)(l t:aj)(h:aT B w v l)(hx:Src prog 1 tx x t.length (dF t) w)(hs:l.length+t.length<=140737488355328)(hB:B<=w.heap.size) :
  ∃v' w',(Builtin.append_ #[36,tx] ty #[v,x]).run prog w=.ok v' w'/\vI B v (l++t) w v' w'/\I8 w w' v v':=by
 obtain⟨i0,hi0,hz0,hz1,hz2⟩:=info_parts Nw
 have hx':Src prog i0.size tx x t.length (dF t) w:=by rw[hz1];exact hx
 by_cases ht:t=[]
 ·subst ht
  obtain⟨a,c,rfl,h1,h2,-⟩:=h.form
  have hr:=run_append_nothing (P:=prog) w 36 tx ty 5 i0 underlying36 hi0 a l.length c h1 x hx'
  rw[List.append_nil]
  exact⟨_,_,hr,⟨h,Only.refl _ _,.inl rfl⟩,.inl ⟨_,_,_,_,rfl,rfl⟩⟩
 have htl:0<t.length:=List.length_pos_iff.2 ht
 have hgrow:∀(a:Option Addr)(c:Nat),v=.slice a l.length c->(Builtin.firstCells i0.size l.length (.slice a l.length c)).run prog w.drew=.ok (dF l).toArray w.drew->c<l.length+t.length ->
   ∃v' w',(Builtin.append_ #[36,tx] ty #[v,x]).run prog w=.ok v' w'/\vI B v (l++t) w v' w'/\I8 w w' v v':=by
  intro a c hv hold hc
  have hr:=run_append_grow_src (P:=prog) w 36 tx ty 5 i0 (.int .u8 0) underlying36 hi0 hz0 a l.length c (dF l) hold x t.length (dF t) hx' hc (by omega) (by rw[hz2];exact growslice_fits (by omega) (by omega))
  rw[Nv,<- List.length_append]at hr
  refine⟨_,_,by rw[hv];exact hr,⟨Nz B w (l++t) c (by rw[List.length_append];omega) hB,⟨rfl,rfl,rfl,by simp,fun k hk _=>(Below.heap_alloc w.drew _ k hk)⟩,.inr rfl⟩,.inr ⟨_,_,rfl,⟨rfl,rfl,rfl,by simp,fun k hk=>(Below.heap_alloc w.drew _ k hk)⟩⟩⟩
 rcases h with⟨rfl,rfl⟩|⟨g,off,cap,rfl,hb,hu,h1,h2,h3,h4,h5⟩
 ·exact hgrow none 0 rfl (run_firstCells_none w.drew i0.size 0 0 0) (by simpa using htl)
 ·by_cases hroom:l.length+t.length<=cap
  ·have hr:=run_append_room_src (P:=prog) w 36 tx ty 5 i0 underlying36 hi0 g off l.length cap x t.length (dF t) hx' hroom
    (fun j hj=>by rw[jF]at hj;rw[hz1,Nat.mul_one,Nat.add_assoc];exact h4 _ (by omega)) (fun j hj=>by rw[jF]at hj;rw[hz1,Nat.mul_one,Nat.add_assoc];exact h5 _ (by omega))
   rw[hz1,Nat.mul_one]at hr
   refine⟨_,_,hr,⟨.inr ⟨g,off,cap,by rw[List.length_append],hb,G7 _ _ _ _ hu,by rw[List.length_append];exact hroom,h2,fun i hi=>?_,fun i hi=>?_,fun i hi=>?_⟩,(qc g _ _ w).weaken (fun k _ e=>by rw[e];rfl),.inl rfl⟩,.inl ⟨_,_,_,_,rfl,rfl⟩⟩
   ·rw[List.length_append]at hi
    by_cases hil:i<l.length
    ·rw[World.cell?_setCells_out _ _ _ _ _ (fun _ _=>.inl (by simp only;omega)),h3 i hil,G8 _ _ _ hil]
    ·obtain⟨j,rfl⟩:∃j,i=l.length+j:=⟨i-l.length,by omega⟩
     rw[<- Nat.add_assoc,World.cell?_setCells_in g (dF t) (off+l.length) w (fun j hj=>by rw[jF]at hj;rw[Nat.add_assoc];exact h4 _ (by omega)) j (by rw[jF];omega),Ny]
     have:=xw t j (by omega)
     rw[List.getElem?_eq_getElem (by rw[jF];omega)]at this
     exact this
   ·exact World.isSome_setCells g (dF t) (off+l.length) w _ (h4 i hi)
   ·rw[World.frozen?_setCells];exact h5 i hi
  ·refine hgrow _ cap rfl (run_firstCells_some w.drew i0.size l.length ⟨g,off,none⟩ l.length cap (dF l) (by rw[hz1,Nat.mul_one,jF]) (fun j u hj=>?_)) (by omega)
   have hjl:j<l.length:=by
    have:=(List.getElem?_eq_some_iff.1 hj).1
    rwa[jF]at this
   rw[xw l j hjl]at hj
   rw[addr_add,<- hj]
   exact h3 j hjl
structure Grow(B:Nat)(w w':World)(v v':Value)(l l':aj):Prop where
 row:aT B w' v' l'
 only:Only (fun k=>v.ownBlock=some k) w w'
 lies:(∃a n c n',v=.slice a n c/\v'=.slice a n' c)\/∃k n c,v'=.slice (some ⟨k,0,none⟩) n c/\w.heap.size<=k
 old:aT B w' v l
theorem Grow.refl{B:Nat}{w:World}{v:Value}{l:aj}(h:aT B w v l):Grow B w w v v l l:=by
 obtain⟨a,c,e,-,-,-⟩:=h.form
 exact⟨h,Only.refl _ _,.inl ⟨a,_,c,_,e,e⟩,h⟩
theorem Grow.one{B:Nat}{w w':World}{v v':Value}{l t:aj}(h:aT B w v l)(hp:vI B v (l++t) w v' w')(ha:I8 w w' v v'):Grow B w w' v v' l (l++t):=by
 obtain⟨h1,h2,-⟩:=hp
 obtain⟨a,c,rfl,q1,q2,q3⟩:=h.form
 rcases ha with⟨a',n,c',n',e1,rfl⟩|⟨n,c',rfl,hb⟩
 ·obtain⟨rfl,rfl,rfl⟩:=Value.slice.inj e1
  refine⟨h1,h2,.inl ⟨_,_,_,_,rfl,rfl⟩,?_⟩
  have:=h1.take l.length (by simp)
  rw[List.take_left]at this
  exact this
 ·exact⟨h1,h2,.inr ⟨_,_,_,rfl,Nat.le_refl _⟩,h.only (aH (G:=fun _=>False) hb) (fun _ _ e=>e)⟩
theorem aT.lt{B:Nat}{w:World}{v:Value}{l:aj}(h:aT B w v l){k:Nat}(hk:v.ownBlock=some k):k<w.heap.size:=(h.blk hk).2.lt
theorem Grow.trans{B:Nat}{w w1 w2:World}{v v1 v2:Value}{l l1 l2:aj}(h:aT B w v l)(g:Grow B w w1 v v1 l l1)(k:Grow B w1 w2 v1 v2 l1 l2)(hp:∃t,l1=l++t):Grow B w w2 v v2 l l2:=by
 obtain⟨t,rfl⟩:=hp
 obtain⟨a,c,rfl,q1,q2,q3⟩:=h.form
 rcases g.lies with⟨a',n,c',n',e1,rfl⟩|⟨kk,n,c',rfl,hk⟩
 ·obtain⟨rfl,rfl,rfl⟩:=Value.slice.inj e1
  have hob:(Value.slice a n' c).ownBlock=(Value.slice a l.length c).ownBlock:=by cases a<;>rfl
  refine⟨k.row,g.only.trans (by have:=k.only;rw[hob]at this;exact this),?_,?_⟩
  ·rcases k.lies with⟨a3,n3,c3,n3',e3,rfl⟩|⟨k3,n3,c3,rfl,h3⟩
   ·obtain⟨rfl,rfl,rfl⟩:=Value.slice.inj e3
    exact .inl ⟨_,_,_,_,rfl,rfl⟩
   ·exact .inr ⟨_,_,_,rfl,Nat.le_trans g.only.size h3⟩
  ·have:=k.old.take l.length (by simp)
   rw[List.take_left]at this
   exact this
 ·have hn:∀j,(Value.slice a l.length c).ownBlock=some j->¬(Value.slice (some ⟨kk,0,none⟩) n c').ownBlock=some j:=fun j hj e=>by
   have h1:=h.lt hj
   have:kk=j:=Option.some.inj e
   omega
  refine⟨k.row,⟨k.only.os.trans g.only.os,k.only.tape.trans g.only.tape,k.only.output.trans g.only.output,Nat.le_trans g.only.size k.only.size,fun j hj hj2=>(k.only.block j (Nat.lt_of_lt_of_le hj g.only.size) (fun e=>?_)).trans (g.only.block j hj hj2)⟩,?_,g.old.only k.only hn⟩
  ·have:kk=j:=Option.some.inj e
   omega
  ·rcases k.lies with⟨a3,n3,c3,n3',e3,rfl⟩|⟨k3,n3,c3,rfl,h3⟩
   ·obtain⟨rfl,rfl,rfl⟩:=Value.slice.inj e3
    exact .inr ⟨_,_,_,rfl,hk⟩
   ·exact .inr ⟨_,_,_,rfl,Nat.le_trans g.only.size h3⟩
theorem Grow.from{B:Nat}{w w1 w2:World}{v v2:Value}{l l2:aj}(hb:Below w.heap.size w w1)(k:Grow B w1 w2 v v2 l l2):Grow B w w2 v v2 l l2 :=
 ⟨k.row,(aH hb).trans k.only,k.lies.imp id (fun⟨kk,n,c,e,h⟩=>⟨kk,n,c,e,Nat.le_trans hb.size h⟩),k.old⟩
theorem En(l:aj)(k:Nat):∀m,(RD.copyN l k m).length=l.length+m
 | 0=>rfl
 | m+1=>by
  rw[RD.copyN,List.length_append,En l k m]
  rfl
theorem I9(l:aj)(k:Nat):∀m,∃t,RD.copyN l k m=l++t
 | 0=>⟨[],(List.append_nil l).symm⟩
 | m+1=>by
  obtain⟨t,ht⟩:=I9 l k m
  rw[RD.copyN,ht]
  exact⟨_,List.append_assoc _ _ _⟩
theorem abg(B:Nat)(v:Value)(l:aj)(off m:Nat)(w:World)(hR:aT B w v l)(ho:1<=off/\off<=l.length)(hl:l.length+m<=1099511627776)(hB:B<=w.heap.size) :
  Calls prog 141 #[v,.int .i64 (off:Int),.int .i64 (m:Int)] w fun e w'=>∃v',e=.returned v'/\Grow B w w' v v' l (RD.copyN l off m):=by
 obtain⟨a,cc,rfl,q1,q2,q3⟩:=hR.form
 go_enter func141,ntmps141
 go_wp2_with fail
 go_loopg[0,8] (m+1) (fun gh av iv wj=>∃i:Nat,gh=m+1-i/\i<=m/\iv=.int .i64 (i:Int)/\Grow B w wj (.slice a l.length cc) av l (RD.copyN l off i))
 case atStart=>exact⟨0,by omega,by omega,rfl,Grow.refl hR⟩
 case round =>
  obtain⟨i,rfl,hi,rfl,hg⟩:=hrel
  have hlen:=En l off i
  obtain⟨ar,cr,er,c1,c2,c3⟩:=hg.row.form
  rw[er]at hg⊢
  by_cases him:i<m
  ·have abh:(i:Int)<(m:Int):=by omega
   obtain⟨L,hL⟩:∃L,RD.copyN l off i=L:=⟨_,rfl⟩
   have hnext:Hid (RD.copyN l off (i+1)=L++[L.getD (L.length-off) 0]):=by rw[Hid,RD.copyN,hL]
   have hpre:=aA (I9 l off i)
   rw[hL]at hg hlen c1 c3 hpre
   rw[hL]
   rcases c3 with⟨-,c3,-⟩|⟨gr,I_,rfl,hBg,hU⟩
   ·rw[c3]at hlen;simp at hlen;omega
   obtain⟨d,hd⟩:∃d,L.length-off=d:=⟨_,rfl⟩
   have hd1:(L.length:Int)-off=(d:Int):=by omega
   have hd2:d<L.length:=by omega
   have hd3:(d:Int)<(L.length:Int):=by omega
   have hcell:=hg.row.cells d hd2
   rw[hd]at hnext
   obtain⟨b,hb⟩:∃b,L.getD d 0=b:=⟨_,rfl⟩
   have hbb:ak L d=b.toNat:=by unfold ak;rw[hb]
   rw[hbb]at hcell
   rw[hb]at hnext
   have hb1:Below wr.heap.size wr (wr.alloc (.cells #[.int .u8 (b.toNat:Nat)] 5)):=(Below.refl _ wr).alloc (Nat.le_refl _) _
   have hR1:=hg.row.only (aH (G:=fun _=>False) hb1) (fun _ _ e=>e)
   have hBw:B<=wr.heap.size:=Nat.le_trans hB hg.only.size
   obtain⟨v2,w2,hr2,hp2,ha2⟩:=PX B 36 36 _ _ (.slice (some ⟨wr.heap.size,0,none⟩) 1 1) L [b] hR1 (NG _ wr.heap.size 0 1 [b] (fun i hi=>by
    obtain rfl:i=0:=by simpa using hi
    exact(aB.new wr 5 [.int .u8 (b.toNat:Nat)]).cell (j:=0) rfl)) (by simp;omega) (by rw[World.size_alloc];omega)
   have hg2:=(Grow.one hR1 hp2 ha2).from hb1
   have hg3:=aA (hg.trans hR hg2 hpre.out)
   have iU:L.length<=1099511627776:=by omega
   replace hd:=aA hd
   replace hb:=aA hb
   replace hbb:=aA hbb
   replace hL:=aA hL
   replace hlen:=aA hlen
   replace hg:=aA hg
   replace hg2:=aA hg2
   replace hp2:=aA hp2
   replace ha2:=aA ha2
   replace hR1:=aA hR1
   replace hb1:=aA hb1
   go_wp2_with(at_builtin;refine wpList_append_run rfl _ _ 36 36 rfl _ _ _ w2 rfl rfl hr2 ?_)
   go_roundg(m+1-(i+1))
   case rel=>exact⟨i+1,rfl,by omega,by go_num,by rw[hnext.out];exact hg3.out⟩
   case measure=>omega
  ·obtain rfl:i=m:=by omega
   have abh:¬(i:Int)<(i:Int):=by omega
   replace hlen:=aA hlen
   go_wp2_with fail
   go_ret
   exact⟨_,rfl,hg⟩
end Go.Proofs.YtbhemchnjpajiaaGreatDoor
