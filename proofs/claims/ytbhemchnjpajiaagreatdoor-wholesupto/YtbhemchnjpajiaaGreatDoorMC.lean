/- Several texts in one: RefTab, RefTab2, RefTab3. -/
import Derived.Test.YtbhemchnjpajiaaGreatDoorMA
set_option linter.unusedVariables false
set_option maxRecDepth 100000
set_option maxHeartbeats 1000000
namespace Go.Proofs.YtbhemchnjpajiaaGreatDoor
open Go.RowKit Go.Proofs.Tryz RD
theorem yD(lg:Nat)(z:List Int)(h:lg=5\/lg=6)(hf:TM.dZ z (2^lg:Nat)=true) :
  (table lg z).length=2^lg/\∀x∈table lg z,0<=x.1/\x.1<=15/\0<=x.2.1/\x.2.1<=6/\0<=x.2.2/\x.2.2+2^x.2.1.toNat<=2^lg:=by
 refine⟨TM.mW _ _,fun x hx=>?_⟩
 obtain⟨f1,f2,f3,f4⟩:=TM.CY hf
 have hS:TM.Size (2^lg):=by rcases h with rfl|rfl;exact .inl rfl;exact .inr rfl
 have hS1:1<=2^lg:=Nat.one_le_two_pow
 have rY:lg<=6:=by omega
 obtain⟨p,hp,rfl⟩:∃p,p<2^lg/\x=TM.st z lg (2^lg:Nat) (TM.F z (2^lg) z.length) p:=by
  unfold table TM.tab at hx
  obtain⟨p,hp,rfl⟩:=List.mem_map.1 hx
  exact⟨p,by simpa using hp,rfl⟩
 obtain⟨s,hs,hsn,hpl⟩:=TM.syms z (2^lg) z.length hS f1 f4 p hp
 obtain⟨x1,x2⟩:=TM.CX z (2^lg) hS1 f1 (TM.F z (2^lg) z.length) p hp ⟨s,hs,hpl⟩
 generalize TM.F z (2^lg) z.length=F at *
 unfold TM.st TM.bs
 simp only
 generalize TM.X z F p=X at *
 have e2:(2:Int)^(lg+1)=2*((2^lg:Nat):Int):=by rw[Int.pow_succ];simp;omega
 obtain⟨b1,b2,b3,b4⟩:=TM.zo lg rY X x1 (by rw[e2];omega)
 have e1:((2^lg:Nat):Int)=(2:Int)^lg:=by simp
 rw[e2]at b4
 rw[e1]at b4⊢
 rw[Int.add_mul,Int.one_mul]at b4
 refine⟨by omega,by omega,b1,by omega,by omega,by omega⟩
theorem JB(k:Nat)(w:World)(hk:k<3) :
  Calls prog 113 #[.int .i64 k] w fun e w'=>Below w.heap.size w w'/\∃a c,e=.returned (.slice a (RD.plain k).length c)/\Ints w' a (RD.plain k).length (RD.plain k):=by
 rcases(by omega:k=0\/k=1\/k=2)with rfl|rfl|rfl
 all_goals
  go_enter func113,ntmps113
  go_wp2
  go_ret
  refine⟨(Below.refl _ w).alloc (Nat.le_refl _) _,_,_,rfl,?_⟩
  exact Ints.jg (rest:=[]) (aB.new w 3 _) (by decide)
theorem kH(l:aj):(ah l).toList=l:=by rw[ByteArray.toList_eq,lX]
def Stub(w:World)(g:Nat)(f:RD.Fr):Prop:=∃cs,aB w g 122 cs/\cs.length=17/\cs[0]?=some (.int .i64 f.window)/\cs[16]?=some (.int .i64 f.blocks)/\cs[4]?=some (.string (ah f.text))
theorem aJ.stub{w:World}{g:Nat}{f:RD.Fr}(h:aJ w g f):Stub w g f:=by
 obtain⟨_,vc,v0,v1,v2,vl,hB,_⟩:=h
 exact⟨_,hB,rfl,rfl,rfl,rfl⟩
def mO(g:Nat)(f:RD.Fr)(k mode:Nat)(s:aj)(w:World)(e:Ending)(w':World):Prop :=
 Only (·=g) w w'/\((aZ k mode (f.tab k) s=none/\(∃x,e=.returned (.tuple #[x,.bool false]))/\Stub w' g f) \/
  ∃t n,aZ k mode (f.tab k) s=some (t,n)/\e=.returned (.tuple #[.int .i64 (n:Nat),.bool true])/\aJ w' g (f.put k t))
theorem aJ.drew{w:World}{g:Nat}{f:RD.Fr}(h:aJ w g f):aJ w.drew g f:=h.below ⟨rfl,rfl,rfl,Nat.le_refl _,fun _ _=>rfl⟩
def bM(w:World)(g j:Nat)(x y z:Value):World:=((w.setCell ⟨g,j,none⟩ x).setCell ⟨g,j+1,none⟩ y).setCell ⟨g,j+2,none⟩ z
theorem aB.bM{w:World}{g:Nat}{t:TypeId}{cs:List Value}(h:aB w g t cs)(j:Nat)(x y z:Value):aB (bM w g j x y z) g t (((cs.set j x).set (j+1) y).set (j+2) z) :=
 ((aB.put h j x).put (j+1) y).put (j+2) z
theorem dA.bM{w:World}{v:Value}{l:List CM.aG}(h:dA w v l)(g j:Nat)(x y z:Value)(ho:bJ v≠some g):dA (bM w g j x y z) v l :=
 ((h.put g j x ho).put g (j+1) y ho).put g (j+2) z ho
theorem eG.bM{w:World}{v:Value}{l:List Int}(h:eG w v l)(g j:Nat)(x y z:Value)(ho:bJ v≠some g):eG (bM w g j x y z) v l :=
 ((h.put g j x ho).put g (j+1) y ho).put g (j+2) z ho
theorem Only.bM{G:Nat->Prop}{a w:World}(h:Only G a w)(g j:Nat)(x y z:Value)(hp:G g):Only G a (bM w g j x y z) :=
 ((h.setCell ⟨g,j,none⟩ x (fun _=>hp)).setCell ⟨g,j+1,none⟩ y (fun _=>hp)).setCell ⟨g,j+2,none⟩ z (fun _=>hp)
theorem aJ.sN{w:World}{g:Nat}{f:RD.Fr}(h:aJ w g f)(k:Nat)(hk:k<3){t:RD.Tab}{v:Value}(hv:dA w v t.l)(ho:bJ v≠some g)(hc:RTabOk t) :
  aJ (bM w g (6+3*k) (.bool t.there) (.int .i64 t.log) v) g (f.put k t):=by
 obtain⟨hok,vc,v0,v1,v2,vl,hB,⟨hc',oc⟩,⟨h0,o0⟩,⟨h1,o1⟩,⟨h2,o2⟩,⟨hl,ol⟩⟩:=h
 rcases(by omega:k=0\/k=1\/k=2)with rfl|rfl|rfl
 ·exact⟨⟨hok.window,hok.size,hok.dict,hok.text,hok.codes,hc,hok.t1,hok.t2,hok.last,hok.blocks⟩,vc,v,v1,v2,vl,hB.bM 6 _ _ _,⟨hc'.bM _ _ _ _ _ oc,oc⟩,⟨hv.bM _ _ _ _ _ ho,ho⟩,⟨h1.bM _ _ _ _ _ o1,o1⟩,⟨h2.bM _ _ _ _ _ o2,o2⟩,⟨hl.bM _ _ _ _ _ ol,ol⟩⟩
 ·exact⟨⟨hok.window,hok.size,hok.dict,hok.text,hok.codes,hok.t0,hc,hok.t2,hok.last,hok.blocks⟩,vc,v0,v,v2,vl,hB.bM 9 _ _ _,⟨hc'.bM _ _ _ _ _ oc,oc⟩,⟨h0.bM _ _ _ _ _ o0,o0⟩,⟨hv.bM _ _ _ _ _ ho,ho⟩,⟨h2.bM _ _ _ _ _ o2,o2⟩,⟨hl.bM _ _ _ _ _ ol,ol⟩⟩
 ·exact⟨⟨hok.window,hok.size,hok.dict,hok.text,hok.codes,hok.t0,hok.t1,hc,hok.last,hok.blocks⟩,vc,v0,v1,v,vl,hB.bM 12 _ _ _,⟨hc'.bM _ _ _ _ _ oc,oc⟩,⟨h0.bM _ _ _ _ _ o0,o0⟩,⟨h1.bM _ _ _ _ _ o1,o1⟩,⟨hv.bM _ _ _ _ _ ho,ho⟩,⟨hl.bM _ _ _ _ _ ol,ol⟩⟩
theorem aJ.iQ{w:World}{g:Nat}{f:RD.Fr}(h:aJ w g f):g<w.heap.size/\(∀j,w.frozen? ⟨g,j,none⟩=false) /\
  w.cell? ⟨g,6,none⟩=some (.bool f.t0.there)/\w.cell? ⟨g,7,none⟩=some (.int .i64 f.t0.log)/\(∃v,w.cell? ⟨g,8,none⟩=some v) /\
  w.cell? ⟨g,9,none⟩=some (.bool f.t1.there)/\w.cell? ⟨g,10,none⟩=some (.int .i64 f.t1.log)/\(∃v,w.cell? ⟨g,11,none⟩=some v) /\
  w.cell? ⟨g,12,none⟩=some (.bool f.t2.there)/\w.cell? ⟨g,13,none⟩=some (.int .i64 f.t2.log)/\(∃v,w.cell? ⟨g,14,none⟩=some v):=by
 obtain⟨_,vc,v0,v1,v2,vl,hB,_⟩:=h
 exact⟨hB.lt,hB.free,hB.cell rfl,hB.cell rfl,⟨v0,hB.cell rfl⟩,hB.cell rfl,hB.cell rfl,⟨v1,hB.cell rfl⟩,hB.cell rfl,hB.cell rfl,⟨v2,hB.cell rfl⟩⟩
theorem aeg(RS:je)(g:Nat)(f:RD.Fr)(s:aj)(w:World)(hF:aJ w g f)(hs:s.length<=1048576) :
  Calls prog 101 #[.pointer (some ⟨g,0,none⟩),.int .i64 0,.int .i64 0,.string (ah s)] w (mO g f 0 0 s w):=by
 go_enter func101,ntmps101
 go_wp2_with fail
 refine(JB 0 _ (by omega)).mono ?_
 rintro e w1 ⟨hb1,a1,c1,rfl,hI1⟩
 have hPl:Hid (aZ 0 0 (f.tab 0) s=some (⟨true,5,table 5 (RD.plain 0)⟩,0)):=rfl
 have hgd:dI 5 (RD.plain 0)=true:=by decide
 generalize RD.plain 0=PL at *
 go_wp2_with fail
 refine(RS 5 a1 _ c1 PL _ hI1).mono ?_
 rintro e2 w2 ⟨hb2,hr⟩
 rcases hr with⟨hgd',_⟩|⟨lg,iw,jr,fU,v,rfl,hown⟩
 ·rw[hgd]at hgd'
  cases hgd'
 obtain rfl:lg=5:=by omega
 obtain⟨hlen,hst⟩:=yD 5 PL jr fU
 generalize table 5 PL=L at *
 rw[<- hlen]at hown
 obtain⟨htr,hoff⟩:=wI hown
 have hF2:=(hF.below hb1).below hb2
 obtain⟨hgl,hfz,d6,d7,⟨u8,d8⟩,d9,d10,⟨u11,d11⟩,d12,d13,⟨u14,d14⟩⟩:=hF2.iQ
 have hoff:=hoff g (hF.below hb1).iQ.1
 have hset:=aA (hF2.sN 0 (by omega) (t:=⟨true,5,L⟩) htr hoff ⟨by show 5<=6;omega,fun _=>hlen,hst⟩)
 have hon:=aA (((Only.refl (·=g) _).below hb1).below hb2)
 clear hlen hst fU iw jr hown hgd
 obtain⟨ca,cc,rfl,_⟩:=htr
 go_wp2_with fail
 go_ret2
 exact⟨hon.out.bM g 6 _ _ _ rfl,.inr ⟨⟨true,5,L⟩,0,hPl.out,rfl,hset.out⟩⟩
theorem aeh(RS:je)(g:Nat)(f:RD.Fr)(s:aj)(w:World)(hF:aJ w g f)(hs:s.length<=1048576) :
  Calls prog 101 #[.pointer (some ⟨g,0,none⟩),.int .i64 1,.int .i64 0,.string (ah s)] w (mO g f 1 0 s w):=by
 go_enter func101,ntmps101
 go_wp2_with fail
 refine(JB 1 _ (by omega)).mono ?_
 rintro e w1 ⟨hb1,a1,c1,rfl,hI1⟩
 have hPl:Hid (aZ 1 0 (f.tab 1) s=some (⟨true,5,table 5 (RD.plain 1)⟩,0)):=rfl
 have hgd:dI 5 (RD.plain 1)=true:=by decide
 generalize RD.plain 1=PL at *
 go_wp2_with fail
 refine(RS 5 a1 _ c1 PL _ hI1).mono ?_
 rintro e2 w2 ⟨hb2,hr⟩
 rcases hr with⟨hgd',_⟩|⟨lg,iw,jr,fU,v,rfl,hown⟩
 ·rw[hgd]at hgd'
  cases hgd'
 obtain rfl:lg=5:=by omega
 obtain⟨hlen,hst⟩:=yD 5 PL jr fU
 generalize table 5 PL=L at *
 rw[<- hlen]at hown
 obtain⟨htr,hoff⟩:=wI hown
 have hF2:=(hF.below hb1).below hb2
 obtain⟨hgl,hfz,d6,d7,⟨u8,d8⟩,d9,d10,⟨u11,d11⟩,d12,d13,⟨u14,d14⟩⟩:=hF2.iQ
 have hoff:=hoff g (hF.below hb1).iQ.1
 have hset:=aA (hF2.sN 1 (by omega) (t:=⟨true,5,L⟩) htr hoff ⟨by show 5<=6;omega,fun _=>hlen,hst⟩)
 have hon:=aA (((Only.refl (·=g) _).below hb1).below hb2)
 clear hlen hst fU iw jr hown hgd
 obtain⟨ca,cc,rfl,_⟩:=htr
 go_wp2_with fail
 go_ret2
 exact⟨hon.out.bM g 9 _ _ _ rfl,.inr ⟨⟨true,5,L⟩,0,hPl.out,rfl,hset.out⟩⟩
theorem aei(RS:je)(g:Nat)(f:RD.Fr)(s:aj)(w:World)(hF:aJ w g f)(hs:s.length<=1048576) :
  Calls prog 101 #[.pointer (some ⟨g,0,none⟩),.int .i64 2,.int .i64 0,.string (ah s)] w (mO g f 2 0 s w):=by
 go_enter func101,ntmps101
 go_wp2_with fail
 refine(JB 2 _ (by omega)).mono ?_
 rintro e w1 ⟨hb1,a1,c1,rfl,hI1⟩
 have hPl:Hid (aZ 2 0 (f.tab 2) s=some (⟨true,5,table 5 (RD.plain 2)⟩,0)):=rfl
 have hgd:dI 5 (RD.plain 2)=true:=by decide
 generalize RD.plain 2=PL at *
 go_wp2_with fail
 refine(RS 5 a1 _ c1 PL _ hI1).mono ?_
 rintro e2 w2 ⟨hb2,hr⟩
 rcases hr with⟨hgd',_⟩|⟨lg,iw,jr,fU,v,rfl,hown⟩
 ·rw[hgd]at hgd'
  cases hgd'
 obtain rfl:lg=5:=by omega
 obtain⟨hlen,hst⟩:=yD 5 PL jr fU
 generalize table 5 PL=L at *
 rw[<- hlen]at hown
 obtain⟨htr,hoff⟩:=wI hown
 have hF2:=(hF.below hb1).below hb2
 obtain⟨hgl,hfz,d6,d7,⟨u8,d8⟩,d9,d10,⟨u11,d11⟩,d12,d13,⟨u14,d14⟩⟩:=hF2.iQ
 have hoff:=hoff g (hF.below hb1).iQ.1
 have hset:=aA (hF2.sN 2 (by omega) (t:=⟨true,5,L⟩) htr hoff ⟨by show 5<=6;omega,fun _=>hlen,hst⟩)
 have hon:=aA (((Only.refl (·=g) _).below hb1).below hb2)
 clear hlen hst fU iw jr hown hgd
 obtain⟨ca,cc,rfl,_⟩:=htr
 go_wp2_with fail
 go_ret2
 exact⟨hon.out.bM g 12 _ _ _ rfl,.inr ⟨⟨true,5,L⟩,0,hPl.out,rfl,hset.out⟩⟩
theorem aej(RS:je)(g:Nat)(f:RD.Fr)(s:aj)(w:World)(hF:aJ w g f)(hs:s.length<=1048576) :
  Calls prog 101 #[.pointer (some ⟨g,0,none⟩),.int .i64 0,.int .i64 1,.string (ah s)] w (mO g f 0 1 s w):=by
 have hz:=aQ s
 have hPl:Hid (aZ 0 1 (f.tab 0) s=if s.length=0\/16<=ak s 0 then none else some (⟨true,0,[((ak s 0:Nat),0,0)]⟩,1)):=rfl
 by_cases h0:s.length=0
 ·obtain rfl:s=[]:=List.eq_nil_of_length_eq_zero h0
  rw[if_pos (.inl h0)]at hPl
  rw[pO]
  go_enter func101,ntmps101
  go_wp2_with fail
  go_ret2
  exact⟨Only.refl _ _,.inl ⟨hPl.out,⟨_,rfl⟩,hF.stub⟩⟩
 have hg:=gq s 0 (by omega)
 have hb:=dQ s 0
 have hne:(ah s).toList.isEmpty=false:=by
  rw[kH]
  cases s with
  | nil=>exact absurd rfl h0
  | cons b r=>rfl
 generalize ak s 0=n at *
 by_cases pq:16<=n
 ·rw[if_pos (.inr pq)]at hPl
  go_enter func101,ntmps101
  go_wp2_with fail
  go_ret2
  exact⟨Only.refl _ _,.inl ⟨hPl.out,⟨_,rfl⟩,hF.stub⟩⟩
 rw[if_neg (by omega)]at hPl
 obtain⟨hgl,hfz,d6,d7,⟨u8,d8⟩,d9,d10,⟨u11,d11⟩,d12,d13,⟨u14,d14⟩⟩:=hF.iQ
 go_enter func101,ntmps101
 go_wp2_with fail
 go_region
 go_wp2_with fail
 go_ret2
 have hb0:=(Below.refl _ w).alloc (Nat.le_refl _) (.cells #[.int .i64 (n:Int),.int .i64 0,.int .i64 0] 226)
 have Bv:=hF.below hb0
 have htr:dA (w.alloc (.cells #[.int .i64 (n:Int),.int .i64 0,.int .i64 0] 226)) (.slice (some ⟨w.heap.size,0,none⟩) 1 1) [((n:Nat),0,0)]:=by
  refine⟨_,_,rfl,.inr ⟨w.heap.size,rfl,by simp,fun i hi=>?_⟩⟩
  obtain rfl:i=0:=by simpa using hi
  simp
 have hoff:bJ (.slice (some ⟨w.heap.size,0,none⟩) 1 1)≠some g:=by
  simp only[bJ,ne_eq,Option.some.injEq]
  omega
 have hset:=Bv.sN 0 (by omega) (t:=⟨true,0,[((n:Nat),0,0)]⟩) htr hoff ⟨by show 0<=6;omega,fun _=>rfl,fun x hx=>by
  obtain rfl:x=(((n:Nat):Int),0,0):=by simpa using hx
  simp only
  refine⟨by omega,by omega,by omega,by omega,by omega,by decide⟩⟩
 have hon:=((Only.refl (·=g) w).below hb0).bM g 6 (.bool true) (.int .i64 0) (.slice (some ⟨w.heap.size,0,none⟩) 1 1) rfl
 have e:bM (w.alloc (.cells #[.int .i64 (n:Int),.int .i64 0,.int .i64 0] 226)) g 6 (.bool true) (.int .i64 0) (.slice (some ⟨w.heap.size,0,none⟩) 1 1) =
   (bM w g 6 (.bool true) (.int .i64 0) (.slice (some ⟨w.heap.size,0,none⟩) 1 1)).alloc (.cells #[.int .i64 (n:Int),.int .i64 0,.int .i64 0] 226):=by
  unfold bM
  rw[World.setCell_alloc_past _ _ _ _ hgl,World.setCell_alloc_past _ _ _ _ (by simpa using hgl),World.setCell_alloc_past _ _ _ _ (by simpa using hgl)]
 rw[e]at hon
 refine⟨hon.drew,.inr ⟨⟨true,0,[((n:Nat),0,0)]⟩,1,hPl.out,rfl,?_⟩⟩
 have h9:=aJ.drew hset
 rw[show bM (w.alloc (.cells #[.int .i64 (n:Int),.int .i64 0,.int .i64 0] 226)) g (6+3*0) (.bool true) (.int .i64 ((0:Nat):Int)) (.slice (some ⟨w.heap.size,0,none⟩) 1 1)=_ from e]at h9
 exact h9
theorem aek(RS:je)(g:Nat)(f:RD.Fr)(s:aj)(w:World)(hF:aJ w g f)(hs:s.length<=1048576) :
  Calls prog 101 #[.pointer (some ⟨g,0,none⟩),.int .i64 1,.int .i64 1,.string (ah s)] w (mO g f 1 1 s w):=by
 have hz:=aQ s
 have hPl:Hid (aZ 1 1 (f.tab 1) s=if s.length=0\/13<=ak s 0 then none else some (⟨true,0,[((ak s 0:Nat),0,0)]⟩,1)):=rfl
 by_cases h0:s.length=0
 ·obtain rfl:s=[]:=List.eq_nil_of_length_eq_zero h0
  rw[if_pos (.inl h0)]at hPl
  rw[pO]
  go_enter func101,ntmps101
  go_wp2_with fail
  go_ret2
  exact⟨Only.refl _ _,.inl ⟨hPl.out,⟨_,rfl⟩,hF.stub⟩⟩
 have hg:=gq s 0 (by omega)
 have hb:=dQ s 0
 have hne:(ah s).toList.isEmpty=false:=by
  rw[kH]
  cases s with
  | nil=>exact absurd rfl h0
  | cons b r=>rfl
 generalize ak s 0=n at *
 by_cases pq:13<=n
 ·rw[if_pos (.inr pq)]at hPl
  go_enter func101,ntmps101
  go_wp2_with fail
  go_ret2
  exact⟨Only.refl _ _,.inl ⟨hPl.out,⟨_,rfl⟩,hF.stub⟩⟩
 rw[if_neg (by omega)]at hPl
 obtain⟨hgl,hfz,d6,d7,⟨u8,d8⟩,d9,d10,⟨u11,d11⟩,d12,d13,⟨u14,d14⟩⟩:=hF.iQ
 go_enter func101,ntmps101
 go_wp2_with fail
 go_region
 go_wp2_with fail
 go_ret2
 have hb0:=(Below.refl _ w).alloc (Nat.le_refl _) (.cells #[.int .i64 (n:Int),.int .i64 0,.int .i64 0] 226)
 have Bv:=hF.below hb0
 have htr:dA (w.alloc (.cells #[.int .i64 (n:Int),.int .i64 0,.int .i64 0] 226)) (.slice (some ⟨w.heap.size,0,none⟩) 1 1) [((n:Nat),0,0)]:=by
  refine⟨_,_,rfl,.inr ⟨w.heap.size,rfl,by simp,fun i hi=>?_⟩⟩
  obtain rfl:i=0:=by simpa using hi
  simp
 have hoff:bJ (.slice (some ⟨w.heap.size,0,none⟩) 1 1)≠some g:=by
  simp only[bJ,ne_eq,Option.some.injEq]
  omega
 have hset:=Bv.sN 1 (by omega) (t:=⟨true,0,[((n:Nat),0,0)]⟩) htr hoff ⟨by show 0<=6;omega,fun _=>rfl,fun x hx=>by
  obtain rfl:x=(((n:Nat):Int),0,0):=by simpa using hx
  simp only
  refine⟨by omega,by omega,by omega,by omega,by omega,by decide⟩⟩
 have hon:=((Only.refl (·=g) w).below hb0).bM g 9 (.bool true) (.int .i64 0) (.slice (some ⟨w.heap.size,0,none⟩) 1 1) rfl
 have e:bM (w.alloc (.cells #[.int .i64 (n:Int),.int .i64 0,.int .i64 0] 226)) g 9 (.bool true) (.int .i64 0) (.slice (some ⟨w.heap.size,0,none⟩) 1 1) =
   (bM w g 9 (.bool true) (.int .i64 0) (.slice (some ⟨w.heap.size,0,none⟩) 1 1)).alloc (.cells #[.int .i64 (n:Int),.int .i64 0,.int .i64 0] 226):=by
  unfold bM
  rw[World.setCell_alloc_past _ _ _ _ hgl,World.setCell_alloc_past _ _ _ _ (by simpa using hgl),World.setCell_alloc_past _ _ _ _ (by simpa using hgl)]
 rw[e]at hon
 refine⟨hon.drew,.inr ⟨⟨true,0,[((n:Nat),0,0)]⟩,1,hPl.out,rfl,?_⟩⟩
 have h9:=aJ.drew hset
 rw[show bM (w.alloc (.cells #[.int .i64 (n:Int),.int .i64 0,.int .i64 0] 226)) g (6+3*1) (.bool true) (.int .i64 ((0:Nat):Int)) (.slice (some ⟨w.heap.size,0,none⟩) 1 1)=_ from e]at h9
 exact h9
theorem ael(RS:je)(g:Nat)(f:RD.Fr)(s:aj)(w:World)(hF:aJ w g f)(hs:s.length<=1048576) :
  Calls prog 101 #[.pointer (some ⟨g,0,none⟩),.int .i64 2,.int .i64 1,.string (ah s)] w (mO g f 2 1 s w):=by
 have hz:=aQ s
 have hPl:Hid (aZ 2 1 (f.tab 2) s=if s.length=0\/16<=ak s 0 then none else some (⟨true,0,[((ak s 0:Nat),0,0)]⟩,1)):=rfl
 by_cases h0:s.length=0
 ·obtain rfl:s=[]:=List.eq_nil_of_length_eq_zero h0
  rw[if_pos (.inl h0)]at hPl
  rw[pO]
  go_enter func101,ntmps101
  go_wp2_with fail
  go_ret2
  exact⟨Only.refl _ _,.inl ⟨hPl.out,⟨_,rfl⟩,hF.stub⟩⟩
 have hg:=gq s 0 (by omega)
 have hb:=dQ s 0
 have hne:(ah s).toList.isEmpty=false:=by
  rw[kH]
  cases s with
  | nil=>exact absurd rfl h0
  | cons b r=>rfl
 generalize ak s 0=n at *
 by_cases pq:16<=n
 ·rw[if_pos (.inr pq)]at hPl
  go_enter func101,ntmps101
  go_wp2_with fail
  go_ret2
  exact⟨Only.refl _ _,.inl ⟨hPl.out,⟨_,rfl⟩,hF.stub⟩⟩
 rw[if_neg (by omega)]at hPl
 obtain⟨hgl,hfz,d6,d7,⟨u8,d8⟩,d9,d10,⟨u11,d11⟩,d12,d13,⟨u14,d14⟩⟩:=hF.iQ
 go_enter func101,ntmps101
 go_wp2_with fail
 go_region
 go_wp2_with fail
 go_ret2
 have hb0:=(Below.refl _ w).alloc (Nat.le_refl _) (.cells #[.int .i64 (n:Int),.int .i64 0,.int .i64 0] 226)
 have Bv:=hF.below hb0
 have htr:dA (w.alloc (.cells #[.int .i64 (n:Int),.int .i64 0,.int .i64 0] 226)) (.slice (some ⟨w.heap.size,0,none⟩) 1 1) [((n:Nat),0,0)]:=by
  refine⟨_,_,rfl,.inr ⟨w.heap.size,rfl,by simp,fun i hi=>?_⟩⟩
  obtain rfl:i=0:=by simpa using hi
  simp
 have hoff:bJ (.slice (some ⟨w.heap.size,0,none⟩) 1 1)≠some g:=by
  simp only[bJ,ne_eq,Option.some.injEq]
  omega
 have hset:=Bv.sN 2 (by omega) (t:=⟨true,0,[((n:Nat),0,0)]⟩) htr hoff ⟨by show 0<=6;omega,fun _=>rfl,fun x hx=>by
  obtain rfl:x=(((n:Nat):Int),0,0):=by simpa using hx
  simp only
  refine⟨by omega,by omega,by omega,by omega,by omega,by decide⟩⟩
 have hon:=((Only.refl (·=g) w).below hb0).bM g 12 (.bool true) (.int .i64 0) (.slice (some ⟨w.heap.size,0,none⟩) 1 1) rfl
 have e:bM (w.alloc (.cells #[.int .i64 (n:Int),.int .i64 0,.int .i64 0] 226)) g 12 (.bool true) (.int .i64 0) (.slice (some ⟨w.heap.size,0,none⟩) 1 1) =
   (bM w g 12 (.bool true) (.int .i64 0) (.slice (some ⟨w.heap.size,0,none⟩) 1 1)).alloc (.cells #[.int .i64 (n:Int),.int .i64 0,.int .i64 0] 226):=by
  unfold bM
  rw[World.setCell_alloc_past _ _ _ _ hgl,World.setCell_alloc_past _ _ _ _ (by simpa using hgl),World.setCell_alloc_past _ _ _ _ (by simpa using hgl)]
 rw[e]at hon
 refine⟨hon.drew,.inr ⟨⟨true,0,[((n:Nat),0,0)]⟩,1,hPl.out,rfl,?_⟩⟩
 have h9:=aJ.drew hset
 rw[show bM (w.alloc (.cells #[.int .i64 (n:Int),.int .i64 0,.int .i64 0] 226)) g (6+3*2) (.bool true) (.int .i64 ((0:Nat):Int)) (.slice (some ⟨w.heap.size,0,none⟩) 1 1)=_ from e]at h9
 exact h9
end Go.Proofs.YtbhemchnjpajiaaGreatDoor
