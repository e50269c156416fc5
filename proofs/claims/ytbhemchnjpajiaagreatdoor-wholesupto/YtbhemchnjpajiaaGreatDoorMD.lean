/- Several texts in one: RefTab4. -/
import Derived.Test.YtbhemchnjpajiaaGreatDoorMC
set_option linter.unusedVariables false
set_option maxRecDepth 100000
set_option maxHeartbeats 4000000
namespace Go.Proofs.YtbhemchnjpajiaaGreatDoor
open Go.RowKit Go.Proofs.Tryz RD
theorem Stub.bM{w:World}{g:Nat}{f:RD.Fr}(h:Stub w g f)(k:Nat)(hk:k<3)(x y z:Value):Stub (bM w g (6+3*k) x y z) g f:=by
 obtain⟨cs,hB,hl,h0,h16,h4⟩:=h
 refine⟨_,hB.bM (6+3*k) x y z,by simp[hl],?_,?_,?_⟩
 ·rw[List.getElem?_set_ne (by omega),List.getElem?_set_ne (by omega),List.getElem?_set_ne (by omega)]
  exact h0
 ·rw[List.getElem?_set_ne (by omega),List.getElem?_set_ne (by omega),List.getElem?_set_ne (by omega)]
  exact h16
 ·rw[List.getElem?_set_ne (by omega),List.getElem?_set_ne (by omega),List.getElem?_set_ne (by omega)]
  exact h4
theorem JC(s:aj)(i:Nat):RD.countOf (s.getD i 0)=if ak s i=255 then -1 else((ak s i:Nat):Int):=rfl
theorem JD(s:aj)(j n:Nat)(h:j<n)(hs:1+n<=s.length):(((s.drop 1).take n).map RD.countOf).take (j+1)=(((s.drop 1).take n).map RD.countOf).take j++[RD.countOf (s.getD (1+j) 0)]:=by
 have hl:j<(((s.drop 1).take n).map RD.countOf).length:=by simp;omega
 rw[List.take_succ_eq_append_getElem hl,List.getElem_map,List.getElem_take,List.getElem_drop,List.getD_eq_getElem?_getD,List.getElem?_eq_getElem (by omega)]
 rfl
theorem aem(RS:je)(g:Nat)(f:RD.Fr)(s:aj)(w:World)(hF:aJ w g f)(hs:s.length<=1048576) :
  Calls prog 101 #[.pointer (some ⟨g,0,none⟩),.int .i64 0,.int .i64 3,.string (ah s)] w (mO g f 0 3 s w):=by
 obtain⟨hgl,hfz,d6,d7,⟨u8,d8⟩,d9,d10,⟨u11,d11⟩,d12,d13,⟨u14,d14⟩⟩:=hF.iQ
 have hPl:Hid (aZ 0 3 (f.tab 0) s=if f.t0.there=true then some (f.t0,0)else none):=rfl
 go_enter func101,ntmps101
 go_wp2_with fail
 go_quiet(fail)
 go_wp2_with fail
 go_ret2
 cases ht:f.t0.there with
 | true =>
  rw[if_pos ht]at hPl
  exact⟨(Only.refl _ _).drewN _,.inr ⟨f.t0,0,hPl.out,rfl,hF.below ⟨rfl,rfl,rfl,Nat.le_refl _,fun _ _=>rfl⟩⟩⟩
 | false =>
  rw[if_neg (by rw[ht];simp)]at hPl
  exact⟨(Only.refl _ _).drewN _,.inl ⟨hPl.out,⟨_,rfl⟩,(hF.below ⟨rfl,rfl,rfl,Nat.le_refl _,fun _ _=>rfl⟩).stub⟩⟩
theorem aen(RS:je)(g:Nat)(f:RD.Fr)(s:aj)(w:World)(hF:aJ w g f)(hs:s.length<=1048576) :
  Calls prog 101 #[.pointer (some ⟨g,0,none⟩),.int .i64 1,.int .i64 3,.string (ah s)] w (mO g f 1 3 s w):=by
 obtain⟨hgl,hfz,d6,d7,⟨u8,d8⟩,d9,d10,⟨u11,d11⟩,d12,d13,⟨u14,d14⟩⟩:=hF.iQ
 have hPl:Hid (aZ 1 3 (f.tab 1) s=if f.t1.there=true then some (f.t1,0)else none):=rfl
 go_enter func101,ntmps101
 go_wp2_with fail
 go_quiet(fail)
 go_wp2_with fail
 go_ret2
 cases ht:f.t1.there with
 | true =>
  rw[if_pos ht]at hPl
  exact⟨(Only.refl _ _).drewN _,.inr ⟨f.t1,0,hPl.out,rfl,hF.below ⟨rfl,rfl,rfl,Nat.le_refl _,fun _ _=>rfl⟩⟩⟩
 | false =>
  rw[if_neg (by rw[ht];simp)]at hPl
  exact⟨(Only.refl _ _).drewN _,.inl ⟨hPl.out,⟨_,rfl⟩,(hF.below ⟨rfl,rfl,rfl,Nat.le_refl _,fun _ _=>rfl⟩).stub⟩⟩
theorem aeo(RS:je)(g:Nat)(f:RD.Fr)(s:aj)(w:World)(hF:aJ w g f)(hs:s.length<=1048576) :
  Calls prog 101 #[.pointer (some ⟨g,0,none⟩),.int .i64 2,.int .i64 3,.string (ah s)] w (mO g f 2 3 s w):=by
 obtain⟨hgl,hfz,d6,d7,⟨u8,d8⟩,d9,d10,⟨u11,d11⟩,d12,d13,⟨u14,d14⟩⟩:=hF.iQ
 have hPl:Hid (aZ 2 3 (f.tab 2) s=if f.t2.there=true then some (f.t2,0)else none):=rfl
 go_enter func101,ntmps101
 go_wp2_with fail
 go_quiet(fail)
 go_wp2_with fail
 go_ret2
 cases ht:f.t2.there with
 | true =>
  rw[if_pos ht]at hPl
  exact⟨(Only.refl _ _).drewN _,.inr ⟨f.t2,0,hPl.out,rfl,hF.below ⟨rfl,rfl,rfl,Nat.le_refl _,fun _ _=>rfl⟩⟩⟩
 | false =>
  rw[if_neg (by rw[ht];simp)]at hPl
  exact⟨(Only.refl _ _).drewN _,.inl ⟨hPl.out,⟨_,rfl⟩,(hF.below ⟨rfl,rfl,rfl,Nat.le_refl _,fun _ _=>rfl⟩).stub⟩⟩
theorem aep(RS:je)(g:Nat)(f:RD.Fr)(s:aj)(w:World)(hF:aJ w g f)(hs:s.length<=1048576) :
  Calls prog 101 #[.pointer (some ⟨g,0,none⟩),.int .i64 0,.int .i64 2,.string (ah s)] w (mO g f 0 2 s w):=by
 have hz:=aQ s
 obtain⟨i0,hi0,hz0',hz1,hz2⟩:=info_parts oh
 have hPl:Hid (aZ 0 2 (f.tab 0) s=if s.length=0\/s.length<2+ak s 0/16\/16<1+ak s 0/16 then none
   else if dI ((ak s 0%16:Nat):Int) (((s.drop 1).take (1+ak s 0/16)).map RD.countOf)then
    some (⟨true,ak s 0%16,table (ak s 0%16) (((s.drop 1).take (1+ak s 0/16)).map RD.countOf)⟩,2+ak s 0/16)else none):=rfl
 by_cases h0:s.length=0
 ·obtain rfl:s=[]:=List.eq_nil_of_length_eq_zero h0
  rw[if_pos (.inl h0)]at hPl
  rw[pO]
  go_enter func101,ntmps101
  go_wp2_with fail
  go_ret2
  exact⟨Only.refl _ _,.inl ⟨hPl.out,⟨_,rfl⟩,hF.stub⟩⟩
 have hg:=gq s 0 (by omega)
 have hb:=dQ s 0
 have hne:(ah s).toList.isEmpty=false:=by
  rw[kH]
  cases s with
  | nil=>exact absurd rfl h0
  | cons b r=>rfl
 have hq:((ak s 0:Nat):Int)/16=((ak s 0/16:Nat):Int):=by omega
 have hm:((ak s 0:Nat):Int).tmod 16=((ak s 0%16:Nat):Int):=by rw[Int.tmod_eq_emod_of_nonneg (by omega)];omega
 have hhi:ak s 0/16<=15:=by omega
 have hlo:ak s 0%16<=15:=by omega
 generalize ak s 0/16=hi at *
 generalize ak s 0%16=lo at *
 by_cases hlen:s.length<2+hi
 ·rw[if_pos (.inr (.inl hlen))]at hPl
  go_enter func101,ntmps101
  go_wp2_with fail
  go_ret2
  exact⟨Only.refl _ _,.inl ⟨hPl.out,⟨_,rfl⟩,hF.stub⟩⟩
 by_cases pq:16<1+hi
 ·exact absurd pq (by omega)
 rw[if_neg (by omega)]at hPl
 have hzl:(((s.drop 1).take (1+hi)).map RD.countOf).length=1+hi:=by simp;omega
 have hct:=aA (fun j hj=>JD s j (1+hi) hj (by omega))
 generalize((s.drop 1).take (1+hi)).map RD.countOf=Z at *
 go_enter func101,ntmps101
 go_wp2_with fail
 go_loopg[14,15] (1+hi) (fun gh v iv wr=>∃j:Nat,gh=1+hi-j/\j<=1+hi/\iv=.int .i64 (1+(j:Int))/\cO w.heap.size wr v (Z.take j)/\Below w.heap.size w wr)
 case atStart=>exact⟨0,by omega,by omega,rfl,by rw[List.take_zero];exact World.ownsRow_nil _ _ _ _,Below.refl _ _⟩
 case round =>
  obtain⟨j,rfl,hj,rfl,hown,hbel⟩:=hrel
  have hsz:=hbel.size
  have hown:=aA hown
  have hbel:=aA hbel
  by_cases hlt:j<1+hi
  ·have hgj:=gq s (1+j) (by omega)
   have hbj:=dQ s (1+j)
   have fE:=hct.out j hlt
   rw[JC]at fE
   have hmin:min j Z.length=j:=by omega
   generalize ak s (1+j)=b at *
   by_cases uJ:b=255
   ·subst uJ
    rw[if_pos rfl]at fE
    have fE:=aA fE
    rename_i pF
    clear pF
    go_wp2_with(at_builtin;refine wpList_append_own _ rfl _ _ 27 rfl w.heap.size 3 i0 _ 1 8 underlying27 hi0 hz0' hz1 hz2 rfl (by decide) _ _ _ rfl (World.ownsRow.alloc hown.out _) ⟨wr.heap.size,0,none⟩ 1 1 [.int .i64 (-1)] rfl rfl (jA _ _ _) (one_one _) (by unfold maxLen;simp;omega) (by simp;omega) (by simp;omega) ?_)
    intro v1 w1 hown1 hgrow _
    have dh:Below w.heap.size w w1:=(hbel.out.alloc hbel.out.size _).grown hgrow (by simp;omega) (fun k hk=>(World.ownsRow.lt hown.out k hk).1)
    have dS:Hid (cO w.heap.size w1 v1 (Z.take (j+1))):=by
     unfold Hid cO
     rw[fE.out,List.length_append,List.length_singleton]
     have e2:intCells (Z.take j++[(-1)])=intCells (Z.take j)++[.int .i64 (-1)]:=by simp[intCells]
     rw[e2]
     simpa[hmin]using hown1
    clear hown1 hgrow
    go_wp2
    go_roundg(1+hi-(j+1))
    case rel=>exact⟨j+1,rfl,by omega,by go_num,dS.out,dh⟩
    case measure=>omega
   ·rw[if_neg uJ]at fE
    have fE:=aA fE
    rename_i pF
    clear pF
    have hbb:(((b:Nat):Int)==255)=false:=by simp;omega
    go_wp2_with(at_builtin;refine wpList_append_own _ rfl _ _ 27 rfl w.heap.size 3 i0 _ 1 8 underlying27 hi0 hz0' hz1 hz2 rfl (by decide) _ _ _ rfl (World.ownsRow.alloc hown.out _) ⟨wr.heap.size,0,none⟩ 1 1 [.int .i64 (b:Int)] rfl rfl (jA _ _ _) (one_one _) (by unfold maxLen;simp;omega) (by simp;omega) (by simp;omega) ?_)
    intro v1 w1 hown1 hgrow _
    have dh:Below w.heap.size w w1:=(hbel.out.alloc hbel.out.size _).grown hgrow (by simp;omega) (fun k hk=>(World.ownsRow.lt hown.out k hk).1)
    have dS:Hid (cO w.heap.size w1 v1 (Z.take (j+1))):=by
     unfold Hid cO
     rw[fE.out,List.length_append,List.length_singleton]
     have e2:intCells (Z.take j++[(b:Int)])=intCells (Z.take j)++[.int .i64 (b:Int)]:=by simp[intCells]
     rw[e2]
     simpa[hmin]using hown1
    clear hown1 hgrow
    go_wp2
    go_roundg(1+hi-(j+1))
    case rel=>exact⟨j+1,rfl,by omega,by go_num,dS.out,dh⟩
    case measure=>omega
  ·obtain rfl:j=1+hi:=by omega
   rw[<- hzl,List.take_length]at hown
   obtain⟨a1,c1,rfl⟩:=hown.out.slice
   have hI1:=hown.out.ints (by omega)
   rw[hzl]at hI1
   go_wp2_with fail
   refine(RS _ a1 _ c1 Z _ hI1).mono ?_
   rintro e2 w2 ⟨hb2,hr⟩
   have hb2':=hb2.mono hsz
   have hFr:=hF.below hbel.out
   have hF2:=hFr.below hb2
   obtain⟨hgl,hfz,d6,d7,⟨u8,d8⟩,d9,d10,⟨u11,d11⟩,d12,d13,⟨u14,d14⟩⟩:=hF2.iQ
   have hon:=aA (((Only.refl (·=g) _).below hbel.out).below hb2)
   rcases hr with⟨hgd,rfl⟩|⟨lg,iw,jr,fU,v,rfl,hown2⟩
   ·rw[if_neg (by rw[hgd];simp)]at hPl
    go_wp2_with fail
    go_ret2
    exact⟨hon.out.bM g 6 _ _ _ rfl,.inl ⟨hPl.out,⟨_,rfl⟩,hF2.stub.bM 0 (by omega) _ _ _⟩⟩
   ·obtain rfl:lo=lg:=by omega
    have hgd:dI (lo:Int) Z=true:=by
     unfold dI
     rcases jr with rfl|rfl
     ·simpa using fU
     ·simpa using fU
    rw[if_pos hgd]at hPl
    obtain⟨hlen,hst⟩:=yD lo Z jr fU
    have rY:lo<=6:=by omega
    generalize table lo Z=L at *
    rw[<- hlen]at hown2
    obtain⟨htr,hoff⟩:=wI hown2
    have hoff:=hoff g hFr.iQ.1
    have hset:=aA (hF2.sN 0 (by omega) (t:=⟨true,lo,L⟩) htr hoff ⟨rY,fun _=>hlen,hst⟩)
    clear hlen hst fU iw jr hown2 hgd
    obtain⟨ca,cc,rfl,_⟩:=htr
    go_wp2_with fail
    go_ret2
    refine⟨hon.out.bM g 6 _ _ _ rfl,.inr ⟨⟨true,lo,L⟩,2+hi,hPl.out,?_,hset.out⟩⟩
    have e9:(1:Int)+(1+(hi:Int))=((2+hi:Nat):Int):=by omega
    rw[<- e9]
    rfl
theorem aer(RS:je)(g:Nat)(f:RD.Fr)(s:aj)(w:World)(hF:aJ w g f)(hs:s.length<=1048576) :
  Calls prog 101 #[.pointer (some ⟨g,0,none⟩),.int .i64 1,.int .i64 2,.string (ah s)] w (mO g f 1 2 s w):=by
 have hz:=aQ s
 obtain⟨i0,hi0,hz0',hz1,hz2⟩:=info_parts oh
 have hPl:Hid (aZ 1 2 (f.tab 1) s=if s.length=0\/s.length<2+ak s 0/16\/13<1+ak s 0/16 then none
   else if dI ((ak s 0%16:Nat):Int) (((s.drop 1).take (1+ak s 0/16)).map RD.countOf)then
    some (⟨true,ak s 0%16,table (ak s 0%16) (((s.drop 1).take (1+ak s 0/16)).map RD.countOf)⟩,2+ak s 0/16)else none):=rfl
 by_cases h0:s.length=0
 ·obtain rfl:s=[]:=List.eq_nil_of_length_eq_zero h0
  rw[if_pos (.inl h0)]at hPl
  rw[pO]
  go_enter func101,ntmps101
  go_wp2_with fail
  go_ret2
  exact⟨Only.refl _ _,.inl ⟨hPl.out,⟨_,rfl⟩,hF.stub⟩⟩
 have hg:=gq s 0 (by omega)
 have hb:=dQ s 0
 have hne:(ah s).toList.isEmpty=false:=by
  rw[kH]
  cases s with
  | nil=>exact absurd rfl h0
  | cons b r=>rfl
 have hq:((ak s 0:Nat):Int)/16=((ak s 0/16:Nat):Int):=by omega
 have hm:((ak s 0:Nat):Int).tmod 16=((ak s 0%16:Nat):Int):=by rw[Int.tmod_eq_emod_of_nonneg (by omega)];omega
 have hhi:ak s 0/16<=15:=by omega
 have hlo:ak s 0%16<=15:=by omega
 generalize ak s 0/16=hi at *
 generalize ak s 0%16=lo at *
 by_cases hlen:s.length<2+hi
 ·rw[if_pos (.inr (.inl hlen))]at hPl
  go_enter func101,ntmps101
  go_wp2_with fail
  go_ret2
  exact⟨Only.refl _ _,.inl ⟨hPl.out,⟨_,rfl⟩,hF.stub⟩⟩
 by_cases pq:13<1+hi
 ·rw[if_pos (.inr (.inr pq))]at hPl
  go_enter func101,ntmps101
  go_wp2_with fail
  go_ret2
  exact⟨Only.refl _ _,.inl ⟨hPl.out,⟨_,rfl⟩,hF.stub⟩⟩
 rw[if_neg (by omega)]at hPl
 have hzl:(((s.drop 1).take (1+hi)).map RD.countOf).length=1+hi:=by simp;omega
 have hct:=aA (fun j hj=>JD s j (1+hi) hj (by omega))
 generalize((s.drop 1).take (1+hi)).map RD.countOf=Z at *
 go_enter func101,ntmps101
 go_wp2_with fail
 go_loopg[14,15] (1+hi) (fun gh v iv wr=>∃j:Nat,gh=1+hi-j/\j<=1+hi/\iv=.int .i64 (1+(j:Int))/\cO w.heap.size wr v (Z.take j)/\Below w.heap.size w wr)
 case atStart=>exact⟨0,by omega,by omega,rfl,by rw[List.take_zero];exact World.ownsRow_nil _ _ _ _,Below.refl _ _⟩
 case round =>
  obtain⟨j,rfl,hj,rfl,hown,hbel⟩:=hrel
  have hsz:=hbel.size
  have hown:=aA hown
  have hbel:=aA hbel
  by_cases hlt:j<1+hi
  ·have hgj:=gq s (1+j) (by omega)
   have hbj:=dQ s (1+j)
   have fE:=hct.out j hlt
   rw[JC]at fE
   have hmin:min j Z.length=j:=by omega
   generalize ak s (1+j)=b at *
   by_cases uJ:b=255
   ·subst uJ
    rw[if_pos rfl]at fE
    have fE:=aA fE
    rename_i pF
    clear pF
    go_wp2_with(at_builtin;refine wpList_append_own _ rfl _ _ 27 rfl w.heap.size 3 i0 _ 1 8 underlying27 hi0 hz0' hz1 hz2 rfl (by decide) _ _ _ rfl (World.ownsRow.alloc hown.out _) ⟨wr.heap.size,0,none⟩ 1 1 [.int .i64 (-1)] rfl rfl (jA _ _ _) (one_one _) (by unfold maxLen;simp;omega) (by simp;omega) (by simp;omega) ?_)
    intro v1 w1 hown1 hgrow _
    have dh:Below w.heap.size w w1:=(hbel.out.alloc hbel.out.size _).grown hgrow (by simp;omega) (fun k hk=>(World.ownsRow.lt hown.out k hk).1)
    have dS:Hid (cO w.heap.size w1 v1 (Z.take (j+1))):=by
     unfold Hid cO
     rw[fE.out,List.length_append,List.length_singleton]
     have e2:intCells (Z.take j++[(-1)])=intCells (Z.take j)++[.int .i64 (-1)]:=by simp[intCells]
     rw[e2]
     simpa[hmin]using hown1
    clear hown1 hgrow
    go_wp2
    go_roundg(1+hi-(j+1))
    case rel=>exact⟨j+1,rfl,by omega,by go_num,dS.out,dh⟩
    case measure=>omega
   ·rw[if_neg uJ]at fE
    have fE:=aA fE
    rename_i pF
    clear pF
    have hbb:(((b:Nat):Int)==255)=false:=by simp;omega
    go_wp2_with(at_builtin;refine wpList_append_own _ rfl _ _ 27 rfl w.heap.size 3 i0 _ 1 8 underlying27 hi0 hz0' hz1 hz2 rfl (by decide) _ _ _ rfl (World.ownsRow.alloc hown.out _) ⟨wr.heap.size,0,none⟩ 1 1 [.int .i64 (b:Int)] rfl rfl (jA _ _ _) (one_one _) (by unfold maxLen;simp;omega) (by simp;omega) (by simp;omega) ?_)
    intro v1 w1 hown1 hgrow _
    have dh:Below w.heap.size w w1:=(hbel.out.alloc hbel.out.size _).grown hgrow (by simp;omega) (fun k hk=>(World.ownsRow.lt hown.out k hk).1)
    have dS:Hid (cO w.heap.size w1 v1 (Z.take (j+1))):=by
     unfold Hid cO
     rw[fE.out,List.length_append,List.length_singleton]
     have e2:intCells (Z.take j++[(b:Int)])=intCells (Z.take j)++[.int .i64 (b:Int)]:=by simp[intCells]
     rw[e2]
     simpa[hmin]using hown1
    clear hown1 hgrow
    go_wp2
    go_roundg(1+hi-(j+1))
    case rel=>exact⟨j+1,rfl,by omega,by go_num,dS.out,dh⟩
    case measure=>omega
  ·obtain rfl:j=1+hi:=by omega
   rw[<- hzl,List.take_length]at hown
   obtain⟨a1,c1,rfl⟩:=hown.out.slice
   have hI1:=hown.out.ints (by omega)
   rw[hzl]at hI1
   go_wp2_with fail
   refine(RS _ a1 _ c1 Z _ hI1).mono ?_
   rintro e2 w2 ⟨hb2,hr⟩
   have hb2':=hb2.mono hsz
   have hFr:=hF.below hbel.out
   have hF2:=hFr.below hb2
   obtain⟨hgl,hfz,d6,d7,⟨u8,d8⟩,d9,d10,⟨u11,d11⟩,d12,d13,⟨u14,d14⟩⟩:=hF2.iQ
   have hon:=aA (((Only.refl (·=g) _).below hbel.out).below hb2)
   rcases hr with⟨hgd,rfl⟩|⟨lg,iw,jr,fU,v,rfl,hown2⟩
   ·rw[if_neg (by rw[hgd];simp)]at hPl
    go_wp2_with fail
    go_ret2
    exact⟨hon.out.bM g 9 _ _ _ rfl,.inl ⟨hPl.out,⟨_,rfl⟩,hF2.stub.bM 1 (by omega) _ _ _⟩⟩
   ·obtain rfl:lo=lg:=by omega
    have hgd:dI (lo:Int) Z=true:=by
     unfold dI
     rcases jr with rfl|rfl
     ·simpa using fU
     ·simpa using fU
    rw[if_pos hgd]at hPl
    obtain⟨hlen,hst⟩:=yD lo Z jr fU
    have rY:lo<=6:=by omega
    generalize table lo Z=L at *
    rw[<- hlen]at hown2
    obtain⟨htr,hoff⟩:=wI hown2
    have hoff:=hoff g hFr.iQ.1
    have hset:=aA (hF2.sN 1 (by omega) (t:=⟨true,lo,L⟩) htr hoff ⟨rY,fun _=>hlen,hst⟩)
    clear hlen hst fU iw jr hown2 hgd
    obtain⟨ca,cc,rfl,_⟩:=htr
    go_wp2_with fail
    go_ret2
    refine⟨hon.out.bM g 9 _ _ _ rfl,.inr ⟨⟨true,lo,L⟩,2+hi,hPl.out,?_,hset.out⟩⟩
    have e9:(1:Int)+(1+(hi:Int))=((2+hi:Nat):Int):=by omega
    rw[<- e9]
    rfl
theorem aes(RS:je)(g:Nat)(f:RD.Fr)(s:aj)(w:World)(hF:aJ w g f)(hs:s.length<=1048576) :
  Calls prog 101 #[.pointer (some ⟨g,0,none⟩),.int .i64 2,.int .i64 2,.string (ah s)] w (mO g f 2 2 s w):=by
 have hz:=aQ s
 obtain⟨i0,hi0,hz0',hz1,hz2⟩:=info_parts oh
 have hPl:Hid (aZ 2 2 (f.tab 2) s=if s.length=0\/s.length<2+ak s 0/16\/16<1+ak s 0/16 then none
   else if dI ((ak s 0%16:Nat):Int) (((s.drop 1).take (1+ak s 0/16)).map RD.countOf)then
    some (⟨true,ak s 0%16,table (ak s 0%16) (((s.drop 1).take (1+ak s 0/16)).map RD.countOf)⟩,2+ak s 0/16)else none):=rfl
 by_cases h0:s.length=0
 ·obtain rfl:s=[]:=List.eq_nil_of_length_eq_zero h0
  rw[if_pos (.inl h0)]at hPl
  rw[pO]
  go_enter func101,ntmps101
  go_wp2_with fail
  go_ret2
  exact⟨Only.refl _ _,.inl ⟨hPl.out,⟨_,rfl⟩,hF.stub⟩⟩
 have hg:=gq s 0 (by omega)
 have hb:=dQ s 0
 have hne:(ah s).toList.isEmpty=false:=by
  rw[kH]
  cases s with
  | nil=>exact absurd rfl h0
  | cons b r=>rfl
 have hq:((ak s 0:Nat):Int)/16=((ak s 0/16:Nat):Int):=by omega
 have hm:((ak s 0:Nat):Int).tmod 16=((ak s 0%16:Nat):Int):=by rw[Int.tmod_eq_emod_of_nonneg (by omega)];omega
 have hhi:ak s 0/16<=15:=by omega
 have hlo:ak s 0%16<=15:=by omega
 generalize ak s 0/16=hi at *
 generalize ak s 0%16=lo at *
 by_cases hlen:s.length<2+hi
 ·rw[if_pos (.inr (.inl hlen))]at hPl
  go_enter func101,ntmps101
  go_wp2_with fail
  go_ret2
  exact⟨Only.refl _ _,.inl ⟨hPl.out,⟨_,rfl⟩,hF.stub⟩⟩
 by_cases pq:16<1+hi
 ·exact absurd pq (by omega)
 rw[if_neg (by omega)]at hPl
 have hzl:(((s.drop 1).take (1+hi)).map RD.countOf).length=1+hi:=by simp;omega
 have hct:=aA (fun j hj=>JD s j (1+hi) hj (by omega))
 generalize((s.drop 1).take (1+hi)).map RD.countOf=Z at *
 go_enter func101,ntmps101
 go_wp2_with fail
 go_loopg[14,15] (1+hi) (fun gh v iv wr=>∃j:Nat,gh=1+hi-j/\j<=1+hi/\iv=.int .i64 (1+(j:Int))/\cO w.heap.size wr v (Z.take j)/\Below w.heap.size w wr)
 case atStart=>exact⟨0,by omega,by omega,rfl,by rw[List.take_zero];exact World.ownsRow_nil _ _ _ _,Below.refl _ _⟩
 case round =>
  obtain⟨j,rfl,hj,rfl,hown,hbel⟩:=hrel
  have hsz:=hbel.size
  have hown:=aA hown
  have hbel:=aA hbel
  by_cases hlt:j<1+hi
  ·have hgj:=gq s (1+j) (by omega)
   have hbj:=dQ s (1+j)
   have fE:=hct.out j hlt
   rw[JC]at fE
   have hmin:min j Z.length=j:=by omega
   generalize ak s (1+j)=b at *
   by_cases uJ:b=255
   ·subst uJ
    rw[if_pos rfl]at fE
    have fE:=aA fE
    rename_i pF
    clear pF
    go_wp2_with(at_builtin;refine wpList_append_own _ rfl _ _ 27 rfl w.heap.size 3 i0 _ 1 8 underlying27 hi0 hz0' hz1 hz2 rfl (by decide) _ _ _ rfl (World.ownsRow.alloc hown.out _) ⟨wr.heap.size,0,none⟩ 1 1 [.int .i64 (-1)] rfl rfl (jA _ _ _) (one_one _) (by unfold maxLen;simp;omega) (by simp;omega) (by simp;omega) ?_)
    intro v1 w1 hown1 hgrow _
    have dh:Below w.heap.size w w1:=(hbel.out.alloc hbel.out.size _).grown hgrow (by simp;omega) (fun k hk=>(World.ownsRow.lt hown.out k hk).1)
    have dS:Hid (cO w.heap.size w1 v1 (Z.take (j+1))):=by
     unfold Hid cO
     rw[fE.out,List.length_append,List.length_singleton]
     have e2:intCells (Z.take j++[(-1)])=intCells (Z.take j)++[.int .i64 (-1)]:=by simp[intCells]
     rw[e2]
     simpa[hmin]using hown1
    clear hown1 hgrow
    go_wp2
    go_roundg(1+hi-(j+1))
    case rel=>exact⟨j+1,rfl,by omega,by go_num,dS.out,dh⟩
    case measure=>omega
   ·rw[if_neg uJ]at fE
    have fE:=aA fE
    rename_i pF
    clear pF
    have hbb:(((b:Nat):Int)==255)=false:=by simp;omega
    go_wp2_with(at_builtin;refine wpList_append_own _ rfl _ _ 27 rfl w.heap.size 3 i0 _ 1 8 underlying27 hi0 hz0' hz1 hz2 rfl (by decide) _ _ _ rfl (World.ownsRow.alloc hown.out _) ⟨wr.heap.size,0,none⟩ 1 1 [.int .i64 (b:Int)] rfl rfl (jA _ _ _) (one_one _) (by unfold maxLen;simp;omega) (by simp;omega) (by simp;omega) ?_)
    intro v1 w1 hown1 hgrow _
    have dh:Below w.heap.size w w1:=(hbel.out.alloc hbel.out.size _).grown hgrow (by simp;omega) (fun k hk=>(World.ownsRow.lt hown.out k hk).1)
    have dS:Hid (cO w.heap.size w1 v1 (Z.take (j+1))):=by
     unfold Hid cO
     rw[fE.out,List.length_append,List.length_singleton]
     have e2:intCells (Z.take j++[(b:Int)])=intCells (Z.take j)++[.int .i64 (b:Int)]:=by simp[intCells]
     rw[e2]
     simpa[hmin]using hown1
    clear hown1 hgrow
    go_wp2
    go_roundg(1+hi-(j+1))
    case rel=>exact⟨j+1,rfl,by omega,by go_num,dS.out,dh⟩
    case measure=>omega
  ·obtain rfl:j=1+hi:=by omega
   rw[<- hzl,List.take_length]at hown
   obtain⟨a1,c1,rfl⟩:=hown.out.slice
   have hI1:=hown.out.ints (by omega)
   rw[hzl]at hI1
   go_wp2_with fail
   refine(RS _ a1 _ c1 Z _ hI1).mono ?_
   rintro e2 w2 ⟨hb2,hr⟩
   have hb2':=hb2.mono hsz
   have hFr:=hF.below hbel.out
   have hF2:=hFr.below hb2
   obtain⟨hgl,hfz,d6,d7,⟨u8,d8⟩,d9,d10,⟨u11,d11⟩,d12,d13,⟨u14,d14⟩⟩:=hF2.iQ
   have hon:=aA (((Only.refl (·=g) _).below hbel.out).below hb2)
   rcases hr with⟨hgd,rfl⟩|⟨lg,iw,jr,fU,v,rfl,hown2⟩
   ·rw[if_neg (by rw[hgd];simp)]at hPl
    go_wp2_with fail
    go_ret2
    exact⟨hon.out.bM g 12 _ _ _ rfl,.inl ⟨hPl.out,⟨_,rfl⟩,hF2.stub.bM 2 (by omega) _ _ _⟩⟩
   ·obtain rfl:lo=lg:=by omega
    have hgd:dI (lo:Int) Z=true:=by
     unfold dI
     rcases jr with rfl|rfl
     ·simpa using fU
     ·simpa using fU
    rw[if_pos hgd]at hPl
    obtain⟨hlen,hst⟩:=yD lo Z jr fU
    have rY:lo<=6:=by omega
    generalize table lo Z=L at *
    rw[<- hlen]at hown2
    obtain⟨htr,hoff⟩:=wI hown2
    have hoff:=hoff g hFr.iQ.1
    have hset:=aA (hF2.sN 2 (by omega) (t:=⟨true,lo,L⟩) htr hoff ⟨rY,fun _=>hlen,hst⟩)
    clear hlen hst fU iw jr hown2 hgd
    obtain⟨ca,cc,rfl,_⟩:=htr
    go_wp2_with fail
    go_ret2
    refine⟨hon.out.bM g 12 _ _ _ rfl,.inr ⟨⟨true,lo,L⟩,2+hi,hPl.out,?_,hset.out⟩⟩
    have e9:(1:Int)+(1+(hi:Int))=((2+hi:Nat):Int):=by omega
    rw[<- e9]
    rfl
theorem table_any(RS:je)(g:Nat)(f:RD.Fr)(k mode:Nat)(s:aj)(w:World)(hF:aJ w g f)(hs:s.length<=1048576)(hk:k<3)(hm:mode<4) :
  Calls prog 101 #[.pointer (some ⟨g,0,none⟩),.int .i64 (k:Nat),.int .i64 (mode:Nat),.string (ah s)] w (mO g f k mode s w):=by
 rcases(by omega:k=0\/k=1\/k=2)with rfl|rfl|rfl<;>rcases(by omega:mode=0\/mode=1\/mode=2\/mode=3)with rfl|rfl|rfl|rfl
 ·exact aeg RS g f s w hF hs
 ·exact aej RS g f s w hF hs
 ·exact aep RS g f s w hF hs
 ·exact aem RS g f s w hF hs
 ·exact aeh RS g f s w hF hs
 ·exact aek RS g f s w hF hs
 ·exact aer RS g f s w hF hs
 ·exact aen RS g f s w hF hs
 ·exact aei RS g f s w hF hs
 ·exact ael RS g f s w hF hs
 ·exact aes RS g f s w hF hs
 ·exact aeo RS g f s w hF hs
end Go.Proofs.YtbhemchnjpajiaaGreatDoor
