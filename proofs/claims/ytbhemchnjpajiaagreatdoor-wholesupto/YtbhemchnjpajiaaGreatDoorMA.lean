/- Several texts in one: RefPosts, RefFrame, RefLit2, RefLit3, RefLit4, RefLit5. -/
import Derived.Test.YtbhemchnjpajiaaGreatDoorJB
import Derived.Test.YtbhemchnjpajiaaGreatDoorJA
import Derived.Test.YtbhemchnjpajiaaGreatDoorJG
import Derived.Test.YtbhemchnjpajiaaGreatDoorJC
import Derived.OwnWalk
set_option linter.unusedVariables false
set_option maxRecDepth 100000
set_option maxHeartbeats 4000000
namespace Go.Proofs.YtbhemchnjpajiaaGreatDoor
open Go.RowKit Go.Proofs.Tryz RD
def yA(z:List Int)(w:World)(e:Ending)(w':World):Prop :=
 Below w.heap.size w w'/\((CM.good z=false/\e=.returned (.tuple #[.slice none 0 0,.int .i64 4])) \/
  (CM.good z=true/\∃v,e=.returned (.tuple #[v,.int .i64 0])/\w'.ownsRow w.heap.size 245 3 v (CM.codes z).length (CM.cellsOf (CM.codes z))))
def wH(log:Int)(z:List Int)(w:World)(e:Ending)(w':World):Prop :=
 Below w.heap.size w w'/\((dI log z=false/\e=.returned (.tuple #[.slice none 0 0,.int .i64 4])) \/
  ∃lg:Nat,log=(lg:Int)/\(lg=5\/lg=6)/\TM.dZ z (2^lg:Nat)=true/\∃v,e=.returned (.tuple #[v,.int .i64 0])/\w'.ownsRow w.heap.size 226 3 v (2^lg) (CM.cellsOf (table lg z)))
def lU:Prop:=∀(a:Option Addr)(n cap:Nat)(z:List Int)(w:World),Ints w a n z->Calls prog 110 #[.slice a n cap] w (yA z w)
def je:Prop:=∀(log:Int)(a:Option Addr)(n cap:Nat)(z:List Int)(w:World),Ints w a n z->Calls prog 112 #[.int .i64 log,.slice a n cap] w (wH log z w)
def bJ:Value->Option Nat
 | .slice (some a) _ _=>some a.block
 | _=>none
def eG(w:World)(v:Value)(z:List Int):Prop:=∃a c,v=.slice a z.length c/\Ints w a z.length z
theorem eG.below{w w':World}{v:Value}{z:List Int}(h:eG w v z)(hb:Below w.heap.size w w'):eG w' v z:=by
 obtain⟨a,c,rfl,h⟩:=h
 exact⟨a,c,rfl,h.below hb⟩
theorem dA.drew{w:World}{v:Value}{l:List CM.aG}(h:dA w v l):dA w.drew v l:=h
theorem dA.put{w:World}{v:Value}{l:List CM.aG}(h:dA w v l)(g j:Nat)(x:Value)(ho:bJ v≠some g):dA (w.setCell ⟨g,j,none⟩ x) v l:=by
 obtain⟨a,c,rfl,h⟩:=h
 refine⟨a,c,rfl,?_⟩
 rcases h with h|⟨g',rfl,hg,h⟩
 ·exact .inl h
 ·have hne:g'≠g:=fun e=>ho (by rw[e];rfl)
  have hc:∀k,(w.setCell ⟨g,j,none⟩ x).cell? ⟨g',k,none⟩=w.cell? ⟨g',k,none⟩:=fun k=>World.cell?_of_block (w:=w) (Below.heap_setCell w ⟨g,j,none⟩ x g' hne)
  refine .inr ⟨g',rfl,by simpa using hg,fun i hi=>?_⟩
  rw[hc,hc,hc]
  exact h i hi
theorem eG.put{w:World}{v:Value}{z:List Int}(h:eG w v z)(g j:Nat)(x:Value)(ho:bJ v≠some g):eG (w.setCell ⟨g,j,none⟩ x) v z:=by
 obtain⟨a,c,rfl,h1,h2,h3⟩:=h
 refine⟨a,c,rfl,h1,h2,?_⟩
 rcases h3 with h3|⟨b,off,rfl,hb,h3⟩
 ·exact .inl h3
 ·have hne:b≠g:=fun e=>ho (by rw[e];rfl)
  have hc:∀k,(w.setCell ⟨g,j,none⟩ x).cell? ⟨b,k,none⟩=w.cell? ⟨b,k,none⟩:=fun k=>World.cell?_of_block (w:=w) (Below.heap_setCell w ⟨g,j,none⟩ x b hne)
  refine .inr ⟨b,off,rfl,by simpa using hb,fun i hi=>?_⟩
  rw[hc]
  exact h3 i hi
def kG(f:RD.Fr)(vc v0 v1 v2 vl:Value):List Value :=
 [.int .i64 f.window,.int .i64 f.size,.bool f.summed,.string (ah f.dict),.string (ah f.text),vc,
  .bool f.t0.there,.int .i64 f.t0.log,v0,.bool f.t1.there,.int .i64 f.t1.log,v1,.bool f.t2.there,.int .i64 f.t2.log,v2,vl,.int .i64 f.blocks]
def RTabOk(t:RD.Tab):Prop:=t.log<=6/\(t.there=true->t.l.length=2^t.log) /\
 ∀x∈t.l,0<=x.1/\x.1<=15/\0<=x.2.1/\x.2.1<=6/\0<=x.2.2/\x.2.2+2^x.2.1.toNat<=2^t.log
structure ad4(f:RD.Fr):Prop where
 window:f.window<=8192
 size:-1<=f.size/\f.size<=16777216
 dict:f.dict.length<=256
 text:f.text.length<=1099511627776
 codes:zK f.codes/\f.codes.length<=1048576
 t0:RTabOk f.t0
 t1:RTabOk f.t1
 t2:RTabOk f.t2
 last:∀x∈f.last,-1<=x/\x<=65536
 blocks:f.blocks<=1099511627776
def aJ(w:World)(g:Nat)(f:RD.Fr):Prop :=
 ad4 f/\∃vc v0 v1 v2 vl,aB w g 122 (kG f vc v0 v1 v2 vl)/\(dA w vc f.codes/\bJ vc≠some g)/\(dA w v0 f.t0.l/\bJ v0≠some g)/\(dA w v1 f.t1.l/\bJ v1≠some g) /\
  (dA w v2 f.t2.l/\bJ v2≠some g)/\(eG w vl f.last/\bJ vl≠some g)
theorem aJ.below{w w':World}{g:Nat}{f:RD.Fr}(h:aJ w g f)(hb:Below w.heap.size w w'):aJ w' g f:=by
 obtain⟨hok,vc,v0,v1,v2,vl,hB,⟨hc,oc⟩,⟨h0,o0⟩,⟨h1,o1⟩,⟨h2,o2⟩,⟨hl,ol⟩⟩:=h
 exact⟨hok,vc,v0,v1,v2,vl,hB.below hb hB.lt,⟨hc.below hb,oc⟩,⟨h0.below hb,o0⟩,⟨h1.below hb,o1⟩,⟨h2.below hb,o2⟩,⟨hl.below hb,ol⟩⟩
theorem wI{base:Nat}{w:World}{v:Value}{t:TypeId}{l:List CM.aG}(h:w.ownsRow base t 3 v l.length (CM.cellsOf l)):dA w v l/\∀g,g<base->bJ v≠some g:=by
 by_cases h0:l.length=0
 ·obtain⟨h1,h2⟩:=h
  rcases h2 with⟨rfl,h2⟩|⟨g,c,cur,rfl,hg,_⟩
  ·refine⟨⟨none,0,by rw[h2],.inl h0⟩,fun g hg=>by simp[bJ]⟩
  ·refine⟨⟨_,c,rfl,.inl h0⟩,fun k hk=>?_⟩
   simp only[bJ,ne_eq,Option.some.injEq]
   omega
 ·obtain⟨g,c,rest,rfl,hg,hblk,_,_,_⟩:=mY h (by omega)
  refine⟨⟨_,c,rfl,.inr ⟨g,rfl,hblk.lt,fun i hi=>?_⟩⟩,fun k hk=>?_⟩
  ·obtain⟨c0,c1,c2⟩:=CM.cellsOf_at l i hi
   have hl:=CM.cellsOf_length l
   refine⟨hblk.cell ?_,hblk.cell ?_,hblk.cell ?_⟩
   ·rw[List.getElem?_append_left (by omega)];exact c0
   ·rw[List.getElem?_append_left (by omega)];exact c1
   ·rw[List.getElem?_append_left (by omega)];exact c2
  ·simp only[bJ,ne_eq,Option.some.injEq]
   omega
theorem ad5{z:List Int}(h:CM.good z=true):zK (CM.codes z)/\(CM.codes z).length<=1048576/\(CM.codes z).length≠0:=by
 simp only[CM.good,Bool.and_eq_true,bne_iff_ne,ne_eq,decide_eq_true_eq]at h
 obtain⟨⟨⟨h1,h2⟩,h3⟩,h4⟩:=h
 have t:=CM.told h1 h2 h3 h4
 refine⟨fun c hc=>?_,by have:=t.few;omega,by have:=t.pos;omega⟩
 obtain⟨i,hi,rfl⟩:=List.getElem_of_mem hc
 obtain⟨v,_,_,_,b1,b2,_⟩:=t.each i hi
 have hB:=t.hB
 unfold CM.bit at b1 b2
 rw[List.getD_eq_getElem?_getD,List.getElem?_eq_getElem hi]at b1 b2
 simp only[Option.getD_some]at b1 b2
 omega
theorem ad6(f:RD.Fr)(vc v0 v1 v2 vl v:Value)(cs:List CM.aG):(kG f vc v0 v1 v2 vl).set 5 v=kG { f with codes:=cs } v v0 v1 v2 vl:=rfl
theorem aJ.ad7{w:World}{g:Nat}{f:RD.Fr}(h:aJ w g f){v:Value}{cs:List CM.aG}(hv:dA w v cs)(ho:bJ v≠some g)(hc:zK cs/\cs.length<=1048576) :
  aJ (w.setCell ⟨g,5,none⟩ v) g { f with codes:=cs }:=by
 obtain⟨hok,vc,v0,v1,v2,vl,hB,⟨hc',oc⟩,⟨h0,o0⟩,⟨h1,o1⟩,⟨h2,o2⟩,⟨hl,ol⟩⟩:=h
 refine⟨⟨hok.window,hok.size,hok.dict,hok.text,hc,hok.t0,hok.t1,hok.t2,hok.last,hok.blocks⟩,v,v0,v1,v2,vl,?_,⟨hv.put g 5 v ho,ho⟩,⟨h0.put g 5 v o0,o0⟩,⟨h1.put g 5 v o1,o1⟩,⟨h2.put g 5 v o2,o2⟩,⟨hl.put g 5 v ol,ol⟩⟩
 have:=hB.put 5 v
 rwa[ad6 f vc v0 v1 v2 vl v cs]at this
def yB(g:Nat)(f:RD.Fr)(s:aj)(w:World)(e:Ending)(w':World):Prop :=
 Only (·=g) w w'/\((RD.literals f.codes s=none/\(∃x y,e=.returned (.tuple #[x,y,.bool false]))/\∃cs,aJ w' g { f with codes:=cs }) \/
  ∃l i cs,RD.literals f.codes s=some (l,i,cs)/\e=.returned (.tuple #[.string (ah l),.int .i64 (i:Nat),.bool true])/\aJ w' g { f with codes:=cs })
def yC(cs:List CM.aG)(s:aj)(H:Nat):Option (aj×Nat×List CM.aG) :=
 if 8192<=H\/1024<H/4%2048 then none
 else if H%4=0 then
  if s.length<2+H/4%2048 then none else some ((s.drop 2).take (H/4%2048),2+H/4%2048,cs)
 else if H%4=1 then
  if s.length<3 then none else some (List.replicate (H/4%2048) (s.getD 2 0),3,cs)
 else if H%4=2 then
  if s.length<3 then none
  else
   match RD.weights (s.drop 3) (ak s 2)with
   | none=>none
   | some z =>
    if CM.good z then
     match lY s (CM.codes z) (H/4%2048) (3+(ak s 2+1)/2)with
     | none=>none
     | some (out,i)=>some (out,i,CM.codes z)
    else none
 else
  match lY s cs (H/4%2048) 2 with
  | none=>none
  | some (out,i)=>some (out,i,cs)
theorem Bo(cs:List CM.aG)(s:aj)(h:¬s.length<2):RD.literals cs s=yC cs s (au (s.take 2)):=by
 unfold RD.literals
 rw[if_neg h]
 rfl
theorem ad8(RC:lU)(g:Nat)(f:RD.Fr)(s:aj)(w:World)(hF:aJ w g f)(hs:s.length<=1048576)(h2:¬s.length<2)(hbad:8192<=au (s.take 2)\/1024<au (s.take 2)/4%2048) :
  Calls prog 100 #[.pointer (some ⟨g,0,none⟩),.string (ah s)] w (yB g f s w):=by
 have hz:=aQ s
 have hl:=aA (Bo f.codes s h2)
 go_enter func100,ntmps100
 go_wp2_with fail
 refine(mZ s 0 2 _ (by omega) (by omega) (by omega)).mono ?_
 rintro e w1 ⟨rfl,rfl⟩
 rw[List.drop_zero]
 have hH:=pV (s.take 2)
 have hH':au (s.take 2)<65536:=by
  have:(s.take 2).length=2:=by simp;omega
  rw[this]at hH
  exact hH
 clear hH
 generalize au (s.take 2)=H at *
 unfold yC at hl
 have m1:((H:Nat):Int).tmod 4=((H%4:Nat):Int):=by rw[Int.tmod_eq_emod_of_nonneg (by omega)];omega
 have m2:(((H:Nat):Int)/4).tmod 2048=((H/4%2048:Nat):Int):=by rw[Int.tmod_eq_emod_of_nonneg (by omega)];omega
 have hM:H/4%2048<2048:=by omega
 rw[if_pos hbad]at hl
 by_cases h81:8192<=H
 ·go_wp2_with fail
  go_ret3
  exact⟨Only.refl _ _,.inl ⟨hl.out,⟨_,_,rfl⟩,f.codes,hF⟩⟩
 ·go_wp2_with fail
  go_ret3
  exact⟨Only.refl _ _,.inl ⟨hl.out,⟨_,_,rfl⟩,f.codes,hF⟩⟩
theorem ad9(RC:lU)(g:Nat)(f:RD.Fr)(s:aj)(w:World)(hF:aJ w g f)(hs:s.length<=1048576)(h2:¬s.length<2)(hgood:¬(8192<=au (s.take 2)\/1024<au (s.take 2)/4%2048))(hk:au (s.take 2)%4=0) :
  Calls prog 100 #[.pointer (some ⟨g,0,none⟩),.string (ah s)] w (yB g f s w):=by
 have hz:=aQ s
 have hl:=aA (Bo f.codes s h2)
 go_enter func100,ntmps100
 go_wp2_with fail
 refine(mZ s 0 2 _ (by omega) (by omega) (by omega)).mono ?_
 rintro e w1 ⟨rfl,rfl⟩
 rw[List.drop_zero]
 have hH:=pV (s.take 2)
 have hH':au (s.take 2)<65536:=by
  have:(s.take 2).length=2:=by simp;omega
  rw[this]at hH
  exact hH
 clear hH
 generalize au (s.take 2)=H at *
 unfold yC at hl
 have m1:((H:Nat):Int).tmod 4=((H%4:Nat):Int):=by rw[Int.tmod_eq_emod_of_nonneg (by omega)];omega
 have m2:(((H:Nat):Int)/4).tmod 2048=((H/4%2048:Nat):Int):=by rw[Int.tmod_eq_emod_of_nonneg (by omega)];omega
 have hM:H/4%2048<2048:=by omega
 have hH1:H<8192:=by omega
 have hM1:H/4%2048<=1024:=by omega
 rw[if_neg hgood]at hl
 clear hgood
 generalize H/4%2048=M at *
 rw[hk]at m1 hl
 clear hk
 rw[if_pos rfl]at hl
 by_cases hlen:s.length<2+M
 ·rw[if_pos hlen]at hl
  go_wp2_with fail
  go_ret3
  exact⟨Only.refl _ _,.inl ⟨hl.out,⟨_,_,rfl⟩,f.codes,hF⟩⟩
 ·rw[if_neg hlen]at hl
  have hmid:=aA (yX s 2 M)
  go_wp2_with fail
  go_ret3
  refine⟨Only.refl _ _,.inr ⟨_,_,_,hl.out,?_,hF⟩⟩
  rw[<- hmid.out]
  rfl
theorem ad_(RC:lU)(g:Nat)(f:RD.Fr)(s:aj)(w:World)(hF:aJ w g f)(hs:s.length<=1048576)(h2:¬s.length<2)(hgood:¬(8192<=au (s.take 2)\/1024<au (s.take 2)/4%2048))(hk:au (s.take 2)%4=1) :
  Calls prog 100 #[.pointer (some ⟨g,0,none⟩),.string (ah s)] w (yB g f s w):=by
 have hz:=aQ s
 have hl:=aA (Bo f.codes s h2)
 go_enter func100,ntmps100
 go_wp2_with fail
 refine(mZ s 0 2 _ (by omega) (by omega) (by omega)).mono ?_
 rintro e w1 ⟨rfl,rfl⟩
 rw[List.drop_zero]
 have hH:=pV (s.take 2)
 have hH':au (s.take 2)<65536:=by
  have:(s.take 2).length=2:=by simp;omega
  rw[this]at hH
  exact hH
 clear hH
 generalize au (s.take 2)=H at *
 unfold yC at hl
 have m1:((H:Nat):Int).tmod 4=((H%4:Nat):Int):=by rw[Int.tmod_eq_emod_of_nonneg (by omega)];omega
 have m2:(((H:Nat):Int)/4).tmod 2048=((H/4%2048:Nat):Int):=by rw[Int.tmod_eq_emod_of_nonneg (by omega)];omega
 have hM:H/4%2048<2048:=by omega
 have hH1:H<8192:=by omega
 have hM1:H/4%2048<=1024:=by omega
 rw[if_neg hgood]at hl
 clear hgood
 generalize H/4%2048=M at *
 rw[hk]at m1 hl
 clear hk
 rw[if_neg (by omega),if_pos rfl]at hl
 by_cases hlen:s.length<3
 ·rw[if_pos hlen]at hl
  go_wp2_with fail
  go_ret3
  exact⟨Only.refl _ _,.inl ⟨hl.out,⟨_,_,rfl⟩,f.codes,hF⟩⟩
 ·rw[if_neg hlen]at hl
  have hone:(ah s).extract 2 3=ah [s.getD 2 0]:=by
   rw[yX s 2 1,List.drop_eq_getElem_cons (by omega),List.take_succ_cons,List.take_zero,List.getD_eq_getElem?_getD,List.getElem?_eq_getElem (by omega)]
   rfl
  generalize s.getD 2 0=b at *
  have hz1:=aQ [b]
  go_wp2_with fail
  go_loopg[11,12] M (fun gh ov iv wr=>∃i:Nat,gh=M-i/\i<=M/\iv=.int .i64 (i:Int)/\ov=.string (ah (List.replicate i b))/\wr=w1)
  case atStart=>exact⟨0,by omega,by omega,rfl,rfl,rfl⟩
  case round =>
   obtain⟨i,rfl,hi,rfl,rfl,hwr⟩:=hrel
   subst hwr
   have hzi:=aQ (List.replicate i b)
   rw[List.length_replicate]at hzi
   have hap:=kL (List.replicate i b) [b]
   rw[<- List.replicate_succ']at hap
   by_cases hlt:i<M
   ·go_wp2_with fail
    go_roundg(M-(i+1))
    case rel=>exact⟨i+1,rfl,by omega,by go_num,rfl,rfl⟩
    case measure=>omega
   ·obtain rfl:i=M:=by omega
    go_wp2_with fail
    go_ret3
    exact⟨Only.refl _ _,.inr ⟨_,_,_,hl.out,rfl,hF⟩⟩
theorem aea(RC:lU)(g:Nat)(f:RD.Fr)(s:aj)(w:World)(hF:aJ w g f)(hs:s.length<=1048576)(h2:¬s.length<2)(hgood:¬(8192<=au (s.take 2)\/1024<au (s.take 2)/4%2048))(hk:au (s.take 2)%4=3) :
  Calls prog 100 #[.pointer (some ⟨g,0,none⟩),.string (ah s)] w (yB g f s w):=by
 have hz:=aQ s
 have hl:=aA (Bo f.codes s h2)
 go_enter func100,ntmps100
 go_wp2_with fail
 refine(mZ s 0 2 _ (by omega) (by omega) (by omega)).mono ?_
 rintro e w1 ⟨rfl,rfl⟩
 rw[List.drop_zero]
 have hH:=pV (s.take 2)
 have hH':au (s.take 2)<65536:=by
  have:(s.take 2).length=2:=by simp;omega
  rw[this]at hH
  exact hH
 clear hH
 generalize au (s.take 2)=H at *
 unfold yC at hl
 have m1:((H:Nat):Int).tmod 4=((H%4:Nat):Int):=by rw[Int.tmod_eq_emod_of_nonneg (by omega)];omega
 have m2:(((H:Nat):Int)/4).tmod 2048=((H/4%2048:Nat):Int):=by rw[Int.tmod_eq_emod_of_nonneg (by omega)];omega
 have hM:H/4%2048<2048:=by omega
 have hH1:H<8192:=by omega
 have hM1:H/4%2048<=1024:=by omega
 rw[if_neg hgood]at hl
 clear hgood
 generalize H/4%2048=M at *
 rw[hk]at m1 hl
 clear hk
 rw[if_neg (by omega),if_neg (by omega),if_neg (by omega)]at hl
 have hFj:=hF
 obtain⟨hok,vc,v0,v1,v2,vl,hB,⟨hc',oc⟩,-⟩:=hFj
 have c5:w1.cell? ⟨g,5,none⟩=some vc:=hB.cell rfl
 obtain⟨ca,cc,rfl,hct⟩:=hc'
 have hct:Hid (dA w1 (.slice ca f.codes.length cc) f.codes):=⟨ca,cc,rfl,hct⟩
 clear oc hB
 have hcb:=aA hok.codes
 clear hok
 have hbc:Hid (lY s f.codes M 2=if(f.codes).length=0\/s.length<2+2 then none
   else if s.length<2+2+au ((s.drop 2).take 2)then none
   else match RD.coded ((s.drop (2+2)).take (au ((s.drop 2).take 2))) f.codes M with
    | none=>none
    | some out=>some (out,2+2+au ((s.drop 2).take 2))):=rfl
 by_cases hc0:f.codes.length=0
 ·rw[hc0]at c5
  rw[if_pos (.inl hc0)]at hbc
  rw[hbc.out]at hl
  go_wp2_with fail
  go_ret3
  exact⟨(Only.refl _ _),.inl ⟨hl.out,⟨_,_,rfl⟩,_,hF⟩⟩
 have aec:((((f.codes).length:Nat):Int)==0)=false:=by simpa using hc0
 by_cases hA:s.length<2+2
 ·rw[if_pos (.inr hA)]at hbc
  rw[hbc.out]at hl
  go_wp2_with fail
  go_ret3
  exact⟨(Only.refl _ _),.inl ⟨hl.out,⟨_,_,rfl⟩,_,hF⟩⟩
 go_wp2_with fail
 refine(mZ s (2) 2 _ (by omega) (by omega) (by omega)).mono ?_
 rintro e' w9 ⟨rfl,rfl⟩
 rw[if_neg (by omega)]at hbc
 have hZ:=zA (s.drop (2)) 2 (by omega)
 generalize au ((s.drop (2)).take 2)=Z at *
 by_cases Bq:s.length<2+2+Z
 ·rw[if_pos Bq]at hbc
  rw[hbc.out]at hl
  go_wp2_with fail
  go_ret3
  exact⟨(Only.refl _ _),.inl ⟨hl.out,⟨_,_,rfl⟩,_,hF⟩⟩
 rw[if_neg Bq]at hbc
 obtain⟨E,hEe⟩:∃E,E=2+2+Z:=⟨_,rfl⟩
 have hE:IntKind.i64.wrap (4+(Z:Int))=(E:Int):=by rw[IntKind.wrap_i64];omega
 have hE1:4<=(E:Int):=by omega
 have hE2:(E:Int)<=(s.length:Int):=by omega
 have z_:((s.drop (2+2)).take Z).length<=1048576:=by simp;omega
 have hM2:M<=1048576:=by omega
 have FV:(0:Int)<=(E:Int):=by omega
 have hmid:(ah s).extract (4) E=ah ((s.drop (2+2)).take Z):=by rw[hEe,show(4:Nat)=2+2 from rfl];exact yX s (2+2) Z
 have hEe:=aA hEe
 rename_i JA
 clear JA
 go_wp2_with fail
 go_region_with(first
  | (go_at_call 111;refine(Nk _ _ f.codes M _ z_ hM2 ?_ hcb.out.1 hcb.out.2).mono ?_;exact hct.out.drew;rintro e' w8 ⟨hb8,x,rfl,hx⟩))
 all_goals
  go_wp2_with fail
  go_ret3
  have sK:=C_ hb8
  cases hcd:RD.coded ((s.drop (2+2)).take Z) f.codes M with
  | none =>
   rw[hcd]at hbc
   rw[hbc.out]at hl
   exact⟨(Only.refl _ _).below sK,.inl ⟨hl.out,⟨.string x,.int .i64 (E:Int),rfl⟩,_,hF.below sK⟩⟩
  | some o =>
   rw[hcd]at hbc
   rw[hbc.out]at hl
   obtain rfl:=hx o hcd
   refine⟨(Only.refl _ _).below sK,.inr ⟨o,_,_,hl.out,?_,hF.below sK⟩⟩
   rw[<- hEe.out]
   rfl
theorem aed(RC:lU)(g:Nat)(f:RD.Fr)(s:aj)(w:World)(hF:aJ w g f)(hs:s.length<=1048576)(h2:¬s.length<2)(hgood:¬(8192<=au (s.take 2)\/1024<au (s.take 2)/4%2048))(hk:au (s.take 2)%4=2) :
  Calls prog 100 #[.pointer (some ⟨g,0,none⟩),.string (ah s)] w (yB g f s w):=by
 have hz:=aQ s
 have hl:=aA (Bo f.codes s h2)
 go_enter func100,ntmps100
 go_wp2_with fail
 refine(mZ s 0 2 _ (by omega) (by omega) (by omega)).mono ?_
 rintro e w1 ⟨rfl,rfl⟩
 rw[List.drop_zero]
 have hH:=pV (s.take 2)
 have hH':au (s.take 2)<65536:=by
  have:(s.take 2).length=2:=by simp;omega
  rw[this]at hH
  exact hH
 clear hH
 generalize au (s.take 2)=H at *
 unfold yC at hl
 have m1:((H:Nat):Int).tmod 4=((H%4:Nat):Int):=by rw[Int.tmod_eq_emod_of_nonneg (by omega)];omega
 have m2:(((H:Nat):Int)/4).tmod 2048=((H/4%2048:Nat):Int):=by rw[Int.tmod_eq_emod_of_nonneg (by omega)];omega
 have hM:H/4%2048<2048:=by omega
 have hH1:H<8192:=by omega
 have hM1:H/4%2048<=1024:=by omega
 rw[if_neg hgood]at hl
 clear hgood
 generalize H/4%2048=M at *
 rw[hk]at m1 hl
 clear hk
 rw[if_neg (by omega),if_neg (by omega),if_pos rfl]at hl
 by_cases hlen:s.length<3
 ·rw[if_pos hlen]at hl
  go_wp2_with fail
  go_ret3
  exact⟨Only.refl _ _,.inl ⟨hl.out,⟨_,_,rfl⟩,f.codes,hF⟩⟩
 rw[if_neg hlen]at hl
 have hg:=gq s 2 (by omega)
 have hb:=dQ s 2
 have hdr:=mQ s 3
 have hdl:(s.drop 3).length<=1048576:=by simp;omega
 generalize ak s 2=n at *
 go_wp2_with fail
 refine(Xv (s.drop 3) n _ hdl (by omega)).mono ?_
 rintro e2 w2 ⟨hb2,hw2⟩
 rcases hw2 with⟨hw2,rfl⟩|⟨z,a2,c2,hw2,rfl,hI2⟩
 ·rw[hw2]at hl
  go_wp2_with fail
  refine(RC none 0 0 [] _ ⟨rfl,by omega,.inl rfl⟩).mono ?_
  rintro e3 w3 ⟨hb3,hr⟩
  rcases hr with⟨_,rfl⟩|⟨hg0,_⟩
  ·go_wp2_with fail
   go_ret3
   exact⟨((Only.refl _ _).below hb2).below hb3,.inl ⟨hl.out,⟨_,_,rfl⟩,f.codes,(hF.below hb2).below hb3⟩⟩
  ·exact absurd hg0 (by decide)
 rw[hw2]at hl
 go_wp2_with fail
 refine(RC a2 n c2 z _ hI2).mono ?_
 rintro e3 w3 ⟨hb3,hr⟩
 have hF3:=(hF.below hb2).below hb3
 have Rk:=((Only.refl (·=g) _).below hb2).below hb3
 rcases hr with⟨hg0,rfl⟩|⟨hg0,v,rfl,hown⟩
 ·have hl':Hid (RD.literals f.codes s=none):=by
   have h1:=hl.out
   simp only[hg0]at h1
   exact h1
  go_wp2_with fail
  go_ret3
  exact⟨Rk,.inl ⟨hl'.out,⟨_,_,rfl⟩,f.codes,hF3⟩⟩
 have hl':Hid (RD.literals f.codes s=match lY s (CM.codes z) M (3+(n+1)/2)with
   | none=>none
   | some (out,i)=>some (out,i,CM.codes z)):=by
  have h1:=hl.out
  simp only[hg0,if_true]at h1
  exact h1
 clear hl
 have hcf:=ad5 hg0
 obtain⟨htr,hoff⟩:=wI hown
 have aee:g<w2.heap.size:=by
  obtain⟨_,_,_,_,_,_,hB,_⟩:=hF.below hb2
  exact hB.lt
 have hoff:=hoff g aee
 have uI:=hF3.ad7 htr hoff ⟨hcf.1,hcf.2.1⟩
 have hon:=Rk.setCell ⟨g,5,none⟩ v (fun _=>rfl)
 have Rl:=htr.put g 5 v hoff
 obtain⟨ca,cc,rfl,_⟩:=htr
 have Rn:w3.cell? ⟨g,5,none⟩≠none:=by
  obtain⟨_,_,_,_,_,_,hB,_⟩:=hF3
  rw[hB.cell (j:=5) rfl]
  simp
 have f5a:w3.frozen? ⟨g,5,none⟩=false:=by
  obtain⟨_,_,_,_,_,_,hB,_⟩:=hF3
  exact hB.free 5
 obtain⟨vo,Rn⟩:=Option.ne_none_iff_exists'.1 Rn
 have uI:=aA uI
 have hon:=aA hon
 have hct:=aA Rl
 have hcb:Hid (zK (CM.codes z)/\(CM.codes z).length<=1048576):=⟨hcf.1,hcf.2.1⟩
 have hc0:=hcf.2.2
 clear hcf Rl hown hoff
 have hA0:(3:Int)+((n:Int)+1)/2=((3+(n+1)/2:Nat):Int):=by omega
 have hA9:3+(n+1)/2<=200:=by omega
 generalize 3+(n+1)/2=A at *
 have hbc:Hid (lY s (CM.codes z) M A=if((CM.codes z)).length=0\/s.length<A+2 then none
   else if s.length<A+2+au ((s.drop A).take 2)then none
   else match RD.coded ((s.drop (A+2)).take (au ((s.drop A).take 2))) (CM.codes z) M with
    | none=>none
    | some out=>some (out,A+2+au ((s.drop A).take 2))):=rfl
 have aec:(((((CM.codes z)).length:Nat):Int)==0)=false:=by simpa using hc0
 by_cases hA:s.length<A+2
 ·rw[if_pos (.inr hA)]at hbc
  rw[hbc.out]at hl'
  go_wp2_with fail
  go_ret3
  exact⟨hon.out,.inl ⟨hl'.out,⟨_,_,rfl⟩,_,uI.out⟩⟩
 go_wp2_with fail
 refine(mZ s (A) 2 _ (by omega) (by omega) (by omega)).mono ?_
 rintro e' w9 ⟨rfl,rfl⟩
 rw[if_neg (by omega)]at hbc
 have hZ:=zA (s.drop (A)) 2 (by omega)
 generalize au ((s.drop (A)).take 2)=Z at *
 by_cases Bq:s.length<A+2+Z
 ·rw[if_pos Bq]at hbc
  rw[hbc.out]at hl'
  go_wp2_with fail
  go_ret3
  exact⟨hon.out,.inl ⟨hl'.out,⟨_,_,rfl⟩,_,uI.out⟩⟩
 rw[if_neg Bq]at hbc
 obtain⟨E,hEe⟩:∃E,E=A+2+Z:=⟨_,rfl⟩
 have hE:IntKind.i64.wrap (((A:Int)+2)+(Z:Int))=(E:Int):=by rw[IntKind.wrap_i64];omega
 have hE1:((A:Int)+2)<=(E:Int):=by omega
 have hE2:(E:Int)<=(s.length:Int):=by omega
 have z_:((s.drop (A+2)).take Z).length<=1048576:=by simp;omega
 have hM2:M<=1048576:=by omega
 have FV:(0:Int)<=(E:Int):=by omega
 have hmid:(ah s).extract (A+2) E=ah ((s.drop (A+2)).take Z):=by rw[hEe,show A+2=A+2 from rfl];exact yX s (A+2) Z
 have hEe:=aA hEe
 rename_i JA
 clear JA
 go_wp2_with fail
 go_region_with(first
  | (go_at_call 111;refine(Nk _ _ (CM.codes z) M _ z_ hM2 ?_ hcb.out.1 hcb.out.2).mono ?_;exact hct.out.drew;rintro e' w8 ⟨hb8,x,rfl,hx⟩))
 all_goals
  go_wp2_with fail
  go_ret3
  have sK:=C_ hb8
  cases hcd:RD.coded ((s.drop (A+2)).take Z) (CM.codes z) M with
  | none =>
   rw[hcd]at hbc
   rw[hbc.out]at hl'
   exact⟨hon.out.below sK,.inl ⟨hl'.out,⟨.string x,.int .i64 (E:Int),rfl⟩,_,uI.out.below sK⟩⟩
  | some o =>
   rw[hcd]at hbc
   rw[hbc.out]at hl'
   obtain rfl:=hx o hcd
   refine⟨hon.out.below sK,.inr ⟨o,_,_,hl'.out,?_,uI.out.below sK⟩⟩
   rw[<- hEe.out]
   rfl
theorem aef(RC:lU)(g:Nat)(f:RD.Fr)(s:aj)(w:World)(hF:aJ w g f)(hs:s.length<=1048576) :
  Calls prog 100 #[.pointer (some ⟨g,0,none⟩),.string (ah s)] w (yB g f s w):=by
 have hz:=aQ s
 by_cases h2:s.length<2
 ·go_enter func100,ntmps100
  go_wp2_with fail
  go_ret3
  exact⟨Only.refl _ _,.inl ⟨by rw[RD.literals,if_pos h2],⟨_,_,rfl⟩,f.codes,hF⟩⟩
 by_cases hbad:8192<=au (s.take 2)\/1024<au (s.take 2)/4%2048
 ·exact ad8 RC g f s w hF hs h2 hbad
 rcases(by omega:au (s.take 2)%4=0\/au (s.take 2)%4=1\/au (s.take 2)%4=2\/au (s.take 2)%4=3)with h|h|h|h
 ·exact ad9 RC g f s w hF hs h2 hbad h
 ·exact ad_ RC g f s w hF hs h2 hbad h
 ·exact aed RC g f s w hF hs h2 hbad h
 ·exact aea RC g f s w hF hs h2 hbad h
end Go.Proofs.YtbhemchnjpajiaaGreatDoor
