/- Several texts in one: RefLits, PrDec, PrApp. -/
import Derived.Test.YtbhemchnjpajiaaGreatDoorJB
import Derived.Laws.IdiomStrings
import Derived.Test.YtbhemchnjpajiaaGreatDoorJE
import Derived.Test.YtbhemchnjpajiaaGreatDoorJD
import Derived.Deep.AppendSrc
import Derived.Deep.Upon
import Derived.Deep.MidRow
import Derived.Lib.BufferRead
import Derived.Laws.IdiomCopy
set_option linter.unusedVariables false
set_option maxRecDepth 100000
set_option maxHeartbeats 1000000
namespace Go.Proofs.YtbhemchnjpajiaaGreatDoor
open Go.RowKit Go.Proofs.Tryz RD
def dA(w:World)(v:Value)(l:List CM.aG):Prop :=
 ∃a c,v=.slice a l.length c/\(l.length=0\/∃g,a=some ⟨g,0,none⟩/\g<w.heap.size/\∀i,i<l.length ->
  w.cell? ⟨g,i*3,none⟩=some (.int .i64 (l.getD i (0,0,0)).1)/\w.cell? ⟨g,i*3+1,none⟩=some (.int .i64 (l.getD i (0,0,0)).2.1)/\w.cell? ⟨g,i*3+2,none⟩=some (.int .i64 (l.getD i (0,0,0)).2.2))
theorem dA.below{w w':World}{v:Value}{l:List CM.aG}(h:dA w v l)(hb:Below w.heap.size w w'):dA w' v l:=by
 obtain⟨a,c,rfl,h⟩:=h
 refine⟨a,c,rfl,?_⟩
 rcases h with h|⟨g,rfl,hg,h⟩
 ·exact .inl h
 ·refine .inr ⟨g,rfl,Nat.lt_of_lt_of_le hg hb.size,fun i hi=>?_⟩
  obtain⟨h1,h2,h3⟩:=h i hi
  exact⟨(hb.cell (p:=⟨g,i*3,none⟩) hg).trans h1,(hb.cell (p:=⟨g,i*3+1,none⟩) hg).trans h2,(hb.cell (p:=⟨g,i*3+2,none⟩) hg).trans h3⟩
theorem dA.empty(w:World)(c:Nat):dA w (.slice none 0 c) []:=⟨none,c,rfl,.inl rfl⟩
def zK(cs:List CM.aG):Prop:=∀c∈cs,0<=c.2.1/\c.2.1<=16
def W9(s:aj)(cs:List CM.aG)(m:Nat)(w:World)(e:Ending)(w':World):Prop :=
 Below w.heap.size w w'/\∃x,e=.returned (.tuple #[.string x,.bool (RD.coded s cs m).isSome])/\∀o,RD.coded s cs m=some o->x=ah o
theorem W_(w:World)(x:Int)(b:UInt8)(hx:x=(b.toNat:Int)) :
  (convert 36 9 (.slice (some ⟨w.heap.size,0,none⟩) 1 1)).run prog (w.alloc (.cells #[.int .u8 x] 5))=.ok (.string (ah [b])) (w.alloc (.cells #[.int .u8 x] 5)):=by
 subst hx
 exact run_convert_bytes_back (P:=prog) _ 36 9 5 ⟨w.heap.size,0,none⟩ 1 [b] underlying36 underlying5 underlying9 (fun j hj=>by
  obtain rfl:j=0:=by simpa using hj
  simp[Addr.add])
theorem byteOf_toNat(v:Int):v%256=((RD.byteOf v).toNat:Int):=by
 unfold RD.byteOf
 have h:(v%256).toNat<256:=by omega
 simp[Nat.mod_eq_of_lt h]
 omega
def GX:Option CM.aG->aj
 | none=>[]
 | some c=>[RD.byteOf c.1]
def GY:Option CM.aG->Nat
 | none=>0
 | some c=>c.2.1.toNat
def tY(L:List Int)(i:Nat)(c:CM.aG):Bool:=RD.worth L i c.2.1.toNat==some c.2.2
theorem Xa(cs:List CM.aG)(p:CM.aG->Bool)(i:Nat)(h:i<cs.length)(hn:(cs.take i).find? p=none) :
  (cs.take (i+1)).find? p=if p (cs.getD i (0,0,0))then some (cs.getD i (0,0,0))else none:=by
 have e:cs.getD i (0,0,0)=cs[i]:=by rw[List.getD_eq_getElem?_getD,List.getElem?_eq_getElem h];rfl
 rw[e,List.take_succ_eq_append_getElem h,List.find?_append,hn]
 simp[List.find?_cons]
 cases p cs[i]<;>rfl
theorem Du(L:List Int)(cs:List CM.aG)(m i:Nat):dR L cs (m+1) i=match qN L i cs with
  | none=>none
  | some c=>(dR L cs m (i+c.2.1.toNat)).map fun r=>(RD.byteOf c.1::r.1,r.2):=rfl
theorem Xb(cs:List CM.aG)(p:CM.aG->Bool)(k:Nat)(c:CM.aG)(h:(cs.take k).find? p=some c):cs.find? p=some c:=by
 rw[<- List.take_append_drop k cs,List.find?_append,h]
 rfl
theorem Xc(L:List Int)(cs:List CM.aG)(m i:Nat)(o:aj)(c:CM.aG)(k:Nat)(h:(cs.take k).find? (tY L i)=some c)(ho:o.length<m)
  (hco:dR L cs m 0=(dR L cs (m-o.length) i).map fun r=>(o++r.1,r.2)) :
  dR L cs m 0=(dR L cs (m-(o++[RD.byteOf c.1]).length) (i+c.2.1.toNat)).map fun r=>(o++[RD.byteOf c.1]++r.1,r.2):=by
 have e:qN L i cs=some c:=Xb cs _ k c h
 have e2:m-o.length=(m-(o++[RD.byteOf c.1]).length)+1:=by simp;omega
 rw[hco,e2,Du,e]
 show Option.map _ (Option.map _ _)=_
 rw[Option.map_map]
 congr 1
 funext r
 simp
theorem Xd(L:List Int)(cs:List CM.aG)(m i:Nat)(o:aj)(h:(cs.take cs.length).find? (tY L i)=none)(ho:o.length<m)
  (hco:dR L cs m 0=(dR L cs (m-o.length) i).map fun r=>(o++r.1,r.2)):dR L cs m 0=none:=by
 have e:qN L i cs=none:=by
  rw[List.take_length]at h
  exact h
 have e2:m-o.length=(m-o.length-1)+1:=by omega
 rw[hco,e2,Du,e]
 rfl
theorem Nj{L:List Int}{i k:Nat}{v:Int}(h:RD.worth L i k=some v):i+k<=L.length:=by
 unfold RD.worth at h
 split at h
 ·cases h
 ·omega
theorem Nk(s:aj)(v:Value)(cs:List CM.aG)(m:Nat)(w:World)(hs:s.length<=1048576)(hm:m<=1048576)(ht:dA w v cs)(hb:zK cs)(hcl:cs.length<=1048576) :
  Calls prog 111 #[.string (ah s),v,.int .i64 m] w (W9 s cs m w):=by
 obtain⟨a,c,rfl,ht⟩:=ht
 go_enter func111,ntmps111
 go_wp2_with fail
 refine(LP s w hs).mono ?_
 rintro e w1 ⟨hb1,lv,rfl,hown⟩
 obtain⟨la,lc,rfl⟩:=hown.slice
 have hL:=hown.ints (by rw[tH];omega)
 have iU:=tH s
 have hLb:=kM s
 have hcd:Hid (RD.coded s cs m=match dR (ay s) cs m 0 with
  | none=>none
  | some (out,i)=>if RD.rest (ay s) i then some out else none):=rfl
 clear hown
 generalize ay s=L at *
 obtain⟨N,hN⟩:∃N,L.length=N:=⟨_,rfl⟩
 rw[hN]at hL iU⊢
 have hN1:N<=8388608:=by omega
 clear iU
 have HN:=aA hN
 clear hN
 obtain⟨ahJ,hb1'⟩:w.heap.size<=w1.heap.size/\Hid (Below w.heap.size w w1):=⟨hb1.size,hb1⟩
 clear hb1
 have ht:=aA ht
 go_wp2_with fail
 go_loopg[9,10] (m+1) (fun gh av ov wr=>∃(o:aj)(i:Nat),gh=m+1-o.length/\o.length<=m/\i<=N/\av=.int .i64 (i:Int)/\ov=.string (ah o)/\Hid (dR L cs m 0=(dR L cs (m-o.length) i).map fun r=>(o++r.1,r.2))/\Below w.heap.size w wr/\Ints wr la N L)
 case atStart=>exact⟨[],0,by simp,by simp,by omega,rfl,rfl,by simp[Hid],hb1'.out,hL⟩
 case round =>
  obtain⟨o,i,rfl,ho,hi,rfl,rfl,hco,hbel,hLw⟩:=hrel
  have hoz:=aQ o
  have hbel:=aA hbel
  have hLw:=aA hLw
  by_cases hlt:o.length<m
  ·go_wp2_with fail
   go_loopg[9,10,11,12] (cs.length+1) (fun gh av ov fv iv wr'=>∃(k:Nat),gh=cs.length+1-k/\k<=cs.length/\iv=.int .i64 (k:Int)/\∃r,Hid ((cs.take k).find? (tY L i)=r)/\fv=.bool r.isSome/\av=.int .i64 ((i+GY r:Nat):Int)/\i+GY r<=N/\ov=.string (ah (o++GX r))/\Below w.heap.size w wr'/\Ints wr' la N L)
   case atStart=>exact⟨0,by omega,by omega,rfl,none,rfl,rfl,rfl,hi,by simp[GX],hbel.out,hLw.out⟩
   case round =>
    obtain⟨k,rfl,hk,rfl,r,hr,rfl,rfl,hgi,rfl,hbk,hLk⟩:=hrel
    cases r with
    | some cc =>
     have Nl:=aA (Xc L cs m i o cc k hr.out hlt hco.out)
     by_cases hkl:k<cs.length
     ·go_wp2_with fail
      go_roundg(m+1-(o++[RD.byteOf cc.1]).length)
      case rel=>exact⟨o++[RD.byteOf cc.1],i+cc.2.1.toNat,rfl,by simp;omega,hgi,rfl,rfl,Nl,hbk,hLk⟩
      case measure=>simp;omega
     ·go_wp2_with fail
      go_roundg(m+1-(o++[RD.byteOf cc.1]).length)
      case rel=>exact⟨o++[RD.byteOf cc.1],i+cc.2.1.toNat,rfl,by simp;omega,hgi,rfl,rfl,Nl,hbk,hLk⟩
      case measure=>simp;omega
    | none =>
     by_cases hkl:k<cs.length
     ·have hck:0<=(cs.getD k (0,0,0)).2.1/\(cs.getD k (0,0,0)).2.1<=16:=by
       rw[List.getD_eq_getElem?_getD,List.getElem?_eq_getElem hkl]
       exact hb _ (List.getElem_mem _)
      obtain⟨g,rfl,hg,hcell⟩:=ht.out.resolve_left (by omega)
      obtain⟨d0,d1,d2⟩:=hcell k hkl
      have e0:=(hbk.cell (p:=⟨g,k*3,none⟩) hg).trans d0
      have e1:=(hbk.cell (p:=⟨g,k*3+1,none⟩) hg).trans d1
      have e2:=(hbk.cell (p:=⟨g,k*3+2,none⟩) hg).trans d2
      have hfs:=Xa cs (tY L i) k hkl hr.out
      clear hcell d0 d1 d2
      generalize cs.getD k (0,0,0)=cc at *
      obtain⟨cv,cb,cn⟩:=cc
      obtain⟨cb,rfl⟩:=Int.eq_ofNat_of_zero_le hck.1
      have hcb:cb<=16:=by have h2:(cb:Int)<=16:=hck.2;omega
      clear hck
      have hfs:=aA hfs
      have hbk:=aA hbk
      simp only[GY,GX,List.append_nil,Nat.add_zero]at *
      go_wp2_with fail
      refine(Gt la N lc L i cb _ hLk hLb hcb (by omega) (by omega)).mono ?_
      rintro e' w2 ⟨rfl,rfl⟩
      have hm':Hid (tY L i (cv,(cb:Int),cn)=(RD.worth L i cb==some cn)):=rfl
      have hwl:∀x,RD.worth L i cb=some x->i+cb<=N:=fun x hx=>by have:=Nj hx;rw[HN.out]at this;exact this
      cases hw:RD.worth L i cb with
      | none =>
       rw[hw]at hm'
       rw[hm'.out]at hfs
       have zL:Hid ((cs.take (k+1)).find? (tY L i)=none):=hfs
       clear hfs
       go_wp2_with fail
       go_roundg(cs.length+1-(k+1))
       case rel=>exact⟨k+1,rfl,by omega,by go_num,none,zL,rfl,rfl,hi,by simp,hbk.out,hLk⟩
       case measure=>omega
      | some x =>
       have hwl:=hwl x hw
       rw[hw]at hm'
       by_cases hx:x=cn
       ·subst hx
        have zL:Hid ((cs.take (k+1)).find? (tY L i)=some (cv,(cb:Int),x)):=by
         have h1:=hfs.out
         rw[hm'.out,if_pos (by simp)]at h1
         exact h1
        clear hfs
        have hcv:=W_ w2 (cv%256) (RD.byteOf cv) (byteOf_toNat cv)
        have hap:=kL o [RD.byteOf cv]
        have hz1:=aQ [RD.byteOf cv]
        have GZ:=aA (hbk.out.alloc hbk.out.size (.cells #[.int .u8 (cv%256)] 5))
        have Xe:=aA (hLk.below ((Below.refl _ w2).alloc (Nat.le_refl _) (.cells #[.int .u8 (cv%256)] 5)))
        have e1':=((Below.refl _ w2).alloc (Nat.le_refl _) (.cells #[.int .u8 (cv%256)] 5)).cell (p:=⟨g,k*3+1,none⟩) (Nat.lt_of_lt_of_le hg hbk.out.size) |>.trans e1
        go_wp2_with fail
        go_roundg(cs.length+1-(k+1))
        case rel=>exact⟨k+1,rfl,by omega,by go_num,some (cv,(cb:Int),x),zL,rfl,rfl,hwl,rfl,GZ.out,Xe.out⟩
        case measure=>omega
       ·have zL:Hid ((cs.take (k+1)).find? (tY L i)=none):=by
         have h1:=hfs.out
         rw[hm'.out,if_neg (by simpa using hx)]at h1
         exact h1
        clear hfs
        have hxb:(x==cn)=false:=by simpa using hx
        go_wp2_with fail
        go_roundg(cs.length+1-(k+1))
        case rel=>exact⟨k+1,rfl,by omega,by go_num,none,zL,rfl,rfl,hi,by simp,hbk.out,hLk⟩
        case measure=>omega
     ·obtain rfl:k=cs.length:=by omega
      have Xf:=aA (Xd L cs m i o hr.out hlt hco.out)
      go_wp2_with fail
      go_ret2
      rw[Xf.out]at hcd
      refine⟨hbk,⟨#[]⟩,?_,?_⟩
      ·rw[hcd.out]
       rfl
      ·intro o' ho'
       rw[hcd.out]at ho'
       cases ho'
  ·go_wp2_with fail
   refine(LQ la N lc L i _ hLw.out hLb hi (by omega)).mono ?_
   rintro e' w2 ⟨rfl,rfl⟩
   go_wp2_with fail
   go_ret2
   have hz:m-o.length=0:=by omega
   have h1:=hco.out
   rw[hz]at h1
   have h2:=hcd.out
   rw[h1]at h2
   have h3:RD.coded s cs m=if RD.rest L i=true then some o else none:=by simpa[dR]using h2
   refine⟨hbel.out,ah o,?_,?_⟩
   ·rw[h3]
    cases RD.rest L i<;>rfl
   ·intro o' ho'
    rw[h3]at ho'
    split at ho'
    ·rw[Option.some.inj ho']
    ·cases ho'
theorem lZ{G:Nat->Prop}{w w':World}{B:Nat}{e:TypeId}{size:Nat}{v:Value}{n:Nat}{xs:List Value}(h:w.ownsRow B e size v n xs)(ho:Only G w w')(hn:∀k,B<=k->¬G k):w'.ownsRow B e size v n xs:=by
 obtain⟨h1,h2⟩:=h
 refine⟨h1,?_⟩
 rcases h2 with h2|⟨g,cap,cur,hv,hg,hh,r⟩
 ·exact .inl h2
 ·exact .inr ⟨g,cap,cur,hv,hg,by rw[ho.block g (lt_of_block hh) (hn g hg)];exact hh,r⟩
theorem G5{G:Nat->Prop}{w w':World}{B b:Nat}{bs:List Value}(h:Lib.IsBuilder 149 5 B b bs w)(ho:Only G w w')(hn:∀k,B<=k->¬G k):Lib.IsBuilder 149 5 B b bs w':=by
 have key:∀p,Lib.BuilderAt 149 5 B b p bs w->Lib.BuilderAt 149 5 B b p bs w':=by
  rintro p ⟨hB,v,hb,hown,hne⟩
  exact⟨hB,v,by rw[ho.block b (lt_of_block hb) (hn b hB)];exact hb,lZ hown ho hn,hne⟩
 rcases h with h|h
 ·exact .inl (key _ h)
 ·exact .inr (key _ h)
theorem Xg(V:Nat)(h:V<=128):(RD.byteOf (V:Int)).toNat=V:=by
 unfold RD.byteOf
 rw[show((V:Int)%256).toNat=V by omega]
 simp
 omega
theorem Xh{L:List Int}{cs:List CM.aG}{m i:Nat}{o:aj}(ho:o.length<m)(h:qN L i cs=none)
  (hco:dR L cs m 0=(dR L cs (m-o.length) i).map fun r=>(o++r.1,r.2)):dR L cs m 0=none:=by
 rw[hco,show m-o.length=(m-o.length-1)+1 by omega,Du,h]
 rfl
theorem Xi{L:List Int}{cs:List CM.aG}{m i:Nat}{o:aj}{c:CM.aG}(ho:o.length<m)(h:qN L i cs=some c)
  (hco:dR L cs m 0=(dR L cs (m-o.length) i).map fun r=>(o++r.1,r.2)) :
  dR L cs m 0=(dR L cs (m-(o++[RD.byteOf c.1]).length) (i+c.2.1.toNat)).map fun r=>(o++[RD.byteOf c.1]++r.1,r.2):=by
 rw[hco,show m-o.length=(m-(o++[RD.byteOf c.1]).length)+1 by simp;omega,Du,h]
 simp only[Option.map_map]
 congr 1
 funext r
 simp
def Dv(w:World)(T:Nat)(cs:List CM.aG):Prop:=aB w T 288 (h_ (RD.entries cs))/\zC cs
theorem decode_any(x:Fx)(T:Nat)(cs:List CM.aG)(s:aj)(m:Nat)(w:World)(hT:Dv w T cs)(hV:bI x w)(hs:s.length<=1048576)(hm:m<=1024) :
  Calls prog 146 #[.pointer (some ⟨T,0,none⟩),.string (ah s),.int .i64 m] w fun e w'=>Below w.heap.size w w' /\
   ((RD.coded s cs m=none/\e=.returned (.tuple #[.string (ah []),aW x.f]))\/∃out,RD.coded s cs m=some out/\e=.returned (.tuple #[.string (ah out),.nilIface])):=by
 obtain⟨hB,hc⟩:=hT
 have hTl:=hB.lt
 go_enter func146,ntmps146
 go_wp2_with fail
 refine(MN s _).mono ?_
 rintro e w1 ⟨rfl,rfl⟩
 go_wp2_with fail
 have Np:=aY.new s w
 have Nq:Lib.IsBuilder 149 5 (w.heap.size+1) (w.heap.size+1) (Lib.byteCells []) ((w.alloc (.cells #[.string (ah s),.int .i64 0] 274)).alloc (.cells #[.pointer none,.slice none 0 0] 149)):=by
  have:=Lib.fresh_isBuilder 149 5 (w.alloc (.cells #[.string (ah s),.int .i64 0] 274))
  show Lib.IsBuilder _ _ _ _ [] _
  simpa using this
 have Nr:aY ((w.alloc (.cells #[.string (ah s),.int .i64 0] 274)).alloc (.cells #[.pointer none,.slice none 0 0] 149)) w.heap.size s 0:=aB.alloc Np _
 have hbel0:Below w.heap.size w ((w.alloc (.cells #[.string (ah s),.int .i64 0] 274)).alloc (.cells #[.pointer none,.slice none 0 0] 149)):=((Below.refl _ w).alloc (Nat.le_refl _) _).alloc (by simp) _
 generalize(w.alloc (.cells #[.string (ah s),.int .i64 0] 274)).alloc (.cells #[.pointer none,.slice none 0 0] 149)=w2 at *
 clear Np
 obtain⟨p,hp⟩:∃p,p=w.heap.size:=⟨_,rfl⟩
 rw[<- hp]at Nr Nq hbel0 hTl
 rw[<- hp]
 replace hp:=aA hp
 have hlen:=aA (tH s)
 have hbb:=kM s
 have hcd:Hid (RD.coded s cs m=match dR (ay s) cs m 0 with
   | none=>none
   | some (out,i)=>if RD.rest (ay s) i=true then some out else none):=rfl
 go_loopg[14] (m+1) (fun gh kv wr=>∃(o:aj)(i:Nat),gh=m+1-o.length/\o.length<=m/\i<=8*s.length/\kv=.int .i64 (o.length:Int) /\
  Hid (dR (ay s) cs m 0=(dR (ay s) cs (m-o.length) i).map fun r=>(o++r.1,r.2)) /\
  aY wr p s i/\Lib.IsBuilder 149 5 (p+1) (p+1) (Lib.byteCells o) wr/\Below p w wr)
 case atStart=>exact⟨[],0,rfl,by simp,by omega,rfl,by rw[Hid];simp,Nr,Nq,hbel0⟩
 case round =>
  obtain⟨o,i,rfl,ho,hi,rfl,hco,hbi,hbl,hbel⟩:=hrel
  by_cases hlt:o.length<m
  ·obtain⟨c,hcm,hent,⟨v0,v1,b0,b1⟩,hat⟩:=V_ hc hbb i
   have hpk:=iT hbb i 8
   obtain⟨P,hP⟩:=Int.eq_ofNat_of_zero_le hpk.1
   have hBw:=hB.below hbel hTl
   obtain⟨e0,e1⟩:=WO (RD.entries cs) P (by rw[hc.all];omega)
   rw[hP,Int.toNat_natCast]at hent
   rw[hent]at e0 e1
   have d0:=hBw.cell e0
   have d1:=hBw.cell e1
   have Xj:∀W,aY W p s i->Calls prog 152 #[.pointer (some ⟨p,0,none⟩),.int .i64 8] W fun e w'=>e=.returned (.int .i64 (P:Int))/\w'=W:=fun W hW=>by
    have:=GH p s i 8 W hW hs (by omega) (by omega)
    rw[hP]at this
    exact this
   have Xk:=hBw.lt
   have ahL:¬T=wr.heap.size:=by omega
   have p1:(P:Int)<256:=by omega
   have p2:(0:Int)<=(P:Int):=by omega
   have p3:P<256:=by omega
   clear hP hpk hent e0 e1
   obtain⟨V,Dw⟩:=Int.eq_ofNat_of_zero_le v0
   obtain⟨Bt,hBt⟩:=Int.eq_ofNat_of_zero_le (show 0<=c.2.1 by omega)
   rw[Dw]at d0 v1
   rw[hBt]at d1 b0 b1 hat
   rw[Int.toNat_natCast]at hat
   replace hat:=aA hat
   replace Dw:=aA Dw
   have hwr:=hbel.size
   have Xl:aY (wr.alloc (.cells #[.int .u8 (V:Int),.int .u8 (Bt:Int)] 286)).drew p s i:=aB.alloc hbi _
   have zM:Lib.IsBuilder 149 5 (p+1) (p+1) (Lib.byteCells o) (wr.alloc (.cells #[.int .u8 (V:Int),.int .u8 (Bt:Int)] 286)).drew :=
    G5 (G:=fun _=>False) hbl ((Only.refl _ wr).alloc _).drew (fun _ _ h=>h)
   have jk:Below p w (wr.alloc (.cells #[.int .u8 (V:Int),.int .u8 (Bt:Int)] 286)).drew:=by
    have h:=hbel.alloc (by have:=hp.out;omega) (.cells #[.int .u8 (V:Int),.int .u8 (Bt:Int)] 286)
    exact⟨h.os,h.tape,h.output,h.size,h.block⟩
   have hnx:aB (wr.alloc (.cells #[.int .u8 (V:Int),.int .u8 (Bt:Int)] 286)).drew wr.heap.size 286 [.int .u8 (V:Int),.int .u8 (Bt:Int)]:=aB.new _ _ _
   have pY:bI x (wr.alloc (.cells #[.int .u8 (V:Int),.int .u8 (Bt:Int)] 286)).drew:=hV.below (by rw[<- hp.out];exact jk)
   have hpw:=aB.lt hbi
   have hne:¬wr.heap.size=p:=by omega
   replace zM:=aA zM
   replace jk:=aA jk
   go_wp2_with fail
   go_region_with(go_at_call 152;refine(Xj _ (by first|exact hbi|exact aB.alloc hbi _)).mono ?_;rintro e w1 ⟨rfl,rfl⟩)
   all_goals
    generalize(wr.alloc (.cells #[.int .u8 (V:Int),.int .u8 (Bt:Int)] 286)).drew=w3 at *
    have n0:=hnx.cell (j:=0) rfl
    have n1:=hnx.cell (j:=1) rfl
    go_wp2_with fail
    refine(Ws p s i Bt _ Xl hs (by omega) (by omega)).mono ?_
    rintro e w4 (⟨h1,rfl,hb4⟩|⟨h1,rfl,hb4,gu⟩)
    ·have cF:=(pY.below hb4).cF
     have hb4:=aA hb4
     go_wp2_with fail
     go_quiet(fail)
     go_wp2
     go_ret2
     have hbf:Below p w w4:=jk.out.trans ⟨hb4.out.os,hb4.out.tape,hb4.out.output,hb4.out.size,fun k hk=>hb4.out.block k (by have:=jk.out.size;have:=hp.out;omega)⟩
     rw[hp.out]at hbf
     refine⟨⟨hbf.os,hbf.tape,hbf.output,hbf.size,hbf.block⟩,.inl ⟨?_,rfl⟩⟩
     have e:=hat.out
     rw[hlen.out,if_pos (by omega)]at e
     rw[hcd.out,Xh hlt e hco.out]
    ·have n4:=hnx.only gu hne
     have m0:=n4.cell (j:=0) rfl
     have Xm:=G5 zM.out gu (fun k hk e=>by omega)
     have zJ:Hid (Below p w w4):=jk.out.trans (Only.toBelow (gu.weaken (fun k _ e=>by omega)) (by have:=jk.out.size;have:=hp.out;omega))
     have Xn:=gu.size
     go_wp2_with fail
     refine(Wv (p+1) (p+1) (Lib.byteCells o) (V:Int) _ Xm (by rw[Lib.byteCells_length];omega) (by have:=aB.lt hb4;omega)).mono ?_
     rintro e w5 ⟨rfl,G6,hb5⟩
     go_wp2_with fail
     go_roundg(m+1-(o++[RD.byteOf c.1]).length)
     case rel =>
      have e:=hat.out
      rw[hlen.out,if_neg (by omega)]at e
      refine⟨o++[RD.byteOf c.1],i+Bt,rfl,by simp;omega,by omega,by simp,?_,aB.below hb4 hb5 (by omega),.inr ?_,zJ.out.trans ⟨hb5.os,hb5.tape,hb5.output,hb5.size,fun k hk=>hb5.block k (by omega)⟩⟩
      ·have:=Xi hlt e hco.out
       rw[hBt,Int.toNat_natCast]at this
       exact this
      ·have hb:Lib.byteCells (o++[RD.byteOf c.1])=Lib.byteCells o++[.int .u8 (V:Int)]:=by
        have e:(RD.byteOf c.1).toNat=V:=by rw[Dw.out];exact Xg V (by omega)
        simp[Lib.byteCells,e]
       rw[hb]
       exact G6
     case measure=>simp;omega
  ·have hoe:o.length=m:=by omega
   have Ns:Hid (dR (ay s) cs m 0=some (o,i)):=by
    have:=hco.out
    rw[hoe,Nat.sub_self]at this
    have h2:dR (ay s) cs m 0=some (o,i):=by simpa[dR]using this
    exact h2
   go_wp2_with fail
   refine(MP p s i _ hbi hs (by omega)).mono ?_
   rintro e w3 ⟨rfl,hb3⟩
   have jk:Below p w w3:=hbel.trans ⟨hb3.os,hb3.tape,hb3.output,hb3.size,fun k hk=>hb3.block k (by have:=hbel.size;have:=hp.out;omega)⟩
   have zM:=G5 hbl (aH (G:=fun _=>False) hb3) (fun _ _ h=>h)
   have pY:bI x w3:=hV.below (by rw[<- hp.out];exact jk)
   have ahM:=aB.lt (aB.below hbi hb3 (aB.lt hbi))
   rw[decide_eq_true hi,Bool.true_and]
   cases hr:RD.rest (ay s) i with
   | false =>
    have cF:=pY.cF
    go_wp2_with fail
    go_quiet(fail)
    go_wp2
    go_ret2
    rw[hp.out]at jk
    refine⟨⟨jk.os,jk.tape,jk.output,jk.size,jk.block⟩,.inl ⟨?_,rfl⟩⟩
    rw[hcd.out,Ns.out]
    simp[hr]
   | true =>
    go_wp2_with fail
    refine(Go.Proofs.Tryz.Builder_String_any (p+1) (p+1) o _ zM (by omega)).mono ?_
    rintro e w4 ⟨rfl,hb4⟩
    go_wp2_with fail
    go_ret2
    have hbf:Below p w w4:=jk.trans ⟨hb4.os,hb4.tape,hb4.output,hb4.size,fun k hk=>hb4.block k (by omega)⟩
    rw[hp.out]at hbf
    refine⟨hbf,.inr ⟨o,?_,rfl⟩⟩
    rw[hcd.out,Ns.out]
    simp[hr]
theorem Xo{P:Program}{ops:Array Oper}{o:Oper}{a:Act}{w:World}{K:Act->World->Prop}{Q:Exit->Act->World->Prop}{E:Prop}(hg:o.guard=none)(d s:Operand)(dT sT:TypeId)
  (hop:o.op=Op.call { callee:=Callee.builtin Builtin.append,args:=#[d,s],argTypes:=#[dT,sT] }) (u v r:Value) (w':World) (hd:a.eval d=u) (hs:a.eval s=v) (hrun:(Builtin.append_ #[dT,sT] o.type #[u,v]).run P w=.ok r w') (hK:K (a.put o.dst r) w') :
  if Region.wanted o (yielded ops a.tmps)=true then Oper.wp P o a w K Q else E:=by
 have hw:Region.wanted o (yielded ops a.tmps)=true:=by simp[Region.wanted,hg]
 rw[if_pos hw]
 unfold Oper.wp
 simp[execOp,hop,resolve,invoke,builtin,hd,hs,hrun,Result.andThen]
 exact hK
theorem Nu{P:Program}{ops:Array Oper}{o:Oper}{a:Act}{w:World}{K:Act->World->Prop}{Q:Exit->Act->World->Prop}{E:Prop}{Post:Value->World->Prop}(hg:o.guard=none)(d s:Operand)(dT sT:TypeId)
  (hop:o.op=Op.call { callee:=Callee.builtin Builtin.append,args:=#[d,s],argTypes:=#[dT,sT] }) (u v:Value) (hd:a.eval d=u) (hs:a.eval s=v) (hrun:∃r w',(Builtin.append_ #[dT,sT] o.type #[u,v]).run P w=.ok r w'/\Post r w') (hK:∀r w',Post r w'->K (a.put o.dst r) w') :
  if Region.wanted o (yielded ops a.tmps)=true then Oper.wp P o a w K Q else E:=by
 obtain⟨r,w',hr,hp⟩:=hrun
 exact Xo hg d s dT sT hop u v r w' hd hs hr (hK r w' hp)
theorem wpList_append_run{P:Program}{ops:Array Oper}{rest:List Oper}{o:Oper}{a:Act}{w:World}{Q:Exit->Act->World->Prop}(hg:o.guard=none)(d s:Operand)(dT sT:TypeId)
  (hop:o.op=Op.call { callee:=Callee.builtin Builtin.append,args:=#[d,s],argTypes:=#[dT,sT] }) (u v r:Value) (w':World) (hd:a.eval d=u) (hs:a.eval s=v) (hrun:(Builtin.append_ #[dT,sT] o.type #[u,v]).run P w=.ok r w') (hK:wpList P ops Q rest (a.put o.dst r) w') :
  wpList P ops Q (o::rest) a w:=by
 refine wpList_plain hg fun K hK'=>?_
 unfold Oper.wp
 simp[execOp,hop,resolve,invoke,builtin,hd,hs,hrun,Result.andThen]
 exact hK' _ _ hK
def dF(l:aj):List Value:=l.map fun b=>Value.int .u8 b.toNat
theorem jF(l:aj):(dF l).length=l.length:=by simp[dF]
theorem Nv(a b:aj):dF a++dF b=dF (a++b):=by simp[dF]
theorem xw(l:aj)(i:Nat)(h:i<l.length):(dF l)[i]?=some (.int .u8 (ak l i:Nat)):=by
 rw[dF,List.getElem?_map,List.getElem?_eq_getElem h,qL l i h]
 rfl
theorem Xp(l:aj):∀u∈dF l,u.oneCell'=true:=by
 intro u hu
 obtain⟨_,_,rfl⟩:=List.mem_map.1 hu
 rfl
theorem Xq(l:aj):byteCells (ah l)=dF l:=by simp[byteCells,ah,dF]
def U8(w:World)(g:Nat):Prop:=∃cur fz,w.heap[g]?=some (.cells cur 5 fz)
theorem U8.lt{w:World}{g:Nat}(h:U8 w g):g<w.heap.size:=by
 obtain⟨cur,fz,h⟩:=h
 exact(Array.getElem?_eq_some_iff.1 h).1
theorem U8.ne{w:World}{g b:Nat}{t:TypeId}{xs:List Value}(h:U8 w g)(k:aB w b t xs)(ht:t≠5):g≠b:=by
 obtain⟨cur,fz,h⟩:=h
 intro e
 subst e
 have k:w.heap[g]?=some (.cells xs.toArray t (0,0)):=k
 rw[h]at k
 injection k with k
 injection k with _ k _
 exact ht k.symm
def aT(B:Nat)(w:World)(v:Value)(l:aj):Prop :=
 (v=.slice none 0 0/\l=[])\/∃g off cap,v=.slice (some ⟨g,off,none⟩) l.length cap/\B<=g/\U8 w g/\l.length<=cap/\cap<=maxLen /\
  (∀i,i<l.length->w.cell? ⟨g,off+i,none⟩=some (.int .u8 (ak l i:Nat)))/\(∀i,i<cap->(w.cell? ⟨g,off+i,none⟩).isSome=true)/\∀i,i<cap->w.frozen? ⟨g,off+i,none⟩=false
theorem aT.nil(B:Nat)(w:World):aT B w (.slice none 0 0) []:=.inl ⟨rfl,rfl⟩
theorem aT.only{G:Nat->Prop}{B:Nat}{w w':World}{v:Value}{l:aj}(h:aT B w v l)(ho:Only G w w')(hn:∀k,v.ownBlock=some k->¬G k):aT B w' v l:=by
 rcases h with h|⟨g,off,cap,rfl,hb,hu,h1,h2,h3,h4,h5⟩
 ·exact .inl h
 ·have hlt:=hu.lt
  have hbk:=ho.block g hlt (hn g rfl)
  have hcell:∀i,w'.cell? ⟨g,i,none⟩=w.cell? ⟨g,i,none⟩:=fun i=>World.cell?_of_block (a:=⟨g,i,none⟩) hbk
  have hfro:∀i,w'.frozen? ⟨g,i,none⟩=w.frozen? ⟨g,i,none⟩:=fun i=>World.frozen?_of_block (a:=⟨g,i,none⟩) hbk
  refine .inr ⟨g,off,cap,rfl,hb,?_,h1,h2,fun i hi=>by rw[hcell];exact h3 i hi,fun i hi=>by rw[hcell];exact h4 i hi,fun i hi=>by rw[hfro];exact h5 i hi⟩
  unfold U8
  rw[hbk]
  exact hu
theorem aT.blk{B:Nat}{w:World}{v:Value}{l:aj}(h:aT B w v l){k:Nat}(hk:v.ownBlock=some k):B<=k/\U8 w k:=by
 rcases h with⟨rfl,-⟩|⟨g,off,cap,rfl,hb,hu,r⟩
 ·cases hk
 ·simp only[Value.ownBlock,Option.some.injEq]at hk
  subst hk
  exact⟨hb,hu⟩
theorem aT.form{B:Nat}{w:World}{v:Value}{l:aj}(h:aT B w v l):∃a c,v=.slice a l.length c/\l.length<=c/\c<=maxLen/\((a=none/\l=[]/\c=0)\/∃g off,a=some ⟨g,off,none⟩/\B<=g/\U8 w g):=by
 rcases h with⟨rfl,rfl⟩|⟨g,off,cap,rfl,hb,hu,h1,h2,r⟩
 ·exact⟨none,0,rfl,Nat.le_refl _,by unfold maxLen;omega,.inl ⟨rfl,rfl,rfl⟩⟩
 ·exact⟨_,cap,rfl,h1,h2,.inr ⟨g,off,rfl,hb,hu⟩⟩
theorem aT.take{B:Nat}{w:World}{a:Option Addr}{n c:Nat}{l:aj}(h:aT B w (.slice a n c) l)(k:Nat)(hk:k<=l.length):aT B w (.slice a k c) (l.take k):=by
 rcases h with⟨e,rfl⟩|⟨g,off,cap,e,hb,hu,h1,h2,h3,h4,h5⟩
 ·injection e with e1 e2 e3
  subst e1 e2 e3
  obtain rfl:k=0:=by simpa using hk
  exact .inl ⟨rfl,rfl⟩
 ·injection e with e1 e2 e3
  subst e1 e2 e3
  have hkl:(l.take k).length=k:=by rw[List.length_take];omega
  refine .inr ⟨g,off,c,by rw[hkl],hb,hu,by omega,h2,fun i hi=>?_,h4,h5⟩
  rw[hkl]at hi
  rw[h3 i (by omega)]
  congr 3
  unfold ak
  rw[List.getD_eq_getElem?_getD,List.getD_eq_getElem?_getD,List.getElem?_take,if_pos hi]
theorem aT.drop{B:Nat}{w:World}{g off n c:Nat}{l:aj}(h:aT B w (.slice (some ⟨g,off,none⟩) n c) l)(k:Nat)(hk:k<=l.length):aT B w (.slice (some ⟨g,off+k,none⟩) (n-k) (c-k)) (l.drop k):=by
 rcases h with⟨e,rfl⟩|⟨g,off,cap,e,hb,hu,h1,h2,h3,h4,h5⟩
 ·cases e
 ·injection e with e1 e2 e3
  injection e1 with e1
  injection e1 with e1 e4
  subst e1 e2 e3 e4
  refine .inr ⟨_,_,c-k,by rw[List.length_drop],hb,hu,by rw[List.length_drop];omega,by omega,fun i hi=>?_,fun i hi=>?_,fun i hi=>?_⟩
  ·rw[List.length_drop]at hi
   rw[Nat.add_assoc,h3 (k+i) (by omega)]
   congr 3
   unfold ak
   rw[List.getD_eq_getElem?_getD,List.getD_eq_getElem?_getD,List.getElem?_drop]
  ·rw[Nat.add_assoc];exact h4 (k+i) (by omega)
  ·rw[Nat.add_assoc];exact h5 (k+i) (by omega)
theorem aT.cells{B:Nat}{w:World}{g off n c:Nat}{l:aj}(h:aT B w (.slice (some ⟨g,off,none⟩) n c) l)(i:Nat)(hi:i<l.length):w.cell? ⟨g,off+i,none⟩=some (.int .u8 (ak l i:Nat)):=by
 rcases h with⟨e,rfl⟩|⟨g,off,cap,e,hb,hu,h1,h2,h3,h4,h5⟩
 ·cases e
 ·injection e with e1 e2 e3
  injection e1 with e1
  injection e1 with e1 e4
  subst e1 e4
  exact h3 i hi
theorem aT.same{B:Nat}{w w':World}{v:Value}{l:aj}(h:aT B w v l)(hh:w'.heap=w.heap):aT B w' v l:=by
 unfold aT U8 World.cell? World.frozen? at *
 rw[hh]
 exact h
theorem aT.base{B B':Nat}{w:World}{v:Value}{l:aj}(h:aT B w v l)(hb:B'<=B):aT B' w v l:=by
 rcases h with h|⟨g,off,cap,rfl,h1,r⟩
 ·exact .inl h
 ·exact .inr ⟨g,off,cap,rfl,Nat.le_trans hb h1,r⟩
theorem Nw:(prog.info? 5).map (fun i=>(i.zero,i.size,i.bytes))=some (some (.int .u8 0),1,1):=by kernel_rfl
def vI(B:Nat)(v:Value)(l:aj)(w:World)(v':Value)(w':World):Prop :=
 aT B w' v' l/\Only (fun k=>v.ownBlock=some k) w w'/\(v'.ownBlock=v.ownBlock\/v'.ownBlock=some w.heap.size)
theorem qc(b:Nat):∀(vs:List Value)(o:Nat)(w:World),Only (·=b) w (w.setCells b o vs)
 | [],_,w=>Only.refl _ w
 | v::r,o,w=>((Only.refl (·=b) w).setCell ⟨b,o,none⟩ v (fun _=>rfl)).trans (qc b r (o+1) _)
theorem Xr{w:World}{g:Nat}(h:U8 w g)(a:Addr)(v:Value):U8 (w.setCell a v) g:=by
 obtain⟨cur,fz,h⟩:=h
 by_cases hg:g=a.block
 ·obtain⟨b,o,s⟩:=a
  simp only at hg
  subst hg
  unfold U8
  cases s with
  | none =>
   simp only[World.setCell,Array.getElem?_modify,if_true,h]
   exact⟨_,_,rfl⟩
  | some s =>
   simp only[World.setCell,Array.getElem?_modify,if_true,h]
   exact⟨_,_,rfl⟩
 ·unfold U8
  rw[heap_setCell_other w a g v hg]
  exact⟨cur,fz,h⟩
theorem G7{g:Nat}(b:Nat):∀(vs:List Value)(o:Nat)(w:World),U8 w g->U8 (w.setCells b o vs) g
 | [],_,w,h=>h
 | v::r,o,w,h=>G7 b r (o+1) _ (Xr h _ v)
theorem G8(l t:aj)(i:Nat)(h:i<l.length):ak (l++t) i=ak l i:=by
 unfold ak
 rw[List.getD_eq_getElem?_getD,List.getD_eq_getElem?_getD,List.getElem?_append_left h]
theorem Ny(l t:aj)(i:Nat):ak (l++t) (l.length+i)=ak t i:=by
 unfold ak
 rw[List.getD_eq_getElem?_getD,List.getD_eq_getElem?_getD,List.getElem?_append_right (by omega),Nat.add_sub_cancel_left]
theorem Nz(B:Nat)(w:World)(l:aj)(old:Nat)(hs:l.length<=140737488355328)(hB:B<=w.heap.size) :
  aT B (w.drew.alloc (.cells ((dF l).toArray++Builtin.zeroCells (Value.int .u8 0).cells (grownCap w l.length old 5-l.length)) 5)) (.slice (some ⟨w.heap.size,0,none⟩) l.length (grownCap w l.length old 5)) l:=by
 have hge:=grownCap_ge w l.length old 5
 have hcm:grownCap w l.length old 5<=maxLen:=grownCap_le_maxLen w l.length old 5 (by unfold maxLen;omega)
 generalize grownCap w l.length old 5=cap at *
 have hsz:((dF l).toArray++Builtin.zeroCells (Value.int .u8 0).cells (cap-l.length)).size=cap:=by
  rw[Array.size_append,List.size_toArray,jF,size_zeroCells]
  have:(Value.int IntKind.u8 0).cells.size=1:=rfl
  rw[this]
  omega
 have hN:(w.drew.alloc (.cells ((dF l).toArray++Builtin.zeroCells (Value.int .u8 0).cells (cap-l.length)) 5)).heap[w.heap.size]?=some (.cells ((dF l).toArray++Builtin.zeroCells (Value.int .u8 0).cells (cap-l.length)) 5 (0,0)):=heap_alloc_new w.drew _
 have hc:∀i,(w.drew.alloc (.cells ((dF l).toArray++Builtin.zeroCells (Value.int .u8 0).cells (cap-l.length)) 5)).cell? ⟨w.heap.size,i,none⟩=((dF l).toArray++Builtin.zeroCells (Value.int .u8 0).cells (cap-l.length))[i]?:=fun i=>by
  rw[cell_of_row _ _ i _ _ _ hN]
 refine .inr ⟨w.heap.size,0,cap,rfl,hB,⟨_,_,hN⟩,hge,hcm,fun i hi=>?_,fun i hi=>?_,fun i hi=>?_⟩
 ·rw[Nat.zero_add,hc,Array.getElem?_append_left (by rw[List.size_toArray,jF];exact hi),List.getElem?_toArray]
  exact xw l i hi
 ·rw[Nat.zero_add,hc,Array.getElem?_eq_getElem (by rw[hsz];exact hi)]
  rfl
 ·rw[Nat.zero_add]
  unfold World.frozen?
  rw[hN]
  simp
def NC(w:World)(t:aj)(v v':Value):Prop:=(∃a n c n',v=.slice a n c/\v'=.slice a n' c)\/t≠[]/\∃n c,v'=.slice (some ⟨w.heap.size,0,none⟩) n c
theorem ND(B:Nat)(tx ty:TypeId)(w:World)(v x:Value)(l t:aj)(h:aT B w v l)(hx:Src prog 1 tx x t.length (dF t) w)(hs:l.length+t.length<=140737488355328)(hB:B<=w.heap.size) :
  ∃v' w',(Builtin.append_ #[36,tx] ty #[v,x]).run prog w=.ok v' w'/\vI B v (l++t) w v' w'/\NC w t v v':=by
 obtain⟨i0,hi0,hz0,hz1,hz2⟩:=info_parts Nw
 have hx':Src prog i0.size tx x t.length (dF t) w:=by rw[hz1];exact hx
 by_cases ht:t=[]
 ·subst ht
  obtain⟨a,c,rfl,h1,h2,-⟩:=h.form
  have hr:=run_append_nothing (P:=prog) w 36 tx ty 5 i0 underlying36 hi0 a l.length c h1 x hx'
  rw[List.append_nil]
  exact⟨_,_,hr,⟨h,Only.refl _ _,.inl rfl⟩,.inl ⟨_,_,_,_,rfl,rfl⟩⟩
 have htl:0<t.length:=List.length_pos_iff.2 ht
 have hgrow:∀(a:Option Addr)(c:Nat),v=.slice a l.length c->(Builtin.firstCells i0.size l.length (.slice a l.length c)).run prog w.drew=.ok (dF l).toArray w.drew->c<l.length+t.length ->
   ∃v' w',(Builtin.append_ #[36,tx] ty #[v,x]).run prog w=.ok v' w'/\vI B v (l++t) w v' w'/\NC w t v v':=by
  intro a c hv hold hc
  have hr:=run_append_grow_src (P:=prog) w 36 tx ty 5 i0 (.int .u8 0) underlying36 hi0 hz0 a l.length c (dF l) hold x t.length (dF t) hx' hc (by omega) (by rw[hz2];exact growslice_fits (by omega) (by omega))
  rw[Nv,<- List.length_append]at hr
  refine⟨_,_,by rw[hv];exact hr,⟨Nz B w (l++t) c (by rw[List.length_append];omega) hB,⟨rfl,rfl,rfl,by simp,fun k hk _=>(Below.heap_alloc w.drew _ k hk)⟩,.inr rfl⟩,.inr ⟨ht,_,_,rfl⟩⟩
 rcases h with⟨rfl,rfl⟩|⟨g,off,cap,rfl,hb,hu,h1,h2,h3,h4,h5⟩
 ·exact hgrow none 0 rfl (run_firstCells_none w.drew i0.size 0 0 0) (by simpa using htl)
 ·by_cases hroom:l.length+t.length<=cap
  ·have hr:=run_append_room_src (P:=prog) w 36 tx ty 5 i0 underlying36 hi0 g off l.length cap x t.length (dF t) hx' hroom
    (fun j hj=>by rw[jF]at hj;rw[hz1,Nat.mul_one,Nat.add_assoc];exact h4 _ (by omega)) (fun j hj=>by rw[jF]at hj;rw[hz1,Nat.mul_one,Nat.add_assoc];exact h5 _ (by omega))
   rw[hz1,Nat.mul_one]at hr
   refine⟨_,_,hr,⟨.inr ⟨g,off,cap,by rw[List.length_append],hb,G7 _ _ _ _ hu,by rw[List.length_append];exact hroom,h2,fun i hi=>?_,fun i hi=>?_,fun i hi=>?_⟩,(qc g _ _ w).weaken (fun k _ e=>by rw[e];rfl),.inl rfl⟩,.inl ⟨_,_,_,_,rfl,rfl⟩⟩
   ·rw[List.length_append]at hi
    by_cases hil:i<l.length
    ·rw[World.cell?_setCells_out _ _ _ _ _ (fun _ _=>.inl (by simp only;omega)),h3 i hil,G8 _ _ _ hil]
    ·obtain⟨j,rfl⟩:∃j,i=l.length+j:=⟨i-l.length,by omega⟩
     rw[<- Nat.add_assoc,World.cell?_setCells_in g (dF t) (off+l.length) w (fun j hj=>by rw[jF]at hj;rw[Nat.add_assoc];exact h4 _ (by omega)) j (by rw[jF];omega),Ny]
     have:=xw t j (by omega)
     rw[List.getElem?_eq_getElem (by rw[jF];omega)]at this
     exact this
   ·exact World.isSome_setCells g (dF t) (off+l.length) w _ (h4 i hi)
   ·rw[World.frozen?_setCells];exact h5 i hi
  ·refine hgrow _ cap rfl (run_firstCells_some w.drew i0.size l.length ⟨g,off,none⟩ l.length cap (dF l) (by rw[hz1,Nat.mul_one,jF]) (fun j u hj=>?_)) (by omega)
   have hjl:j<l.length:=by
    have:=(List.getElem?_eq_some_iff.1 hj).1
    rwa[jF]at this
   rw[xw l j hjl]at hj
   rw[addr_add,<- hj]
   exact h3 j hjl
theorem Dx(B:Nat)(tx ty:TypeId)(w:World)(v x:Value)(l t:aj)(h:aT B w v l)(hx:Src prog 1 tx x t.length (dF t) w)(hs:l.length+t.length<=140737488355328)(hB:B<=w.heap.size) :
  ∃v' w',(Builtin.append_ #[36,tx] ty #[v,x]).run prog w=.ok v' w'/\vI B v (l++t) w v' w':=by
 obtain⟨v',w',h1,h2,-⟩:=ND B tx ty w v x l t h hx hs hB
 exact⟨v',w',h1,h2⟩
theorem zN(w:World)(t:aj):Src prog 1 9 (.string (ah t)) t.length (dF t) w:=by
 have:=Src.ofString (P:=prog) w (tx:=9) underlying9 (ah t)
 rw[aQ,Xq]at this
 exact this
theorem NG(w:World)(b o c:Nat)(t:aj)(hc:∀i,i<t.length->w.cell? ⟨b,o+i,none⟩=some (.int .u8 (ak t i:Nat))):Src prog 1 36 (.slice (some ⟨b,o,none⟩) t.length c) t.length (dF t) w :=
 Src.ofSlice (P:=prog) w (tx:=36) underlying36 ⟨b,o,none⟩ t.length c (dF t) (by rw[jF,Nat.mul_one]) (fun j u hj=>by
  have hjl:j<t.length:=by
   have:=(List.getElem?_eq_some_iff.1 hj).1
   rwa[jF]at this
  rw[xw t j hjl]at hj
  rw[addr_add,<- hj]
  exact hc j hjl) (Xp t)
theorem CB(B:Nat)(w W:World)(v:Value)(l:aj)(h:aT B w v l)(hW:W.heap=w.heap):(convert 36 9 v).run prog W=.ok (.string (ah l)) W:=by
 replace h:=h.same hW
 rcases h with⟨rfl,rfl⟩|⟨g,off,cap,rfl,hb,hu,h1,h2,h3,h4,h5⟩
 ·exact Lib.run_convert_nil_bytes W _ _ _ 0 underlying36 underlying5 underlying9
 ·exact run_convert_bytes_back (P:=prog) W _ _ _ ⟨g,off,none⟩ cap l underlying36 underlying5 underlying9 (fun j hj=>by
   rw[addr_add,h3 j hj,qL l j hj])
theorem Xt(w:World)(l:aj)(hs:l.length<=140737488355328):∃v w',(convert 9 36 (.string (ah l))).run prog w=.ok v w'/\aT w.heap.size w' v l/\Below w.heap.size w w':=by
 have hr:=run_bytes_of_string (P:=prog) w _ _ _ (ah l) underlying9 underlying36 underlying5
 rw[aQ]at hr
 have hge:=grownCap_ge w l.length 0 5
 have hcm:grownCap w l.length 0 5<=maxLen:=grownCap_le_maxLen w l.length 0 5 (by unfold maxLen;omega)
 generalize grownCap w l.length 0 5=cap at *
 have hrow:(bytesRow (ah l) cap).size=cap:=by
  unfold bytesRow
  rw[Array.size_append,Array.size_map,Array.size_replicate,aQ]
  simp only[ah,List.size_toArray]
  omega
 have hat:∀i,i<l.length->(bytesRow (ah l) cap)[i]?=some (.int .u8 (ak l i:Nat)):=fun i hi=>by
  unfold bytesRow
  rw[Array.getElem?_append_left (by simp[ah];exact hi)]
  simp[ah,List.getElem?_eq_getElem hi,qL l i hi]
 generalize bytesRow (ah l) cap=C at *
 subst hrow
 have hN:(w.drew.alloc (.cells C 5 (C.size,C.size+1))).heap[w.heap.size]?=some (.cells C 5 (C.size,C.size+1)):=heap_alloc_new w.drew _
 have hc:∀i,(w.drew.alloc (.cells C 5 (C.size,C.size+1))).cell? ⟨w.heap.size,i,none⟩=C[i]?:=fun i=>cell_of_row _ _ i _ _ _ hN
 refine⟨_,_,hr,.inr ⟨w.heap.size,0,C.size,rfl,Nat.le_refl _,⟨_,_,hN⟩,hge,hcm,fun i hi=>?_,fun i hi=>?_,fun i hi=>?_⟩,⟨rfl,rfl,rfl,by simp,fun k hk=>(Below.heap_alloc w.drew _ k hk)⟩⟩
 ·rw[Nat.zero_add,hc];exact hat i hi
 ·rw[Nat.zero_add,hc,Array.getElem?_eq_getElem hi];rfl
 ·rw[Nat.zero_add]
  unfold World.frozen?
  rw[hN]
  simp only[Bool.and_eq_false_iff,decide_eq_false_iff_not]
  left
  omega
end Go.Proofs.YtbhemchnjpajiaaGreatDoor
