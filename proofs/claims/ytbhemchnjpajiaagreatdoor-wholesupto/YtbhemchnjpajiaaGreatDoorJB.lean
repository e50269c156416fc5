/- Several texts in one: Kit, Kit2, RefPow, RefLeaves. -/
import Derived.Test.YtbhemchnjpajiaaGreatDoorRows
import Derived.WalkKit
import Derived.WalkSpells
import Derived.WalkLawsBesides
import Derived.Deep.QuietTactic
import Derived.BigQuiet
import Derived.Deep.LoopGhost
import Derived.Deep.DeepMust
import Derived.Laws.CopyOwn
import Derived.Test.YtbhemchnjpajiaaGreatDoorJA
import Derived.Deep.RegionWith
set_option linter.unusedVariables false
set_option maxRecDepth 100000
set_option maxHeartbeats 1000000
namespace Go.Proofs.YtbhemchnjpajiaaGreatDoor
open Go.RowKit Go.Proofs.Tryz RD
theorem aA{p:Prop}(h:p):Hid p:=h
theorem xk{k:IntKind}{a b:Int}(h:a=b):Ending.returned (.int k a)=.returned (.int k b):=by rw[h]
theorem lH{a b:Bool}(h:a=b):Ending.returned (.bool a)=.returned (.bool b):=by rw[h]
theorem jY{k:IntKind}{a b:Int}(h:a=b):Value.int k a=.int k b:=by rw[h]
theorem addr_add(b off j:Nat):(⟨b,off,none⟩:Addr).add j=⟨b,off+j,none⟩:=by
 unfold Addr.add
 split
 ·subst_vars;rfl
 ·rfl
def Ints(w:World)(a:Option Addr)(n:Nat)(z:List Int):Prop :=
 z.length=n/\n*8<=140737488355328/\(n=0\/∃b off,a=some ⟨b,off,none⟩/\b<w.heap.size/\∀i,i<n->w.cell? ⟨b,off+i,none⟩=some (.int .i64 (z.getD i 0)))
theorem Ints.below{w w':World}{a:Option Addr}{n:Nat}{z:List Int}(h:Ints w a n z)(hb:Below w.heap.size w w'):Ints w' a n z:=by
 obtain⟨h1,h2,h3⟩:=h
 refine⟨h1,h2,?_⟩
 rcases h3 with h3|⟨b,off,ha,hlt,hc⟩
 ·exact .inl h3
 ·exact .inr ⟨b,off,ha,Nat.lt_of_lt_of_le hlt hb.size,fun i hi=>by rw[hb.cell (p:=⟨b,off+i,none⟩) hlt];exact hc i hi⟩
def aB(w:World)(g:Nat)(t:TypeId)(cs:List Value):Prop:=w.heap[g]?=some (.cells cs.toArray t (0,0))
theorem aB.cell{w:World}{g:Nat}{t:TypeId}{cs:List Value}(h:aB w g t cs){j:Nat}{v:Value}(hj:cs[j]?=some v):w.cell? ⟨g,j,none⟩=some v:=by
 simp[World.cell?,show w.heap[g]?=some (.cells cs.toArray t (0,0))from h,hj]
theorem aB.free{w:World}{g:Nat}{t:TypeId}{cs:List Value}(h:aB w g t cs)(j:Nat):w.frozen? ⟨g,j,none⟩=false:=by
 simp[World.frozen?,show w.heap[g]?=some (.cells cs.toArray t (0,0))from h]
theorem aB.lt{w:World}{g:Nat}{t:TypeId}{cs:List Value}(h:aB w g t cs):g<w.heap.size:=lt_of_block h
theorem aB.below{w w':World}{g B:Nat}{t:TypeId}{cs:List Value}(h:aB w g t cs)(hb:Below B w w')(hg:g<B):aB w' g t cs:=by
 unfold aB;rw[hb.block g hg];exact h
theorem aB.put{w:World}{g:Nat}{t:TypeId}{cs:List Value}(h:aB w g t cs)(j:Nat)(v:Value):aB (w.setCell ⟨g,j,none⟩ v) g t (cs.set j v):=by
 unfold aB
 rw[heap_setCell_same w g j cs.toArray t v h]
 simp
theorem aB.other{w:World}{g:Nat}{t:TypeId}{cs:List Value}(h:aB w g t cs)(a:Addr)(v:Value)(hne:g≠a.block):aB (w.setCell a v) g t cs:=by
 unfold aB
 rw[heap_setCell_other w a g v hne]
 exact h
theorem aB.new(w:World)(t:TypeId)(cs:List Value):aB (w.alloc (.cells cs.toArray t)) w.heap.size t cs:=by
 unfold aB
 exact heap_alloc_new w _
theorem aB.alloc{w:World}{g:Nat}{t:TypeId}{cs:List Value}(h:aB w g t cs)(o:Obj):aB (w.alloc o) g t cs:=by
 unfold aB
 rw[Below.heap_alloc w o g h.lt]
 exact h
theorem aB.drewN{w:World}{g:Nat}{t:TypeId}{cs:List Value}(h:aB w g t cs)(n:Nat):aB (w.drewN n) g t cs:=h
theorem aB.drew{w:World}{g:Nat}{t:TypeId}{cs:List Value}(h:aB w g t cs):aB w.drew g t cs:=h
def intCells(z:List Int):List Value:=z.map (Value.int .i64)
theorem zx(z:List Int)(i:Nat)(h:i<z.length):(intCells z)[i]?=some (.int .i64 (z.getD i 0)):=by
 simp[intCells,List.getElem?_eq_getElem h]
theorem Vs(z:List Int)(i:Nat)(h:i<z.length):intCells (z.take (i+1))=intCells (z.take i)++[.int .i64 (z.getD i 0)]:=by
 unfold intCells
 rw[List.take_succ_eq_append_getElem h,List.map_append,List.getD_eq_getElem?_getD,List.getElem?_eq_getElem h]
 rfl
theorem Ints.jg{w:World}{g:Nat}{z:List Int}{rest:List Value}(h:aB w g 3 (intCells z++rest))(hb:z.length*8<=140737488355328):Ints w (some ⟨g,0,none⟩) z.length z:=by
 refine⟨rfl,hb,.inr ⟨g,0,rfl,h.lt,fun i hi=>?_⟩⟩
 rw[Nat.zero_add]
 apply h.cell
 rw[List.getElem?_append_left (by simpa[intCells]using hi)]
 exact zx z i hi
theorem ownsRow_base{w:World}{base base':Nat}{e:TypeId}{size:Nat}{v:Value}{n:Nat}{xs:List Value}(h:w.ownsRow base e size v n xs)(hb:base'<=base):w.ownsRow base' e size v n xs:=by
 obtain⟨h1,h2⟩:=h
 refine⟨h1,?_⟩
 rcases h2 with h2|⟨g,cap,cur,hv,hg,r⟩
 ·exact .inl h2
 ·exact .inr ⟨g,cap,cur,hv,Nat.le_trans hb hg,r⟩
theorem mY{w:World}{base:Nat}{e:TypeId}{size:Nat}{v:Value}{n:Nat}{xs:List Value}(h:w.ownsRow base e size v n xs)(hn:0<n) :
  ∃g c rest,v=.slice (some ⟨g,0,none⟩) n c/\base<=g/\aB w g e (xs++rest)/\n<=c/\c<=maxLen/\(xs++rest).length=c*size:=by
 obtain⟨h1,h2⟩:=h
 rcases h2 with⟨-,h2⟩|⟨g,c,cur,rfl,hg1,hh,hc,hm,hs,ht⟩
 ·omega
 ·have e:xs++cur.toList.drop (n*size)=cur.toList:=by rw[<- ht,List.take_append_drop]
  refine⟨g,c,cur.toList.drop (n*size),rfl,hg1,?_,hc,hm,?_⟩
  ·unfold aB
   rw[e]
   simpa using hh
  ·rw[e]
   simpa using hs
theorem one_one(x:Int):∀u∈[Value.int .i64 x],u.oneCell'=true:=by
 intro u hu;simp at hu;subst hu;rfl
theorem CZ(w:World)(t:TypeId)(x y z:Value):∀j u,[x,y,z][j]?=some u->(w.alloc (.cells #[x,y,z] t)).cell? ((⟨w.heap.size,0,none⟩:Addr).add j)=some u:=by
 intro j u hj
 match j,hj with
 | 0,hj=>simp at hj;subst hj;simp[Addr.add]
 | 1,hj=>simp at hj;subst hj;simp[Addr.add]
 | 2,hj=>simp at hj;subst hj;simp[Addr.add]
theorem C9(x y z:Int):∀u∈[Value.int .i64 x,.int .i64 y,.int .i64 z],u.oneCell'=true:=by
 intro u hu;simp at hu;rcases hu with rfl|rfl|rfl<;>rfl
structure Only(G:Nat->Prop)(w w':World):Prop where
 os:w'.os=w.os
 tape:w'.tape=w.tape
 output:w'.output=w.output
 size:w.heap.size<=w'.heap.size
 block:∀k,k<w.heap.size->¬G k->w'.heap[k]?=w.heap[k]?
theorem Only.refl(G:Nat->Prop)(w:World):Only G w w:=⟨rfl,rfl,rfl,Nat.le_refl _,fun _ _ _=>rfl⟩
theorem Only.trans{G:Nat->Prop}{a b c:World}(h:Only G a b)(k:Only G b c):Only G a c :=
 ⟨k.os.trans h.os,k.tape.trans h.tape,k.output.trans h.output,Nat.le_trans h.size k.size,fun i hi hn=>(k.block i (Nat.lt_of_lt_of_le hi h.size) hn).trans (h.block i hi hn)⟩
theorem Only.weaken{G G':Nat->Prop}{w w':World}(h:Only G w w')(hg:∀k,k<w.heap.size->G k->G' k):Only G' w w' :=
 ⟨h.os,h.tape,h.output,h.size,fun k hk hn=>h.block k hk (fun e=>hn (hg k hk e))⟩
theorem Only.drewN{G:Nat->Prop}{a w:World}(h:Only G a w)(n:Nat):Only G a (w.drewN n):=⟨h.os,h.tape,h.output,h.size,h.block⟩
theorem Only.drew{G:Nat->Prop}{a w:World}(h:Only G a w):Only G a w.drew:=⟨h.os,h.tape,h.output,h.size,h.block⟩
theorem Only.below{G:Nat->Prop}{a w w':World}(h:Only G a w)(hb:Below w.heap.size w w'):Only G a w' :=
 ⟨hb.os.trans h.os,hb.tape.trans h.tape,hb.output.trans h.output,Nat.le_trans h.size hb.size,fun k hk hn=>(hb.block k (Nat.lt_of_lt_of_le hk h.size)).trans (h.block k hk hn)⟩
theorem Only.alloc{G:Nat->Prop}{a w:World}(h:Only G a w)(o:Obj):Only G a (w.alloc o):=h.below ((Below.refl _ w).alloc (Nat.le_refl _) o)
theorem Only.setCell{G:Nat->Prop}{a w:World}(h:Only G a w)(p:Addr)(v:Value)(hp:p.block<a.heap.size->G p.block):Only G a (w.setCell p v) :=
 ⟨h.os,h.tape,h.output,by simpa using h.size,
  fun k hk hn=>(Below.heap_setCell w p v k (fun e=>hn (e▸hp (e▸hk)))).trans (h.block k hk hn)⟩
theorem Only.toBelow{B:Nat}{w w':World}(h:Only (fun k=>B<=k) w w')(hB:B<=w.heap.size):Below B w w' :=
 ⟨h.os,h.tape,h.output,h.size,fun k hk=>h.block k (by omega) (by omega)⟩
theorem aB.only{G:Nat->Prop}{w w':World}{g:Nat}{t:TypeId}{cs:List Value}(h:aB w g t cs)(ho:Only G w w')(hn:¬G g):aB w' g t cs:=by
 have:=ho.block g h.lt hn
 unfold aB at *
 rw[this]
 exact h
theorem Only.cell{G:Nat->Prop}{w w':World}(h:Only G w w'){b j:Nat}{v:Value}(hv:w.cell? ⟨b,j,none⟩=some v)(hb:b<w.heap.size)(hn:¬G b):w'.cell? ⟨b,j,none⟩=some v:=by
 rw[<- hv]
 exact World.cell?_of_block (w:=w) (a:=⟨b,j,none⟩) (h.block b hb hn)
theorem C_{w w':World}(h:Below w.drew.heap.size w.drew w'):Below w.heap.size w w':=⟨h.os,h.tape,h.output,h.size,h.block⟩
theorem pW(n:Int)(w:World)(h0:0<=n)(h1:n<=16) :
  Calls prog 88 #[.int .i64 n] w fun e w'=>e=.returned (.int .i64 (2^n.toNat))/\w'=w:=by
 obtain⟨m,rfl⟩:=Int.eq_ofNat_of_zero_le h0
 go_enter func88,ntmps88
 go_wp2
 go_loopg[3,4] m (fun g pv iv wr=>∃k:Nat,g=m-k/\k<=m/\iv=.int .i64 (k:Int)/\pv=.int .i64 (2^k)/\wr=w)
 case atStart=>exact⟨0,by omega,by omega,rfl,rfl,rfl⟩
 case round =>
  obtain⟨k,rfl,hk,rfl,rfl,hwr⟩:=hrel
  subst hwr
  have hp:=CM.iF k 16 (by omega)
  have hq:=CM.pow_pos k
  by_cases hkm:k<m
  ·go_wp2
   go_roundg(m-(k+1))
   case rel=>exact⟨k+1,rfl,by omega,by go_num,jY (by rw[Int.pow_succ,Int.mul_comm]),rfl⟩
   case measure=>omega
  ·obtain rfl:k=m:=by omega
   go_wp2
   go_ret
   exact⟨rfl,rfl⟩
theorem qO(n:Int)(w:World)(h0:0<=n)(h1:n<=16) :
  Calls prog 88 #[.int .i64 n] w fun e w'=>e=.returned (.int .i64 (2^n.toNat))/\w=w' :=
 (pW n w h0 h1).mono fun e w' h=>⟨h.1,h.2.symm⟩
theorem Vt(l:aj)(k j:Nat)(h:k<l.length):au ((l.drop k).take (j+1))=ak l k+256*au ((l.drop (k+1)).take j):=by
 rw[List.drop_eq_getElem_cons h,List.take_succ_cons,qL _ _ h]
 rfl
theorem zA(l:aj)(j:Nat)(h:j<=4):au (l.take j)<4294967296:=by
 have a:=pV (l.take j)
 have b:(l.take j).length<=4:=by simp;omega
 have c:256^(l.take j).length<=256^4:=Nat.pow_le_pow_right (by omega) b
 omega
theorem qP(l:aj)(j:Nat)(h:j<=3):au (l.take j)<16777216:=by
 have a:=pV (l.take j)
 have b:(l.take j).length<=3:=by simp;omega
 have c:256^(l.take j).length<=256^3:=Nat.pow_le_pow_right (by omega) b
 omega
theorem gq(l:aj)(k:Nat)(h:k<(ah l).size):(((ah l)[k]).toNat:Int)=(ak l k:Nat):=by
 rw[Lr]
 rfl
theorem mZ(l:aj)(i n:Nat)(w:World)(h1:i+n<=l.length)(hn:n<=4)(hs:l.length<=1099511627776) :
  Calls prog 70 #[.string (ah l),.int .i64 i,.int .i64 n] w fun e w'=>e=.returned (.int .i64 (au ((l.drop i).take n):Nat))/\w'=w:=by
 have hz:=aQ l
 go_enter func70,ntmps70
 go_wp2
 go_loop[7,8] (fun v k=>∃j:Nat,j<=n/\k=.int .i64 ((n:Int)-1-(j:Int))/\v=.int .i64 (au ((l.drop (i+(n-j))).take j):Nat)) (fun _ k=>(intOf k+1).toNat)
 case atStart=>exact⟨0,by omega,by simp,by simp[au]⟩
 case round =>
  obtain⟨j,hj,rfl,rfl⟩:=hrel
  by_cases hlt:j<n
  ·have hv:=qP (l.drop (i+(n-j))) j (by omega)
   have hg:Hid _:=gq l (i+(n-1-j)) (by omega)
   have hb:=dQ l (i+(n-1-j))
   have hN:=Vt l (i+(n-1-j)) j (by omega)
   rw[show i+(n-1-j)+1=i+(n-j) by omega]at hN
   have hN:=aA hN
   go_wp2
   go_round
   case rel =>
    refine⟨j+1,by omega,by go_num,?_⟩
    rw[hg.out,IntWalk.wrap64_in ((ak l (i+(n-1-j)):Nat):Int) (by omega),IntWalk.wrap64_in _ (by omega),show i+(n-(j+1))=i+(n-1-j) by omega,hN.out]
    exact jY (by omega)
   case measure=>simp[intOf];omega
  ·obtain rfl:j=n:=by omega
   go_wp2
   go_ret
   exact⟨by simp,rfl⟩
theorem take_any(g:Nat)(t:TypeId)(a d fr tx:Value)(l:aj)(n:Nat)(w:World)(h:aB w g t [a,d,.string (ah l),fr,tx])(hs:l.length<=1099511627776)(hn:n<=1099511627776) :
  Calls prog 69 #[.pointer (some ⟨g,0,none⟩),.int .i64 n] w fun e w' =>
   (l.length<n/\e=.returned (.tuple #[.string (ah []),.bool false])/\w'=w) \/
   (n<=l.length/\e=.returned (.tuple #[.string (ah (l.take n)),.bool true])/\w'=w.setCell ⟨g,2,none⟩ (.string (ah (l.drop n)))):=by
 have hz:=aQ l
 have c2:=h.cell (j:=2) rfl
 have f2:=h.free 2
 by_cases hlt:l.length<n
 ·go_enter func69,ntmps69
  go_wp2
  go_ret2
  exact .inl ⟨hlt,rfl,rfl⟩
 ·go_enter func69,ntmps69
  go_wp2
  go_ret2
  refine .inr ⟨by omega,?_,?_⟩
  ·rw[<- yO]
   rfl
  ·rw[mQ]
theorem oh:(prog.info? 3).map (fun i=>(i.zero,i.size,i.bytes))=some (some (.int .i64 0),1,8):=by kernel_rfl
theorem jA(w:World)(t:TypeId)(x:Value):∀j u,[x][j]?=some u->(w.alloc (.cells #[x] t)).cell? ((⟨w.heap.size,0,none⟩:Addr).add j)=some u:=by
 intro j u hj
 match j,hj with
 | 0,hj=>simp at hj;subst hj;simp[Addr.add]
def cO(base:Nat)(w:World)(v:Value)(z:List Int):Prop:=w.ownsRow base 3 1 v z.length (intCells z)
theorem cO.slice{base:Nat}{w:World}{v:Value}{z:List Int}(h:cO base w v z):∃a c,v=.slice a z.length c:=by
 obtain⟨h1,h2⟩:=h
 rcases h2 with⟨rfl,h2⟩|⟨g,c,cur,rfl,_⟩
 ·exact⟨none,0,by rw[h2]⟩
 ·exact⟨_,_,rfl⟩
theorem cO.room{base:Nat}{w:World}{a:Option Addr}{n c:Nat}{z:List Int}(h:cO base w (.slice a n c) z):z.length<=c/\c<=maxLen/\(z.length=0\/∃g,a=some ⟨g,0,none⟩):=by
 obtain⟨h1,h2⟩:=h
 rcases h2 with⟨e,h2⟩|⟨g,c',cur,e,_,_,h3,h4,_⟩
 ·obtain⟨_,_,rfl⟩:=Value.slice.inj e
  exact⟨by omega,by unfold maxLen;omega,.inl h2⟩
 ·obtain⟨rfl,_,rfl⟩:=Value.slice.inj e
  exact⟨h3,h4,.inr ⟨g,rfl⟩⟩
theorem Ints.take{w:World}{a:Option Addr}{N n:Nat}{z:List Int}(h:Ints w a N z)(hn:n<=N):Ints w a n (z.take n):=by
 obtain⟨h1,h2,h3⟩:=h
 refine⟨by simp;omega,by omega,?_⟩
 rcases h3 with h3|⟨b,off,ha,hb,hc⟩
 ·exact .inl (by omega)
 ·refine .inr ⟨b,off,ha,hb,fun i hi=>?_⟩
  rw[hc i (by omega),List.getD_eq_getElem?_getD,List.getD_eq_getElem?_getD,List.getElem?_take_of_lt hi]
theorem cO.ints{base:Nat}{w:World}{a:Option Addr}{n c:Nat}{z:List Int}(h:cO base w (.slice a n c) z)(hb:z.length*8<=140737488355328):Ints w a z.length z:=by
 by_cases h0:z.length=0
 ·exact⟨rfl,by omega,.inl h0⟩
 ·obtain⟨g,c',rest,e,hg,hblk,_,_,_⟩:=mY h (by omega)
  obtain⟨rfl,_,_⟩:=Value.slice.inj e
  exact Ints.jg hblk hb
def Vu(s:aj)(w:World)(e:Ending)(w':World):Prop :=
 Below w.heap.size w w'/\∃v,e=.returned v/\cO w.heap.size w' v (ay s)
theorem LP(s:aj)(w:World)(hs:s.length<=1048576) :
  Calls prog 114 #[.string (ah s)] w (Vu s w):=by
 have hz:=aQ s
 obtain⟨i0,hi0,hz0',hz1,hz2⟩:=info_parts oh
 go_enter func114,ntmps114
 go_wp2_with fail
 go_loopg[3,4] s.length (fun g v iv wr=>∃i:Nat,g=s.length-i/\i<=s.length/\iv=.int .i64 (i:Int)/\cO w.heap.size wr v (ay (s.take i))/\Below w.heap.size w wr)
 case atStart=>exact⟨0,by omega,by omega,rfl,World.ownsRow_nil _ _ _ _,Below.refl _ _⟩
 case round =>
  obtain⟨i,rfl,hi,rfl,hown,hbel⟩:=hrel
  have hown:=aA hown
  have hbel:=aA hbel
  by_cases hlt:i<s.length
  ·have hg:Hid _:=gq s i (by omega)
   have hb:=dQ s i
   go_wp2_with fail
   rw[hg.out,IntWalk.wrap64_in _ (by omega)]
   go_loopg[3,6] 9 (fun g v kv wr=>∃j:Nat,g=9-j/\j<=8/\kv=.int .i64 (7-(j:Int))/\cO w.heap.size wr v (ay (s.take i)++(n_ (s.getD i 0)).take j)/\Below w.heap.size w wr)
   case atStart=>exact⟨0,by omega,by omega,rfl,by simpa using hown.out,hbel.out⟩
   case round =>
    obtain⟨j,rfl,hj,rfl,hown',qQ⟩:=hrel
    by_cases hlj:j<8
    ·have hlen:(ay (s.take i)).length<=8388608:=by rw[tH];simp;omega
     have hown':=aA hown'
     have qQ:=aA qQ
     obtain⟨X,hX⟩:∃X,X=RD.bit (s.getD i 0) (7-j):=⟨_,rfl⟩
     have hq:(wrap64 (((ak s i:Nat):Int)/2^(7-j))).tmod 2=X:=by
      have h0:(0:Int)<=((ak s i:Nat):Int)/2^(7-j):=Int.ediv_nonneg (by omega) (Int.le_of_lt (CM.pow_pos _))
      have h1:((ak s i:Nat):Int)/2^(7-j)<=((ak s i:Nat):Int):=Int.ediv_le_self _ (by omega)
      rw[IntWalk.wrap64_in _ (by omega),Int.tmod_eq_emod_of_nonneg h0,hX]
      unfold RD.bit ak
      norm_cast
     have ahC:¬(2:Int)^(7-j)=0:=Int.ne_of_gt (CM.pow_pos _)
     have HX:=aA hX
     clear hX
     go_wp2_with(first
      | (go_at_call 88;refine(qO _ _ (by omega) (by omega)).mono ?_;rintro e w' ⟨rfl,rfl⟩)
      | (at_builtin;refine wpList_append_own _ rfl _ _ 27 rfl w.heap.size 3 i0 _ 1 8 underlying27 hi0 hz0' hz1 hz2 rfl (by decide) _ _ _ rfl (World.ownsRow.alloc hown'.out _) ⟨wr.heap.size,0,none⟩ 1 1 [.int .i64 X] rfl rfl (jA _ _ _) (one_one _) (by unfold maxLen;simp;omega) (by simp;omega) (by have:=qQ.out.size;simp;omega) ?_))
     intro v' w1 hown1 hgrow _
     have hb1:Below w.heap.size w w1:=(qQ.out.alloc qQ.out.size _).grown hgrow (by have:=qQ.out.size;simp;omega) (fun k hk=>(World.ownsRow.lt hown'.out k hk).1)
     have HOWN:=aA hown1
     clear hown1 hgrow
     go_wp2
     go_roundg(9-(j+1))
     case rel =>
      refine⟨j+1,rfl,by omega,by go_num,?_,hb1⟩
      have e:=HOWN.out
      unfold cO
      rw[U9 _ _ hlj,<- HX.out,<- List.append_assoc,List.length_append,List.length_singleton]
      have e2:intCells (ay (s.take i)++(n_ (s.getD i 0)).take j++[X])=intCells (ay (s.take i)++(n_ (s.getD i 0)).take j)++[.int .i64 X]:=by simp[intCells]
      rw[e2]
      simpa[hlt]using e
     case measure=>omega
    ·obtain rfl:j=8:=by omega
     go_wp2_with fail
     go_roundg(s.length-(i+1))
     case rel=>exact⟨i+1,rfl,by omega,by go_num,by rw[U_ s i hlt];exact hown',qQ⟩
     case measure=>omega
  ·obtain rfl:i=s.length:=by omega
   go_wp2_with fail
   go_ret
   refine⟨hbel.out,_,rfl,?_⟩
   have:=hown.out
   rwa[List.take_length]at this
theorem Gt(a:Option Addr)(n c:Nat)(z:List Int)(i k:Nat)(w:World)(hI:Ints w a n z)(hb:∀x∈z,0<=x/\x<=1)(hk:k<=16)(hi:i<=1099511627776)(hn:n<=1099511627776) :
  Calls prog 126 #[.slice a n c,.int .i64 i,.int .i64 k] w fun e w'=>e=.returned (.tuple #[.int .i64 ((RD.worth z i k).getD 0),.bool (RD.worth z i k).isSome])/\w'=w:=by
 obtain⟨hl,hbig,hc⟩:=hI
 by_cases hlt:n<i+k
 ·go_enter func126,ntmps126
  go_wp2
  go_ret2
  refine⟨?_,rfl⟩
  simp[RD.worth,hl,hlt]
 ·go_enter func126,ntmps126
  go_wp2_with fail
  go_loop[8,9] (fun v kv=>∃j:Nat,j<=k/\kv=.int .i64 ((i:Int)+(j:Int))/\v=.int .i64 (RD.val ((z.drop i).take j))) (fun _ kv=>(((i:Int)+k)-intOf kv).toNat)
  case atStart=>exact⟨0,by omega,by simp,rfl⟩
  case round =>
   obtain⟨j,hj,rfl,rfl⟩:=hrel
   by_cases hlj:j<k
   ·obtain⟨b,off,rfl,hb',hc'⟩:=hc.resolve_left (by omega)
    have hck:=hc' (i+j) (by omega)
    have hv:=LD z hb i j (by omega)
    have hzb:0<=z.getD (i+j) 0/\z.getD (i+j) 0<=1:=by
     rw[List.getD_eq_getElem?_getD,List.getElem?_eq_getElem (by omega)]
     exact hb _ (List.getElem_mem _)
    have hN:=LC z i j (by omega)
    clear hc hc'
    generalize z.getD (i+j) 0=x at *
    have hN:=aA hN
    go_wp2
    go_round
    case rel=>exact⟨j+1,by omega,by go_num,jY (by rw[hN.out])⟩
    case measure=>simp[intOf];omega
   ·obtain rfl:j=k:=by omega
    go_wp2
    go_ret2
    refine⟨?_,rfl⟩
    simp[RD.worth,hl,hlt]
theorem LQ(a:Option Addr)(n c:Nat)(z:List Int)(i:Nat)(w:World)(hI:Ints w a n z)(hb:∀x∈z,0<=x/\x<=1)(hi:i<=n)(hn:n<=1099511627776) :
  Calls prog 118 #[.slice a n c,.int .i64 i] w fun e w'=>e=.returned (.bool (RD.rest z i))/\w'=w:=by
 have hl:=hI.1
 by_cases h8:8<=n-i
 ·go_enter func118,ntmps118
  go_wp2
  go_ret
  refine⟨lH ?_,rfl⟩
  simp[RD.rest,hl]
  omega
 ·have e:(n:Int)-(i:Int)=((n-i:Nat):Int):=by omega
  have hv:RD.worth z i (n-i)=some (RD.val (z.drop i)):=by
   rw[RD.worth,if_neg (by omega),List.take_of_length_le (by simp;omega)]
  go_enter func118,ntmps118
  go_wp2_with fail
  refine(Gt a n c z i (n-i) w hI hb (by omega) (by omega) (by omega)).mono ?_
  rintro e' w1 ⟨rfl,rfl⟩
  have hk:=aA (show RD.rest z i=(RD.val (z.drop i)==0) by simp[RD.rest,hl];omega)
  go_wp2
  go_ret
  exact⟨lH (by rw[hk.out]),rfl⟩
end Go.Proofs.YtbhemchnjpajiaaGreatDoor
