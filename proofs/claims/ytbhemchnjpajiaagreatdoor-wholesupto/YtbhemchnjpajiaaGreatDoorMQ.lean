/- Several texts in one: TabRefMath, TabRows, TabRef. -/
import Derived.Test.YtbhemchnjpajiaaGreatDoorKP
import Derived.Test.YtbhemchnjpajiaaGreatDoorJE
import Derived.Maps.AppendAt
import Derived.Test.YtbhemchnjpajiaaGreatDoorMA
set_option linter.unusedVariables false
set_option maxRecDepth 100000
set_option maxHeartbeats 4000000
namespace Go.Proofs.YtbhemchnjpajiaaGreatDoor.TM
open Go
def Good(z:List Int)(S n t:Nat)(L:List Int):Prop:=(∀p:Nat,p<S->((p:Int)∈L↔F z S n p=(t:Int)))/\(L.length:Int)=pl (z.getD t 0)
theorem TF(z:List Int)(S:Nat)(h:Fits z S)(hS:1<=S)(t:Nat)(ht:z.getD t 0=-1)(k:Nat)(hk:sum z k<=S)(htk:t<k) :
  (tb z S k).2<=(tb z S t).2-1/\1<=(tb z S t).2/\∀p,(tb z S k).2<=p->p<S->((tb z S k).1 p=(t:Int)↔p=(tb z S t).2-1):=by
 induction k with
 | zero=>omega
 | succ k ih =>
  have hb:=qM _ (S:Int) (by omega) (iY z S (by omega) h k)
  have hk':=hk
  simp only[sum]at hk
  have hfr:=og z S h hS k (by omega)
  by_cases e:t=k
  ·subst e
   have e1:tb z S (t+1)=(upd (tb z S t).1 ((tb z S t).2-1) (t:Int),(tb z S t).2-1):=by simp only[tb];rw[if_pos ht]
   have h1:pl (-1)=1:=rfl
   rw[ht,h1]at hk
   rw[e1]
   refine⟨Nat.le_refl _,by omega,?_⟩
   intro p h1 h2
   simp only at h1⊢
   unfold upd
   by_cases e2:p=(tb z S t).2-1
   ·rw[if_pos e2];simp[e2]
   ·rw[if_neg e2]
    refine⟨fun h3=>?_,fun h3=>absurd h3 e2⟩
    obtain⟨s,a,b,c⟩:=Gs z S h hS t (by omega) p (by omega) h2
    rw[a]at h3
    omega
  ·obtain⟨i1,i2,i3⟩:=ih (by omega) (by omega)
   by_cases hm:z.getD k 0=-1
   ·have e1:tb z S (k+1)=(upd (tb z S k).1 ((tb z S k).2-1) (k:Int),(tb z S k).2-1):=by simp only[tb];rw[if_pos hm]
    have h1:pl (-1)=1:=rfl
    rw[hm,h1]at hk
    rw[e1]
    refine⟨by simp only;omega,i2,?_⟩
    intro p h1 h2
    simp only at h1⊢
    unfold upd
    by_cases e2:p=(tb z S k).2-1
    ·rw[if_pos e2]
     refine⟨fun h3=>by omega,fun h3=>by omega⟩
    ·rw[if_neg e2]
     exact i3 p (by omega) h2
   ·have e1:tb z S (k+1)=tb z S k:=by simp only[tb];rw[if_neg hm]
    rw[e1]
    exact⟨i1,i2,i3⟩
theorem TG(z:List Int)(S n p:Nat)(hS:Size S)(h:p<(tb z S n).2):F z S n p=(item z (cf S (tb z S n).2 (idx S p)) n:Int):=by
 unfold F fK
 rw[if_neg (by omega),if_pos (tN hS p)]
theorem TI(z:List Int)(S n p:Nat)(h:(tb z S n).2<=p):F z S n p=(tb z S n).1 p:=by
 unfold F fK
 rw[if_pos h]
theorem agC(z:List Int)(S n t:Nat)(hS:Size S)(h:Fits z S)(hs:sum z n=S)(ht:t<n)(hm:z.getD t 0=-1):Good z S n t [((tb z S t).2:Int)-1]:=by
 have hS1:1<=S:=by rcases hS with rfl|rfl<;>omega
 have hfr:=og z S h hS1 n (by omega)
 have hfb:=vg z S n hS1 h hs
 obtain⟨a,b,c⟩:=TF z S h hS1 t hm n (by omega) ht
 refine⟨?_,by rw[hm];rfl⟩
 intro p hp
 rw[List.mem_singleton]
 by_cases e:(tb z S n).2<=p
 ·rw[TI z S n p e,c p e hp]
  omega
 ·rw[TG z S n p hS (by omega)]
  refine⟨fun h=>by omega,fun h=>?_⟩
  exfalso
  have hc:=zq hS hfr.2 p hp (by omega)
  have:=(Ec z n (cf S (tb z S n).2 (idx S p)) t ht (by omega)).1 (by omega)
  have h2:base z (t+1)=base z t+(z.getD t 0).toNat:=rfl
  rw[hm]at h2
  simp at h2
  omega
def Turn(z:List Int)(S free n s K:Nat)(L:List Int):Prop:=(∀p:Nat,p<S->((p:Int)∈L↔(p<free/\idx S p<K/\item z (cf S free (idx S p)) n=s)))/\L.length+base z s=cf S free K
theorem agD(S free K:Nat)(hS:Size S)(p:Nat)(hp:p<S)(h:p<free)(hK:idx S p<K):cf S free (idx S p)<cf S free K:=by
 have h4:cf S free (idx S p+1)=cf S free (idx S p)+if P S (idx S p)<free then 1 else 0:=rfl
 rw[u_ hS p hp,if_pos h]at h4
 have:=zk S free (idx S p+1) K hK
 omega
theorem agE(z:List Int)(S free n s K:Nat)(hS:Size S)(hs:s<n)(hf:free<=S)(hb:base z n=free)(h:cf S free K=base z s):Turn z S free n s K []:=by
 refine⟨?_,by simp[h]⟩
 intro p hp
 constructor
 ·intro h;simp at h
 ·rintro⟨a,b,c⟩
  exfalso
  have h1:=agD S free K hS p hp a b
  have h2:=zq hS hf p hp a
  have:=(Ec z n _ s hs (by omega)).1 c
  omega
theorem agF(z:List Int)(S free n s K:Nat)(L:List Int)(hS:Size S)(hK:K<S)(h:free<=P S K)(ht:Turn z S free n s K L):Turn z S free n s (K+1) L:=by
 obtain⟨a,b⟩:=ht
 refine⟨?_,?_⟩
 ·intro p hp
  rw[a p hp]
  constructor
  ·rintro⟨x,y,z⟩;exact⟨x,by omega,z⟩
  ·rintro⟨x,y,z⟩
   refine⟨x,?_,z⟩
   have:idx S p≠K:=by
    intro e
    have:=u_ hS p hp
    rw[e]at this
    omega
   omega
 ·rw[b]
  simp only[cf]
  rw[if_neg (by omega)]
  rfl
theorem agG(z:List Int)(S free n s K:Nat)(L:List Int)(hS:Size S)(hK:K<S)(hs:s<n)(h:P S K<free)(h0:base z s<=cf S free K)(h1:cf S free K<base z (s+1))(ht:Turn z S free n s K L):Turn z S free n s (K+1) (L++[(P S K:Int)]):=by
 obtain⟨a,b⟩:=ht
 refine⟨?_,?_⟩
 ·intro p hp
  rw[List.mem_append,List.mem_singleton,a p hp]
  constructor
  ·rintro(⟨x,y,z⟩|x)
   ·exact⟨x,by omega,z⟩
   ·obtain rfl:p=P S K:=by omega
    rw[Gq hS K hK]
    exact⟨h,by omega,zn z _ s n hs h0 h1⟩
  ·rintro⟨x,y,z⟩
   by_cases e:idx S p=K
   ·right
    have:=u_ hS p hp
    rw[e]at this
    omega
   ·exact .inl ⟨x,by omega,z⟩
 ·rw[List.length_append,List.length_singleton]
  simp only[cf]
  rw[if_pos h]
  omega
theorem agH(z:List Int)(S n s K:Nat)(L:List Int)(hS:Size S)(h:Fits z S)(hsum:sum z n=S)(hs:s<n)(hm:z.getD s 0≠-1)(hc:cf S (tb z S n).2 K=base z (s+1))(ht:Turn z S (tb z S n).2 n s K L):Good z S n s L:=by
 obtain⟨a,b⟩:=ht
 have hS1:1<=S:=by rcases hS with rfl|rfl<;>omega
 have hfr:=og z S h hS1 n (by omega)
 have hfb:=vg z S n hS1 h hsum
 have hf:=iY z S (by omega) h s
 have h2:base z (s+1)=base z s+(z.getD s 0).toNat:=rfl
 refine⟨?_,?_⟩
 ·intro p hp
  rw[a p hp]
  by_cases e:(tb z S n).2<=p
  ·rw[TI z S n p e]
   obtain⟨s',x1,x2,x3⟩:=Gs z S h hS1 n (by omega) p e hp
   rw[x1]
   refine⟨fun h=>by omega,fun h=>?_⟩
   exfalso
   obtain rfl:s'=s:=by omega
   exact hm x3
  ·rw[TG z S n p hS (by omega)]
   refine⟨fun h=>by rw[h.2.2],fun h=>?_⟩
   have hi:item z (cf S (tb z S n).2 (idx S p)) n=s:=by omega
   have hl:=zq hS hfr.2 p hp (by omega)
   have:=(Ec z n _ s hs (by omega)).1 hi
   refine⟨by omega,?_,hi⟩
   rcases Nat.lt_or_ge (idx S p) K with g|g
   ·exact g
   ·have:=zk S (tb z S n).2 K (idx S p) g
    omega
 ·unfold pl
  rw[if_neg hm]
  omega
theorem agI(log:Nat)(hl:log<=6)(x:Int)(h0:1<=x)(h1:x<2^(log+1))(j:Nat):(j<(bt log x).toNat->x*2^j<2^log)/\((bt log x).toNat=j->2^log<=x*2^j):=by
 obtain⟨a,b,c,d⟩:=zo log hl x h0 h1
 constructor
 ·intro hj
  have e1:(2:Int)^(j+1)<=2^(bt log x).toNat:=CM.iF _ _ (by omega)
  have e2:x*2^(j+1)<=x*2^(bt log x).toNat:=Int.mul_le_mul_of_nonneg_left e1 (by omega)
  have e3:=CM.pow_pos (bt log x).toNat
  rw[Int.add_mul,Int.pow_succ]at d
  rw[Int.pow_succ,<- Int.mul_assoc]at e2
  omega
 ·rintro rfl
  exact c
end Go.Proofs.YtbhemchnjpajiaaGreatDoor.TM
namespace Go.Proofs.YtbhemchnjpajiaaGreatDoor
open Go.RowKit Go.Proofs.Tryz
def Keeps(bad:Nat->Prop)(w w':World):Prop:=w.heap.size<=w'.heap.size/\∀b,b<w.heap.size->¬bad b->w'.heap[b]?=w.heap[b]?
theorem Keeps.refl(bad:Nat->Prop)(w:World):Keeps bad w w:=⟨Nat.le_refl _,fun _ _ _=>rfl⟩
theorem Keeps.trans{bad:Nat->Prop}{a b c:World}(h:Keeps bad a b)(k:Keeps bad b c):Keeps bad a c :=
 ⟨Nat.le_trans h.1 k.1,fun x hx hb=>(k.2 x (Nat.lt_of_lt_of_le hx h.1) hb).trans (h.2 x hx hb)⟩
theorem Keeps.alloc{bad:Nat->Prop}{a w:World}(h:Keeps bad a w)(o:Obj):Keeps bad a (w.alloc o) :=
 h.trans ⟨by simp,fun b hb _=>Below.heap_alloc w o b hb⟩
theorem Keeps.setCell{bad:Nat->Prop}{a w:World}(h:Keeps bad a w)(p:Addr)(v:Value)(hp:bad p.block):Keeps bad a (w.setCell p v) :=
 h.trans ⟨by simp,fun b hb hn=>Below.heap_setCell w p v b (fun e=>hn (e▸hp))⟩
theorem Keeps.drewN{bad:Nat->Prop}{a w:World}(h:Keeps bad a w)(q:Nat):Keeps bad a (w.drewN q):=h
theorem Keeps.grown{bad:Nat->Prop}{a w w':World}{row:Option Nat}(h:Keeps bad a w)(hg:w.grownBy w' row)(hr:∀k,row=some k->k<a.heap.size->bad k):Keeps bad a w' :=
 ⟨Nat.le_trans h.1 hg.size,fun b hb hn=>(hg.block b (Nat.lt_of_lt_of_le hb h.1) (fun e=>hn (hr b e.symm hb))).trans (h.2 b hb hn)⟩
theorem Keeps.weaken{bad bad':Nat->Prop}{w w':World}(h:Keeps bad w w')(hb:∀b,b<w.heap.size->bad b->bad' b):Keeps bad' w w' :=
 ⟨h.1,fun b hb' hn=>h.2 b hb' (fun e=>hn (hb b hb' e))⟩
theorem Keeps.blk{bad:Nat->Prop}{w w':World}(h:Keeps bad w w'){g:Nat}{t:TypeId}{cs:List Value}(hb:aB w g t cs)(hn:¬bad g):aB w' g t cs:=by
 unfold aB
 rw[h.2 g hb.lt hn]
 exact hb
theorem Keeps.ints{bad:Nat->Prop}{w w':World}(h:Keeps bad w w'){a:Option Addr}{n:Nat}{z:List Int}(hI:Ints w a n z)(hn:∀b off,a=some ⟨b,off,none⟩->¬bad b):Ints w' a n z:=by
 obtain⟨h1,h2,h3⟩:=hI
 refine⟨h1,h2,?_⟩
 rcases h3 with h3|⟨b,off,ha,hlt,hc⟩
 ·exact .inl h3
 ·exact .inr ⟨b,off,ha,Nat.lt_of_lt_of_le hlt h.1,fun i hi=>by
   rw[<- hc i hi]
   exact World.cell?_of_block (w:=w) (h.2 b hlt (hn b off ha))⟩
theorem Cb{w:World}{base:Nat}{e:TypeId}{size:Nat}{v:Value}{n:Nat}{xs:List Value}(h:w.ownsRow base e size v n xs) :
  (v=.slice none 0 0/\n=0)\/∃g c,v=.slice (some ⟨g,0,none⟩) n c/\base<=g:=by
 obtain⟨h1,h2⟩:=h
 rcases h2 with h2|⟨g,c,cur,rfl,hg1,r⟩
 ·exact .inl h2
 ·exact .inr ⟨g,c,rfl,hg1⟩
theorem TJ{w:World}{base:Nat}{v:Value}{L:List Int}(h:w.ownsRow base 3 1 v L.length (intCells L))(hL:L.length<=64) :
  ∃a c,v=.slice a L.length c/\Ints w a L.length L/\(∀b off,a=some ⟨b,off,none⟩->base<=b):=by
 rcases Cb h with⟨rfl,h0⟩|⟨g,c,rfl,hg⟩
 ·exact⟨none,0,by rw[h0],⟨rfl,by omega,.inl h0⟩,fun b off e=>by cases e⟩
 ·refine⟨some ⟨g,0,none⟩,c,rfl,?_,fun b off e=>by cases e;exact hg⟩
  by_cases h0:L.length=0
  ·exact⟨rfl,by omega,.inl h0⟩
  ·obtain⟨g',c',rest,hv,h1,h2,-⟩:=mY h (by omega)
   injection hv with x1 _ x3
   injection x1 with x1
   injection x1 with x1
   subst x1
   exact Ints.jg h2 (by omega)
def Cc(z:List Int)(S n:Nat)(w:World)(bad:Nat->Prop)(t:Nat)(d:Prop)(v:Value):Prop :=
 (¬d/\v=.slice none 0 0)\/(d/\∃L a c,v=.slice a L.length c/\Ints w a L.length L/\(∀b off,a=some ⟨b,off,none⟩->¬bad b/\b<w.heap.size)/\TM.Good z S n t L)
theorem Cc.keep{z:List Int}{S n:Nat}{w w':World}{bad bad':Nat->Prop}{t:Nat}{d:Prop}{v:Value}(h:Cc z S n w bad t d v)(hk:Keeps bad w w')(hb:∀b,b<w.heap.size->bad' b->bad b):Cc z S n w' bad' t d v:=by
 rcases h with h|⟨hd,L,a,c,rfl,hI,hn,hg⟩
 ·exact .inl h
 ·exact .inr ⟨hd,L,a,c,rfl,hk.ints hI (fun b off e=>(hn b off e).1),fun b off e=>⟨fun h=>(hn b off e).1 (hb b (hn b off e).2 h),Nat.lt_of_lt_of_le (hn b off e).2 hk.1⟩,hg⟩
def kK(z:List Int)(S n:Nat)(w:World)(bad:Nat->Prop)(D:Nat->Prop)(vs:List Value):Prop:=vs.length=n/\∀t,t<n->∃v,vs[t]?=some v/\Cc z S n w bad t (D t) v
theorem kK.keep{z:List Int}{S n:Nat}{w w':World}{bad bad':Nat->Prop}{D:Nat->Prop}{vs:List Value}(h:kK z S n w bad D vs)(hk:Keeps bad w w')(hb:∀b,b<w.heap.size->bad' b->bad b):kK z S n w' bad' D vs :=
 ⟨h.1,fun t ht=>by obtain⟨v,a,b⟩:=h.2 t ht;exact⟨v,a,b.keep hk hb⟩⟩
theorem kK.put{z:List Int}{S n:Nat}{w:World}{bad:Nat->Prop}{D D':Nat->Prop}{vs:List Value}(h:kK z S n w bad D vs)(k:Nat)(v:Value)(hv:Cc z S n w bad k (D' k) v)(hk:k<n)(hD:∀t,t≠k->(D t↔D' t)):kK z S n w bad D' (vs.set k v):=by
 refine⟨by simp[h.1],fun t ht=>?_⟩
 by_cases e:t=k
 ·subst e
  exact⟨v,by rw[List.getElem?_set_self (by rw[h.1];exact ht)],hv⟩
 ·obtain⟨u,a,b⟩:=h.2 t ht
  refine⟨u,by rw[List.getElem?_set_ne (fun e'=>e e'.symm)];exact a,?_⟩
  rcases b with⟨b1,b2⟩|⟨b1,b2⟩
  ·exact .inl ⟨fun x=>b1 ((hD t e).2 x),b2⟩
  ·exact .inr ⟨(hD t e).1 b1,b2⟩
theorem kK.same{z:List Int}{S n:Nat}{w:World}{bad:Nat->Prop}{D D':Nat->Prop}{vs:List Value}(h:kK z S n w bad D vs)(hD:∀t,t<n->(D t↔D' t)):kK z S n w bad D' vs:=by
 refine⟨h.1,fun t ht=>?_⟩
 obtain⟨u,a,b⟩:=h.2 t ht
 refine⟨u,a,?_⟩
 rcases b with⟨b1,b2⟩|⟨b1,b2⟩
 ·exact .inl ⟨fun x=>b1 ((hD t ht).2 x),b2⟩
 ·exact .inr ⟨(hD t ht).1 b1,b2⟩
theorem KF{w:World}{base:Nat}{e:TypeId}{size:Nat}{v:Value}{n:Nat}{xs:List Value}(h:w.ownsRow base e size v n xs)(g:Nat)(hg:g<base):v.ownBlock≠some g:=by
 rcases Cb h with⟨rfl,-⟩|⟨g',c,rfl,hb⟩
 ·simp[Value.ownBlock]
 ·simp[Value.ownBlock];omega
theorem agJ{z:List Int}{S n:Nat}{wr w1:World}{X:Obj}{G:Nat}{v v':Value}{D:Nat->Prop}{vs:List Value}
  (h:kK z S n wr (fun b=>b=G\/v.ownBlock=some b) D vs) (hg:(wr.alloc X).grownBy w1 v.ownBlock) (hat:v'.ownBlock=v.ownBlock\/v'.ownBlock=some (wr.heap.size+1)) :
  kK z S n w1 (fun b=>b=G\/v'.ownBlock=some b) D vs:=by
 refine h.keep (((Keeps.refl _ wr).alloc X).grown hg (fun k e _=>.inr e)) ?_
 intro b hb hbad
 rcases hbad with rfl|hbad
 ·exact .inl rfl
 ·rcases hat with e|e
  ·exact .inr (by rw[<- e];exact hbad)
  ·rw[e]at hbad
   injection hbad with hbad
   omega
theorem agK{z:List Int}{S n:Nat}{w1:World}{G k:Nat}{v':Value}{D D':Nat->Prop}{vs:List Value}{x:Int}
  (h:kK z S n w1 (fun b=>b=G\/v'.ownBlock=some b) D vs) (hv:∀g,v'.ownBlock=some g->g<w1.heap.size) (hG:G<w1.heap.size) (hk:k<n) (hD:∀t,t≠k->(D t↔D' t)) (hDk:D' k) (hgood:TM.Good z S n k [x]) :
  kK z S n ((w1.alloc (.cells #[.int .i64 x] 3)).setCell ⟨G,k,none⟩ (.slice (some ⟨w1.heap.size,0,none⟩) 1 1)) (fun b=>b=G\/v'.ownBlock=some b) D' (vs.set k (.slice (some ⟨w1.heap.size,0,none⟩) 1 1)):=by
 have hk1:Keeps (fun b=>b=G\/v'.ownBlock=some b) w1 ((w1.alloc (.cells #[.int .i64 x] 3)).setCell ⟨G,k,none⟩ (.slice (some ⟨w1.heap.size,0,none⟩) 1 1)) :=
  ((Keeps.refl _ w1).alloc _).setCell _ _ (.inl rfl)
 refine(h.keep hk1 (fun b _ e=>e)).put k _ ?_ hk hD
 refine .inr ⟨hDk,[x],some ⟨w1.heap.size,0,none⟩,1,rfl,?_,?_,hgood⟩
 ·have hb:aB ((w1.alloc (.cells #[.int .i64 x] 3)).setCell ⟨G,k,none⟩ (.slice (some ⟨w1.heap.size,0,none⟩) 1 1)) w1.heap.size 3 (intCells [x]++[]) :=
   (aB.new w1 3 [.int .i64 x]).other _ _ (by simp only;omega)
  exact Ints.jg hb (by simp)
 ·intro b off e
  injection e with e
  injection e with e1
  subst e1
  refine⟨?_,by simp⟩
  rintro(e|e)
  ·omega
  ·have:=hv _ e
   omega
theorem TK{w:World}{base:Nat}{e:TypeId}{size:Nat}{v:Value}{n:Nat}{xs:List Value}(h:w.ownsRow base e size v n xs):∀g,v.ownBlock=some g->g<w.heap.size:=fun g hg=>(h.lt g hg).2
def jJ(F:Nat->Int)(n p s:Nat):List Value:=(List.range n).map fun t:Nat=>.int .i64 ((TM.iG F (t:Int) p:Int)+if F p=(t:Int)/\t<s then 1 else 0)
theorem agM(F:Nat->Int)(n p s:Nat)(h:s<n):(jJ F n p s)[s]?=some (.int .i64 (TM.iG F (s:Int) p:Int)):=by
 simp[jJ,h]
theorem agN(F:Nat->Int)(n p s:Nat)(hF:F p=(s:Int))(h:s<n):(jJ F n p s).set s (.int .i64 ((TM.iG F (s:Int) p:Int)+1))=jJ F n p (s+1):=by
 apply List.ext_getElem
 ·simp[jJ]
 ·intro t h1 h2
  simp only[jJ,List.getElem_set,List.getElem_map,List.getElem_range]
  by_cases e:s=t
  ·subst e
   rw[if_pos rfl,if_pos ⟨hF,by omega⟩]
  ·rw[if_neg e,if_neg (by rw[hF];omega),if_neg (by rw[hF];omega)]
theorem agO(F:Nat->Int)(n p s:Nat)(hF:F p≠(s:Int)):jJ F n p s=jJ F n p (s+1):=by
 unfold jJ
 apply List.map_congr_left
 intro t ht
 congr 2
 by_cases e:F p=(t:Int)
 ·have:t≠s:=by rintro rfl;exact hF e
  by_cases e2:t<s
  ·rw[if_pos ⟨e,e2⟩,if_pos ⟨e,by omega⟩]
  ·rw[if_neg (fun h=>e2 h.2),if_neg (fun h=>e2 (by omega))]
 ·rw[if_neg (fun h=>e h.1),if_neg (fun h=>e h.1)]
theorem agP(F:Nat->Int)(n p:Nat):jJ F n p n=jJ F n (p+1) 0:=by
 unfold jJ
 apply List.map_congr_left
 intro t ht
 have ht':t<n:=by simpa using ht
 congr 1
 rw[if_neg (show ¬(F (p+1)=(t:Int)/\t<0) by omega)]
 simp only[TM.iG]
 by_cases e:F p=(t:Int)
 ·rw[if_pos ⟨e,ht'⟩,if_pos e];omega
 ·rw[if_neg (fun h=>e h.1),if_neg e];omega
theorem agQ(F:Nat->Int)(n:Nat):gJ n=jJ F n 0 0:=by
 apply List.ext_getElem
 ·simp[jJ,gJ]
 ·intro t h1 h2
  simp[jJ,gJ,TM.iG]
def jy(f:Nat->CM.aG)(F:Nat->Int)(p s:Nat):List CM.aG:=TM.tab p f++if F p<(s:Int)then[f p]else[]
theorem agR(f:Nat->CM.aG)(p:Nat):TM.tab (p+1) f=TM.tab p f++[f p]:=by unfold TM.tab;rw[List.range_succ,List.map_append];rfl
theorem TN(f:Nat->CM.aG)(F:Nat->Int)(p:Nat)(h:0<=F p):jy f F p 0=TM.tab p f:=by unfold jy;rw[if_neg (by omega),List.append_nil]
theorem agS(f:Nat->CM.aG)(F:Nat->Int)(p n:Nat)(h:F p<(n:Int)):jy f F p n=TM.tab (p+1) f:=by unfold jy;rw[if_pos h,agR]
theorem agT(f:Nat->CM.aG)(F:Nat->Int)(p s:Nat)(h:F p≠(s:Int)):jy f F p s=jy f F p (s+1):=by
 unfold jy
 by_cases e:F p<(s:Int)
 ·rw[if_pos e,if_pos (by omega)]
 ·rw[if_neg e,if_neg (by omega)]
theorem agU(f:Nat->CM.aG)(F:Nat->Int)(p s:Nat)(h:F p=(s:Int)):jy f F p (s+1)=jy f F p s++[f p]:=by
 unfold jy
 rw[if_neg (show ¬F p<(s:Int) by omega),if_pos (by omega),List.append_nil]
theorem agV(f:Nat->CM.aG)(F:Nat->Int)(p s:Nat):(jy f F p s).length<=p+1:=by
 unfold jy
 rw[List.length_append,TM.mW]
 split<;>simp
theorem agW:(prog.info? 27).map (fun i=>(i.zero,i.size,i.bytes))=some (some (.slice none 0 0),1,24):=by kernel_rfl
def nilRow(n:Nat):List Value:=List.replicate n (Value.slice none 0 0)
theorem agX(n:Nat):madeCells #[.slice none 0 0] n=(nilRow n).toArray:=by
 apply Array.ext
 ·simp[madeCells,nilRow]
 ·intro i h1 h2
  simp[madeCells,nilRow,Nat.mod_one]
theorem agY(w:World)(n:Nat)(hn:n<=16) :
  (Instr.makeSlice 247 (.int .i64 (n:Int)) (.int .i64 (n:Int))).run prog w =
   .ok (.slice (some ⟨w.heap.size,0,none⟩) n n) (w.alloc (.cells (nilRow n).toArray 27)):=by
 obtain⟨i0,hi,hz0,hz1,hz2⟩:=info_parts agW
 have h:=run_make (P:=prog) w 247 27 i0 (.slice none 0 0) underlying247 hi hz0 .i64 .i64 (n:Int) (n:Int) (by omega) (Int.le_refl _) (by rw[hz2];omega) (by omega)
 rw[h,Int.toNat_natCast,hz1,Nat.mul_one,<- agX n]
 rfl
theorem agZ(z:List Int)(S n:Nat)(w:World)(bad D:Nat->Prop)(hD:∀t,¬D t):kK z S n w bad D (nilRow n) :=
 ⟨by simp[nilRow],fun t ht=>⟨_,by rw[nilRow,List.getElem?_replicate,if_pos ht],.inl ⟨hD t,rfl⟩⟩⟩
theorem KG(a:Option Addr)(n cap:Nat)(L:List Int)(p:Int)(w:World)(hI:Ints w a n L) :
  Calls prog 127 #[.slice a n cap,.int .i64 p] w fun e w'=>e=.returned (.bool (decide (p∈L)))/\w=w':=by
 obtain⟨hl,hbig,hc⟩:=hI
 go_enter func127,ntmps127
 go_wp2_with fail
 go_loopg[5] n (fun g iv wr=>∃i:Nat,g=n-i/\i<=n/\iv=.int .i64 (i:Int)/\Hid (∀x∈L.take i,x≠p)/\wr=w)
 case atStart=>exact⟨0,by omega,by omega,rfl,by simp[Hid],rfl⟩
 case round =>
  obtain⟨i,rfl,hi,rfl,hno,hwr⟩:=hrel
  subst hwr
  by_cases hin:i<n
  ·obtain⟨b,off,rfl,-,hc'⟩:=hc.resolve_left (by omega)
   have c1:=hc' i hin
   have hx:=aA (show L.take (i+1)=L.take i++[L.getD i 0] by rw[List.take_succ_eq_append_getElem (by omega),List.getD_eq_getElem?_getD,List.getElem?_eq_getElem (by omega)];rfl)
   have hm:=aA (show L.getD i 0∈L by rw[List.getD_eq_getElem?_getD,List.getElem?_eq_getElem (by omega)];exact List.getElem_mem _)
   clear hc'
   generalize L.getD i 0=x at *
   by_cases hxp:x=p
   ·subst hxp
    have hd:=aA (show decide (x∈L)=true from decide_eq_true hm.out)
    clear hc
    go_wp2
    go_ret
    exact⟨lH hd.out.symm,rfl⟩
   ·have hb:(x==p)=false:=by simpa using hxp
    go_wp2
    go_roundg(n-(i+1))
    case rel =>
     refine⟨i+1,rfl,by omega,by go_num,?_,rfl⟩
     rw[Hid,hx.out]
     intro y hy
     simp at hy
     rcases hy with hy|rfl
     ·exact hno.out y hy
     ·exact hxp
    case measure=>omega
  ·have hd:=aA (show decide (p∈L)=false by
    have:=hno.out
    rw[List.take_of_length_le (by omega)]at this
    exact decide_eq_false fun h=>this p h rfl)
   clear hc
   go_wp2
   go_ret
   exact⟨lH hd.out.symm,rfl⟩
theorem ag0(log:Int)(a:Option Addr)(n cap:Nat)(z:List Int)(w:World)(hI:Ints w a n z)(hout:¬((log=5\/log=6)/\1<=n/\n<=16)) :
  Calls prog 112 #[.int .i64 log,.slice a n cap] w (wH log z w):=by
 have hl:=hI.1
 have hgood:dI log z=false:=by
  unfold dI TM.dZ
  rw[hl]
  rcases Int.lt_trichotomy log 5 with h|h|h
  ·simp;omega
  ·simp;omega
  ·simp;omega
 have hG:Hid (wH log z w (.returned (.tuple #[.slice none 0 0,.int .i64 4])) w):=⟨Below.refl _ _,.inl ⟨hgood,rfl⟩⟩
 clear hgood
 by_cases h5:log<5
 ·go_enter func112,ntmps112
  go_wp2
  go_ret2
  exact hG.out
 by_cases h6:6<log
 ·go_enter func112,ntmps112
  go_wp2
  go_ret2
  exact hG.out
 have t5:decide (log<5)=false:=decide_eq_false h5
 have t6:decide (6<log)=false:=decide_eq_false h6
 by_cases hn:n<1
 ·have t1:decide ((n:Int)<1)=true:=decide_eq_true (by omega)
  go_enter func112,ntmps112
  go_wp2
  go_ret2
  exact hG.out
 ·have t1:decide ((n:Int)<1)=false:=decide_eq_false (by omega)
  have t2:decide (16<(n:Int))=true:=decide_eq_true (by omega)
  go_enter func112,ntmps112
  go_wp2
  go_ret2
  exact hG.out
theorem TP(log:Int)(lg SS:Nat)(a:Option Addr)(n cap:Nat)(z:List Int)(w:World)(hI:Ints w a n z)(kY:(log=5/\lg=5/\SS=32)\/(log=6/\lg=6/\SS=64))(hn:1<=n/\n<=16) :
  Calls prog 112 #[.int .i64 log,.slice a n cap] w (wH log z w):=by
 obtain⟨hl,hbig,hc⟩:=hI
 obtain⟨b,off,rfl,hlt,hc'⟩:=hc.resolve_left (by omega)
 have HC:Hid _:=hc'
 clear hc hc'
 have hSz:Hid (TM.Size SS):=by rcases kY with h|h;exact .inl h.2.2;exact .inr h.2.2
 have Ee:32<=SS/\SS<=64:=by omega
 have iw:=aA (show log=(lg:Int)/\(lg=5\/lg=6) by omega)
 have hpw:=aA (show 2^lg=SS by rcases kY with⟨-,rfl,rfl⟩|⟨-,rfl,rfl⟩<;>rfl)
 have hgd:=aA (show dI log z=TM.dZ z SS by
  rcases kY with⟨rfl,rfl,rfl⟩|⟨rfl,rfl,rfl⟩
  ·simp[dI]
  ·simp[dI])
 have fU:=aA (show TM.dZ z SS=(TM.dW z SS&&(TM.sum z n==SS)) by simp[TM.dZ,hl,hn.1,hn.2])
 have hcase:((log==6)=false/\Hid (SS=32))\/((log==6)=true/\Hid (SS=64)):=by
  rcases kY with⟨rfl,-,h2⟩|⟨rfl,-,h2⟩
  ·exact .inl ⟨rfl,h2⟩
  ·exact .inr ⟨rfl,h2⟩
 have hG:=aA (show TM.dZ z SS=false->wH log z w (.returned (.tuple #[.slice none 0 0,.int .i64 4])) w from fun h=>⟨Below.refl _ _,.inl ⟨by rw[hgd.out];exact h,rfl⟩⟩)
 have t1:decide ((n:Int)<1)=false:=decide_eq_false (by omega)
 have t2:decide (16<(n:Int))=false:=decide_eq_false (by omega)
 have t3:decide (log<5)=false:=decide_eq_false (by omega)
 have t4:decide (6<log)=false:=decide_eq_false (by omega)
 clear kY
 rcases hcase with⟨hc6,hSS⟩|⟨hc6,hSS⟩
 all_goals
  go_enter func112,ntmps112
  go_wp2_with fail
  clear hc6 t1 t2 t3 t4
  first
   | rw[show(Value.int .i64 32)=.int .i64 (SS:Int) by rw[hSS.out];rfl]
   | rw[show(Value.int .i64 64)=.int .i64 (SS:Int) by rw[hSS.out];rfl]
  clear hSS
  go_loopg[8,9] n (fun g sv iv wr=>∃k:Nat,g=n-k/\k<=n/\iv=.int .i64 (k:Int)/\sv=.int .i64 (TM.sum z k)/\(0<=TM.sum z k/\TM.sum z k<=64*k)/\Hid (TM.dW (z.take k) SS=true)/\wr=w)
  case atStart=>exact⟨0,by omega,by omega,rfl,rfl,by simp[TM.sum],rfl,rfl⟩
  case round =>
   obtain⟨k,rfl,hk,rfl,rfl,hsb,hfit,hwr⟩:=hrel
   subst hwr
   by_cases hkn:k<n
   ·have hck:=HC.out k hkn
    have hts:Hid _:=TM.yY z SS k (by omega)
    have hpre:Hid _:=TM.CS z SS (k+1)
    have hsu:Hid (TM.sum z (k+1)=TM.sum z k+TM.pl (z.getD k 0)):=rfl
    generalize z.getD k 0=x at *
    by_cases hx:-1<=x/\x<=SS
    ·obtain⟨hx1,hx2⟩:=hx
     have d1:decide (x < -1)=false:=decide_eq_false (by omega)
     have d2:decide ((SS:Int)<x)=false:=decide_eq_false (by omega)
     by_cases hx0:x=-1
     ·subst hx0
      have hp1:Hid (TM.pl (-1)=1):=rfl
      go_wp2_with fail
      go_roundg(n-(k+1))
      case rel=>exact⟨k+1,rfl,by omega,by go_num,jY (by rw[hsu.out,hp1.out];omega),by rw[hsu.out,hp1.out];omega,by rw[Hid,hts.out,hfit.out];simp[hx2],rfl⟩
      case measure=>omega
     ·have d3:decide (x<0)=false:=decide_eq_false (by omega)
      have hp1:Hid (TM.pl x=x):=by rw[Hid,TM.pl,if_neg hx0]
      go_wp2_with fail
      go_roundg(n-(k+1))
      case rel=>exact⟨k+1,rfl,by omega,by go_num,jY (by rw[hsu.out,hp1.out]),by rw[hsu.out,hp1.out];omega,by rw[Hid,hts.out,hfit.out];simp[hx1,hx2],rfl⟩
      case measure=>omega
    ·have hbad:=aA (hG.out (by rw[fU.out,hpre.out (by rw[hts.out,hfit.out];simp;omega)];rfl))
     by_cases hx0:x < -1
     ·have d1:decide (x < -1)=true:=decide_eq_true hx0
      go_wp2
      go_ret2
      exact hbad.out
     ·have d1:decide (x < -1)=false:=decide_eq_false hx0
      have d2:decide ((SS:Int)<x)=true:=decide_eq_true (by omega)
      go_wp2
      go_ret2
      exact hbad.out
   ·obtain rfl:n=k:=by omega
    obtain⟨w0,rfl⟩:∃w0:World,w0=wr:=⟨_,rfl⟩
    have Ce:=hfit.out
    rw[List.take_of_length_le (by omega)]at Ce
    by_cases hsum:TM.sum z n=SS
    ·have hF:Hid (TM.Fits z SS):=(TM.tJ z SS).1 Ce
     have hfb:=aA (show TM.dZ z SS=true by rw[fU.out,Ce,hsum];simp)
     have hfr:=aA (fun j(hj:j<=n)=>TM.og z SS hF.out (by omega) j (by have:=TM.Gj z SS (by omega) hF.out j n hj;omega))
     have Ci:=aA hsum
     have TQ:(TM.sum z n != (SS:Int))=false:=by simpa using hsum
     have hmk:=fun u=>agY u n (by omega)
     clear Ce hfit hsb hG fU hsum
     obtain⟨i0,hi0,hz0',hz1,hz2⟩:=info_parts GR
     go_wp2_with fail
     clear hmk TQ
     have hB0:=aB.new w0 27 (nilRow n)
     have hbel0:Below w0.heap.size w0 (w0.alloc (.cells (nilRow n).toArray 27)):=(Below.refl _ _).alloc (Nat.le_refl _) _
     have hsz0:w0.heap.size+1=(w0.alloc (.cells (nilRow n).toArray 27)).heap.size:=by simp
     have hR0:=fun D hD=>agZ z SS n (w0.alloc (.cells (nilRow n).toArray 27)) (fun b=>b=w0.heap.size\/(Value.slice none 0 0).ownBlock=some b) D hD
     generalize bH:w0.heap.size=Gp at *
     have TR:=aA bH
     clear bH
     go_loopg[11,12] n (fun g bv iv wx=>∃(k:Nat)(Lb:List Int)(vs:List Value),g=n-k/\k<=n/\iv=.int .i64 (k:Int)/\(Lb.length+(TM.tb z SS k).2=SS/\(TM.tb z SS k).2<=SS)/\Hid (∀p:Nat,p<SS->((p:Int)∈Lb↔(TM.tb z SS k).2<=p))/\wx.ownsRow (Gp+1) 3 1 bv Lb.length (intCells Lb)/\aB wx Gp 27 vs/\Hid (kK z SS n wx (fun b=>b=Gp\/bv.ownBlock=some b) (fun t=>t<k/\z.getD t 0=-1) vs)/\Below Gp w0 wx/\Gp+1<=wx.heap.size)
     case atStart =>
      refine⟨0,[],_,by omega,by omega,rfl,by simp[TM.tb],?_,World.ownsRow_nil _ _ _ _,hB0,hR0 _ (fun t h=>by omega),hbel0,by omega⟩
      intro p hp
      simp[TM.tb]
      omega
     case round =>
      clear hB0 hbel0 hsz0 hR0
      obtain⟨k,Lb,vs,rfl,hk,rfl,hLb,hmem,hown,hblk,hrows,hbel,hsz⟩:=hrel
      by_cases hkn:k<n
      ·have hck:wr.cell? ⟨b,off+k,none⟩=some (.int .i64 (z.getD k 0)):=(hbel.cell (p:=⟨b,off+k,none⟩) hlt).trans (HC.out k hkn)
       have htb:Hid (TM.tb z SS (k+1)=if z.getD k 0=-1 then(TM.upd (TM.tb z SS k).1 ((TM.tb z SS k).2-1) (k:Int),(TM.tb z SS k).2-1)else TM.tb z SS k):=rfl
       by_cases hx:z.getD k 0=-1
       ·have hgood:=aA (TM.agC z SS n k hSz.out hF.out Ci.out hkn hx)
        have hpl:=aA (TM.TF z SS hF.out (by omega) k hx n (by rw[Ci.out];exact Int.le_refl _) hkn)
        have hf1:1<=(TM.tb z SS k).2:=hpl.out.2.1
        rw[hx]at hck
        have hfe:(SS:Int)-1-(Lb.length:Int)=((TM.tb z SS k).2:Int)-1:=by omega
        have hft:Hid ((TM.tb z SS (k+1)).2=(TM.tb z SS k).2-1):=by rw[Hid,htb.out,if_pos hx]
        have HX:=aA hx
        clear hx htb hpl
        generalize(TM.tb z SS k).2=f at *
        have HOWN:=aA hown
        have hlL:Lb.length<=64:=by omega
        obtain⟨ab,cb,hbv⟩:∃a c,u11=.slice a Lb.length c:=by
         rcases Cb hown with⟨h1,h2⟩|⟨g,c,h1,-⟩
         ·exact⟨none,0,by rw[h1,h2]⟩
         ·exact⟨_,_,h1⟩
        subst hbv
        have yN:=aA hblk
        clear hown hblk
        go_wp2_with(first|(at_builtin;refine wpList_append_own_at _ rfl _ _ 27 rfl (Gp+1) 3 i0 _ 1 8 underlying27 hi0 hz0' hz1 hz2 rfl (by decide) _ _ _ rfl (HOWN.out.alloc _) ⟨wr.heap.size,0,none⟩ 1 1 [.int .i64 ((f:Int)-1)] rfl rfl (cell_one_new _ _ _) (one_one _) (by unfold maxLen;omega) (by omega) (by simp;omega) ?_))
        intro v' w1 hown' hgrow _ hat
        have hnb:=KF HOWN.out Gp (by omega)
        have hkp:Keeps (fun b=>(Value.slice ab Lb.length cb).ownBlock=some b) wr w1:=((Keeps.refl _ wr).alloc _).grown hgrow (fun k e _=>e)
        have hb1:aB w1 Gp 27 vs:=hkp.blk yN.out hnb
        have dh:Below Gp w0 w1:=(hbel.alloc (by omega) _).grown hgrow (by simp;omega) (fun j hj=>by have:=(HOWN.out.lt j hj).1;omega)
        have hsz1:=hkp.1
        have hrow1:=aA (agJ hrows.out hgrow hat)
        have hlt1:=aA (TK hown')
        obtain⟨old,hold,-⟩:=hrows.out.2 k hkn
        have hcA:∀X,(w1.alloc X).cell? ⟨Gp,k,none⟩=some old:=fun X=>(hb1.alloc X).cell hold
        have hfA:∀X,(w1.alloc X).frozen? ⟨Gp,k,none⟩=false:=fun X=>(hb1.alloc X).free k
        have HB1:=aA hb1
        have HOWN':=aA hown'
        have i1:(k:Int)<(n:Int):=by omega
        clear hgrow hck hown' hkp hnb hat hb1 hold hrows yN HOWN
        go_wp2
        go_roundg(n-(k+1))
        case rel =>
         refine⟨k+1,Lb++[(f:Int)-1],_,rfl,by omega,by go_num,?_,?_,?_,(HB1.out.alloc _).put _ _,?_,(dh.alloc (by omega) _).setCell (Nat.le_refl _) _,by simp;omega⟩
         ·rw[hft.out,List.length_append,List.length_singleton]
          omega
         ·rw[Hid,hft.out]
          intro p hp
          rw[List.mem_append,List.mem_singleton,hmem.out p hp]
          omega
         ·have e:intCells (Lb++[(f:Int)-1])=intCells Lb++[.int .i64 ((f:Int)-1)]:=by simp[intCells]
          rw[e,List.length_append,List.length_singleton]
          exact ownsRow_setCell_below (HOWN'.out.alloc _) (Nat.lt_succ_self _) _
         ·exact agK hrow1.out hlt1.out (by omega) hkn (fun t ht=>by constructor<;>rintro⟨a,b⟩<;>exact⟨by omega,b⟩) ⟨by omega,HX.out⟩ hgood.out
        case measure=>omega
       ·have hxb:(z.getD k 0==-1)=false:=by simpa using hx
        have hft:Hid ((TM.tb z SS (k+1)).2=(TM.tb z SS k).2):=by rw[Hid,htb.out,if_neg hx]
        have HX:=aA hx
        clear hx htb
        generalize z.getD k 0=x at hxb hck
        go_wp2
        go_roundg(n-(k+1))
        case rel =>
         refine⟨k+1,Lb,vs,rfl,by omega,by go_num,by rw[hft.out];exact hLb,by rw[hft.out];exact hmem,hown,hblk,?_,hbel,hsz⟩
         refine hrows.out.same (fun t ht=>?_)
         constructor
         ·rintro⟨a,b⟩;exact⟨by omega,b⟩
         ·rintro⟨a,b⟩
          refine⟨?_,b⟩
          by_cases e:t=k
          ·subst e;exact absurd b HX.out
          ·omega
        case measure=>omega
      ·obtain rfl:n=k:=by omega
       have hfree:=aA (TM.vg z SS n (by omega) hF.out Ci.out)
       obtain⟨ab,cb,hbv,yH,hbb⟩:=TJ hown (by omega)
       subst hbv
       have TS:=aA ((hrows.out.keep (bad':=fun b=>b=Gp) (Keeps.refl _ wr) (fun b _ e=>.inl e)).same (D':=fun t=>z.getD t 0=-1\/t<0) (fun t ht=>by simp[ht]))
       obtain⟨w1,rfl⟩:∃w1:World,w1=wr:=⟨_,rfl⟩
       generalize hfg:(TM.tb z SS n).2=free at *
       have FD:=aA hfg
       have TU:=aA hbb
       have TV:=aA yH
       clear hfg hown hrows hbb yH
       have hst:(SS:Int)/2+(SS:Int)/8+3=(TM.step SS:Int):=by unfold TM.step;omega
       have O7:TM.step SS<=64:=by unfold TM.step;omega
       go_wp2_with fail
       go_loopg[14,15] n (fun g kv sv wx=>∃(s K:Nat)(vs:List Value),g=n-s/\s<=n/\K<=SS/\sv=.int .i64 (s:Int)/\kv=.int .i64 (K:Int)/\Hid (TM.cf SS free K=TM.base z s)/\aB wx Gp 27 vs/\Hid (kK z SS n wx (fun b=>b=Gp) (fun t=>z.getD t 0=-1\/t<s) vs)/\Keeps (fun b=>b=Gp) w1 wx/\Below Gp w0 wx)
       case atStart=>exact⟨0,0,vs,by omega,by omega,by omega,rfl,rfl,rfl,hblk,TS,Keeps.refl _ _,hbel⟩
       case round =>
        clear TS hblk hbel
        obtain⟨s,K,vs,rfl,hs,hK,rfl,rfl,hcf,hblk,hrows,hkeep,hbel⟩:=hrel
        have agA:=hkeep.1
        by_cases hsn:s<n
        ·have hcs:wr.cell? ⟨b,off+s,none⟩=some (.int .i64 (z.getD s 0)):=(hbel.cell (p:=⟨b,off+s,none⟩) hlt).trans (HC.out s hsn)
         obtain⟨v,hv,hrow⟩:=hrows.out.2 s hsn
         have hcv:=hblk.cell hv
         have i1:(s:Int)<(n:Int):=by omega
         have hxr:=TM.iY z SS (by omega) hF.out s
         have hbs:Hid (TM.base z (s+1)=TM.base z s+(z.getD s 0).toNat):=rfl
         by_cases hx:z.getD s 0=-1
         ·rcases hrow with⟨h,-⟩|⟨-,L,a,c,hvL,hIL,-,hgood⟩
          ·exact absurd (.inl hx) h
          ·have hL1:L.length=1:=by have:=hgood.2;rw[hx]at this;simp[TM.pl]at this;omega
           rw[hx]at hcs hbs
           subst hvL
           rw[hL1]at hcv
           have HX:=aA hx
           clear hx hxr hIL hgood
           go_wp2_with fail
           refine wp_loop_rounds 1 ?_
           rw[rounds_succ]
           go_wp2_with fail
           go_quiet(fail)
           go_wp2_with fail
           go_roundg(n-(s+1))
           case rel =>
            refine⟨s+1,K,vs,rfl,by omega,hK,by go_num,rfl,?_,hblk.drewN _,?_,hkeep.drewN _,Go.below_drewN hbel _⟩
            ·rw[Hid,hbs.out,hcf.out];rfl
            ·refine(hrows.out.keep ((Keeps.refl _ wr).drewN _) (fun b _ e=>e)).same (fun t ht=>?_)
             by_cases e:t=s
             ·subst e;exact⟨fun _=>.inl HX.out,fun _=>.inl HX.out⟩
             ·constructor
              ·rintro(h|h)
               ·exact .inl h
               ·exact .inr (by omega)
              ·rintro(h|h)
               ·exact .inl h
               ·exact .inr (by omega)
           case measure=>omega
         ·rcases hrow with⟨-,hvn⟩|⟨h,-⟩
          ·subst hvn
           have TW:=aA (show vs.set s (.slice none 0 0)=vs by
            apply List.ext_getElem?
            intro j
            by_cases e:s=j
            ·subst e;rw[List.getElem?_set_self (by rw[hrows.out.1];exact hsn)];exact hv.symm
            ·rw[List.getElem?_set_ne e])
           have HX:=aA hx
           have hvl:=aA hrows.out.1
           have hx0:0<=z.getD s 0:=by omega
           have hcx:=aA (HC.out s hsn)
           have hts:=aA (TM.agE z SS free n s K hSz.out hsn (by have:=hfr.out n (Nat.le_refl _);have:=FD.out;omega) hfree.out hcf.out)
           have ag2:free<=SS:=by have:=hfr.out n (Nat.le_refl _);have:=FD.out;omega
           have hbm:=aA (TM.zl z (s+1) n hsn)
           have TY:=aA (fun K L hc ht=>TM.agH z SS n s K L hSz.out hF.out Ci.out hsn HX.out hc ht)
           rw[FD.out]at TY
           clear hx hcs hcv hv
           generalize z.getD s 0=x at *
           go_wp2_with fail
           obtain⟨wo,rfl⟩:∃wo:World,wo=wr:=⟨_,rfl⟩
           go_loopg[14] (SS-K) (fun g kv wx=>∃(K:Nat)(L:List Int)(v:Value),g=SS-K/\K<=SS/\kv=.int .i64 (K:Int)/\Hid (TM.Turn z SS free n s K L)/\Hid (TM.base z s<=TM.cf SS free K/\TM.cf SS free K<=TM.base z (s+1))/\wx.ownsRow wo.heap.size 3 1 v L.length (intCells L)/\aB wx Gp 27 (vs.set s v)/\Keeps (fun b=>b=Gp) wo wx/\Below Gp w0 wx)
           case atStart=>exact⟨K,[],_,rfl,hK,rfl,hts,by rw[Hid,hcf.out,hbs.out];omega,World.ownsRow_nil _ _ _ _,by rw[TW.out];exact hblk,Keeps.refl _ _,hbel⟩
           case round =>
            clear hts hcf hK TW
            have qH:=aA hblk
            have hbel0:=aA hbel
            clear hblk hbel
            obtain⟨K,L,v,rfl,hK,rfl,hturn,FH,hown,hblk,hkp,hbel⟩:=hrel
            have ajQ:=hkp.1
            have hcs:wr.cell? ⟨b,off+s,none⟩=some (.int .i64 x):=(hbel.cell (p:=⟨b,off+s,none⟩) hlt).trans hcx.out
            have hcv:wr.cell? ⟨Gp,s,none⟩=some v:=hblk.cell (by rw[List.getElem?_set_self (by rw[hvl.out];exact hsn)])
            have iU:=hturn.out.2
            have T_:=FH.out
            have hfe:=hfree.out
            have Ua:=hbs.out
            have Ub:=hbm.out
            have Uc:L.length<=64:=by omega
            obtain⟨av,cv,hvf⟩:∃a c,v=.slice a L.length c:=by
             rcases Cb hown with⟨h1,h2⟩|⟨g,c,h1,-⟩
             ·exact⟨none,0,by rw[h1,h2]⟩
             ·exact⟨_,_,h1⟩
            subst hvf
            have HOWN:=aA hown
            have yN:=aA hblk
            have hfz:=hblk.free s
            by_cases hgo:(L.length:Int)<x
            ·have hgd':decide ((L.length:Int)<x)=true:=decide_eq_true hgo
             have hKS:K<SS:=TM.LH hSz.out ag2 K hK (by omega)
             have hPe:((K:Int)*(TM.step SS:Int))%(SS:Int)=(TM.P SS K:Int):=by unfold TM.P;simp
             have hmul:(K:Int)*(TM.step SS:Int)<=64*64:=by
              have:=Nat.mul_le_mul (show K<=64 by omega) O7
              exact_mod_cast this
             have ajS:0<=(K:Int)*(TM.step SS:Int):=by
              have:=Nat.zero_le (K*TM.step SS)
              exact_mod_cast this
             have hPl:=TM.LG hSz.out K
             have yH:Ints wr ab Lb.length Lb:=(hkeep.trans hkp).ints TV.out (fun b' o e=>by have:=TU.out b' o e;omega)
             have FI:=hmem.out (TM.P SS K) hPl
             have FK:=aA hturn.out
             clear hown hblk iU T_ hfe Ua Ub hturn hgo
             go_wp2_with fail
             go_quiet(fail)
             go_wp2_with fail
             refine(KG _ _ _ Lb _ _ (show Ints (wr.drewN nq) ab Lb.length Lb from yH)).mono ?_
             rintro e w' ⟨rfl,rfl⟩
             by_cases hp:free<=TM.P SS K
             ·have hdp:decide ((TM.P SS K:Int)∈Lb)=true:=decide_eq_true (FI.2 hp)
              rw[hdp]
              have hsk:=aA (TM.agF z SS free n s K L hSz.out hKS hp FK.out)
              have KH:Hid (TM.cf SS free (K+1)=TM.cf SS free K):=by rw[Hid,TM.cf,if_neg (by omega)];rfl
              clear FI hdp hcs hcv
              go_wp2_with fail
              go_roundg(SS-(K+1))
              case rel=>exact⟨K+1,L,_,rfl,by omega,by go_num,hsk,by rw[KH.out];exact FH,HOWN.out,yN.out.drewN _,hkp.drewN _,Go.below_drewN hbel _⟩
              case measure=>omega
             ·have hdp:decide ((TM.P SS K:Int)∈Lb)=false:=decide_eq_false (fun h=>hp (FI.1 h))
              rw[hdp]
              have qA:=aA FK.out.2
              have hlt2:Hid (TM.cf SS free K<TM.base z (s+1)):=by
               have h1:=FK.out.2
               have h2:=hbs.out
               have:(L.length:Int)<x:=of_decide_eq_true hgd'
               rw[Hid]
               omega
              have hsk:=aA (TM.agG z SS free n s K L hSz.out hKS hsn (by omega) FH.out.1 hlt2.out FK.out)
              have KH:Hid (TM.cf SS free (K+1)=TM.cf SS free K+1):=by rw[Hid,TM.cf,if_pos (by omega)]
              clear FI hdp hcs
              go_wp2_with(first|(at_builtin;refine wpList_append_own _ rfl _ _ 27 rfl wo.heap.size 3 i0 _ 1 8 underlying27 hi0 hz0' hz1 hz2 rfl (by decide) _ _ _ rfl (World.ownsRow.alloc (show(wr.drewN nq).ownsRow wo.heap.size 3 1 _ _ _ from HOWN.out) _) ⟨wr.heap.size,0,none⟩ 1 1 [.int .i64 (TM.P SS K:Int)] rfl rfl (cell_one_new _ _ _) (one_one _) (by unfold maxLen;omega) (by omega) (by simp;omega) ?_))
              intro v' w2 hown' hgrow _
              have hnb:=KF HOWN.out Gp (by omega)
              have hk2:Keeps (fun b=>(Value.slice av L.length cv).ownBlock=some b) wr w2:=(((Keeps.refl _ wr).drewN nq).alloc _).grown hgrow (fun k e _=>e)
              have hb2:aB w2 Gp 27 (vs.set s (.slice av L.length cv)):=hk2.blk yN.out hnb
              have ag3:Keeps (fun b=>b=Gp) wo w2:=((hkp.drewN nq).alloc _).grown hgrow (fun k e hlt=>by have:=(HOWN.out.lt k e).1;omega)
              have G9:Below Gp w0 w2:=((Go.below_drewN hbel nq).alloc (by simp;omega) _).grown hgrow (by simp;omega) (fun j hj=>by have:=(HOWN.out.lt j hj).1;omega)
              have hcA:w2.cell? ⟨Gp,s,none⟩=some (.slice av L.length cv):=hb2.cell (by rw[List.getElem?_set_self (by rw[hvl.out];exact hsn)])
              have hfA:=hb2.free s
              obtain⟨g',c',rfl,-⟩:=(Cb hown').resolve_left (by rintro⟨-,h⟩;omega)
              have HB2:=aA hb2
              have HOWN':=aA hown'
              clear hgrow hown' hk2 hnb hb2 hcv hfz
              go_wp2_with fail
              go_roundg(SS-(K+1))
              case rel =>
               refine⟨K+1,L++[(TM.P SS K:Int)],.slice (some ⟨g',0,none⟩) (L.length+1) c',rfl,by omega,by go_num,hsk,?_,?_,?_,ag3.setCell _ _ rfl,G9.setCell (Nat.le_refl _) _⟩
               ·have:=hlt2.out
                have:=FH.out.1
                rw[Hid,KH.out]
                omega
               ·have e:intCells (L++[(TM.P SS K:Int)])=intCells L++[.int .i64 (TM.P SS K:Int)]:=by simp[intCells]
                rw[e,List.length_append,List.length_singleton]
                exact ownsRow_setCell_below HOWN'.out (by simp only;omega) _
               ·have:=HB2.out.put s (.slice (some ⟨g',0,none⟩) (L.length+1) c')
                rw[List.set_set]at this
                exact this
              case measure=>omega
            ·have hgd':decide ((L.length:Int)<x)=false:=decide_eq_false hgo
             have hce:TM.cf SS free K=TM.base z (s+1):=by omega
             have hgood:=aA (TY.out K L hce hturn.out)
             have HCE:=aA hce
             have HKP:=aA hkp
             clear hown hblk iU T_ hfe Ua Ub hturn hce
             go_wp2_with fail
             go_quiet(fail)
             go_wp2_with fail
             go_roundg(n-(s+1))
             case rel =>
              refine⟨s+1,K,vs.set s (.slice av L.length cv),rfl,by omega,hK,by go_num,rfl,HCE,yN.out.drewN _,?_,(hkeep.trans hkp).drewN _,Go.below_drewN hbel _⟩
              obtain⟨a',c',hv',hI',hb'⟩:=TJ HOWN.out Uc
              injection hv' with e1 _ e3
              subst e1 e3
              refine(hrows.out.keep (HKP.out.drewN _) (fun b _ e=>e)).put s _ ?_ hsn (fun t ht=>?_)
              ·refine .inr ⟨.inr (by omega),L,av,cv,rfl,hI',fun b' o e=>⟨?_,?_⟩,hgood.out⟩
               ·have:=hb' b' o e
                omega
               ·exact TK HOWN.out b' (by rw[e];rfl)
              ·constructor
               ·rintro(h|h)
                ·exact .inl h
                ·exact .inr (by omega)
               ·rintro(h|h)
                ·exact .inl h
                ·exact .inr (by omega)
             case measure=>omega
          ·exact absurd h (by rintro(h|h);exact hx h;omega)
        ·obtain rfl:n=s:=by omega
         obtain⟨w3,rfl⟩:∃w3:World,w3=wr:=⟨_,rfl⟩
         have HR:=aA (show ∀t,t<n->∃L a c,w3.cell? ⟨Gp,t,none⟩=some (.slice a L.length c)/\Ints w3 a L.length L/\TM.Good z SS n t L from fun t ht=>by
          obtain⟨v,h1,h2⟩:=hrows.out.2 t ht
          rcases h2 with⟨h2,-⟩|⟨-,L,a,c,rfl,hI,-,hg⟩
          ·exact absurd (.inr ht) h2
          ·exact⟨L,a,c,hblk.cell h1,hI,hg⟩)
         have ajT:Gp<w3.heap.size:=hblk.lt
         have hsy:=aA (TM.syms z SS n hSz.out hF.out Ci.out)
         have hXb:=aA (fun p(hp:p<SS)=>TM.CX z SS (by omega) hF.out (TM.F z SS n) p hp (by obtain⟨s,a,b,c⟩:=hsy.out p hp;exact⟨s,a,c⟩))
         have hpost:=aA (show ∀v w',Below w3.heap.size w3 w'->w'.ownsRow (w3.heap.size+1) 226 3 v SS (CM.cellsOf (TM.tab SS (TM.st z lg SS (TM.F z SS n))))->wH log z w0 (.returned (.tuple #[v,.int .i64 0])) w' from fun v w' h1 h2=>by
          refine⟨?_,.inr ⟨lg,iw.out.1,iw.out.2,?_,v,rfl,?_⟩⟩
          ·rw[TR.out];exact hbel.trans (h1.mono (by omega))
          ·rw[hpw.out];exact hfb.out
          ·unfold table
           rw[hpw.out,hl,TR.out]
           exact ownsRow_base h2 (by omega))
         have HGD:=aA (show ∀p:Nat,p<SS->∀t L,TM.Good z SS n t L->((p:Int)∈L↔TM.F z SS n p=(t:Int))/\(TM.F z SS n p=(t:Int)->(L.length:Int)+TM.iG (TM.F z SS n) (t:Int) p=TM.X z (TM.F z SS n) p)from fun p hp t L hg=>⟨hg.1 p hp,fun e=>by
          unfold TM.X
          rw[e,Int.toNat_natCast,hg.2]⟩)
         have HLX:=aA (show ∀t L,TM.Good z SS n t L->t<n->L.length<=64 from fun t L hg ht=>by
          have h1:=hg.2
          have h2:=TM.qM _ (SS:Int) (by omega) (TM.iY z SS (by omega) hF.out t)
          omega)
         generalize uI:TM.F z SS n=F at *
         clear uI hrows hblk hcf hkeep hmem TV TU hfree FD hfb
         have hmk:=fun u=>MX u n (by omega)
         obtain⟨i1,hi1,hy0,hy1,hy2⟩:=info_parts infoState
         go_wp2_with fail
         clear hmk
         have hB0:=aB.new w3 3 (gJ n)
         have hbel0:Below w3.heap.size w3 (w3.alloc (.cells (gJ n).toArray 3)):=(Below.refl _ _).alloc (Nat.le_refl _) _
         have hsz0:w3.heap.size+1<=(w3.alloc (.cells (gJ n).toArray 3)).heap.size:=by simp
         rw[agQ F n]at hB0 hbel0 hsz0⊢
         generalize hgn:w3.heap.size=Gn at *
         have II:=aA hgn
         clear hgn
         go_loopg[18,20] SS (fun g v pv wx=>∃p:Nat,g=SS-p/\p<=SS/\pv=.int .i64 (p:Int)/\wx.ownsRow (Gn+1) 226 3 v p (CM.cellsOf (TM.tab p (TM.st z lg SS F)))/\aB wx Gn 3 (jJ F n p 0)/\Below Gn w3 wx/\Gn+1<=wx.heap.size)
         case atStart=>exact⟨0,by omega,by omega,rfl,World.ownsRow_nil _ _ _ _,hB0,hbel0,hsz0⟩
         case round =>
          clear hB0 hbel0 hsz0
          obtain⟨p,rfl,hp,rfl,hown,sV,hbw,hsw⟩:=hrel
          by_cases fP:p<SS
          ·obtain⟨sy,ajU,hsy2,ajV⟩:=hsy.out p fP
           rw[<- TN (TM.st z lg SS F) F p (by omega)]at hown
           have hlen0:(jy (TM.st z lg SS F) F p 0).length=p:=by rw[TN _ _ _ (by omega),TM.mW]
           rw[show wr.ownsRow (Gn+1) 226 3 u18 p (CM.cellsOf (jy (TM.st z lg SS F) F p 0))=wr.ownsRow (Gn+1) 226 3 u18 (jy (TM.st z lg SS F) F p 0).length (CM.cellsOf (jy (TM.st z lg SS F) F p 0)) by rw[hlen0]]at hown
           have Ud:=aA hown
           clear hlen0 hown
           go_wp2_with fail
           obtain⟨wp,rfl⟩:∃wp:World,wp=wr:=⟨_,rfl⟩
           have ag9:=hbw.size
           go_loopg[18,21] n (fun g v sv wx=>∃s:Nat,g=n-s/\s<=n/\sv=.int .i64 (s:Int)/\wx.ownsRow (Gn+1) 226 3 v (jy (TM.st z lg SS F) F p s).length (CM.cellsOf (jy (TM.st z lg SS F) F p s))/\aB wx Gn 3 (jJ F n p s)/\Below Gn w3 wx/\Gn+1<=wx.heap.size)
           case atStart=>exact⟨0,by omega,by omega,rfl,Ud.out,sV,hbw,hsw⟩
           case round =>
            clear Ud sV hbw hsw ag9
            obtain⟨s,rfl,hs,rfl,hown,sV,hbw,hsw⟩:=hrel
            by_cases hsn:s<n
            ·obtain⟨L,a,c,hcv0,hI0,hgood⟩:=HR.out s hsn
             have hcv:wr.cell? ⟨Gp,s,none⟩=some (.slice a L.length c):=(hbw.cell (p:=⟨Gp,s,none⟩) (show Gp<Gn by omega)).trans hcv0
             have hI:Ints wr a L.length L:=hI0.below (by rw[II.out];exact hbw)
             obtain⟨hgm,hgx⟩:=HGD.out p fP s L hgood
             have Uc:=HLX.out s L hgood hsn
             have hsc:=sV.cell (agM F n p s hsn)
             have hsf:=sV.free s
             have hout:=agV (TM.st z lg SS F) F p s
             have i1':(s:Int)<(n:Int):=by omega
             have HOWN:=aA hown
             have KJ:=aA sV
             have HI:=aA hI
             clear hcv0 hI0 hgood hown sV hI
             by_cases sW:F p=(s:Int)
             ·have hdp:decide ((p:Int)∈L)=true:=decide_eq_true (hgm.2 sW)
              have hX1:=hgx sW
              have hX2:=hXb.out p fP
              have hsp:=aA (agN F n p s sW hsn)
              have hop:=aA (agU (TM.st z lg SS F) F p s sW)
              have hst2:=aA (show TM.st z lg SS F p=(F p,TM.bt lg (TM.X z F p),TM.bs lg SS (TM.X z F p))from rfl)
              have Pg:=aA sW
              clear hgm hgx sW
              generalize TM.X z F p=X at *
              generalize TM.iG F (s:Int) p=cn at *
              go_wp2_with fail
              refine(KG _ _ _ L _ _ HI.out).mono ?_
              rintro e w' ⟨rfl,rfl⟩
              rw[hdp]
              clear hdp
              go_wp2_with fail
              go_quiet(fail)
              go_wp2_with fail
              have Ue:lg<=6:=by have:=iw.out.2;omega
              have FM:(2:Int)^lg=(SS:Int):=by rw[<- hpw.out];simp
              have hx2:X<2^(lg+1):=by rw[Int.pow_succ,FM];omega
              obtain⟨q1,q2,q3,q4⟩:=TM.zo lg Ue X hX2.1 hx2
              have hdm:=aA (fun j=>TM.agI lg Ue X hX2.1 hx2 j)
              obtain⟨B,hB⟩:=Int.eq_ofNat_of_zero_le q1
              have Az:TM.bs lg SS X=X*2^B-SS:=by unfold TM.bs;rw[hB];rfl
              rw[Az,hB]at hst2
              rw[hB,FM]at hdm
              rw[hB,Int.toNat_natCast,FM]at q3
              have xK:B<=6:=by omega
              have hWs:=aA (show aB ((wr.drewN nq).setCell ⟨Gn,s,none⟩ (.int .i64 ((cn:Int)+1))) Gn 3 (jJ F n p (s+1)) by rw[<- hsp.out];exact(KJ.out.drewN nq).put _ _)
              have lM:=aA (ownsRow_setCell_below (a:=⟨Gn,s,none⟩) (show(wr.drewN nq).ownsRow (Gn+1) 226 3 u18 _ _ from HOWN.out) (Nat.lt_succ_self _) (.int .i64 ((cn:Int)+1)))
              have sF:Below Gn w3 ((wr.drewN nq).setCell ⟨Gn,s,none⟩ (.int .i64 ((cn:Int)+1))):=(Go.below_drewN hbw nq).setCell (Nat.le_refl _) _
              have hWz:Gn+1<=((wr.drewN nq).setCell ⟨Gn,s,none⟩ (.int .i64 ((cn:Int)+1))).heap.size:=by simp;omega
              have hXu:X*2^B<=128:=by
               rw[hB,Int.toNat_natCast,Int.add_mul,Int.pow_succ,FM]at q4
               have:=CM.pow_pos B
               omega
              clear KJ HOWN hsp hbw hsw hcv hsf hsc hx2 q1 q2 q4 hB Az hX1
              generalize(wr.drewN nq).setCell ⟨Gn,s,none⟩ (.int .i64 ((cn:Int)+1))=W at *
              go_loopg[23,24] B (fun g xv bv wx=>∃j:Nat,g=B-j/\j<=B/\xv=.int .i64 (X*2^j)/\bv=.int .i64 (j:Int)/\wx=W)
              case atStart=>exact⟨0,by omega,by omega,by simp,rfl,rfl⟩
              case round =>
               obtain⟨j,rfl,hj,rfl,rfl,hwx⟩:=hrel
               subst hwx
               by_cases hjB:j<B
               ·have hlo:=(hdm.out j).1 (by simpa using hjB)
                have hpos:0<=X*2^j:=by have:=CM.pow_pos j;exact Int.mul_nonneg (by omega) (by omega)
                have hdl:decide (X*2^j<(SS:Int))=true:=decide_eq_true hlo
                have hnx:=aA (show 2*(X*2^j)=X*2^(j+1) by rw[Int.pow_succ,Int.mul_comm 2,Int.mul_assoc])
                go_wp2_with fail
                go_roundg(B-(j+1))
                case rel=>exact⟨j+1,rfl,by omega,jY hnx.out,by go_num,rfl⟩
                case measure=>omega
               ·obtain rfl:B=j:=by omega
                have hdl:decide (X*2^B<(SS:Int))=false:=decide_eq_false (by omega)
                have hszW:=sF.size
                go_wp2_with(first|(at_builtin;refine wpList_append_own _ rfl _ _ 117 rfl (Gn+1) 226 i1 _ 3 24 underlying117 hi1 hy0 hy1 hy2 rfl (by decide) _ _ _ rfl (lM.out.alloc _) ⟨wr.heap.size,0,none⟩ 1 1 [.int .i64 (s:Int),.int .i64 (B:Int),.int .i64 (X*2^B-(SS:Int))] rfl rfl (CZ _ _ _ _ _) (C9 _ _ _) (by unfold maxLen;omega) (by omega) (by simp;omega) ?_))
                intro v' w4 hown' hgrow _
                have hnb:=KF lM.out Gn (Nat.lt_succ_self _)
                have hk4:Keeps (fun b=>u18.ownBlock=some b) wr w4:=((Keeps.refl _ wr).alloc _).grown hgrow (fun k e _=>e)
                have hb4:=aA (hk4.blk hWs.out hnb)
                have zJ:Below Gn w3 w4:=(sF.alloc (by omega) _).grown hgrow (by simp;omega) (fun j hj=>by have:=(lM.out.lt j hj).1;omega)
                have Xn:=hk4.1
                have hown4:=aA (show w4.ownsRow (Gn+1) 226 3 v' (jy (TM.st z lg SS F) F p (s+1)).length (CM.cellsOf (jy (TM.st z lg SS F) F p (s+1))) by
                 rw[hop.out,CM.Gg,hst2.out,Pg.out,List.length_append,List.length_singleton]
                 exact hown')
                clear hgrow hown' hk4 hnb lM hWs
                go_wp2_with fail
                go_roundg(n-(s+1))
                case rel=>exact⟨s+1,rfl,by omega,by go_num,hown4.out,hb4.out,zJ,by omega⟩
                case measure=>omega
             ·have hdp:decide ((p:Int)∈L)=false:=decide_eq_false (fun h=>sW (hgm.1 h))
              have hsp:=aA (agO F n p s sW)
              have hop:=aA (agT (TM.st z lg SS F) F p s sW)
              clear hgm hgx
              go_wp2_with fail
              refine(KG _ _ _ L _ _ HI.out).mono ?_
              rintro e w' ⟨rfl,rfl⟩
              rw[hdp]
              clear hdp
              go_wp2_with fail
              go_roundg(n-(s+1))
              case rel=>exact⟨s+1,rfl,by omega,by go_num,by rw[<- hop.out];exact HOWN.out,by rw[<- hsp.out];exact KJ.out,hbw,hsw⟩
              case measure=>omega
            ·obtain rfl:n=s:=by omega
             rw[agS (TM.st z lg SS F) F p n (by omega),TM.mW,]at hown
             rw[agP F n p]at sV
             go_wp2_with fail
             go_roundg(SS-(p+1))
             case rel=>exact⟨p+1,rfl,by omega,by go_num,hown,sV,hbw,hsw⟩
             case measure=>omega
          ·obtain rfl:SS=p:=by omega
           go_wp2
           go_ret2
           exact hpost.out _ _ hbw hown
    ·have hbad:=aA (hG.out (by rw[fU.out,Ce];simpa using hsum))
     have TQ:(TM.sum z n != (SS:Int))=true:=by simpa using hsum
     go_wp2
     go_ret2
     exact hbad.out
theorem ag_(log:Int)(a:Option Addr)(n cap:Nat)(z:List Int)(w:World)(hI:Ints w a n z) :
  Calls prog 112 #[.int .i64 log,.slice a n cap] w (wH log z w):=by
 by_cases h:(log=5\/log=6)/\1<=n/\n<=16
 ·obtain⟨h1,h2⟩:=h
  rcases h1 with rfl|rfl
  ·exact TP 5 5 32 a n cap z w hI (.inl ⟨rfl,rfl,rfl⟩) h2
  ·exact TP 6 6 64 a n cap z w hI (.inr ⟨rfl,rfl,rfl⟩) h2
 ·exact ag0 log a n cap z w hI h
end Go.Proofs.YtbhemchnjpajiaaGreatDoor
