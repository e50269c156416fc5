/- Several texts in one: RefSeq, CodeSpan, SpanMath, PrMath, PrSeq. -/
import Derived.Test.YtbhemchnjpajiaaGreatDoorJA
set_option linter.unusedVariables false
namespace Go.Proofs.YtbhemchnjpajiaaGreatDoor.RD
open Go
theorem LU{l:List Int}{i n:Nat}{v:Int}(h:worth l i n=some v):i+n<=l.length/\v=val ((l.drop i).take n):=by
 unfold worth at h
 split at h
 ·cases h
 ·cases h
  exact⟨by omega,rfl⟩
theorem m_(l:List Int)(h:∀x∈l,0<=x/\x<=1)(b:B)(n:Nat):0<=(rd l b n).1/\(rd l b n).1<2^n:=by
 have hp:(0:Int)<2^n:=Int.pow_pos (by omega)
 unfold rd
 cases e:worth l b.i n with
 | none=>simpa using hp
 | some v =>
  obtain⟨h1,rfl⟩:=LU e
  have:=Lu ((l.drop b.i).take n) (fun x hx=>h x (List.mem_of_mem_drop (List.mem_of_mem_take hx)))
  have hl:((l.drop b.i).take n).length=n:=by simp;omega
  rw[hl]at this
  exact this
theorem pX(l:List Int)(b:B)(n:Nat)(h:b.i<=l.length):(rd l b n).2.i<=l.length:=by
 unfold rd
 cases e:worth l b.i n with
 | none=>exact h
 | some v=>exact(LU e).1
theorem lI(n k:Nat)(h:n<=k):(2:Int)^n<=2^k:=by
 have:2^n<=2^k:=Nat.pow_le_pow_right (by omega) h
 exact_mod_cast this
theorem Dc(l:List Int)(h:∀x∈l,0<=x/\x<=1)(b:B)(n:Nat)(hn:n<=15):0<=(sz l b n).1/\(sz l b n).1<=600:=by
 unfold sz
 split
 ·simp;omega
 ·have a:=m_ l h b (n-7)
  have c:=lI (n-7) 8 (by omega)
  have d:(0:Int)<2^(n-7):=Int.pow_pos (by omega)
  simp only[]
  omega
theorem Df(l:List Int)(b:B)(n:Nat)(h:b.i<=l.length):(sz l b n).2.i<=l.length:=by
 unfold sz
 split
 ·exact h
 ·exact pX l b _ h
def cZ(t:Tab):Prop:=t.l.length=2^t.log/\t.log<=6/\∀x∈t.l,0<=x.1/\x.1<=15/\0<=x.2.1/\x.2.1<=6/\0<=x.2.2/\x.2.2+2^x.2.1.toNat<=2^t.log
theorem vk{t:Tab}(h:cZ t){i:Int}(h0:0<=i)(h1:i<2^t.log):i.toNat<t.l.length/\0<=(aS t.l i).1/\(aS t.l i).1<=15/\0<=(aS t.l i).2.1/\(aS t.l i).2.1<=6/\0<=(aS t.l i).2.2/\(aS t.l i).2.2+2^(aS t.l i).2.1.toNat<=2^t.log:=by
 have e:((2^t.log:Nat):Int)=2^t.log:=by simp
 have hl:i.toNat<t.l.length:=by rw[h.1];omega
 refine⟨hl,h.2.2 _ ?_⟩
 unfold aS
 rw[List.getD_eq_getElem?_getD,List.getElem?_eq_getElem hl]
 exact List.getElem_mem hl
def dG(l:List Int):Prop:=∃x y z,l=[x,y,z]/\(1<=x/\x<=65536)/\(1<=y/\y<=65536)/\(1<=z/\z<=65536)
theorem LV{l:List Int}(h:dG l)(v len:Int)(hv:1<=v/\v<=65536)(h1:1<=(bG l v len).1):dG (bG l v len).2:=by
 obtain⟨x,y,z,rfl,hx,hy,hz⟩:=h
 unfold bG at *
 by_cases h3:3<v
 ·rw[if_pos h3]at h1⊢
  exact⟨_,_,_,rfl,⟨h1,by omega⟩,hx,hy⟩
 ·rw[if_neg h3]at h1⊢
  simp only[]at h1⊢
  generalize(if len=0 then v+1 else v)=i at *
  by_cases h4:i=4
  ·rw[if_pos h4]at h1⊢
   exact⟨_,_,_,rfl,⟨h1,by show x-1<=65536;omega⟩,hx,hy⟩
  rw[if_neg h4]
  by_cases h4:i=1
  ·rw[if_pos h4]
   exact⟨_,_,_,rfl,hx,hy,hz⟩
  rw[if_neg h4]
  by_cases h4:i=2
  ·rw[if_pos h4]
   exact⟨_,_,_,rfl,hy,hx,hz⟩
  rw[if_neg h4]
  exact⟨_,_,_,rfl,hz,hx,hy⟩
theorem vw(past:aj)(k m:Nat):(copyN past k m).length=past.length+m:=by
 induction m with
 | zero=>rfl
 | succ m ih=>simp only[copyN,List.length_append,List.length_cons,List.length_nil,ih];omega
structure vC(f:Fr)(l:List Int)(from':Nat)(q:Sq):Prop where
 i:q.b.i<=l.length
 s0:0<=q.s0/\q.s0<2^f.t0.log
 s1:0<=q.s1/\q.s1<2^f.t1.log
 s2:0<=q.s2/\q.s2<2^f.t2.log
 past:from'<=q.past.length/\q.past.length<=from'+1024
 lits:q.lits.length<=1048576
 last:dG q.last
theorem Vw{f:Fr}{l:List Int}{from':Nat}{more:Bool}{q r:Sq}(hl:∀x∈l,0<=x/\x<=1)(h0:cZ f.t0)(h1:cZ f.t1)(h2:cZ f.t2)(hq:vC f l from' q)(h:seq1 f l from' more q=some r):vC f l from' r:=by
 obtain⟨i0,a0,b0,c0,d0,e0,g0⟩:=vk h0 hq.s0.1 hq.s0.2
 obtain⟨i1,a1,b1,c1,d1,e1,g1⟩:=vk h1 hq.s1.1 hq.s1.2
 obtain⟨i2,a2,b2,c2,d2,e2,g2⟩:=vk h2 hq.s2.1 hq.s2.2
 unfold seq1 at h
 simp only[]at h
 generalize aS f.t0.l q.s0=x0 at *
 generalize aS f.t1.l q.s1=x1 at *
 generalize aS f.t2.l q.s2=x2 at *
 have k1:=m_ l hl q.b x1.1.toNat
 have j1:=pX l q.b x1.1.toNat hq.i
 have p1:=lI x1.1.toNat 15 (by omega)
 have p1':(0:Int)<2^x1.1.toNat:=Int.pow_pos (by omega)
 generalize rd l q.b x1.1.toNat=r1 at *
 have k2:=Dc l hl r1.2 x2.1.toNat (by omega)
 have j2:=Df l r1.2 x2.1.toNat j1
 generalize sz l r1.2 x2.1.toNat=r2 at *
 have k0:=Dc l hl r2.2 x0.1.toNat (by omega)
 have j0:=Df l r2.2 x0.1.toNat j2
 generalize sz l r2.2 x0.1.toNat=r0 at *
 have m0:=m_ l hl r0.2 x0.2.1.toNat
 have n0:=pX l r0.2 x0.2.1.toNat j0
 generalize rd l r0.2 x0.2.1.toNat=y0 at *
 have m2:=m_ l hl y0.2 x2.2.1.toNat
 have n2:=pX l y0.2 x2.2.1.toNat n0
 generalize rd l y0.2 x2.2.1.toNat=y2 at *
 have m1:=m_ l hl y2.2 x1.2.1.toNat
 have n1:=pX l y2.2 x1.2.1.toNat n2
 generalize rd l y2.2 x1.2.1.toNat=y1 at *
 have tail:∀(b:B)(s0 s1 s2:Int),b.i<=l.length->(0<=s0/\s0<2^f.t0.log)->(0<=s1/\s1<2^f.t1.log)->(0<=s2/\s2<2^f.t2.log) ->
   (if b.short=true\/(q.lits.length:Int)<r0.1 then none
    else if(bG q.last (2^x1.1.toNat+r1.1) r0.1).1<1\/(f.window:Int)<(bG q.last (2^x1.1.toNat+r1.1) r0.1).1\/((q.past++q.lits.take r0.1.toNat).length:Int)<(bG q.last (2^x1.1.toNat+r1.1) r0.1).1\/1024<((q.past++q.lits.take r0.1.toNat).length:Int)+(3+r2.1)-from' then none
    else some (⟨b,s0,s1,s2,copyN (q.past++q.lits.take r0.1.toNat) (bG q.last (2^x1.1.toNat+r1.1) r0.1).1.toNat (3+r2.1).toNat,q.lits.drop r0.1.toNat,(bG q.last (2^x1.1.toNat+r1.1) r0.1).2⟩:Sq))=some r->vC f l from' r:=by
  intro b s0 s1 s2 hb hs0 hs1 hs2 h
  split at h
  ·cases h
  ·rename_i hn1
   split at h
   ·cases h
   ·rename_i hn2
    injection h with h
    subst h
    have hlen:(q.past++q.lits.take r0.1.toNat).length=q.past.length+r0.1.toNat:=by
     simp only[List.length_append,List.length_take]
     omega
    refine⟨hb,hs0,hs1,hs2,?_,?_,?_⟩
    ·simp only[vw]
     have:=hq.past
     omega
    ·simp only[List.length_drop]
     have:=hq.lits
     omega
    ·exact LV hq.last _ _ ⟨by omega,by omega⟩ (by omega)
 cases more
 ·exact tail _ _ _ _ j0 hq.s0 hq.s1 hq.s2 h
 ·exact tail y1.2 (x0.2.2+y0.1) (x1.2.2+y1.1) (x2.2.2+y2.1) n1 (by omega) (by omega) (by omega) h
theorem LW{f:Fr}{l:List Int}{from' n:Nat}{q:Sq}(hl:∀x∈l,0<=x/\x<=1)(h0:cZ f.t0)(h1:cZ f.t1)(h2:cZ f.t2)(hq:vC f l from' q):∀(i:Nat){r:Sq},eH f l from' n q i=some r->vC f l from' r
 | 0,r,h=>by cases h;exact hq
 | i+1,r,h=>by
  unfold eH at h
  cases e:eH f l from' n q i with
  | none=>rw[e]at h;cases h
  | some r' =>
   rw[e]at h
   exact Vw hl h0 h1 h2 (LW hl h0 h1 h2 hq i e) h
theorem LX{f:Fr}{l:List Int}{from' n:Nat}{q:Sq}{i:Nat}(h:eH f l from' n q i=none):∀k,eH f l from' n q (i+k)=none
 | 0=>h
 | k+1=>by
  show eH f l from' n q (i+k+1)=none
  unfold eH
  rw[LX h k]
theorem Vx{f:Fr}{l:List Int}(hl:∀x∈l,0<=x/\x<=1){lits:aj}(Vy:lits.length<=1048576)(hlast:dG f.last):vC f l (f.dict++f.text).length (eP f l lits):=by
 unfold eP
 simp only[]
 have m0:=m_ l hl ⟨0,false⟩ f.t0.log
 have n0:=pX l ⟨0,false⟩ f.t0.log (Nat.zero_le _)
 generalize rd l ⟨0,false⟩ f.t0.log=y0 at *
 have m1:=m_ l hl y0.2 f.t1.log
 have n1:=pX l y0.2 f.t1.log n0
 generalize rd l y0.2 f.t1.log=y1 at *
 have m2:=m_ l hl y1.2 f.t2.log
 have n2:=pX l y1.2 f.t2.log n1
 exact⟨n2,m0,m1,m2,⟨Nat.le_refl _,by simp⟩,Vy,hlast⟩
theorem Gu{f:Fr}{lits s:aj}{n i:Nat}(hi:i<=n)(h:eH f (ay s) (f.dict++f.text).length n (eP f (ay s) lits) i=none):content f lits s n=none:=by
 have:=LX h (n-i)
 rw[show i+(n-i)=n by omega]at this
 unfold content
 rw[this]
def oq(f:Fr)(from':Nat)(q:Sq)(v m len:Int)(b:B)(s0 s1 s2:Int):Option Sq :=
 if b.short=true\/(q.lits.length:Int)<len then none
 else if(bG q.last v len).1<1\/(f.window:Int)<(bG q.last v len).1\/((q.past++q.lits.take len.toNat).length:Int)<(bG q.last v len).1\/1024<((q.past++q.lits.take len.toNat).length:Int)+(3+m)-from' then none
 else some ⟨b,s0,s1,s2,copyN (q.past++q.lits.take len.toNat) (bG q.last v len).1.toNat (3+m).toNat,q.lits.drop len.toNat,(bG q.last v len).2⟩
theorem Vz{f:Fr}{l:List Int}{from':Nat}{q:Sq}{A0 B0 C0 A1 B1 C1 A2 B2 C2:Nat}(h0:aS f.t0.l q.s0=((A0:Int),(B0:Int),(C0:Int)))(h1:aS f.t1.l q.s1=((A1:Int),(B1:Int),(C1:Int)))(h2:aS f.t2.l q.s2=((A2:Int),(B2:Int),(C2:Int))) :
  seq1 f l from' true q=oq f from' q (2^A1+(rd l q.b A1).1) (sz l (rd l q.b A1).2 A2).1 (sz l (sz l (rd l q.b A1).2 A2).2 A0).1
   (rd l (rd l (rd l (sz l (sz l (rd l q.b A1).2 A2).2 A0).2 B0).2 B2).2 B1).2 ((C0:Int)+(rd l (sz l (sz l (rd l q.b A1).2 A2).2 A0).2 B0).1)
   ((C1:Int)+(rd l (rd l (rd l (sz l (sz l (rd l q.b A1).2 A2).2 A0).2 B0).2 B2).2 B1).1) ((C2:Int)+(rd l (rd l (sz l (sz l (rd l q.b A1).2 A2).2 A0).2 B0).2 B2).1):=by
 unfold seq1
 rw[h0,h1,h2]
 rfl
theorem VA{f:Fr}{l:List Int}{from':Nat}{q:Sq}{A0 B0 C0 A1 B1 C1 A2 B2 C2:Nat}(h0:aS f.t0.l q.s0=((A0:Int),(B0:Int),(C0:Int)))(h1:aS f.t1.l q.s1=((A1:Int),(B1:Int),(C1:Int)))(h2:aS f.t2.l q.s2=((A2:Int),(B2:Int),(C2:Int))) :
  seq1 f l from' false q=oq f from' q (2^A1+(rd l q.b A1).1) (sz l (rd l q.b A1).2 A2).1 (sz l (sz l (rd l q.b A1).2 A2).2 A0).1
   (sz l (sz l (rd l q.b A1).2 A2).2 A0).2 q.s0 q.s1 q.s2:=by
 unfold seq1
 rw[h0,h1,h2]
 rfl
theorem qR{x:CM.aG}(h:0<=x.1/\0<=x.2.1/\0<=x.2.2):x=((x.1.toNat:Int),(x.2.1.toNat:Int),(x.2.2.toNat:Int)):=by
 obtain⟨a,b,c⟩:=x
 simp only[]at h⊢
 rw[Int.toNat_of_nonneg h.1,Int.toNat_of_nonneg h.2.1,Int.toNat_of_nonneg h.2.2]
end Go.Proofs.YtbhemchnjpajiaaGreatDoor.RD
namespace Go.Proofs.YtbhemchnjpajiaaGreatDoor.CM
open Go
theorem VB:∀r:Fin 257,r.val≠0->pw (r.val:Int)=true->(r.val:Int)=2^(Lib.bitLen r.val-1):=by decide +kernel
theorem VD(r:Int)(h0:1<=r)(h1:r<=256)(h:pw r=true):sp (len r)=r/\1<=len r:=by
 have e:=VB ⟨r.toNat,by omega⟩ (by simp only;omega) (by simp only[Int.toNat_of_nonneg (show 0<=r by omega)];exact h)
 simp only[Int.toNat_of_nonneg (show 0<=r by omega)]at e
 obtain⟨a,b⟩:=bitLen_spec r.toNat (by omega)
 obtain⟨c,d⟩:=b (by omega)
 unfold sp len
 rw[if_neg (show ¬((Lib.bitLen r.toNat:Int)=0) by omega),show((Lib.bitLen r.toNat:Int)-1).toNat=Lib.bitLen r.toNat-1 by omega]
 exact⟨e.symm,by omega⟩
abbrev val(ws:List Int)(v:Nat):Int:=ws.getD v 0
def qU(ws:List Int)(wt:Int):Nat->Int
 | 0=>0
 | k+1=>qU ws wt k+if val ws k=wt then sp wt else 0
def low(ws:List Int)(n:Int):Nat->Int
 | 0=>0
 | k+1=>low ws n k+if val ws k<=n then sp (val ws k)else 0
theorem LY(ws:List Int)(b wt:Int)(c:List aG×Int)(k:Nat):(gk ws b wt c k).2=c.2+qU ws wt k:=by
 induction k with
 | zero=>simp[gk,qU]
 | succ k ih =>
  simp only[gk,qU,val]
  split
  ·simp only[ih];omega
  ·rw[ih];omega
theorem VE(ws:List Int)(n:Int)(k:Nat):low ws (n+1) k=low ws n k+qU ws (n+1) k:=by
 induction k with
 | zero=>simp[low,qU]
 | succ k ih =>
  simp only[low,qU,ih]
  by_cases h1:val ws k<=n
  ·rw[if_pos (by omega),if_pos h1,if_neg (by omega)];omega
  ·by_cases h2:val ws k=n+1
   ·rw[if_pos (by omega),if_neg h1,if_pos h2,h2];omega
   ·rw[if_neg (by omega),if_neg h1,if_neg h2];omega
theorem VF(ws:List Int)(h:Fits ws)(k:Nat):low ws 0 k=0:=by
 induction k with
 | zero=>rfl
 | succ k ih =>
  simp only[low,ih]
  have:=iY ws h k
  by_cases h1:val ws k<=0
  ·rw[if_pos h1,show val ws k=0 by unfold val at *;omega];rfl
  ·rw[if_neg h1];rfl
theorem LZ(ws:List Int)(b:Int)(h:Fits ws)(n:Nat):(gs ws b n).2=low ws n ws.length:=by
 induction n with
 | zero=>rw[show((0:Nat):Int)=0 from rfl,VF ws h];rfl
 | succ n ih =>
  simp only[gs]
  rw[LY,ih,show((n+1:Nat):Int)=(n:Int)+1 by omega,VE]
theorem VG(ws:List Int)(n:Int)(h:∀v,val ws v<=n)(k:Nat):low ws n k=tot ws k:=by
 induction k with
 | zero=>rfl
 | succ k ih=>simp only[low,tot,ih];rw[if_pos (h k)]
theorem Gv(a b:Nat)(h:a<=b):(2:Int)^b%2^a=0:=by
 have e:(2:Int)^b=2^a*2^(b-a):=by rw[<- Int.pow_add];congr 1;omega
 rw[e]
 exact Int.mul_emod_right _ _
theorem VH(ws:List Int)(h:Fits ws)(n:Nat)(k:Nat):(tot ws k-low ws n k)%2^n=0:=by
 induction k with
 | zero=>simp[tot,low]
 | succ k ih =>
  simp only[tot,low]
  have hf:=iY ws h k
  by_cases h1:val ws k<=n
  ·rw[if_pos h1,show tot ws k+sp (val ws k)-(low ws n k+sp (val ws k))=tot ws k-low ws n k by omega]
   exact ih
  ·rw[if_neg h1,show tot ws k+sp (val ws k)-(low ws n k+0)=(tot ws k-low ws n k)+sp (val ws k) by omega]
   have:sp (val ws k)%2^n=0:=by
    unfold sp
    rw[if_neg (by unfold val at *;omega)]
    exact Gv _ _ (by unfold val at *;omega)
   rw[Int.add_emod,ih,this]
   rfl
theorem VI(ws:List Int)(n:Nat)(k:Nat):qU ws ((n:Int)+1) k%2^n=0:=by
 induction k with
 | zero=>rfl
 | succ k ih =>
  simp only[qU]
  have:(if val ws k=(n:Int)+1 then sp ((n:Int)+1)else 0)%2^n=0:=by
   split
   ·unfold sp
    rw[if_neg (by omega)]
    exact Gv _ _ (by omega)
   ·rfl
  rw[Int.add_emod,ih,this]
  rfl
theorem VJ(ws:List Int)(h:Fits ws)(b:Nat)(ht:tot ws ws.length=2^b)(n:Nat)(hn:n<=b)(k:Nat) :
  (gk ws b ((n:Int)+1) (gs ws b n) k).2%2^n=0:=by
 rw[LY,LZ ws b h]
 have h1:=VH ws h n ws.length
 rw[ht]at h1
 have h2:=Gv n b hn
 have h3:low ws n ws.length%2^n=0:=by
  have e:low ws n ws.length=2^b-(2^b-low ws n ws.length):=by omega
  rw[e,Int.sub_emod,h1,h2]
  rfl
 rw[Int.add_emod,h3,VI]
 rfl
def ji(B:Int):List aG->Int
 | []=>0
 | c::L=>2^(B-c.2.1).toNat+ji B L
theorem L6(B:Int)(L M:List aG):ji B (L++M)=ji B L+ji B M:=by
 induction L with
 | nil=>simp[ji]
 | cons c L ih=>simp only[List.cons_append,ji,ih];omega
structure Ok(ws:List Int)(B wt:Int)(k:Nat)(L:List aG)(st:Int):Prop where
 sum:st=ji B L
 each:∀i,i<L.length->∃v:Nat,(L.getD i (0,0,0)).1=(v:Int)/\v<ws.length/\1<=val ws v/\val ws v<=wt/\(L.getD i (0,0,0)).2.1=B+1-val ws v /\
  (L.getD i (0,0,0)).2.2*2^(val ws v-1).toNat=ji B (L.take i)
 mem:∀v:Nat,(v:Int)∈L.map (·.1)↔v<ws.length/\1<=val ws v/\(val ws v<wt\/(val ws v=wt/\v<k))
 nodup:(L.map (·.1)).Nodup
theorem VK(ws:List Int)(h:Fits ws)(b:Nat)(ht:tot ws ws.length=2^b)(n:Nat)(hn:n<b)(h0:Ok ws b ((n:Int)+1) 0 (gs ws b n).1 (gs ws b n).2)(k:Nat)(hk:k<=ws.length) :
  Ok ws b ((n:Int)+1) k (gk ws b ((n:Int)+1) (gs ws b n) k).1 (gk ws b ((n:Int)+1) (gs ws b n) k).2:=by
 induction k with
 | zero=>exact h0
 | succ k ih =>
  have ih:=ih (by omega)
  have hd:=VJ ws h b ht n (by omega) k
  simp only[gk]
  generalize gk ws b ((n:Int)+1) (gs ws b n) k=G at *
  obtain⟨L,st⟩:=G
  simp only at ih hd⊢
  by_cases hv:ws.getD k 0=(n:Int)+1
  ·rw[if_pos hv]
   have hp:((n:Int)+1-1).toNat=n:=by omega
   refine⟨?_,?_,?_,?_⟩
   ·rw[L6,<- ih.sum]
    simp only[ji,sp]
    rw[if_neg (by omega),hp,show((b:Int)-((b:Int)+1-((n:Int)+1))).toNat=n by omega]
    omega
   ·intro i hi
    simp only[List.length_append,List.length_singleton]at hi
    by_cases hiL:i<L.length
    ·obtain⟨v,a1,a2,a3,a4,a5,a6⟩:=ih.each i hiL
     have e:(L++[((k:Int),(b:Int)+1-((n:Int)+1),st/2^((n:Int)+1-1).toNat)]).getD i (0,0,0)=L.getD i (0,0,0):=by
      rw[List.getD_eq_getElem?_getD,List.getElem?_append_left hiL,<- List.getD_eq_getElem?_getD]
     rw[e,List.take_append_of_le_length (by omega)]
     exact⟨v,a1,a2,a3,a4,a5,a6⟩
    ·obtain rfl:i=L.length:=by omega
     have e:(L++[((k:Int),(b:Int)+1-((n:Int)+1),st/2^((n:Int)+1-1).toNat)]).getD L.length (0,0,0)=((k:Int),(b:Int)+1-((n:Int)+1),st/2^((n:Int)+1-1).toNat):=by
      rw[List.getD_eq_getElem?_getD,List.getElem?_append_right (Nat.le_refl _)]
      simp
     rw[e,List.take_append_of_le_length (Nat.le_refl _),List.take_length]
     have hvv:val ws k=(n:Int)+1:=hv
     refine⟨k,rfl,by omega,by omega,by omega,by rw[hvv],?_⟩
     rw[hvv,hp,<- ih.sum]
     have:=Int.mul_ediv_add_emod st (2^n)
     rw[hd,Int.add_zero,Int.mul_comm]at this
     exact this
   ·intro v
    rw[List.map_append,List.mem_append]
    constructor
    ·rintro(hm|hm)
     ·obtain⟨a1,a2,a3⟩:=(ih.mem v).1 hm
      exact⟨a1,a2,by omega⟩
     ·simp at hm
      have:v=k:=by omega
      subst this
      have hvv:val ws v=(n:Int)+1:=hv
      exact⟨by omega,by omega,.inr ⟨hvv,by omega⟩⟩
    ·rintro⟨a1,a2,a3⟩
     by_cases hvk:v=k
     ·subst hvk;right;simp
     ·left;exact(ih.mem v).2 ⟨a1,a2,by omega⟩
   ·rw[List.map_append,List.nodup_append]
    refine⟨ih.nodup,by simp,?_⟩
    intro x hx y hy
    simp at hy
    subst hy
    rintro rfl
    have:=(ih.mem k).1 hx
    have hvv:val ws k=(n:Int)+1:=hv
    omega
  ·rw[if_neg hv]
   refine⟨ih.sum,ih.each,?_,ih.nodup⟩
   intro v
   rw[ih.mem v]
   have hvv:¬val ws k=(n:Int)+1:=hv
   constructor
   ·rintro⟨a1,a2,a3⟩;exact⟨a1,a2,by omega⟩
   ·rintro⟨a1,a2,a3⟩
    refine⟨a1,a2,?_⟩
    rcases a3 with a3|⟨a3,a4⟩
    ·exact .inl a3
    ·by_cases hvk:v=k
     ·subst hvk;omega
     ·exact .inr ⟨a3,by omega⟩
theorem VL(ws:List Int)(h:Fits ws)(b:Nat)(ht:tot ws ws.length=2^b)(n:Nat)(hn:n<=b) :
  Ok ws b ((n:Int)+1) 0 (gs ws b n).1 (gs ws b n).2:=by
 induction n with
 | zero =>
  refine⟨rfl,fun i hi=>by simp[gs]at hi,?_,by simp[gs]⟩
  intro v
  simp only[gs,List.map_nil,List.not_mem_nil,false_iff]
  omega
 | succ n ih =>
  have k:=VK ws h b ht n (by omega) (ih (by omega)) ws.length (Nat.le_refl _)
  simp only[gs]
  generalize gk ws b ((n:Int)+1) (gs ws b n) ws.length=G at *
  refine⟨k.sum,?_,?_,k.nodup⟩
  ·intro i hi
   obtain⟨v,a1,a2,a3,a4,a5,a6⟩:=k.each i hi
   exact⟨v,a1,a2,a3,by omega,a5,a6⟩
  ·intro v
   rw[k.mem v]
   constructor
   ·rintro⟨a1,a2,a3⟩;exact⟨a1,a2,.inl (by omega)⟩
   ·rintro⟨a1,a2,a3⟩
    refine⟨a1,a2,?_⟩
    rcases a3 with a3|⟨a3,a4⟩
    ·omega
    ·omega
theorem VN(z:List Int)(x:Int)(k:Nat)(hk:k<=z.length):tot (z++[x]) k=tot z k:=by
 induction k with
 | zero=>rfl
 | succ k ih =>
  simp only[tot]
  rw[ih (by omega)]
  congr 2
  rw[List.getD_eq_getElem?_getD,List.getElem?_append_left (by omega),<- List.getD_eq_getElem?_getD]
theorem Dh(z:List Int):(all z).length=z.length+1:=by simp[all]
theorem Di(z:List Int)(v:Nat)(h:v<z.length):val (all z) v=z.getD v 0:=by
 unfold val all
 rw[List.getD_eq_getElem?_getD,List.getElem?_append_left h,<- List.getD_eq_getElem?_getD]
theorem Dj(z:List Int):val (all z) z.length=len (rest z):=by
 unfold val all
 rw[List.getD_eq_getElem?_getD,List.getElem?_append_right (Nat.le_refl _)]
 simp
theorem VO(z:List Int)(h:Fits z)(v k:Nat)(hv:v<k):sp (z.getD v 0)<=tot z k:=by
 induction k with
 | zero=>omega
 | succ k ih =>
  have a:=yZ _ (iY z h k)
  have b:=CU z h k
  simp only[tot]
  by_cases e:v=k
  ·subst e;omega
  ·have:=ih (by omega);omega
theorem L8(x:Int)(h:0<=x/\x<=8)(b:Nat)(hb:sp x<2^b\/sp x<=2^(b-1)/\1<=b):x<=b:=by
 by_cases h0:x=0
 ·omega
 ·unfold sp at hb
  rw[if_neg h0]at hb
  rcases Nat.lt_or_ge b (x-1).toNat with g|g
  ·exfalso
   have h1:=iF b (x-1).toNat (by omega)
   have h2:=iF (b-1) b (by omega)
   rcases hb with hb|⟨hb,hb1⟩
   ·omega
   ·have h3:=iF b (x-1).toNat (by omega)
    have h4:(2:Int)^b=2*2^(b-1):=by
     rw[<- Int.pow_succ'];congr 1;omega
    have:=pow_pos (b-1)
    omega
  ·rcases Nat.lt_or_ge (x-1).toNat b with g'|g'
   ·omega
   ·exfalso
    have e:(x-1).toNat=b:=by omega
    rw[e]at hb
    rcases hb with hb|⟨hb,hb1⟩
    ·omega
    ·have h4:(2:Int)^b=2*2^(b-1):=by
      rw[<- Int.pow_succ'];congr 1;omega
     have:=pow_pos (b-1)
     omega
def jZ(r:Int):Nat->Int
 | 0=>0
 | t+1=>if r=2^t then(t:Int)+1 else jZ r t
theorem VP:∀r:Fin 129,r.val≠0->(pw (r.val:Int)=true->jZ (r.val:Int) 8=(Lib.bitLen r.val:Int)/\jZ (r.val:Int) 8≠0)/\(pw (r.val:Int)=false->jZ (r.val:Int) 8=0):=by decide +kernel
theorem VQ(r:Int)(t:Nat):0<=jZ r t/\jZ r t<=t:=by
 induction t with
 | zero=>simp[jZ]
 | succ t ih=>simp only[jZ];split<;>omega
theorem VR(r:Int)(h0:1<=r)(h1:r<=128):(pw r=true->jZ r 8=len r/\(jZ r 8==0)=false)/\(pw r=false->(jZ r 8==0)=true):=by
 have e:=VP ⟨r.toNat,by omega⟩ (by simp only;omega)
 simp only[Int.toNat_of_nonneg (show 0<=r by omega)]at e
 refine⟨fun h=>?_,fun h=>?_⟩
 ·obtain⟨a,b⟩:=e.1 h
  exact⟨a,by simpa using b⟩
 ·simpa using e.2 h
theorem VT(ws:List Int)(b wt:Int)(c:List aG×Int)(h:∀v,val ws v<wt)(k:Nat):gk ws b wt c k=c:=by
 induction k with
 | zero=>rfl
 | succ k ih =>
  simp only[gk]
  rw[if_neg (by have:=h k;unfold val at this;omega)]
  exact ih
theorem VU(ws:List Int)(B:Nat)(h:∀v,val ws v<=B)(n:Nat)(hn:B<=n):gs ws B n=gs ws B B:=by
 induction n with
 | zero =>
      obtain rfl:B=0:=by omega
      rfl
 | succ n ih =>
  by_cases e:B=n+1
  ·rw[e]
  ·simp only[gs]
   rw[VT ws B _ _ (fun v=>by have:=h v;omega)]
   exact ih (by omega)
theorem L9{z:List Int}(hin:inB z=true)(h0:total z≠0)(h8:len (total z)<=8)(hp:pw (rest z)=true) :
  Fits (all z)/\tot (all z) (all z).length=2^(len (total z)).toNat/\1<=len (rest z)/\∀v,val (all z) v<=len (total z):=by
 obtain⟨hf,n1,n2⟩:=uZ hin
 have ht:=zf hin
 obtain⟨r1,r2,r3,r4,r5⟩:=zh hin
 have r2:=r2 h0
 have hL:0<=len (total z):=by unfold len;omega
 have hpl:=iF (len (total z)).toNat 8 (by omega)
 have VW:rest z<=256:=by
  have:rest z=2^(len (total z)).toNat-total z:=rfl
  omega
 obtain⟨q1,q2⟩:=VD (rest z) r1 VW hp
 have hb1:=CV (rest z) (by omega) (by omega)
 obtain⟨s1,s2⟩:=bitLen_spec (total z).toNat (by omega)
 obtain⟨s3,s4⟩:=s2 (by omega)
 have hB:(len (total z)).toNat=Lib.bitLen (total z).toNat:=by unfold len;omega
 generalize L_:(len (total z)).toNat=B at *
 rw[<- hB]at s1 s3 s4
 have c1:((2^B:Nat):Int)=(2:Int)^B:=by simp
 have c2:((2^(B-1):Nat):Int)=(2:Int)^(B-1):=by simp
 have c3:(2:Int)^B=2*2^(B-1):=by rw[<- Int.pow_succ'];congr 1;omega
 have hr:rest z=2^B-total z:=by unfold rest;rw[L_]
 have hlast:len (rest z)<=B:=L8 _ (by
  refine⟨hb1.1,?_⟩
  obtain⟨a,b⟩:=bitLen_spec (rest z).toNat (by omega)
  obtain⟨c,d⟩:=b (by omega)
  unfold len
  rcases Nat.lt_or_ge (Lib.bitLen (rest z).toNat) 9 with g|g
  ·omega
  ·exfalso
   have h4:=iF B 8 (by omega)
   have:=Nat.pow_le_pow_right (n:=2) (by omega) (show 8<=Lib.bitLen (rest z).toNat-1 by omega)
   omega) B (.inr ⟨by rw[q1];omega,s4⟩)
 refine⟨?_,?_,q2,?_⟩
 ·intro x hx
  unfold all at hx
  rw[List.mem_append]at hx
  rcases hx with hx|hx
  ·exact hf x hx
  ·simp at hx;subst hx;omega
 ·rw[Dh]
  simp only[tot]
  have e1:(all z).getD z.length 0=len (rest z):=Dj z
  have e2:tot (all z) z.length=tot z z.length:=VN z _ _ (Nat.le_refl _)
  rw[e1,e2,q1,hr]
  show total z+_=_
  omega
 ·intro v
  by_cases h1:v<z.length
  ·rw[Di z v h1]
   have a:=VO z hf v z.length h1
   have:=L8 _ (iY z hf v) B (.inl (by
    have:tot z z.length=total z:=rfl
    omega))
   omega
  ·by_cases h2:v=z.length
   ·subst h2;rw[Dj];omega
   ·unfold val
    rw[List.getD_eq_getElem?_getD,List.getElem?_eq_none (by rw[Dh];omega)]
    simp;omega
def bit(L:List aG)(i:Nat):Int:=(L.getD i (0,0,0)).2.1
def vl(L:List aG)(i:Nat):Int:=(L.getD i (0,0,0)).1
def nm(L:List aG)(i:Nat):Int:=(L.getD i (0,0,0)).2.2
def mb(L:List aG):Nat->Int
 | 0=>0
 | i+1=>if mb L i<bit L i then bit L i else mb L i
def sm(L:List aG)(n:Nat)(S:Int):Nat->Int
 | 0=>0
 | i+1=>if vl L i<n then S else sm L n S i
theorem VX(L:List aG)(k i:Nat)(h:i<k):bit L i<=mb L k:=by
 induction k with
 | zero=>omega
 | succ k ih =>
  simp only[mb]
  by_cases e:i=k
  ·subst e;split<;>omega
  ·have:=ih (by omega);split<;>omega
theorem VY(L:List aG)(B:Int)(hB:0<=B)(k:Nat)(h:∀i,i<k->bit L i<=B):0<=mb L k/\mb L k<=B:=by
 induction k with
 | zero=>simp[mb,hB]
 | succ k ih =>
  have:=ih (fun i hi=>h i (by omega))
  have:=h k (by omega)
  simp only[mb]
  split<;>omega
structure Told(z:List Int)(B:Int)(L:List aG):Prop where
 hB:1<=B/\B<=8
 each:∀i,i<L.length->∃v:Nat,vl L i=(v:Int)/\v<=z.length/\(v<z.length->bit L i=B+1-z.getD v 0/\z.getD v 0≠0)/\1<=bit L i/\bit L i<=B/\nm L i*2^(B-bit L i).toNat=ji B (L.take i)
 mem:∀v:Nat,v<=z.length->((v:Int)∈L.map (·.1)↔(v=z.length\/z.getD v 0≠0))
 nodup:(L.map (·.1)).Nodup
 sum:ji B L=2^B.toNat
 pos:0<L.length
 few:L.length<=1032
theorem told{z:List Int}(hin:inB z=true)(h0:total z≠0)(h8:len (total z)<=8)(hp:pw (rest z)=true):Told z (len (total z)) (codes z):=by
 obtain⟨hf,n1,n2⟩:=uZ hin
 obtain⟨g1,g2,g3,g4⟩:=L9 hin h0 h8 hp
 obtain⟨r1,r2,r3,r4,r5⟩:=zh hin
 obtain⟨b,hb⟩:∃b:Nat,len (total z)=(b:Int):=⟨_,rfl⟩
 have Gw:codes z=(gs (all z) b b).1:=by unfold codes;rw[hb,Int.toNat_natCast]
 rw[hb,Int.toNat_natCast]at g2
 rw[hb]at g4 h8 r4⊢
 have ok:=VL (all z) g1 b g2 b (Nat.le_refl _)
 have hbd:=Gi (all z) b b (by omega)
 have hst:=LZ (all z) b g1 b
 rw[VG (all z) b g4,g2]at hst
 rw[Gw]
 have hal:=Dh z
 have hbm:b*(all z).length<=8*129:=Nat.mul_le_mul (by omega) (by omega)
 have hlast:((z.length:Nat):Int)∈(gs (all z) b b).1.map (·.1):=(ok.mem z.length).2 ⟨by omega,by rw[Dj];exact g3,.inl (by have:=g4 z.length;omega)⟩
 refine⟨by omega,?_,?_,ok.nodup,?_,?_,by omega⟩
 ·intro i hi
  obtain⟨v,a1,a2,a3,a4,a5,a6⟩:=ok.each i hi
  have hv8:=g4 v
  refine⟨v,a1,by omega,?_,?_,?_,?_⟩
  ·intro hv
   have e:=Di z v hv
   rw[<- e]
   exact⟨a5,by omega⟩
  ·show 1<=(List.getD _ i (0,0,0)).2.1
   omega
  ·show(List.getD _ i (0,0,0)).2.1<=_
   omega
  ·rw[<- a6]
   unfold nm bit
   rw[a5]
   congr 2
   omega
 ·intro v hv
  rw[ok.mem v]
  constructor
  ·rintro⟨a1,a2,a3⟩
   by_cases e:v=z.length
   ·exact .inl e
   ·right
    rw[<- Di z v (by omega)]
    omega
  ·intro h
   by_cases e:v=z.length
   ·subst e
    exact⟨by omega,by rw[Dj];exact g3,.inl (by have:=g4 z.length;omega)⟩
   ·have h:=h.resolve_left e
    rw[<- Di z v (by omega)]at h
    have hfv:0<=val (all z) v/\val (all z) v<=8:=iY (all z) g1 v
    have:=g4 v
    exact⟨by omega,by omega,.inl (by omega)⟩
 ·rw[<- ok.sum,hst]
  simp
 ·rcases Nat.eq_zero_or_pos (gs (all z) b b).1.length with e|e
  ·rw[List.eq_nil_of_length_eq_zero e]at hlast
   simp at hlast
  ·exact e
theorem Gx(B:Int)(L:List aG)(i:Nat)(h:i<L.length):ji B (L.take (i+1))=ji B (L.take i)+2^(B-bit L i).toNat:=by
 rw[List.take_succ_eq_append_getElem h,L6]
 simp only[ji,bit]
 rw[List.getD_eq_getElem?_getD,List.getElem?_eq_getElem h]
 simp
theorem Mc(B b:Int)(hb:b<=B)(L:List aG)(h:∀i,i<L.length->bit L i<=b)(k:Nat)(hk:k<=L.length):ji B (L.take k)=2^(B-b).toNat*ji b (L.take k):=by
 induction k with
 | zero=>simp[ji]
 | succ k ih =>
  rw[Gx B L k (by omega),Gx b L k (by omega),ih (by omega),Int.mul_add,<- Int.pow_add]
  have:=h k (by omega)
  rw[show(B-b).toNat+(b-bit L k).toNat=(B-bit L k).toNat by omega]
theorem Told.ends{z:List Int}{B:Int}{L:List aG}(t:Told z B L):ji (mb L L.length) L=2^(mb L L.length).toNat:=by
 have hle:∀j,j<L.length->bit L j<=B:=fun j hj=>by obtain⟨v,a1,a2,a3,a4,a5,a6⟩:=t.each j hj;exact a5
 have hm:=VY L B (by have:=t.hB;omega) L.length hle
 have hge:∀j,j<L.length->bit L j<=mb L L.length:=fun j hj=>VX L L.length j hj
 have s:=Mc B (mb L L.length) hm.2 L hge L.length (Nat.le_refl _)
 rw[List.take_length,t.sum]at s
 have e:(2:Int)^B.toNat=2^(B-mb L L.length).toNat*2^(mb L L.length).toNat:=by
  rw[<- Int.pow_add]
  congr 1
  omega
 rw[e]at s
 exact(Int.eq_of_mul_eq_mul_left (by have:=pow_pos (B-mb L L.length).toNat;omega) s).symm
def ahE(L:List aG)(i v:Nat):Bool:=decide ((v:Int)∈(L.take i).map (·.1))
end Go.Proofs.YtbhemchnjpajiaaGreatDoor.CM
namespace Go.Proofs.YtbhemchnjpajiaaGreatDoor.RD
open Go
def pk(l:List Int)(i:Nat):Nat->Int
 | 0=>0
 | n+1=>2*pk l i n+l.getD (i+n) 0
theorem Md(l:List Int)(i n:Nat)(h:i+n<=l.length):pk l i n=val ((l.drop i).take n):=by
 induction n with
 | zero=>simp[pk,val]
 | succ n ih=>rw[pk,ih (by omega),LC _ _ _ (by omega)]
theorem Me{l:List Int}(hl:∀x∈l,0<=x/\x<=1)(i:Nat):0<=l.getD i 0/\l.getD i 0<=1:=by
 rw[List.getD_eq_getElem?_getD]
 by_cases hk:i<l.length
 ·rw[List.getElem?_eq_getElem hk];exact hl _ (List.getElem_mem hk)
 ·rw[List.getElem?_eq_none (by omega)];simp
theorem iT{l:List Int}(hl:∀x∈l,0<=x/\x<=1)(i n:Nat):0<=pk l i n/\pk l i n<2^n:=by
 induction n with
 | zero=>simp[pk]
 | succ n ih =>
  have:=Me hl (i+n)
  rw[pk,Int.pow_succ]
  omega
theorem Dk{l:List Int}(hl:∀x∈l,0<=x/\x<=1)(i n:Nat)(hn:n<=16):0<=pk l i n/\pk l i n<=65535:=by
 have h:=iT hl i n
 have c:=lI n 16 hn
 omega
theorem Gy(l:List Int)(i n:Nat):worth l i n=if l.length<i+n then none else some (pk l i n):=by
 unfold worth
 split
 ·rfl
 ·rw[Md _ _ _ (by omega)]
theorem VZ(l:List Int)(i n m:Nat):pk l i (n+m)=pk l i n*2^m+pk l (i+n) m:=by
 induction m with
 | zero=>simp[pk]
 | succ m ih =>
  rw[<- Nat.add_assoc,pk,pk,ih,Int.pow_succ,Nat.add_assoc]
  rw[Int.mul_add,<- Int.mul_assoc,Int.mul_comm 2 (pk l i n),Int.mul_assoc,Int.mul_comm 2 (2^m),Int.add_assoc]
theorem V3(l:List Int)(i:Nat)(h:i<=l.length):rest l i=(decide (l.length-i<8)&&(pk l i (l.length-i)==0)):=by
 unfold rest
 rw[Md _ _ _ (by omega),List.take_of_length_le (by simp)]
theorem V4(b:UInt8)(r:aj):ay (b::r)=n_ b++ay r:=by simp[ay]
theorem V5(s:aj)(i:Nat)(h:i<8*s.length):(ay s).getD i 0=bit (s.getD (i/8) 0) (7-i%8):=by
 induction s generalizing i with
 | nil=>simp at h
 | cons b r ih =>
  rw[V4]
  by_cases h8:i<8
  ·rw[show i/8=0 by omega,show i%8=i by omega]
   rcases(by omega:i=0\/i=1\/i=2\/i=3\/i=4\/i=5\/i=6\/i=7)with rfl|rfl|rfl|rfl|rfl|rfl|rfl|rfl<;>rfl
  ·have e:(n_ b).length=8:=rfl
   simp only[List.length_cons]at h
   have:=ih (i-8) (by omega)
   rw[show(i-8)%8=i%8 by omega]at this
   rw[List.getD_eq_getElem?_getD,List.getElem?_append_right (by omega),e,<- List.getD_eq_getElem?_getD,this,show i/8=(i-8)/8+1 by omega]
   rfl
theorem V6(s:aj)(i:Nat)(h:8*s.length<=i):(ay s).getD i 0=0:=by
 rw[List.getD_eq_getElem?_getD,List.getElem?_eq_none (by rw[tH];exact h)]
 rfl
def entries(cs:List CM.aG):List (Int×Int):=cs.flatMap fun c=>List.replicate (2^(8-c.2.1.toNat)) (c.1,c.2.1)
theorem zB(a b:List CM.aG):entries (a++b)=entries a++entries b:=by simp[entries]
theorem Dl(c:CM.aG):entries [c]=List.replicate (2^(8-c.2.1.toNat)) (c.1,c.2.1):=by simp[entries]
structure zC(cs:List CM.aG):Prop where
 each:∀i(h:i<cs.length),0<=(cs[i]).1/\(cs[i]).1<=128/\1<=(cs[i]).2.1/\(cs[i]).2.1<=8/\0<=(cs[i]).2.2/\(cs[i]).2.2*2^(8-(cs[i]).2.1.toNat)=((entries (cs.take i)).length:Int)
 all:(entries cs).length=256
 few:cs.length<=1032
theorem MB(L:List CM.aG)(h:∀i,i<L.length->CM.bit L i<=8/\1<=CM.bit L i)(k:Nat)(hk:k<=L.length):CM.ji 8 (L.take k)=((entries (L.take k)).length:Int):=by
 induction k with
 | zero=>simp[CM.ji,entries]
 | succ k ih =>
  have hb:=h k (by omega)
  rw[CM.Gx 8 L k (by omega),ih (by omega),List.take_succ_eq_append_getElem (by omega),zB,Dl,List.length_append,List.length_replicate]
  have e:CM.bit L k=(L[k]).2.1:=by unfold CM.bit;rw[List.getD_eq_getElem?_getD,List.getElem?_eq_getElem (by omega)];rfl
  rw[e]at hb⊢
  rw[show((8:Int)-(L[k]).2.1).toNat=8-(L[k]).2.1.toNat by omega]
  simp
theorem V7{z:List Int}(h:CM.good z=true):zC (CM.codes z):=by
 unfold CM.good at h
 simp only[Bool.and_eq_true,bne_iff_ne,decide_eq_true_eq]at h
 obtain⟨⟨⟨hin,h0⟩,h8⟩,hp⟩:=h
 have t:=CM.told hin h0 h8 hp
 obtain⟨hf,n1,n2⟩:=CM.uZ hin
 generalize CM.len (CM.total z)=B at *
 generalize CM.codes z=L at *
 have hB:=t.hB
 have hb:∀i,i<L.length->CM.bit L i<=B/\1<=CM.bit L i:=fun i hi=>by
  obtain⟨v,a1,a2,a3,a4,a5,a6⟩:=t.each i hi
  exact⟨a5,a4⟩
 have hb8:∀i,i<L.length->CM.bit L i<=8/\1<=CM.bit L i:=fun i hi=>by have:=hb i hi;omega
 have hs:=fun k(hk:k<=L.length)=>CM.Mc 8 B (by omega) L (fun i hi=>(hb i hi).1) k hk
 refine⟨fun i hi=>?_,?_,t.few⟩
 ·obtain⟨v,a1,a2,a3,a4,a5,a6⟩:=t.each i hi
  have eb:CM.bit L i=(L[i]).2.1:=by unfold CM.bit;rw[List.getD_eq_getElem?_getD,List.getElem?_eq_getElem hi];rfl
  have ev:CM.vl L i=(L[i]).1:=by unfold CM.vl;rw[List.getD_eq_getElem?_getD,List.getElem?_eq_getElem hi];rfl
  have en:CM.nm L i=(L[i]).2.2:=by unfold CM.nm;rw[List.getD_eq_getElem?_getD,List.getElem?_eq_getElem hi];rfl
  rw[eb]at a4 a5 a6
  rw[ev]at a1
  rw[en]at a6
  have e8:(2:Int)^(8-(L[i]).2.1.toNat)=2^(8-B).toNat*2^(B-(L[i]).2.1).toNat:=by
   rw[<- Int.pow_add]
   congr 1
   omega
  have hsum:(L[i]).2.2*2^(8-(L[i]).2.1.toNat)=((entries (L.take i)).length:Int):=by
   rw[<- MB L hb8 i (by omega),hs i (by omega),<- a6,e8,<- Int.mul_assoc,<- Int.mul_assoc,Int.mul_comm (2^(8-B).toNat)]
  refine⟨by omega,by omega,a4,by omega,?_,hsum⟩
  rcases(by omega:(L[i]).2.2<0\/0<=(L[i]).2.2)with hn|hn
  ·have hp:(0:Int)<2^(8-(L[i]).2.1.toNat):=Int.pow_pos (by omega)
   have:=Int.mul_neg_of_neg_of_pos hn hp
   omega
  ·exact hn
 ·have e:=hs L.length (Nat.le_refl _)
  have e':=MB L hb8 L.length (Nat.le_refl _)
  rw[List.take_length]at e e'
  rw[e',t.sum,<- Int.pow_add,show(8-B).toNat+B.toNat=8 by omega]at e
  omega
theorem V8(cs:List CM.aG):∀p,p<(entries cs).length->∃k,∃h:k<cs.length,(entries (cs.take k)).length<=p/\p<(entries (cs.take k)).length+2^(8-(cs[k]).2.1.toNat)/\(entries cs).getD p (0,0)=((cs[k]).1,(cs[k]).2.1):=by
 suffices H:∀n,n<=cs.length->∀p,p<(entries (cs.take n)).length->∃k,∃h:k<cs.length,(entries (cs.take k)).length<=p/\p<(entries (cs.take k)).length+2^(8-(cs[k]).2.1.toNat)/\(entries (cs.take n)).getD p (0,0)=((cs[k]).1,(cs[k]).2.1) by
  have:=H cs.length (Nat.le_refl _)
  rwa[List.take_length]at this
 intro n
 induction n with
 | zero=>intro _ p hp;simp[entries]at hp
 | succ n ih =>
  intro hn p hp
  have e:entries (cs.take (n+1))=entries (cs.take n)++List.replicate (2^(8-(cs[n]).2.1.toNat)) ((cs[n]).1,(cs[n]).2.1):=by
   rw[List.take_succ_eq_append_getElem (by omega),zB,Dl]
  by_cases hlt:p<(entries (cs.take n)).length
  ·obtain⟨k,hk,h1,h2,h3⟩:=ih (by omega) p hlt
   refine⟨k,hk,h1,h2,?_⟩
   rw[e,List.getD_eq_getElem?_getD,List.getElem?_append_left hlt,<- List.getD_eq_getElem?_getD,h3]
  ·rw[e,List.length_append,List.length_replicate]at hp
   refine⟨n,by omega,by omega,hp,?_⟩
   rw[e,List.getD_eq_getElem?_getD,List.getElem?_append_right (by omega),List.getElem?_replicate,if_pos (by omega)]
   rfl
theorem Gz(cs:List CM.aG){i j:Nat}(h:i<=j):(entries (cs.take i)).length<=(entries (cs.take j)).length:=by
 obtain⟨t,ht⟩:∃t,cs.take j=cs.take i++t:=⟨(cs.take j).drop i,by have e:=List.take_append_drop i (cs.take j);rw[List.take_take,Nat.min_eq_left h]at e;exact e.symm⟩
 rw[ht,zB,List.length_append]
 omega
theorem V9{cs:List CM.aG}{p k j:Nat}(hk:k<cs.length)(hj:j<cs.length)(h1:(entries (cs.take k)).length<=p)(h2:p<(entries (cs.take k)).length+2^(8-(cs[k]).2.1.toNat))(h3:(entries (cs.take j)).length<=p)(h4:p<(entries (cs.take j)).length+2^(8-(cs[j]).2.1.toNat)):k=j:=by
 have hs:∀n(h:n<cs.length),(entries (cs.take (n+1))).length=(entries (cs.take n)).length+2^(8-(cs[n]).2.1.toNat):=fun n h=>by
  rw[List.take_succ_eq_append_getElem h,zB,Dl,List.length_append,List.length_replicate]
 rcases Nat.lt_trichotomy k j with h|h|h
 ·have:=Gz cs (show k+1<=j from h)
  have:=hs k hk
  omega
 ·exact h
 ·have:=Gz cs (show j+1<=k from h)
  have:=hs j hj
  omega
theorem V_{cs:List CM.aG}(hc:zC cs){l:List Int}(hl:∀x∈l,0<=x/\x<=1)(i:Nat):∃c:CM.aG,c∈cs/\(entries cs).getD (pk l i 8).toNat (0,0)=(c.1,c.2.1)/\(0<=c.1/\c.1<=128/\1<=c.2.1/\c.2.1<=8)/\qN l i cs=if l.length<i+c.2.1.toNat then none else some c:=by
 have hb:=iT hl i 8
 obtain⟨k,hk,h1,h2,h3⟩:=V8 cs (pk l i 8).toNat (by rw[hc.all];omega)
 obtain⟨a1,a2,a3,a4,a5,a6⟩:=hc.each k hk
 refine⟨cs[k],List.getElem_mem hk,h3,⟨a1,a2,a3,a4⟩,?_⟩
 have key:∀j(hj:j<cs.length),(worth l i (cs[j]).2.1.toNat==some (cs[j]).2.2)=true↔(j=k/\¬l.length<i+(cs[j]).2.1.toNat):=by
  intro j hj
  obtain⟨b1,b2,b3,b4,b5,b6⟩:=hc.each j hj
  have sp:=VZ l i (cs[j]).2.1.toNat (8-(cs[j]).2.1.toNat)
  rw[show(cs[j]).2.1.toNat+(8-(cs[j]).2.1.toNat)=8 by omega]at sp
  have r1:=iT hl (i+(cs[j]).2.1.toNat) (8-(cs[j]).2.1.toNat)
  have MC:((2^(8-(cs[j]).2.1.toNat):Nat):Int)=2^(8-(cs[j]).2.1.toNat):=by simp
  rw[Gy]
  by_cases hlen:l.length<i+(cs[j]).2.1.toNat
  ·rw[if_pos hlen]
   simp[hlen]
  ·rw[if_neg hlen]
   simp only[beq_iff_eq,Option.some.injEq]
   constructor
   ·intro e
    refine⟨(V9 hk hj h1 h2 ?_ ?_).symm,hlen⟩
    ·rw[e,b6]at sp;omega
    ·rw[e,b6]at sp;omega
   ·rintro⟨rfl,-⟩
    have u1:(cs[j]).2.2*2^(8-(cs[j]).2.1.toNat)<=pk l i 8:=by rw[b6];omega
    have u2:pk l i 8<(cs[j]).2.2*2^(8-(cs[j]).2.1.toNat)+2^(8-(cs[j]).2.1.toNat):=by rw[b6];omega
    rw[sp]at u1 u2
    generalize pk l i (cs[j]).2.1.toNat=x at *
    generalize(cs[j]).2.2=y at *
    generalize(2:Int)^(8-(cs[j]).2.1.toNat)=z at *
    rcases Int.lt_trichotomy x y with h|h|h
    ·have:=Int.mul_le_mul_of_nonneg_right (show x+1<=y by omega) (show 0<=z by omega)
     rw[Int.add_mul]at this
     omega
    ·exact h
    ·have:=Int.mul_le_mul_of_nonneg_right (show y+1<=x by omega) (show 0<=z by omega)
     rw[Int.add_mul]at this
     omega
 unfold qN
 by_cases hlen:l.length<i+(cs[k]).2.1.toNat
 ·rw[if_pos hlen,List.find?_eq_none]
  intro c hcm
  obtain⟨j,hj,rfl⟩:=List.mem_iff_getElem.1 hcm
  intro e
  obtain⟨rfl,e2⟩:=(key j hj).1 e
  exact e2 hlen
 ·rw[if_neg hlen,List.find?_eq_some_iff_getElem]
  refine⟨(key k hk).2 ⟨rfl,hlen⟩,k,hk,rfl,fun j hj=>?_⟩
  have:¬((worth l i (cs[j]).2.1.toNat==some (cs[j]).2.2)=true):=fun e=>by
   have:=((key j (by omega)).1 e).1
   omega
  simpa using this
structure Ph where
 pos:Nat
 x0:CM.aG
 x1:CM.aG
 x2:CM.aG
 last:List Int
structure S3 where
 len:Int
 off:Int
 jL:Int
def aU(l:List Int)(pos c:Nat):Int×Nat:=if c<8 then((c:Int),pos)else(2^(c-7)+6+pk l pos (c-7),pos+(c-7))
structure P1 where
 s:S3
 pos:Nat
 last:List Int
def aO(l:List Int)(h:Ph):P1 :=
 ⟨⟨(aU l (aU l (h.pos+h.x1.1.toNat) h.x2.1.toNat).2 h.x0.1.toNat).1,
  (bG h.last (2^h.x1.1.toNat+pk l h.pos h.x1.1.toNat) (aU l (aU l (h.pos+h.x1.1.toNat) h.x2.1.toNat).2 h.x0.1.toNat).1).1,
  (aU l (h.pos+h.x1.1.toNat) h.x2.1.toNat).1+3⟩,
  (aU l (aU l (h.pos+h.x1.1.toNat) h.x2.1.toNat).2 h.x0.1.toNat).2,
  (bG h.last (2^h.x1.1.toNat+pk l h.pos h.x1.1.toNat) (aU l (aU l (h.pos+h.x1.1.toNat) h.x2.1.toNat).2 h.x0.1.toNat).1).2⟩
def jM(l:List Int)(t0 t1 t2:Tab)(h:Ph)(r:P1):Ph :=
 ⟨r.pos+h.x0.2.1.toNat+h.x2.2.1.toNat+h.x1.2.1.toNat,aS t0.l (h.x0.2.2+pk l r.pos h.x0.2.1.toNat),
  aS t1.l (h.x1.2.2+pk l (r.pos+h.x0.2.1.toNat+h.x2.2.1.toNat) h.x1.2.1.toNat),aS t2.l (h.x2.2.2+pk l (r.pos+h.x0.2.1.toNat) h.x2.2.1.toNat),r.last⟩
def vF(l:List Int)(t0 t1 t2:Tab)(last:List Int):Ph :=
 ⟨t0.log+t1.log+t2.log,aS t0.l (pk l 0 t0.log),aS t1.l (pk l t0.log t1.log),aS t2.l (pk l (t0.log+t1.log) t2.log),last⟩
def fM(l:List Int)(t0 t1 t2:Tab)(last:List Int):Nat->Option (List S3×Ph)
 | 0=>some ([],vF l t0 t1 t2 last)
 | k+1 =>
  match fM l t0 t1 t2 last k with
  | none=>none
  | some (L,h)=>if(aO l h).s.off=0 then none else some (L++[(aO l h).s],jM l t0 t1 t2 h (aO l h))
def kN(l:List Int)(t0 t1 t2:Tab)(last:List Int)(k:Nat):Option (List S3×Nat×List Int) :=
 match fM l t0 t1 t2 last k with
 | none=>none
 | some (L,h)=>if(aO l h).s.off=0 then none else some (L++[(aO l h).s],(aO l h).pos,(aO l h).last)
def dD(size:Nat)(s:S3)(x:aj×aj):Option (aj×aj) :=
 if(x.2.length:Int)<s.len then none
 else if(size:Int)<s.off\/((x.1++x.2.take s.len.toNat).length:Int)<s.off then none
 else some (copyN (x.1++x.2.take s.len.toNat) s.off.toNat s.jL.toNat,x.2.drop s.len.toNat)
def dJ(size:Nat):List S3->aj×aj->Option (aj×aj)
 | [],x=>some x
 | s::r,x =>
  match dD size s x with
  | none=>none
  | some y=>dJ size r y
theorem zD(size:Nat)(L:List S3)(s:S3)(x:aj×aj):dJ size (L++[s]) x=match dJ size L x with
  | none=>none
  | some y=>dD size s y:=by
 induction L generalizing x with
 | nil =>
  simp only[List.nil_append,dJ]
  cases dD size s x<;>rfl
 | cons a r ih =>
  simp only[List.cons_append,dJ]
  cases dD size a x with
  | none=>rfl
  | some y=>exact ih y
theorem Dn{size:Nat}{s:S3}{x y:aj×aj}(h:dD size s x=some y):x.1.length<=y.1.length/\y.1.length=x.1.length+s.len.toNat+s.jL.toNat:=by
 unfold dD at h
 split at h
 ·cases h
 ·rename_i h1
  split at h
  ·cases h
  ·injection h with h
   subst h
   simp only[vw,List.length_append,List.length_take]
   omega
theorem kP(l:List Int)(p n:Nat)(h:p+n<=l.length):rd l ⟨p,false⟩ n=(pk l p n,⟨p+n,false⟩):=by
 unfold rd
 simp only[Gy]
 rw[if_neg (by omega)]
theorem rd_false{l:List Int}{b:B}{n:Nat}(h:(rd l b n).2.short=false):b.short=false/\b.i+n<=l.length/\rd l b n=(pk l b.i n,⟨b.i+n,false⟩):=by
 unfold rd at *
 rw[Gy]at *
 by_cases hl:l.length<b.i+n
 ·simp[if_pos hl]at h
 ·rw[if_neg hl]at h⊢
  have:b.short=false:=h
  exact⟨this,by omega,by simp[this]⟩
theorem vG(l:List Int)(p c:Nat)(h:(aU l p c).2<=l.length):sz l ⟨p,false⟩ c=((aU l p c).1,⟨(aU l p c).2,false⟩):=by
 unfold sz aU at *
 by_cases hc:c<8
 ·rw[if_pos hc,if_pos (by omega)]
 ·rw[if_neg hc]at h⊢
  rw[if_neg (by omega),kP _ _ _ h]
theorem Dp{l:List Int}{b:B}{c:Nat}(h:(sz l b c).2.short=false)(hb:b.i<=l.length):b.short=false/\(aU l b.i c).2<=l.length/\sz l b c=((aU l b.i c).1,⟨(aU l b.i c).2,false⟩):=by
 unfold sz aU at *
 by_cases hc:c<8
 ·rw[if_pos (show c<=7 by omega)]at h⊢
  rw[if_pos hc]
  have h:b.short=false:=h
  exact⟨h,hb,by obtain⟨i,s⟩:=b;cases h;rfl⟩
 ·rw[if_neg (show ¬c<=7 by omega)]at h⊢
  obtain⟨h1,h2,h3⟩:=rd_false h
  rw[if_neg hc]
  exact⟨h1,h2,by rw[h3]⟩
theorem xq(l:List Int)(p c:Nat):p<=(aU l p c).2:=by
 unfold aU
 split
 ·exact Nat.le_refl _
 ·exact Nat.le_add_right _ _
theorem MF(l:List Int)(h:Ph):h.pos<=(aO l h).pos:=by
 have a:=xq l (h.pos+h.x1.1.toNat) h.x2.1.toNat
 have b:=xq l (aU l (h.pos+h.x1.1.toNat) h.x2.1.toNat).2 h.x0.1.toNat
 show h.pos<=(aU l (aU l (h.pos+h.x1.1.toNat) h.x2.1.toNat).2 h.x0.1.toNat).2
 omega
theorem Wh(l:List Int)(t0 t1 t2:Tab)(h:Ph)(r:P1):r.pos<=(jM l t0 t1 t2 h r).pos:=by
 show r.pos<=r.pos+h.x0.2.1.toNat+h.x2.2.1.toNat+h.x1.2.1.toNat
 omega
structure Sync(f:Fr)(l:List Int)(q:Sq)(h:Ph)(x:aj×aj):Prop where
 b:q.b=⟨h.pos,false⟩
 le:h.pos<=l.length
 x0:h.x0=aS f.t0.l q.s0
 x1:h.x1=aS f.t1.l q.s1
 x2:h.x2=aS f.t2.l q.s2
 last:q.last=h.last
 past:q.past=x.1
 lits:q.lits=x.2
theorem MG{f:Fr}{from':Nat}{q:Sq}{v m len:Int}{b:B}{s0 s1 s2:Int}(h:b.short=true):oq f from' q v m len b s0 s1 s2=none:=by
 unfold oq
 rw[if_pos (.inl h)]
theorem zF{l:List Int}{b:B}{n:Nat}(h:b.short=true):(rd l b n).2.short=true:=by
 cases e:(rd l b n).2.short with
 | true=>rfl
 | false=>rw[(rd_false e).1]at h;cases h
theorem MH{l:List Int}{b:B}{n:Nat}(h:b.short=true):(sz l b n).2.short=true:=by
 unfold sz
 split
 ·exact h
 ·exact zF h
theorem MI{f:Fr}{l:List Int}{from':Nat}{q:Sq}{h:Ph}{x:aj×aj}(hs:Sync f l q h x)(hla:dG h.last){v m len:Int}{pos:Nat}{s0 s1 s2:Int}(hfr:from'<=x.1.length)(hm:0<=m)(hl:0<=len)(hv:1<=v) :
  oq f from' q v m len ⟨pos,false⟩ s0 s1 s2=if(bG h.last v len).1=0 then none else
   match dD f.window ⟨len,(bG h.last v len).1,m+3⟩ x with
   | none=>none
   | some y=>if from'+1024<y.1.length then none else some ⟨⟨pos,false⟩,s0,s1,s2,y.1,y.2,(bG h.last v len).2⟩:=by
 have h0:0<=(bG h.last v len).1:=by
  obtain⟨a,b,c,e,ha,hb,hc⟩:=hla
  rw[e]
  unfold bG
  split
  ·show 0<=v-3;omega
  ·simp only[]
   generalize(if len=0 then v+1 else v)=i
   split
   ·show 0<=a-1;omega
   ·split
    ·show 0<=a;omega
    ·split
     ·show 0<=b;omega
     ·show 0<=c;omega
 unfold oq
 rw[hs.last,hs.past,hs.lits]
 generalize bG h.last v len=bk at *
 unfold dD
 simp only[Bool.false_eq_true,false_or]
 by_cases hz:bk.1=0
 ·rw[if_pos hz]
  split
  ·rfl
  ·rw[if_pos (.inl (by omega))]
 rw[if_neg hz]
 by_cases h1:(x.2.length:Int)<len
 ·rw[if_pos h1,if_pos h1]
 rw[if_neg h1,if_neg h1]
 by_cases h2:(f.window:Int)<bk.1\/((x.1++x.2.take len.toNat).length:Int)<bk.1
 ·rw[if_pos (by omega),if_pos h2]
 rw[if_neg h2]
 simp only[vw]
 by_cases h3:1024<((x.1++x.2.take len.toNat).length:Int)+(3+m)-from'
 ·rw[if_pos (by omega),if_pos (by omega)]
 ·rw[if_neg (by omega),if_neg (by omega),show(3+m)=m+3 by omega]
theorem tV{l:List Int}(hl:∀x∈l,0<=x/\x<=1)(p c:Nat):0<=(aU l p c).1:=by
 unfold aU
 split
 ·simp
 ·have:=iT hl p (c-7)
  have d:(0:Int)<2^(c-7):=Int.pow_pos (by omega)
  show 0<=2^(c-7)+6+pk l p (c-7)
  omega
theorem MJ{l:List Int}(hl:∀x∈l,0<=x/\x<=1)(p c:Nat):1<=(2:Int)^c+pk l p c:=by
 have:=iT hl p c
 have d:(0:Int)<2^c:=Int.pow_pos (by omega)
 omega
theorem Wi{f:Fr}{l:List Int}(hl:∀x∈l,0<=x/\x<=1){from':Nat}{q:Sq}{h:Ph}{x:aj×aj}(hs:Sync f l q h x)(hla:dG h.last)(hfr:from'<=x.1.length) :
  (seq1 f l from' true q=none/\((aO l h).s.off=0\/l.length<(jM l f.t0 f.t1 f.t2 h (aO l h)).pos\/dD f.window (aO l h).s x=none\/∃y,dD f.window (aO l h).s x=some y/\from'+1024<y.1.length)) \/
  ∃y q',dD f.window (aO l h).s x=some y/\y.1.length<=from'+1024/\(aO l h).s.off≠0/\seq1 f l from' true q=some q'/\Sync f l q' (jM l f.t0 f.t1 f.t2 h (aO l h)) y:=by
 have e:seq1 f l from' true q=oq f from' q (2^h.x1.1.toNat+(rd l q.b h.x1.1.toNat).1) (sz l (rd l q.b h.x1.1.toNat).2 h.x2.1.toNat).1 (sz l (sz l (rd l q.b h.x1.1.toNat).2 h.x2.1.toNat).2 h.x0.1.toNat).1
   (rd l (rd l (rd l (sz l (sz l (rd l q.b h.x1.1.toNat).2 h.x2.1.toNat).2 h.x0.1.toNat).2 h.x0.2.1.toNat).2 h.x2.2.1.toNat).2 h.x1.2.1.toNat).2 (h.x0.2.2+(rd l (sz l (sz l (rd l q.b h.x1.1.toNat).2 h.x2.1.toNat).2 h.x0.1.toNat).2 h.x0.2.1.toNat).1)
   (h.x1.2.2+(rd l (rd l (rd l (sz l (sz l (rd l q.b h.x1.1.toNat).2 h.x2.1.toNat).2 h.x0.1.toNat).2 h.x0.2.1.toNat).2 h.x2.2.1.toNat).2 h.x1.2.1.toNat).1) (h.x2.2.2+(rd l (rd l (sz l (sz l (rd l q.b h.x1.1.toNat).2 h.x2.1.toNat).2 h.x0.1.toNat).2 h.x0.2.1.toNat).2 h.x2.2.1.toNat).1):=by
  unfold seq1
  rw[hs.x0,hs.x1,hs.x2]
  rfl
 rw[e]
 by_cases hp:l.length<(jM l f.t0 f.t1 f.t2 h (aO l h)).pos
 ·left
  refine⟨MG ?_,.inr (.inl hp)⟩
  cases es:(rd l (rd l (rd l (sz l (sz l (rd l q.b h.x1.1.toNat).2 h.x2.1.toNat).2 h.x0.1.toNat).2 h.x0.2.1.toNat).2 h.x2.2.1.toNat).2 h.x1.2.1.toNat).2.short with
  | true=>rfl
  | false =>
   exfalso
   obtain⟨a1,a2,a3⟩:=rd_false es
   obtain⟨b1,b2,b3⟩:=rd_false a1
   obtain⟨c1,c2,c3⟩:=rd_false b1
   have i1:=pX l q.b h.x1.1.toNat (by rw[hs.b];exact hs.le)
   have i2:=Df l (rd l q.b h.x1.1.toNat).2 h.x2.1.toNat i1
   obtain⟨d1,d2,d3⟩:=Dp c1 i2
   obtain⟨k1,k2,k3⟩:=Dp d1 i1
   obtain⟨m1,m2,m3⟩:=rd_false k1
   simp only[hs.b]at m2 k2 d2 c2 b2 a2
   simp only[kP l _ _ m2]at k2 d2 c2 b2 a2
   simp only[vG l _ _ k2]at d2 c2 b2 a2
   simp only[vG l _ _ d2]at c2 b2 a2
   simp only[kP l _ _ c2]at b2 a2
   simp only[kP l _ _ b2]at a2
   have hp':l.length<(aU l (aU l (h.pos+h.x1.1.toNat) h.x2.1.toNat).2 h.x0.1.toNat).2+h.x0.2.1.toNat+h.x2.2.1.toNat+h.x1.2.1.toNat:=hp
   omega
 ·have hp':(aU l (aU l (h.pos+h.x1.1.toNat) h.x2.1.toNat).2 h.x0.1.toNat).2+h.x0.2.1.toNat+h.x2.2.1.toNat+h.x1.2.1.toNat<=l.length:=Nat.le_of_not_lt hp
  have g1:=xq l (h.pos+h.x1.1.toNat) h.x2.1.toNat
  have g2:=xq l (aU l (h.pos+h.x1.1.toNat) h.x2.1.toNat).2 h.x0.1.toNat
  have r1:=kP l h.pos h.x1.1.toNat (by omega)
  have r2:=vG l (h.pos+h.x1.1.toNat) h.x2.1.toNat (by omega)
  have r3:=vG l (aU l (h.pos+h.x1.1.toNat) h.x2.1.toNat).2 h.x0.1.toNat (by omega)
  have r4:=kP l (aU l (aU l (h.pos+h.x1.1.toNat) h.x2.1.toNat).2 h.x0.1.toNat).2 h.x0.2.1.toNat (by omega)
  have r5:=kP l ((aU l (aU l (h.pos+h.x1.1.toNat) h.x2.1.toNat).2 h.x0.1.toNat).2+h.x0.2.1.toNat) h.x2.2.1.toNat (by omega)
  have r6:=kP l ((aU l (aU l (h.pos+h.x1.1.toNat) h.x2.1.toNat).2 h.x0.1.toNat).2+h.x0.2.1.toNat+h.x2.2.1.toNat) h.x1.2.1.toNat (by omega)
  rw[hs.b]
  simp only[r1,r2,r3,r4,r5,r6]
  rw[MI hs hla hfr (tV hl _ _) (tV hl _ _) (MJ hl _ _)]
  obtain⟨s0,hs0⟩:∃s,s=h.x0.2.2+pk l (aO l h).pos h.x0.2.1.toNat:=⟨_,rfl⟩
  obtain⟨s1,hs1⟩:∃s,s=h.x1.2.2+pk l ((aO l h).pos+h.x0.2.1.toNat+h.x2.2.1.toNat) h.x1.2.1.toNat:=⟨_,rfl⟩
  obtain⟨s2,hs2⟩:∃s,s=h.x2.2.2+pk l ((aO l h).pos+h.x0.2.1.toNat) h.x2.2.1.toNat:=⟨_,rfl⟩
  obtain⟨P,hP⟩:∃P,P=(jM l f.t0 f.t1 f.t2 h (aO l h)).pos:=⟨_,rfl⟩
  have goal:∀(mk:aj×aj->Sq),(∀y,mk y=⟨⟨P,false⟩,s0,s1,s2,y.1,y.2,(aO l h).last⟩) ->
    ((if(aO l h).s.off=0 then none else match dD f.window (aO l h).s x with
     | none=>none
     | some y=>if from'+1024<y.1.length then none else some (mk y))=none/\((aO l h).s.off=0\/l.length<(jM l f.t0 f.t1 f.t2 h (aO l h)).pos\/dD f.window (aO l h).s x=none\/∃y,dD f.window (aO l h).s x=some y/\from'+1024<y.1.length)) \/
    ∃y q',dD f.window (aO l h).s x=some y/\y.1.length<=from'+1024/\(aO l h).s.off≠0/\(if(aO l h).s.off=0 then none else match dD f.window (aO l h).s x with
     | none=>none
     | some y=>if from'+1024<y.1.length then none else some (mk y))=some q'/\Sync f l q' (jM l f.t0 f.t1 f.t2 h (aO l h)) y:=by
   intro mk hmk
   by_cases hz:(aO l h).s.off=0
   ·exact .inl ⟨by rw[if_pos hz],.inl hz⟩
   cases ef:dD f.window (aO l h).s x with
   | none=>exact .inl ⟨by rw[if_neg hz],.inr (.inr (.inl rfl))⟩
   | some y =>
    by_cases hy:from'+1024<y.1.length
    ·exact .inl ⟨by simp only[if_neg hz,if_pos hy],.inr (.inr (.inr ⟨y,rfl,hy⟩))⟩
    ·refine .inr ⟨y,mk y,rfl,by omega,hz,by simp only[if_neg hz,if_neg hy],?_⟩
     rw[hmk,hP,hs0,hs1,hs2]
     exact⟨rfl,hp',rfl,rfl,rfl,rfl,rfl,rfl⟩
  refine goal (fun y=>⟨⟨_,false⟩,_,_,_,y.1,y.2,_⟩) (fun y=>?_)
  rw[hP,hs0,hs1,hs2]
  rfl
end Go.Proofs.YtbhemchnjpajiaaGreatDoor.RD
