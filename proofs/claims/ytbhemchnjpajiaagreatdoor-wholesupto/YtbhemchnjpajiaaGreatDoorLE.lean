/- Several texts in one: PrRaw, PrFd0, QFd0, QFd2. -/
import Derived.Test.YtbhemchnjpajiaaGreatDoorJH
import Derived.Test.YtbhemchnjpajiaaGreatDoorKL
import Derived.Test.YtbhemchnjpajiaaGreatDoorLD
set_option linter.unusedVariables false
set_option maxRecDepth 100000
set_option maxHeartbeats 4000000
namespace Go.Proofs.YtbhemchnjpajiaaGreatDoor.RD
open Go
theorem acn(b:Int)(hb:0<=b/\b<=4294967295):0<=SM.xr b (b/65536)/\SM.xr b (b/65536)<=4294967295:=SM.yT _ _ hb.2 (by omega)
theorem aco(l:aj):0<=SM.sum l/\SM.sum l<=4294967295:=by
 unfold SM.sum SM.fin
 exact acn _ (SM.jX _ _)
def gave(c:aC)(s:aj):aj×Nat:=((told c s true).1,(told c s true).2.1)
theorem Bh{c:aC}{s:aj}{a:St}(h:Reach c (St.start s) a)(hw:step c a=.wants):gave c s=(a.text,if a.ph=.letters/\a.left=[]then 2 else 7):=by
 unfold gave
 rw[yQ true h hw]
 rfl
theorem acp{c:aC}{s:aj}{a:St}{e:Nat}(h:Reach c (St.start s) a)(hw:step c a=.err e):gave c s=(a.text,e):=by
 unfold gave
 rw[xE true h hw]
def Fine(a:St):Prop:=a.ph=.blocks->2<=a.left.length->au (a.left.take 2)/2%4=0
theorem lu{a:St}(h:a.ph≠.blocks):Fine a:=fun e=>absurd e h
inductive dH (c:aC):St->St->Prop where
 | refl (s:St):dH c s s
 | tail {s t u:St}:dH c s t->Fine t->step c t=.ok u->dH c s u
theorem dH.reach{c:aC}{a b:St}(h:dH c a b):Reach c a b:=by
 induction h with
 | refl=>exact .refl _
 | tail _ _ hs ih=>exact .tail ih hs
theorem dH.trans{c:aC}{a b d:St}(h:dH c a b)(k:dH c b d):dH c a d:=by
 induction k with
 | refl=>exact h
 | tail _ hf hs ih=>exact .tail ih hf hs
theorem dH.one{c:aC}{a b:St}(hf:Fine a)(h:step c a=.ok b):dH c a b:=.tail (.refl _) hf h
theorem acr{f:Fr}{l:aj}{r:Bool×Fr×aj×aj}(h:block f l=.ok r):2<=l.length:=by
 have:=(DI h).1
 omega
theorem acs{c:aC}{a b:St}(hf:Fine a)(h:step c a=.ok b)(t:aj):Fine (a.more t):=by
 intro e _
 have hp:a.ph=.blocks:=e
 have h2:2<=a.left.length:=by
  obtain⟨fr,ph,f,left,text⟩:=a
  simp only at hp
  subst hp
  unfold step at h
  simp only[]at h
  cases hx:block f left with
  | wants=>rw[hx]at h;cases h
  | err e=>rw[hx]at h;cases h
  | ok r=>exact acr hx
 show au ((a.left++t).take 2)/2%4=0
 rw[xA t h2]
 exact hf hp h2
theorem dH.more{c:aC}{a b:St}(h:dH c a b)(t:aj):dH c (a.more t) (b.more t):=by
 induction h with
 | refl=>exact .refl _
 | tail _ hf hs ih =>
  refine .tail ih (acs hf hs t) ?_
  rw[KL c _ t (by rw[hs];exact fun e=>by cases e),hs]
  rfl
theorem Qv{c:aC}{a b:St}(h:Reach c a b):b=a\/∃u,step c a=.ok u/\Reach c u b:=by
 induction h with
 | refl=>exact .inl rfl
 | tail _ hs ih =>
  rcases ih with rfl|⟨u,h1,h2⟩
  ·exact .inr ⟨_,hs,.refl _⟩
  ·exact .inr ⟨u,h1,.tail h2 hs⟩
theorem dH.all{c:aC}{s a b:St}(h:dH c s a)(k:Reach c s b):Fine b\/Reach c a b:=by
 induction h with
 | refl=>exact .inr k
 | tail _ hf hs ih =>
  rcases ih with h1|h1
  ·exact .inl h1
  ·rcases Qv h1 with rfl|⟨u,h2,h3⟩
   ·exact .inl hf
   ·rw[hs]at h2
    cases h2
    exact .inr h3
theorem dH.stop{c:aC}{s a b:St}(h:dH c s a)(hf:Fine a)(ha:∀u,step c a≠.ok u)(k:Reach c s b):Fine b:=by
 rcases h.all k with h1|h1
 ·exact h1
 ·rcases Qv h1 with rfl|⟨u,h2,_⟩
  ·exact hf
  ·exact absurd h2 (ha u)
def St.at(a:St)(l:aj):St:={ a with left:=l }
theorem step_empty(c:aC)(a:St):step c (a.at [])=.wants:=by
 obtain⟨fr,ph,f,left,text⟩:=a
 cases ph<;>rfl
structure Chunk(c:aC)(a b:St)(x:aj):Prop where
 full:dH c (a.at x) (b.at [])
 cut:∀k,0<k->k<x.length->∃m,dH c (a.at (x.take k)) m/\step c m=.wants/\m.text=a.text/\¬(m.ph=.letters/\m.left=[])/\Fine m
theorem acu(a:St):Fine (a.at []):=fun _ h=>by simp[St.at]at h
theorem EF{c:aC}{s:aj}{a:St}(h:dH c (St.start s) (a.at []))(y:aj):dH c (St.start (s++y)) (a.at y):=h.more y
theorem Chunk.fine{c:aC}{s:aj}{a b:St}{x:aj}(h:dH c (St.start s) (a.at []))(hc:Chunk c a b x)(n:Nat)(h1:s.length<n)(h2:n<=(s++x).length)(m:St)(hm:Reach c (St.start ((s++x).take n)) m):Fine m:=by
 rw[List.length_append]at *
 have ht:(s++x).take n=s++x.take (n-s.length):=by rw[List.take_append,List.take_of_length_le (by omega)]
 rw[ht]at hm
 have hr:=EF h (x.take (n-s.length))
 by_cases hn:n=s.length+x.length
 ·rw[show n-s.length=x.length by omega,List.take_length]at hr hm
  exact(hr.trans hc.full).stop (acu b) (fun u=>by rw[step_empty];exact fun e=>by cases e) hm
 ·obtain⟨z,hz,hw,_,_,hf⟩:=hc.cut (n-s.length) (by omega) (by omega)
  exact(hr.trans hz).stop hf (fun u=>by rw[hw];exact fun e=>by cases e) hm
theorem Chunk.gave{c:aC}{s:aj}{a b:St}{x:aj}(h:dH c (St.start s) (a.at []))(hc:Chunk c a b x)(n:Nat)(h1:s.length<n)(h2:n<=(s++x).length) :
  RD.gave c ((s++x).take n)=if n=(s++x).length then(b.text,if b.ph=.letters then 2 else 7)else(a.text,7):=by
 rw[List.length_append]at *
 have ht:(s++x).take n=s++x.take (n-s.length):=by rw[List.take_append,List.take_of_length_le (by omega)]
 rw[ht]
 have hr:=EF h (x.take (n-s.length))
 by_cases hn:n=s.length+x.length
 ·rw[if_pos hn]
  rw[show n-s.length=x.length by omega,List.take_length]at hr⊢
  rw[Bh (hr.trans hc.full).reach (step_empty c b)]
  simp[St.at]
 ·rw[if_neg hn]
  obtain⟨m,hm,hw,hx,hl,-⟩:=hc.cut (n-s.length) (by omega) (by omega)
  rw[Bh (hr.trans hm).reach hw,hx,if_neg hl]
def gB(sm:Bool)(all:aj)(k:Nat):Fr:={ Fr.new with window:=64,size:=-1,summed:=sm,text:=all,last:=[1,4,8],blocks:=k }
def uF(sm:Bool):UInt8:=if sm then 8 else 0
theorem acv(c:aC)(hl:64<=c.limit)(n:Nat)(text:aj)(sm:Bool):Chunk c ⟨n,.letters,Fr.new,[],text⟩ ⟨n,.blocks,gB sm [] 0,[],text⟩ (iH++[uF sm]):=by
 have s1:∀y:aj,step c ⟨n,.letters,Fr.new,iH++y,text⟩=.ok ⟨n,.header,Fr.new,y,text⟩:=fun y=>by
  unfold step
  simp only[]
  rw[if_neg (by rw[List.length_append];show ¬4+_<4;omega),show(iH++y).take 4=iH from List.take_left (l₁:=iH) (l₂:=y),show(iH++y).drop 4=y from List.drop_left (l₁:=iH) (l₂:=y),if_neg (by decide),if_pos rfl]
 have hlim:¬c.limit<64:=by omega
 have s2:step c ⟨n,.header,Fr.new,[uF sm],text⟩=.ok ⟨n,.blocks,gB sm [] 0,[],text⟩:=by
  cases sm<;>simp[step,header,uF,ak,gB,Fr.new,hlim]
 refine⟨(dH.one (lu (fun e=>by cases e)) (s1 [uF sm])).tail (lu (fun e=>by cases e)) s2,fun k hk hk5=>?_⟩
 have hk5:k<5:=hk5
 by_cases h4:k=4
 ·subst h4
  exact⟨_,dH.one (lu (fun e=>by cases e)) (s1 []),rfl,rfl,(fun e=>by cases e.1),lu (fun e=>by cases e)⟩
 ·refine⟨_,.refl _,?_,rfl,fun e=>?_,lu (fun e=>by cases e)⟩
  ·unfold step St.at
   simp only[]
   rw[if_pos (by rw[List.length_take];omega)]
  ·have:=e.2
   have hlen:((iH++[uF sm]).take k).length=k:=by rw[List.length_take];show min k 5=k;omega
   have h0:((iH++[uF sm]).take k).length=0:=by rw[show(iH++[uF sm]).take k=[]from this];rfl
   omega
def two(n:Nat):aj:=[UInt8.ofNat (n%256),UInt8.ofNat (n/256)]
theorem Qw(n:Nat)(h:n<65536):au (two n)=n:=by
 have e1:(UInt8.ofNat (n%256)).toNat=n%256:=by simp
 have e2:(UInt8.ofNat (n/256)).toNat=n/256:=by rw[UInt8.toNat_ofNat'];omega
 unfold two au au au
 rw[e1,e2]
 omega
def qB(t:aj)(last:Bool):aj:=two (8*t.length+if last then 1 else 0)++t
def uG(n:Nat)(sm:Bool)(all:aj)(k:Nat)(text t:aj)(last:Bool):St :=
 if last=false then⟨n,.blocks,gB sm (all++t) (k+1),[],text++t⟩else if sm then⟨n,.sum,gB sm (all++t) (k+1),[],text++t⟩else⟨n+1,.letters,Fr.new,[],text++t⟩
theorem Qx(c:aC)(n:Nat)(sm:Bool)(all:aj)(k:Nat)(text t:aj)(last:Bool)(ht:t.length<=1024):Chunk c ⟨n,.blocks,gB sm all k,[],text⟩ (uG n sm all k text t last) (qB t last):=by
 obtain⟨h,hh⟩:∃h,h=8*t.length+if last then 1 else 0:=⟨_,rfl⟩
 have hb:h<65536:=by split at hh<;>omega
 have hN:=Qw h hb
 have e8:h/8=t.length:=by split at hh<;>omega
 have e2:h/2%4=0:=by split at hh<;>omega
 have e1:decide (h%2=1)=last:=by cases last<;>simp at hh⊢<;>omega
 have hx:qB t last=two h++t:=by unfold qB;rw[hh]
 have hlen:(two h).length=2:=rfl
 have hxl:(two h++t).length=2+t.length:=by rw[List.length_append];omega
 rw[hx]
 have hblk:block (gB sm all k) (two h++t)=.ok (last,gB sm (all++t) (k+1),[],t):=by
  have ht2:(two h++t).take 2=two h:=List.take_left (l₁:=two h) (l₂:=t)
  have hd2:(two h++t).drop 2=t:=List.drop_left (l₁:=two h) (l₂:=t)
  unfold block
  rw[if_neg (by omega)]
  simp only[ht2,hN,e8,e2,hd2]
  rw[if_neg (by omega),show(if(0:Nat)=1 then 1 else t.length)=t.length from rfl,if_neg (by omega),List.take_length]
  have hi:inner (gB sm all k) 0 t.length t=some (t,gB sm all k):=rfl
  rw[hi]
  simp only[]
  have hsz:¬(0<=(gB sm all k).size):=by show ¬(0<=(-1:Int));omega
  rw[if_neg (by rintro(h|h);omega;exact hsz h.1),e1,show(two h++t).drop (2+t.length)=[] by rw[<- hxl,List.drop_length]]
  rfl
 have hf:∀j,Fine ((⟨n,.blocks,gB sm all k,[],text⟩:St).at ((two h++t).take j)):=fun j _ h2=>by
  have h2:2<=((two h++t).take j).length:=h2
  rw[List.length_take]at h2
  show au (((two h++t).take j).take 2)/2%4=0
  rw[List.take_take,Nat.min_eq_left (by omega),show(two h++t).take 2=two h from List.take_left (l₁:=two h) (l₂:=t),hN,e2]
 have Qy:=hf (two h++t).length
 rw[List.take_length]at Qy
 refine⟨.tail (.refl _) Qy ?_,fun j hj Qz=>⟨_,.refl _,?_,rfl,(fun e=>by cases e.1),hf j⟩⟩
 ·unfold step St.at
  simp only[hblk,uG]
  cases last<;>cases sm<;>rfl
 ·rw[hxl]at Qz
  have hjl:((two h++t).take j).length=j:=by rw[List.length_take];omega
  have hw:block (gB sm all k) ((two h++t).take j)=.wants:=by
   unfold block
   by_cases hj2:j<2
   ·rw[if_pos (by omega)]
   ·have ht2:((two h++t).take j).take 2=two h:=by rw[List.take_take,Nat.min_eq_left (by omega)];exact List.take_left (l₁:=two h) (l₂:=t)
    rw[if_neg (by omega)]
    simp only[ht2,hN,e8,e2]
    rw[if_neg (by omega),show(if(0:Nat)=1 then 1 else t.length)=t.length from rfl,if_pos (by omega)]
  unfold step St.at
  simp only[hw]
theorem acw(c:aC)(n:Nat)(sm:Bool)(all:aj)(k:Nat)(text x:aj)(hx:x.length=4)(hs:(au x:Int)=SM.sum all):Chunk c ⟨n,.sum,gB sm all k,[],text⟩ ⟨n+1,.letters,Fr.new,[],text⟩ x:=by
 refine⟨.tail (.refl _) (lu (fun e=>by cases e)) ?_,fun j hj Qz=>⟨_,.refl _,?_,rfl,(fun e=>by cases e.1),lu (fun e=>by cases e)⟩⟩
 ·unfold step St.at
  simp only[]
  rw[if_neg (by omega),List.take_of_length_le (by omega),if_neg (by intro e;exact e hs),show x.drop 4=[] by rw[<- hx,List.drop_length]]
 ·unfold step St.at
  simp only[]
  rw[if_pos (by rw[List.length_take];omega)]
theorem acy(c:aC)(s:aj)(n:Nat)(sm:Bool)(all:aj)(k:Nat)(text x:aj)(h:dH c (St.start s) ⟨n,.sum,gB sm all k,[],text⟩)(hx:x.length=4)(hs:(au x:Int)≠SM.sum all)(j:Nat)(h1:s.length<j)(h2:j<=(s++x).length) :
  gave c ((s++x).take j)=(text,if j=(s++x).length then 8 else 7)/\∀m,Reach c (St.start ((s++x).take j)) m->Fine m:=by
 have h:dH c (St.start s) ((⟨n,.sum,gB sm all k,[],text⟩:St).at []):=h
 rw[List.length_append]at *
 have ht:(s++x).take j=s++x.take (j-s.length):=by rw[List.take_append,List.take_of_length_le (by omega)]
 rw[ht]
 have hr:=EF h (x.take (j-s.length))
 by_cases hj:j=s.length+x.length
 ·rw[if_pos hj]
  rw[show j-s.length=x.length by omega,List.take_length]at hr⊢
  have he:step c ((⟨n,.sum,gB sm all k,[],text⟩:St).at x)=.err 8:=by
   unfold step St.at
   simp only[]
   rw[if_neg (by omega),List.take_of_length_le (by omega),if_pos (show(au x:Int)≠SM.sum (gB sm all k).text from hs)]
  exact⟨acp hr.reach he,fun m hm=>hr.stop (lu (fun e=>by cases e)) (fun u=>by rw[he];exact fun e=>by cases e) hm⟩
 ·rw[if_neg hj]
  have hw:step c ((⟨n,.sum,gB sm all k,[],text⟩:St).at (x.take (j-s.length)))=.wants:=by
   unfold step St.at
   simp only[]
   rw[if_pos (by rw[List.length_take];omega)]
  refine⟨?_,fun m hm=>hr.stop (lu (fun e=>by cases e)) (fun u=>by rw[hw];exact fun e=>by cases e) hm⟩
  rw[Bh hr.reach hw,if_neg (fun e=>by cases e.1)]
  rfl
theorem acz(c:aC)(n:Nat)(text p z:aj)(hp:p.length=3)(hz:au p=z.length):Chunk c ⟨n,.letters,Fr.new,[],text⟩ ⟨n+1,.letters,Fr.new,[],text⟩ (fJ++(p++z)):=by
 have s1:∀y:aj,step c ⟨n,.letters,Fr.new,fJ++y,text⟩=.ok ⟨n,.skip,Fr.new,y,text⟩:=fun y=>by
  unfold step
  simp only[]
  rw[if_neg (by rw[List.length_append];show ¬4+_<4;omega),show(fJ++y).take 4=fJ from List.take_left (l₁:=fJ) (l₂:=y),show(fJ++y).drop 4=y from List.drop_left (l₁:=fJ) (l₂:=y),if_pos rfl]
 have hlen:(p++z).length=3+z.length:=by rw[List.length_append,hp]
 have ht:(p++z).take 3=p:=by rw[<- hp,List.take_left]
 have s2:step c ⟨n,.skip,Fr.new,p++z,text⟩=.ok ⟨n+1,.letters,Fr.new,[],text⟩:=by
  unfold step
  simp only[]
  rw[if_neg (by rw[ht];omega),ht,hz,show(p++z).drop (3+z.length)=[] by rw[<- hlen,List.drop_length]]
 have hxl:(fJ++(p++z)).length=7+z.length:=by rw[List.length_append,hlen];show 4+_=_;omega
 refine⟨(dH.one (lu (fun e=>by cases e)) (s1 _)).tail (lu (fun e=>by cases e)) s2,fun k hk hkx=>?_⟩
 rw[hxl]at hkx
 by_cases h4:k<4
 ·refine⟨_,.refl _,?_,rfl,fun e=>?_,lu (fun e=>by cases e)⟩
  ·unfold step St.at
   simp only[]
   rw[if_pos (by rw[List.length_take];omega)]
  ·have h0:((fJ++(p++z)).take k).length=0:=by rw[show(fJ++(p++z)).take k=[]from e.2];rfl
   rw[List.length_take,hxl]at h0
   omega
 ·have hcut:(fJ++(p++z)).take k=fJ++(p++z).take (k-4):=by
   rw[List.take_append,List.take_of_length_le (by show 4<=k;omega)]
   rfl
  have hlk:((p++z).take (k-4)).length=k-4:=by rw[List.length_take,hlen];omega
  refine⟨⟨n,.skip,Fr.new,(p++z).take (k-4),text⟩,by rw[hcut];exact dH.one (lu (fun e=>by cases e)) (s1 _),?_,rfl,(fun e=>by cases e.1),lu (fun e=>by cases e)⟩
  unfold step
  simp only[]
  by_cases h7:k<7
  ·rw[if_pos (.inl (by omega))]
  ·have hlt:((p++z).take (k-4)).length<3+au (((p++z).take (k-4)).take 3):=by
    rw[List.take_take,Nat.min_eq_left (by omega),ht,hlk]
    omega
   rw[if_pos (.inr hlt)]
def kF(n:Nat):List Nat->List aj->aj->aj
 | a::ns,t::ts,acc=>kF n ns ts (if a<=n then t else acc)
 | _,_,acc=>acc
theorem Jq(n:Nat):∀(ns:List Nat)(ts:List aj)(a:Nat)(t acc:aj),ns.length=ts.length->kF n (ns++[a]) (ts++[t]) acc=if a<=n then t else kF n ns ts acc
 | [],[],a,t,acc,_=>rfl
 | [],_::_,_,_,_,h=>by simp at h
 | _::_,[],_,_,_,h=>by simp at h
 | x::ns,y::ts,a,t,acc,h=>by
  show kF n (ns++[a]) (ts++[t]) _=_
  rw[Jq n ns ts a t _ (by simpa using h)]
  rfl
theorem QA(n m:Nat):∀(ns:List Nat)(ts:List aj)(acc:aj),(∀x∈ns,x<=n/\x<=m)->kF n ns ts acc=kF m ns ts acc
 | [],_,_,_=>by unfold kF;rfl
 | _::_,[],_,_=>rfl
 | x::ns,y::ts,acc,h=>by
  show kF n ns ts _=kF m ns ts _
  rw[if_pos (h x (by simp)).1,if_pos (h x (by simp)).2]
  exact QA n m ns ts _ (fun z hz=>h z (by simp[hz]))
structure Lw where
 s:aj
 ends:List Nat
 starts:List Nat
 texts:List aj
def codeOf(ends:List Nat)(n:Nat):Nat:=if n∈ends then 2 else 7
structure Inv(c:aC)(L:Lw):Prop where
 gives:∀n,n<=L.s.length->gave c (L.s.take n)=(kF n L.starts L.texts [],codeOf L.ends n)
 fine:∀n,n<=L.s.length->∀m,Reach c (St.start (L.s.take n)) m->Fine m
 same:L.starts.length=L.texts.length
 le:(∀x∈L.starts,x<=L.s.length)/\∀x∈L.ends,x<=L.s.length
theorem Inv.last{c:aC}{L:Lw}{a:St}(h:Inv c L)(hr:dH c (St.start L.s) (a.at []))(n:Nat)(hn:L.s.length<=n):kF n L.starts L.texts []=a.text:=by
 have e:=h.gives L.s.length (Nat.le_refl _)
 rw[List.take_length,Bh hr.reach (step_empty c a)]at e
 rw[QA n L.s.length _ _ _ (fun x hx=>⟨Nat.le_trans (h.le.1 x hx) hn,h.le.1 x hx⟩),<- (Prod.mk.inj e).1]
 rfl
theorem Inv.chunk{c:aC}{L:Lw}{a b:St}{x:aj}(h:Inv c L)(hr:dH c (St.start L.s) (a.at []))(hc:Chunk c a b x)(hx:x≠[])(q e:Bool)(hq:q=false->b.text=a.text)(he:e=decide (b.ph=.letters)) :
  Inv c ⟨L.s++x,if e then L.ends++[(L.s++x).length]else L.ends,if q then L.starts++[(L.s++x).length]else L.starts,if q then L.texts++[b.text]else L.texts⟩/\dH c (St.start (L.s++x)) (b.at []):=by
 have hpos:0<x.length:=List.length_pos_iff.2 hx
 have hl:(L.s++x).length=L.s.length+x.length:=List.length_append
 refine⟨⟨fun n hn=>?_,fun n hn m hm=>?_,?_,?_⟩,(EF hr x).trans hc.full⟩
 ·simp only at hn⊢
  by_cases h1:n<=L.s.length
  ·have hw:kF n (if q then L.starts++[(L.s++x).length]else L.starts) (if q then L.texts++[b.text]else L.texts) []=kF n L.starts L.texts []:=by
    cases q with
    | false=>rfl
    | true =>
     simp only[if_true]
     rw[Jq n _ _ _ _ _ h.same,if_neg (by omega)]
   have hco:codeOf (if e then L.ends++[(L.s++x).length]else L.ends) n=codeOf L.ends n:=by
    cases e with
    | false=>rfl
    | true =>
     have hne:¬n=L.s.length+x.length:=by omega
     simp[codeOf,hne]
   rw[List.take_append_of_le_length h1,h.gives n h1,hw,hco]
  ·rw[hc.gave hr n (by omega) hn]
   have hno:¬n∈L.ends:=fun hm=>by have:=h.le.2 n hm;omega
   have hlast:=h.last hr n (by omega)
   have hw:kF n (if q then L.starts++[(L.s++x).length]else L.starts) (if q then L.texts++[b.text]else L.texts) []=if n=(L.s++x).length then b.text else a.text:=by
    cases q with
    | false =>
     simp only[Bool.false_eq_true,if_false]
     rw[hlast,hq rfl]
     split<;>rfl
    | true =>
     simp only[if_true]
     rw[Jq n _ _ _ _ _ h.same,hlast]
     by_cases hn':n=(L.s++x).length
     ·rw[if_pos (by omega),if_pos hn']
     ·rw[if_neg (by omega),if_neg hn']
   have hco:codeOf (if e then L.ends++[(L.s++x).length]else L.ends) n=if n=(L.s++x).length then(if b.ph=.letters then 2 else 7)else 7:=by
    unfold codeOf
    by_cases hn':n=(L.s++x).length
    ·rw[if_pos hn']
     by_cases hb:b.ph=.letters
     ·rw[he];simp[hb,hn']
     ·rw[he]
      simp only[hb,decide_false,Bool.false_eq_true,if_false,if_neg hno]
    ·rw[if_neg hn']
     cases e with
     | false=>simp[hno]
     | true =>
      simp only[if_true,List.mem_append,hno,List.mem_singleton,hn',or_self,if_false]
   rw[hw,hco]
   split<;>rfl
 ·simp only at hn hm
  by_cases h1:n<=L.s.length
  ·rw[List.take_append_of_le_length h1]at hm
   exact h.fine n h1 m hm
  ·exact hc.fine hr n (by omega) hn m hm
 ·cases q<;>simp[h.same]
 ·simp only
  refine⟨fun y hy=>?_,fun y hy=>?_⟩
  ·cases q with
   | false=>have:=h.le.1 y hy;omega
   | true =>
    simp only[if_true,List.mem_append,List.mem_singleton]at hy
    rcases hy with hy|hy
    ·have:=h.le.1 y hy;omega
    ·omega
  ·cases e with
   | false=>have:=h.le.2 y hy;omega
   | true =>
    simp only[if_true,List.mem_append,List.mem_singleton]at hy
    rcases hy with hy|hy
    ·have:=h.le.2 y hy;omega
    ·omega
theorem Inv.start(c:aC):Inv c ⟨[],[0],[0],[[]]⟩:=by
 refine⟨fun n hn=>?_,fun n hn m hm=>?_,rfl,by simp,by simp⟩
 case refine_2 =>
  rw[List.take_nil]at hm
  exact dH.stop (a:=St.start []) (.refl _) (lu (fun e=>by cases e)) (fun u e=>by cases e) hm
 obtain rfl:n=0:=by simpa using hn
 rw[List.take_nil,Bh (Reach.refl _) rfl]
 rfl
structure Pc where
 texts:List aj
 summed:Bool
 wrong:Bool
 skipped:Bool
structure Mid where
 s:aj
 all:aj
 starts:List Nat
 texts:List aj
def Mid.add(text:aj)(i:Mid)(t:aj)(last:Bool):Mid:=⟨i.s++qB t last,i.all++t,i.starts++[(i.s++qB t last).length],i.texts++[text++(i.all++t)]⟩
def nth(ts:List aj)(k:Nat):aj:=(ts.getD k []).take 1024
def jq(text:aj)(i:Mid)(ts:List aj):Nat->Mid
 | 0=>i
 | k+1=>(jq text i ts k).add text (nth ts k) (decide (k=ts.length))
def four(n:Int):aj:=[UInt8.ofNat (n%256).toNat,UInt8.ofNat (n/256%256).toNat,UInt8.ofNat (n/65536%256).toNat,UInt8.ofNat (n/16777216%256).toNat]
theorem QB(n:Int)(h:0<=n/\n<=4294967295):(au (four n):Int)=n:=by
 have e:∀z:Int,0<=z->z<256->(UInt8.ofNat z.toNat).toNat=z.toNat:=fun z h0 h1=>by rw[UInt8.toNat_ofNat'];omega
 unfold four au au au au au
 rw[e _ (by omega) (by omega),e _ (by omega) (by omega),e _ (by omega) (by omega),e _ (by omega) (by omega)]
 omega
def sumOf(all:aj)(wrong:Bool):Int:=if wrong then(SM.sum all+1)%4294967296 else SM.sum all
structure Full where
 L:Lw
 text:aj
 wrong:Int
def Full.start:Full:=⟨⟨[],[0],[0],[[]]⟩,[],-1⟩
def jS(L:Lw)(p:Pc):Mid:=⟨L.s++(iH++[uF p.summed]),[],L.starts,L.texts⟩
def mJ(F:Full)(p:Pc):Mid:=jq F.text (jS F.L p) p.texts (p.texts.length+1)
def yj(n:Nat):aj:=fJ++((two (n%256)++[0])++List.replicate (n%256) 0)
def uH(p:Pc)(all:aj):aj:=if p.summed then four (sumOf all p.wrong)else[]
def Full.add(F:Full)(p:Pc):Full :=
 if p.skipped then⟨⟨F.L.s++yj p.texts.length,F.L.ends++[(F.L.s++yj p.texts.length).length],F.L.starts,F.L.texts⟩,F.text,-1⟩
 else
  let i:=mJ F p
  let s:=i.s++uH p i.all
  ⟨⟨s,F.L.ends++[s.length],i.starts,i.texts⟩,F.text++i.all,if p.summed&&p.wrong then((i.s.length+4:Nat):Int)else -1⟩
structure Good(c:aC)(F:Full):Prop where
 inv:Inv c F.L
 right:F.wrong=-1
 reach:∃n,dH c (St.start F.L.s) ⟨n,.letters,Fr.new,[],F.text⟩
theorem Good.start(c:aC):Good c Full.start:=⟨Inv.start c,rfl,0,.refl _⟩
theorem acA{c:aC}{F:Full}(h:Good c F)(hl:64<=c.limit)(p:Pc)(k:Nat)(hk:k<=p.texts.length) :
  ∃n,Inv c ⟨(jq F.text (jS F.L p) p.texts k).s,F.L.ends,(jq F.text (jS F.L p) p.texts k).starts,(jq F.text (jS F.L p) p.texts k).texts⟩ /\
   dH c (St.start (jq F.text (jS F.L p) p.texts k).s) ⟨n,.blocks,gB p.summed (jq F.text (jS F.L p) p.texts k).all k,[],F.text++(jq F.text (jS F.L p) p.texts k).all⟩:=by
 induction k with
 | zero =>
  obtain⟨n,hr⟩:=h.reach
  obtain⟨h1,h2⟩:=h.inv.chunk (a:=⟨n,.letters,Fr.new,[],F.text⟩) hr (acv c hl n F.text p.summed) (by simp) false false (fun _=>rfl) rfl
  refine⟨n,h1,?_⟩
  have:F.text++(jq F.text (jS F.L p) p.texts 0).all=F.text:=List.append_nil _
  rw[this]
  exact h2
 | succ k ih =>
  obtain⟨n,hi,hr⟩:=ih (by omega)
  have hd:decide (k=p.texts.length)=false:=by simp;omega
  have hn:(nth p.texts k).length<=1024:=by unfold nth;rw[List.length_take];omega
  rw[jq,hd]
  generalize jq F.text (jS F.L p) p.texts k=i at *
  obtain⟨h1,h2⟩:=hi.chunk (a:=⟨n,.blocks,gB p.summed i.all k,[],F.text++i.all⟩) hr (Qx c n p.summed i.all k (F.text++i.all) (nth p.texts k) false hn) (by simp[qB,two]) true false (fun e=>by cases e) rfl
  refine⟨n,?_,?_⟩
  ·have:=h1
   simp only[uG,if_true]at this
   rw[List.append_assoc]at this
   exact this
  ·have:=h2
   simp only[uG,if_true,St.at]at this
   rw[List.append_assoc]at this
   exact this
theorem Inv.congr{c:aC}{L L':Lw}(h:Inv c L)(e:L=L'):Inv c L':=e▸h
theorem Good.add{c:aC}{F:Full}(h:Good c F)(hl:64<=c.limit)(p:Pc) :
  ((F.add p).wrong=-1->Good c (F.add p))/\∀n,n<=(F.add p).L.s.length->gave c ((F.add p).L.s.take n)=(kF n (F.add p).L.starts (F.add p).L.texts [],if 0<=(F.add p).wrong/\(F.add p).wrong<=n then 8 else codeOf (F.add p).L.ends n)/\∀m,Reach c (St.start ((F.add p).L.s.take n)) m->Fine m:=by
 have key:(F.add p).wrong=-1->Good c (F.add p)->∀n,n<=(F.add p).L.s.length->gave c ((F.add p).L.s.take n)=(kF n (F.add p).L.starts (F.add p).L.texts [],if 0<=(F.add p).wrong/\(F.add p).wrong<=n then 8 else codeOf (F.add p).L.ends n)/\∀m,Reach c (St.start ((F.add p).L.s.take n)) m->Fine m:=fun e g n hn=>by
  refine⟨?_,g.inv.fine n hn⟩
  rw[g.inv.gives n hn,if_neg (by rw[e];omega)]
 cases hs:p.skipped with
 | true =>
  have e:F.add p=⟨⟨F.L.s++yj p.texts.length,F.L.ends++[(F.L.s++yj p.texts.length).length],F.L.starts,F.L.texts⟩,F.text,-1⟩:=by unfold Full.add;rw[hs];rfl
  have g:Good c (F.add p):=by
   rw[e]
   obtain⟨n,hr⟩:=h.reach
   have hz:au (two (p.texts.length%256)++[0])=(List.replicate (p.texts.length%256) (0:UInt8)).length:=by
    rw[Ls,Qw _ (by omega),List.length_replicate]
    rfl
   obtain⟨h1,h2⟩:=h.inv.chunk (a:=⟨n,.letters,Fr.new,[],F.text⟩) hr (acz c n F.text (two (p.texts.length%256)++[0]) (List.replicate (p.texts.length%256) 0) rfl hz) (by simp[fJ]) false true (fun _=>rfl) rfl
   exact⟨h1,rfl,n+1,h2⟩
  exact⟨fun _=>g,key (by rw[e]) g⟩
 | false =>
  obtain⟨n,hi,hr⟩:=acA h hl p p.texts.length (Nat.le_refl _)
  have hend:mJ F p=(jq F.text (jS F.L p) p.texts p.texts.length).add F.text (nth p.texts p.texts.length) true:=by unfold mJ;rw[jq];simp
  have hnn:nth p.texts p.texts.length=[]:=by unfold nth;simp
  rw[hnn]at hend
  have e:F.add p=⟨⟨(mJ F p).s++uH p (mJ F p).all,F.L.ends++[((mJ F p).s++uH p (mJ F p).all).length],(mJ F p).starts,(mJ F p).texts⟩,F.text++(mJ F p).all,if p.summed&&p.wrong then(((mJ F p).s.length+4:Nat):Int)else -1⟩:=by unfold Full.add;rw[hs];rfl
  rw[e]
  rw[e]at key
  rw[hend]at key⊢
  clear e hend
  generalize jq F.text (jS F.L p) p.texts p.texts.length=i at *
  have hch:=Qx c n p.summed i.all p.texts.length (F.text++i.all) [] true (by simp)
  cases hsm:p.summed with
  | false =>
   rw[hsm]at hch hr
   have g:=hi.chunk (a:=⟨n,.blocks,gB false i.all p.texts.length,[],F.text++i.all⟩) hr hch (by simp[qB,two]) true true (fun e=>by cases e) rfl
   simp only[uH,hsm,Bool.false_eq_true,if_false,Bool.false_and,List.append_nil]at key⊢
   have g':Good c ⟨⟨(i.add F.text [] true).s,F.L.ends++[(i.add F.text [] true).s.length],(i.add F.text [] true).starts,(i.add F.text [] true).texts⟩,F.text++(i.add F.text [] true).all,-1⟩:=by
    refine⟨g.1.congr ?_,rfl,n+1,?_⟩
    ·simp[Mid.add,uG]
    ·have:=g.2
     simp only[uG,St.at,Bool.true_eq_false,Bool.false_eq_true,if_false]at this
     simp only[Mid.add,List.append_nil]at this⊢
     exact this
   exact⟨fun _=>g',key (by first|rfl|trivial) g'⟩
  | true =>
   rw[hsm]at hch hr
   obtain⟨g1,g2⟩:=hi.chunk (a:=⟨n,.blocks,gB true i.all p.texts.length,[],F.text++i.all⟩) hr hch (by simp[qB,two]) true false (fun e=>by cases e) rfl
   have g1:Inv c ⟨(i.add F.text [] true).s,F.L.ends,(i.add F.text [] true).starts,(i.add F.text [] true).texts⟩:=g1.congr (by simp[Mid.add,uG])
   have g2:dH c (St.start (i.add F.text [] true).s) ⟨n,.sum,gB true (i.add F.text [] true).all (p.texts.length+1),[],F.text++(i.add F.text [] true).all⟩:=by
    have:=g2
    simp only[uG,St.at,Bool.true_eq_false,if_false,if_true,List.append_nil]at this
    simp only[Mid.add,List.append_nil]
    exact this
   generalize i.add F.text [] true=j at *
   have hsr:=aco j.all
   cases hwr:p.wrong with
   | false =>
    simp only[uH,hsm,hwr,if_true,Bool.true_and,Bool.false_eq_true,if_false,sumOf]at key⊢
    obtain⟨g3,g4⟩:=g1.chunk (a:=⟨n,.sum,gB true j.all (p.texts.length+1),[],F.text++j.all⟩) g2 (acw c n true j.all (p.texts.length+1) (F.text++j.all) (four (SM.sum j.all)) rfl (QB _ hsr)) (by simp[four]) false true (fun _=>rfl) rfl
    have g':Good c ⟨⟨j.s++four (SM.sum j.all),F.L.ends++[(j.s++four (SM.sum j.all)).length],j.starts,j.texts⟩,F.text++j.all,-1⟩:=⟨g3,rfl,n+1,g4⟩
    exact⟨fun _=>g',key (by first|rfl|trivial) g'⟩
   | true =>
    simp only[uH,hsm,hwr,if_true,Bool.true_and,sumOf]
    refine⟨fun e=>by exfalso;omega,fun m hm=>?_⟩
    have h4:(j.s++four ((SM.sum j.all+1)%4294967296)).length=j.s.length+4:=by rw[List.length_append];rfl
    by_cases h1:m<=j.s.length
    ·rw[List.take_append_of_le_length h1]
     refine⟨?_,g1.fine m h1⟩
     rw[g1.gives m h1,if_neg (by omega)]
     have hne:¬m=j.s.length+4:=by omega
     congr 1
     unfold codeOf
     rw[h4]
     simp[hne]
    ·have hx:=acy c j.s n true j.all (p.texts.length+1) (F.text++j.all) (four ((SM.sum j.all+1)%4294967296)) g2 rfl (by rw[QB _ (by omega)];omega) m (by omega) hm
     refine⟨?_,hx.2⟩
     rw[hx.1,g1.last (a:=⟨n,.sum,gB true j.all (p.texts.length+1),[],F.text++j.all⟩) g2 m (show j.s.length<=m by omega),h4]
     congr 1
     by_cases hm4:m=j.s.length+4
     ·rw[if_pos hm4,if_pos (by omega)]
     ·rw[if_neg hm4,if_neg (by omega)]
      unfold codeOf
      have hno:¬m∈F.L.ends:=fun hmem=>by have:m<=j.s.length:=g1.le.2 m hmem;omega
      simp[hno,hm4]
def build(F:Full):List Pc->Full
 | []=>F
 | p::ps=>if F.wrong<0 then build (F.add p) ps else F
end Go.Proofs.YtbhemchnjpajiaaGreatDoor.RD
namespace Go.Proofs.YtbhemchnjpajiaaGreatDoor
open Go RD
theorem acB(m:MS)(f:RD.Fr):(m.behind f).bg=m.bg:=by
 unfold MS.behind MS.ended
 split
 ·rfl
 ·split<;>rfl
theorem acC(c:aC)(m:MS)(b:aj)(h:m.nx=2):m.unit c b=.ok m.ended []:=by
 unfold MS.unit
 rw[if_neg (by omega),if_neg (by omega),if_pos h]
theorem QC(m:MS)(f:RD.Fr):(m.behind f).nx=4\/(m.behind f).nx=6\/(m.behind f).nx=0:=by
 unfold MS.behind MS.ended
 split
 ·exact .inl rfl
 ·split
  ·exact .inr (.inl rfl)
  ·exact .inr (.inr rfl)
theorem EG{c:aC}{m m':MS}{b p:aj}(h:m.unit c b=.ok m' p):m'.bg=m.bg/\(m.nx=2\/m.nx=5->m'.nx≠2/\m'.nx≠5):=by
 unfold MS.unit at h
 by_cases h0:m.nx=0
 ·rw[if_pos h0]at h
  split at h
  ·cases h;exact⟨rfl,by omega⟩
  ·split at h
   ·cases h;exact⟨rfl,by omega⟩
   ·cases h
 rw[if_neg h0]at h
 by_cases h1:m.nx=1
 ·rw[if_pos h1]at h
  cases h;exact⟨rfl,by omega⟩
 rw[if_neg h1]at h
 by_cases h2:m.nx=2
 ·rw[if_pos h2]at h
  cases h;exact⟨rfl,fun _=>⟨by show 0≠2;omega,by show 0≠5;omega⟩⟩
 rw[if_neg h2]at h
 by_cases h3:m.nx=3
 ·rw[if_pos h3]at h
  split at h
  ·cases h;exact⟨rfl,by omega⟩
  ·cases h
  ·cases h
 rw[if_neg h3]at h
 by_cases h4:m.nx=4
 ·rw[if_pos h4]at h
  split at h
  ·cases h
  ·cases h;exact⟨rfl,by omega⟩
 rw[if_neg h4]at h
 by_cases h5:m.nx=5
 ·rw[if_pos h5]at h
  split at h
  ·cases h
  ·split at h
   ·cases h
   ·cases h
    refine⟨acB _ _,fun _=>?_⟩
    rcases QC m (MS.grown m.f ‹aj×RD.Fr›.2 ‹aj×RD.Fr›.1)with e|e|e<;>rw[e]<;>omega
 rw[if_neg h5]at h
 split at h
 ·cases h
 ·cases h;exact⟨rfl,by omega⟩
def leftOf(m:MS)(rest:aj):Nat:=2*(m.bg.length+rest.length)+if m.nx=2\/m.nx=5 then 1 else 0
theorem QD{nx:Nat}{b:aj}{kd nm:Nat}(h7:nx<7)(h2:nx≠2)(h5:nx≠5):1<=bQ nx b kd nm:=by
 unfold bQ hlen
 repeat' split
 all_goals omega
theorem acD{c:aC}{fed:aj}{m:MS}{rest out:aj}{a:RD.St}(h:Lk c fed m rest out a)(h7:m.nx<7){k:Nat}(hk:k<=rest.length){m2:MS}
  (hc:(m.nx≠2/\m2={ m with bg:=m.bg++rest.take k }/\m.whole (m.bg++rest.take k))\/(m.nx=2/\k=min m.lf rest.length/\m2={ m with lf:=m.lf-k }/\m.lf<=rest.length)) :
  m2.none.whole m2.bg/\m2.fr=m.fr/\m2.f=m.f/\m2.nx=m.nx/\m2.kd=m.kd/\(∀n,m2.none.unit c m2.bg=.err n->RD.step c a=.err n) /\
  ∀m3 p,m2.none.unit c m2.bg=.ok m3 p->(∃a3,Lk c fed m3 (rest.drop k) (out++p) a3)/\leftOf m3 (rest.drop k)<leftOf m rest/\m3.bg=[]:=by
 rcases hc with⟨h2,rfl,hw⟩|⟨h2,hk2,rfl,hlf⟩
 ·obtain⟨u1,u2⟩:=h.unit h2 hk hw
  refine⟨hw,rfl,rfl,rfl,rfl,u2,fun m3 p e=>⟨u1 m3 p e,?_,(EG e).1⟩⟩
  obtain⟨e1,e2⟩:=EG e
  have e1:m3.bg=[]:=e1
  unfold leftOf
  rw[e1,List.length_nil,List.length_drop]
  by_cases h5:m.nx=5
  ·have:=e2 (.inr h5)
   rw[if_neg (by omega),if_pos (.inr h5)]
   omega
  ·have hl:(m.bg++rest.take k).length=bQ m.nx (m.bg++rest.take k) m.kd m.nm:=hw
   have hp:=QD (b:=m.bg++rest.take k) (kd:=m.kd) (nm:=m.nm) h7 h2 h5
   rw[<- hl,List.length_append,List.length_take]at hp
   split<;>split<;>omega
 ·have hbg:m.bg=[]:=by
   rcases h.at' with⟨e,_⟩|⟨e,_⟩|⟨_,e,_⟩|⟨e,_⟩|⟨e,_⟩|⟨e,_⟩|⟨e,_⟩
   all_goals first|exact e|(exfalso;omega)
  have hkl:k=m.lf:=by omega
  subst hkl
  have hu:({ m with lf:=m.lf-m.lf }:MS).none.unit c ({ m with lf:=m.lf-m.lf }:MS).bg=.ok (({ m with lf:=m.lf-m.lf }:MS).none).ended []:=acC c _ _ h2
  have hm:(({ m with lf:=m.lf-m.lf }:MS).none).ended=({ m with lf:=0 }:MS).ended:=by
   unfold MS.none MS.ended
   simp[hbg]
  refine⟨?_,rfl,rfl,rfl,rfl,fun n e=>(by rw[hu]at e;cases e),fun m3 p e=>?_⟩
  ·show m.bg.length=bQ m.nx m.bg m.kd m.nm
   rw[hbg,h2]
   rfl
  ·rw[hu,hm]at e
   cases e
   rw[List.append_nil]
   refine⟨h.skip h2 hlf,?_,hbg⟩
   unfold leftOf
   have e1:(({ m with lf:=0 }:MS).ended).bg=[]:=hbg
   have e2:(({ m with lf:=0 }:MS).ended).nx=0:=rfl
   rw[e1,e2,List.length_nil,List.length_drop,if_neg (by omega),if_pos (.inl h2)]
   omega
theorem acE{c:aC}{fed:aj}{m:MS}{rest out:aj}{a:RD.St}(h:Lk c fed m rest out a){k:Nat}{m2:MS}(hle:m.bg.length<=bQ m.nx m.bg m.kd m.nm)
  (hc:(m.nx≠2/\m2={ m with bg:=m.bg++rest.take k }/\k=rest.length/\(m.bg++rest).length<bQ m.nx (m.bg++rest) m.kd m.nm)\/(m.nx=2/\k=min m.lf rest.length/\m2={ m with lf:=m.lf-k }/\¬m.lf<=rest.length)) :
  RD.step c a=.wants/\Lk c fed m2 [] out a/\m2.bg.length<=bQ m2.nx m2.bg m2.kd m2.nm:=by
 rcases hc with⟨h2,rfl,rfl,hlt⟩|⟨h2,rfl,rfl,hlf⟩
 ·obtain⟨h1,h3⟩:=(h.ends (xG.wants h2 hlt)).1 rfl
  rw[List.take_length]
  exact⟨h1,h3,Nat.le_of_lt hlt⟩
 ·obtain⟨h1,h3⟩:=(h.ends (xG.NW h2 (by omega))).1 rfl
  rw[Nat.min_eq_right (by omega)]
  exact⟨h1,h3,hle⟩
def lC(m:MS)(rest:aj):Nat:=m.bg.length+rest.length+if m.nx=2\/m.nx=5 then 1 else 0
theorem acF{c:aC}{m m':MS}{b p:aj}(h:m.unit c b=.ok m' p)(qC:m'.nx=2\/m'.nx=5):m.nx=1\/m.nx=4:=by
 by_cases h1:m.nx=1
 ·exact .inl h1
 by_cases h4:m.nx=4
 ·exact .inr h4
 exfalso
 unfold MS.unit at h
 rw[if_neg h1,if_neg h4]at h
 by_cases h0:m.nx=0
 ·rw[if_pos h0]at h
  split at h
  ·cases h;exact absurd qC (by show ¬(1=2\/1=5);omega)
  ·split at h
   ·cases h;exact absurd qC (by show ¬(3=2\/3=5);omega)
   ·cases h
 rw[if_neg h0]at h
 by_cases h2:m.nx=2
 ·rw[if_pos h2]at h
  cases h;exact absurd qC (by show ¬(0=2\/0=5);omega)
 rw[if_neg h2]at h
 by_cases h3:m.nx=3
 ·rw[if_pos h3]at h
  split at h
  ·cases h;exact absurd qC (by show ¬(4=2\/4=5);omega)
  ·cases h
  ·cases h
 rw[if_neg h3]at h
 by_cases h5:m.nx=5
 ·rw[if_pos h5]at h
  split at h
  ·cases h
  ·split at h
   ·cases h
   ·cases h
    rcases QC m (MS.grown m.f ‹aj×RD.Fr›.2 ‹aj×RD.Fr›.1)with e|e|e<;>rw[e]at qC<;>omega
 rw[if_neg h5]at h
 split at h
 ·cases h
 ·cases h;exact absurd qC (by show ¬(0=2\/0=5);omega)
theorem acG{c:aC}{fed:aj}{m:MS}{rest out:aj}{a:RD.St}(h:Lk c fed m rest out a)(h7:m.nx<7){k:Nat}(hk:k<=rest.length){m2:MS}
  (hc:(m.nx≠2/\m2={ m with bg:=m.bg++rest.take k }/\m.whole (m.bg++rest.take k))\/(m.nx=2/\k=min m.lf rest.length/\m2={ m with lf:=m.lf-k }/\m.lf<=rest.length)) :
  ∀m3 p,m2.none.unit c m2.bg=.ok m3 p->lC m3 (rest.drop k)<lC m rest:=by
 intro m3 p e
 rcases hc with⟨h2,rfl,hw⟩|⟨h2,hk2,rfl,hlf⟩
 ·obtain⟨e1,e2⟩:=EG e
  have e1:m3.bg=[]:=e1
  unfold lC
  rw[e1,List.length_nil,List.length_drop]
  by_cases h5:m.nx=5
  ·have:=e2 (.inr h5)
   rw[if_neg (by omega),if_pos (.inr h5)]
   omega
  ·have hl:(m.bg++rest.take k).length=bQ m.nx (m.bg++rest.take k) m.kd m.nm:=hw
   have q25:¬(m.nx=2\/m.nx=5):=fun e=>e.elim h2 h5
   rw[if_neg q25]
   rw[List.length_append,List.length_take,Nat.min_eq_left hk]at hl
   by_cases qC:m3.nx=2\/m3.nx=5
   ·rw[if_pos qC]
    rcases acF e qC with h1|h1
    ·have h1:m.nx=1:=h1
     rw[h1]at hl
     have hu:bQ 1 (m.bg++rest.take k) m.kd m.nm=3:=rfl
     omega
    ·have h1:m.nx=4:=h1
     rw[h1]at hl
     have hu:bQ 4 (m.bg++rest.take k) m.kd m.nm=2:=rfl
     omega
   ·rw[if_neg qC]
    have hp:=QD (b:=m.bg++rest.take k) (kd:=m.kd) (nm:=m.nm) h7 h2 h5
    omega
 ·have hbg:m.bg=[]:=by
   rcases h.at' with⟨e,_⟩|⟨e,_⟩|⟨_,e,_⟩|⟨e,_⟩|⟨e,_⟩|⟨e,_⟩|⟨e,_⟩
   all_goals first|exact e|(exfalso;omega)
  obtain⟨e1,e2⟩:=EG e
  have e1:m3.bg=[]:=e1
  have h3:=e2 (.inl h2)
  unfold lC
  rw[e1,hbg,List.length_nil,List.length_drop,if_neg (by omega),if_pos (.inl h2)]
  omega
theorem acI{m:MS}{rest:aj}{k:Nat}{m2:MS}(hk:k<=rest.length)
  (hc:(m.nx≠2/\m2={ m with bg:=m.bg++rest.take k })\/(m.nx=2/\m2={ m with lf:=m.lf-k })):lC m2 []<=lC m rest:=by
 rcases hc with⟨h2,rfl⟩|⟨h2,rfl⟩
 ·unfold lC
  simp only[List.length_append,List.length_take,List.length_nil]
  omega
 ·unfold lC
  simp only[List.length_nil]
  omega
theorem acJ(m:MS)(t:aj):lC m t=lC m []+t.length:=by
 unfold lC
 rw[List.length_nil]
 omega
end Go.Proofs.YtbhemchnjpajiaaGreatDoor
namespace Go.Proofs.YtbhemchnjpajiaaGreatDoor
open Go.RowKit Go.Proofs.Tryz RD
def acK(x:Fx)(G:Nat->Prop)(c:aC)(fed text out:aj)(S cnt:Nat)(w:World)(e:Ending)(w':World):Prop :=
 Only G w w'/\bI x w'/\∃(a:RD.St)(p:aj),RD.Reach c (RD.St.start (fed++text)) a/\a.text=out++p /\
  ((RD.step c a=.wants/\e=.returned (.tuple #[.string (ah p),.nilIface])/\∃(m:MS)(G':Nat->Prop)(ss:List Value)(v6:Value),Lk c (fed++text) m [] (out++p) a/\m.bg.length<=bQ m.nx m.bg m.kd m.nm/\bF x G' c m S ss v6 w'/\gX w' S+3*lC m []<=cnt+3*text.length/\∀k,G' k->(G k\/w.heap.size<=k)/\k<w'.heap.size) \/
   ∃n F,RD.step c a=.err n/\e=.returned (.tuple #[.string (ah p),.iface 106 (.pointer (some ⟨F,0,none⟩))])/\w.heap.size<=F/\aB w' F 111 [.int .i64 (a.frames:Nat),.int .i64 (a.f.blocks:Nat),aW (eF x n)])
structure acL(x:Fx)(G:Nat->Prop)(c:aC)(fed text out:aj)(S cnt:Nat)(w:World)(m:MS)(rest out1:aj)(a:RD.St)(G1:Nat->Prop)(ss:List Value)(v6 p v:Value)(wr:World):Prop where
 lk:Lk c (fed++text) m rest (out++out1) a
 len:m.bg.length<=bQ m.nx m.bg m.kd m.nm
 str:bF x G1 c m S ss v6 wr
 own:∀k,G1 k->(G k\/w.heap.size<=k)/\k<wr.heap.size
 Jr:lT w.heap.size p v out1 wr
 nb:¬G1 w.heap.size
 nv:∀k,v.ownBlock=some k->¬G1 k/\w.heap.size<=k
 only:Only G w wr
 less:rest.length<=text.length
 few:gX wr S+3*lC m rest<=cnt+3*text.length
theorem Only.grow{G G1:Nat->Prop}{w wr w1:World}(h:Only G w wr)(h1:Only G1 wr w1)(hs:∀k,G1 k->G k\/w.heap.size<=k):Only G w w1 :=
 ⟨h1.os.trans h.os,h1.tape.trans h.tape,h1.output.trans h.output,Nat.le_trans h.size h1.size,fun k hk hn=>(h1.block k (Nat.lt_of_lt_of_le hk h.size) (fun e=>by
  rcases hs k e with e|e
  ·exact hn e
  ·omega)).trans (h.block k hk hn)⟩
theorem Lk.small{c:aC}{fed:aj}{m:MS}{rest out:aj}{a:RD.St}(h:Lk c fed m rest out a)(hf:fed.length<=268435456):Small m/\out.length<=274877906944:=by
 obtain⟨h1,h2,h3,h4⟩:=Ov h.reach
 rw[h.fr,h.f,h.text]at *
 unfold Small
 refine⟨⟨by omega,by omega,by omega⟩,by omega⟩
theorem Lk.kind{c:aC}{fed:aj}{m:MS}{rest out:aj}{a:RD.St}(h:Lk c fed m rest out a)(h5:m.nx=5):m.kd<=2:=by
 rcases h.at' with⟨e,_⟩|⟨e,_⟩|⟨e,_⟩|⟨e,_⟩|⟨e,_⟩|⟨_,hp,p,h1,h2,h3,h4,_,h6⟩|⟨e,_⟩
 all_goals first|(exfalso;omega)|skip
 have h7:m.kd<4:=by rw[h4];exact Nat.mod_lt _ (by omega)
 omega
theorem acM(x:Fx)(G:Nat->Prop)(c:aC)(hc:nU c)(fed text out:aj)(m:MS)(a:RD.St)(S:Nat)(ss:List Value)(v6:Value)(w:World)(h:bF x G c m S ss v6 w)(hG:∀k,G k->k<w.heap.size)(hL:Lk c fed m [] out a)(hle:m.bg.length<=bQ m.nx m.bg m.kd m.nm)(hlen:(fed++text).length<=268435456)(cnt:Nat)(hcn:gX w S+3*lC m []<=cnt)(hcl:cnt+3*text.length<900000000) :
  Calls prog 41 #[.pointer (some ⟨S,0,none⟩),.string (ah text)] w (acK x G c fed text out S cnt w):=by
 have htl:text.length<=268435456:=by rw[List.length_append]at hlen;omega
 have hb0:Below w.heap.size w (w.alloc (.cells #[.pointer none,.slice none 0 0] 149)):=(Below.refl _ w).alloc (Nat.le_refl _) _
 have qx:=h.blk.lt
 replace hlen:=aA hlen
 go_enter func41,ntmps41
 go_wp2_with fail
 go_loopg[1] (leftOf m text) (fun gh tv wr=>∃(m1:MS)(rest out1:aj)(a1:RD.St)(G1:Nat->Prop)(ss1:List Value)(v61 p v:Value),gh=leftOf m1 rest/\tv=.string (ah rest)/\acL x G c fed text out S cnt w m1 rest out1 a1 G1 ss1 v61 p v wr)
 case atStart =>
  refine⟨m,text,[],a.more text,G,ss,v6,_,_,rfl,rfl,by rw[List.append_nil];exact hL.more text,hle,h.below hb0,fun k hk=>⟨.inl hk,?_⟩,lT.new w,fun e=>?_,fun k hk=>(by cases hk),aH hb0,Nat.le_refl _,?_⟩
  ·have:=hG k hk
   exact Nat.lt_of_lt_of_le this hb0.size
  ·have:=hG _ e
   omega
  ·obtain⟨M,hM,hM1,hM2,-⟩:=h.tabs
   rw[qJ h (aH (G:=fun _=>False) hb0) (fun _ _ e=>e) (h.blk.below hb0 qx) rfl,acJ]
   omega
 case round =>
  obtain⟨m1,rest,out1,a1,G1,ss1,v61,p,v,rfl,rfl,hF⟩:=hrel
  have hfl:=acj x G1 c m1 rest S ss1 v61 wr hF.str hF.len (by have:=hF.less;omega)
  replace hF:=aA hF
  go_wp2_with fail
  refine hfl.mono ?_
  rintro e w1 ⟨aF,k,m2,q,G2,ss2,v62,rfl,hk,hS2,hG2,KO,hcase⟩
  replace hcase:=aA hcase
  have hF':=hF.out
  have hB1:lT w.heap.size p v out1 w1:=hF'.Jr.only aF hF'.nb (fun k hk=>(hF'.nv k hk).1)
  have hwr:=hF'.only.size
  have hbl:=hF'.Jr.blk.lt
  have yt:∀k,G2 k->G k\/w.heap.size<=k:=fun k hk=>by
   rcases hG2 k hk with e|e
   ·exact(hF'.own k e).1
   ·exact .inr (by omega)
  have wE:¬G2 w.heap.size:=fun e=>by
   rcases hG2 _ e with e|e
   ·exact hF'.nb e
   ·omega
  have nX:∀k,v.ownBlock=some k->¬G2 k/\w.heap.size<=k:=fun k hk=>⟨fun e=>by
   rcases hG2 _ e with e|e
   ·exact(hF'.nv k hk).1 e
   ·have:=(hF'.Jr.row.blk hk).2.lt
    omega,(hF'.nv k hk).2⟩
  have QE:Only G w w1:=hF'.only.grow aF (fun k hk=>(hF'.own k hk).1)
  have hsm:=(hF'.lk.small hlen.out)
  clear hF'
  replace hsm:=aA hsm
  replace hG2:=aA hG2
  replace yt:=aA yt
  replace wE:=aA wE
  replace nX:=aA nX
  replace hS2:=aA hS2
  cases q with
  | false =>
   have hst:=Qr w.heap.size p v out1 w1 hB1
   go_wp2_with fail
   refine hst.mono ?_
   rintro e w2 ⟨rfl,hO2⟩
   go_wp2_with fail
   go_ret2
   obtain⟨h1,h2,h3⟩:=acE hF.out.lk (k:=k) (m2:=m2) hF.out.len (by
    rcases hcase.out with⟨h1,h2,⟨h3,_⟩|⟨_,h4,h5⟩⟩|⟨h1,h2,h3,h4⟩
    ·cases h3
    ·exact .inl ⟨h1,h2,h4,h5⟩
    ·exact .inr ⟨h1,h2,h3,by simpa using h4.symm⟩)
   have hS3:=(hS2.out.trim).apart hO2 (fun j _ hj=>⟨fun e=>(nX.out j hj).1 e.1,by have:=(nX.out j hj).2;omega⟩) (fun j _ hj=>b_.uy (hB1.row.blk hj).2)
   have acN:gX w2 S=gX w1 S:=qJ hS2.out hO2 (fun M hM hj=>(hB1.row.blk hj).2.o_ hM) hS3.blk rfl
   have EH:=acI (m:=m1) (rest:=rest) (m2:=m2) hk (by
    rcases hcase.out with⟨h1,h2,_⟩|⟨h1,h2,h3,h4⟩
    ·exact .inl ⟨h1,h2⟩
    ·exact .inr ⟨h1,h3⟩)
   have hfew:=hF.out.few
   refine⟨QE.grow hO2 (fun j hj=>.inr (nX.out j hj).2),hS3.vars,a1,out1,hF.out.lk.reach,hF.out.lk.text,.inl ⟨h1,rfl,m2,_,_,_,h2,h3,hS3,by rw[acN,KO];omega,fun j hj=>⟨yt.out j hj.1,Nat.lt_of_lt_of_le hj.2 hO2.size⟩⟩⟩
  | true =>
   obtain⟨r1,r2,r3,r4,r5,r6,r7⟩:=acD hF.out.lk hF.out.str.lV (k:=k) hk (m2:=m2) (by
    rcases hcase.out with⟨h1,h2,⟨_,h4⟩|⟨h3,_⟩⟩|⟨h1,h2,h3,h4⟩
    ·exact .inl ⟨h1,h2,h4⟩
    ·cases h3
    ·exact .inr ⟨h1,h2,h3,by simpa using h4.symm⟩)
   have rp:=acG hF.out.lk hF.out.str.lV (k:=k) hk (m2:=m2) (by
    rcases hcase.out with⟨h1,h2,⟨_,h4⟩|⟨h3,_⟩⟩|⟨h1,h2,h3,h4⟩
    ·exact .inl ⟨h1,h2,h4⟩
    ·cases h3
    ·exact .inr ⟨h1,h2,h3,by simpa using h4.symm⟩)
   obtain⟨ad,cc,rfl,q1,q2,q3⟩:=hS2.out.row.form
   have c6:=hS2.out.blk.cell hS2.out.bg
   have Dz:=hS2.out.blk.free
   have hconv:=fun W hW=>CB 0 w1 W _ m2.bg hS2.out.row hW
   have Uj:=hconv w1 rfl
   have xK:=hS2.out.blk.put 6 (.slice ad 0 cc)
   have bT:Only (·=S) w1 (w1.setCell ⟨S,6,none⟩ (.slice ad 0 cc)):=(Only.refl (·=S) w1).setCell ⟨S,6,none⟩ _ (fun _=>rfl)
   have hown0:(Value.slice ad 0 cc).ownBlock=(Value.slice ad m2.bg.length cc).ownBlock:=by cases ad<;>rfl
   have hS3:bF x G2 c m2.none S (ss2.set 6 (.slice ad 0 cc)) (.slice ad 0 cc) (w1.setCell ⟨S,6,none⟩ (.slice ad 0 cc)):=by
    have hh:=hS2.out
    refine hh.over (m':=m2.none) xK bT (fun j _ e=>e▸hh.bW.1) (fun j hj _=>hj) (fun j hj=>.inl hj) (by rw[List.length_set];exact hh.len) (fun j hj=>aN (by omega)) (by rw[aN (by omega)];exact hh.fr) (by rw[aN (by omega)];exact hh.bl) (by rw[aN (by omega)];exact hh.nx) (lq hh.len (by omega)) ?_ (fun j hj=>hh.bW.2 j (by rw[<- hown0];exact hj)) (by rw[aN (by omega)];exact hh.lf) (by rw[aN (by omega)];exact hh.lk) (by rw[aN (by omega)];exact hh.kd) (by rw[aN (by omega)];exact hh.nm) hh.lV ⟨hh.gZ.1,hh.gZ.2.1,by show([]:aj).length<=_;simp⟩ hh.early (fun e=>?_) (fun j hj=>?_) (hh.Ji bT (fun j _ e=>by rw[e];exact hh.noS) (fun _ j h1 h2=>aN (by omega)))
    ·have:=hh.row.take 0 (by omega)
     rw[List.take_zero]at this
     exact this.only bT (fun j hj e=>hh.ne (by rw[<- hown0];exact hj) e)
    ·obtain⟨u,W8,g1,g2,g3⟩:=hh.frame e
     exact⟨u,W8,g1.turn (fun j h1 h2=>aN (by omega)) bT (fun j hj e=>g1.ne hh.blk hj e),fun j hj=>⟨(g2 j hj).1,by rw[hown0];exact(g2 j hj).2⟩,g3⟩
    ·refine⟨Nat.lt_of_lt_of_le (hh.pure j hj).1 bT.size,?_⟩
     by_cases e:j=S
     ·rw[e];exact b_.jg xK (by decide) (by decide)
     ·exact(hh.pure j hj).2.same (bT.block j (hh.pure j hj).1 e)
   have EI:gX (w1.setCell ⟨S,6,none⟩ (.slice ad 0 cc)) S=gX wr S:=(qJ hS2.out bT (fun M hM e=>hM.ne hS2.out.blk e) xK (aN (by omega))).trans KO
   have hfew:=hF.out.few
   have hless:=hF.out.less
   have hrd:=ach x G2 c hc m2.none m2.bg S _ _ _ hS3 r1 (by
    have:=hsm.out.1
    unfold Small at this⊢
    show m2.fr<=_/\m2.f.blocks<=_/\m2.f.text.length<=_
    rw[r2,r3]
    exact this) (fun e=>by
    show m2.kd<=2
    rw[r5]
    exact hF.out.lk.kind (by rw[<- r4];exact e)) (by rw[EI];omega)
   replace hS3:=aA hS3
   have hB2:lT w.heap.size p v out1 (w1.setCell ⟨S,6,none⟩ (.slice ad 0 cc)):=hB1.only bT (fun e=>by omega) (fun j hj e=>by have:=(nX.out j hj).2;omega)
   replace r1:=aA r1
   replace r2:=aA r2
   replace r3:=aA r3
   replace r4:=aA r4
   replace r5:=aA r5
   replace r6:=aA r6
   replace r7:=aA r7
   replace rp:=aA rp
   replace EI:=aA EI
   replace hfew:=aA hfew
   have hz0:0<=cc:=Nat.zero_le _
   go_wp2_with fail
   refine hrd.mono ?_
   rintro e w2 ⟨hO2,hpost⟩
   have hB3:lT w.heap.size p v out1 w2:=hB2.only hO2 wE.out (fun j hj=>(nX.out j hj).1)
   have hs6:(w1.setCell ⟨S,6,none⟩ (.slice ad 0 cc)).heap.size=w1.heap.size:=by simp
   have QF:Only G w w2:=(QE.grow bT (fun j e=>by rw[e];exact yt.out S hS2.out.bW.1)).grow hO2 yt.out
   have hsz2:=hO2.size
   rw[hs6]at hsz2
   have hsz1:=aF.size
   cases hun:m2.none.unit c m2.bg with
   | err n =>
    rw[hun]at hpost
    obtain⟨rfl,hV2,ssE,hBE,e3,e4⟩:=hpost
    have hst:=Qr w.heap.size p v out1 w2 hB3
    replace hun:=aA hun
    go_wp2_with fail
    refine hst.mono ?_
    rintro e w3 ⟨rfl,hO3⟩
    have acQ:=hBE.only hO3 (fun e=>by have:=(nX.out S e).2;omega)
    have hft:=N9 S 146 ssE m2.none.fr m2.none.f.blocks w3 acQ e3 e4 (eF x n)
    go_wp2_with fail
    refine hft.mono ?_
    rintro e w4 ⟨rfl,hB4,hb4⟩
    go_wp2_with fail
    go_ret2
    have QG:Only G w w3:=QF.grow hO3 (fun j hj=>.inr (nX.out j hj).2)
    refine⟨QG.below hb4,(hV2.only hO3 (fun j hj=>?_)).below hb4,a1,out1,hF.out.lk.reach,hF.out.lk.text,.inr ⟨n,w3.heap.size,r6.out n hun.out,rfl,QG.size,?_⟩⟩
    ·have:=(nX.out j hj).2
     have:=h.vars.size
     omega
    ·have h1:a1.frames=m2.none.fr:=by rw[hF.out.lk.fr];exact r2.out.symm
     have h2:a1.f.blocks=m2.none.f.blocks:=by rw[hF.out.lk.f];exact congrArg _ r3.out.symm
     rw[h1,h2]
     exact hB4
   | ok m3 pc =>
    rw[hun]at hpost
    obtain⟨rfl,G3,iP,hS4,hG3,yu⟩:=hpost
    rw[EI.out]at yu
    have EH:=rp.out m3 pc hun
    replace EH:=aA EH
    replace yu:=aA yu
    obtain⟨⟨a3,t1⟩,t2,t3⟩:=r7.out m3 pc hun
    replace hun:=aA hun
    have hol:=(t1.small hlen.out).2
    rw[List.length_append,List.length_append]at hol
    have hws:=ace w.heap.size p v out1 pc w2 hB3 (by omega)
    replace t1:=aA t1
    replace t2:=aA t2
    replace t3:=aA t3
    replace hS4:=aA hS4
    go_wp2_with fail
    refine hws.mono ?_
    rintro e w3 ⟨rfl,v3,hB4,hO4,Hz⟩
    go_wp2_with fail
    go_roundg(leftOf m3 (rest.drop k))
    case rel =>
     have hnb:∀j,(j=w.heap.size\/v.ownBlock=some j)->¬G3 j/\w.heap.size<=j:=fun j hj=>by
      have hjl:j<w1.heap.size/\¬G2 j/\w.heap.size<=j:=by
       rcases hj with rfl|hj
       ·exact⟨by omega,wE.out,Nat.le_refl _⟩
       ·exact⟨(hB1.row.blk hj).2.lt,(nX.out j hj).1,(nX.out j hj).2⟩
      refine⟨fun e=>?_,hjl.2.2⟩
      rcases hG3 j e with e|e
      ·exact hjl.2.1 e
      ·rw[hs6]at e;omega
     have hnt:∀j,j<w2.heap.size->(j=w.heap.size\/v.ownBlock=some j)->b_ w2 j:=fun j _ hj=>by
      rcases hj with e|e
      ·rw[e];exact b_.jg hB3.blk (by decide) (by decide)
      ·exact b_.uy (hB3.row.blk e).2
     have acR:gX w3 S=gX w2 S:=qJ hS4.out hO4 (fun M hM hj=>by
      rcases hj with e|e
      ·exact hM.ne hB3.blk e
      ·exact(hB3.row.blk e).2.o_ hM) ((hS4.out.blk).only hO4 (fun hj=>(hnb S hj).1 hS4.out.bW.1)) rfl
     refine⟨m3,rest.drop k,out1++pc,a3,fun j=>G3 j/\j<w2.heap.size,iP,_,_,v3,rfl,rfl,by rw[<- List.append_assoc];exact t1.out,by rw[t3.out];simp,(hS4.out.trim).apart hO4 (fun j _ hj=>⟨fun e=>(hnb j hj).1 e.1,by have:=(hnb j hj).2;omega⟩) hnt,fun j hj=>⟨?_,Nat.lt_of_lt_of_le hj.2 hO4.size⟩,hB4,fun e=>(hnb _ (.inl rfl)).1 e.1,fun j hj=>?_,QF.grow hO4 (fun j hj=>.inr (hnb j hj).2),?_,?_⟩
     ·rcases hG3 j hj.1 with e|e
      ·exact yt.out j e
      ·rw[hs6]at e;exact .inr (by omega)
     ·rcases Hz with e|e
      ·have:=hnb j (.inr (e.symm.trans hj))
       exact⟨fun e=>this.1 e.1,this.2⟩
      ·rw[e]at hj
       injection hj with hj
       exact⟨fun e=>by omega,by omega⟩
     ·have:=hF.out.less
      rw[List.length_drop]
      omega
     ·have h1:=yu.out
      have h2:=EH.out
      have h3:=hfew.out
      rw[acR]
      omega
    case measure=>exact t2.out
end Go.Proofs.YtbhemchnjpajiaaGreatDoor
