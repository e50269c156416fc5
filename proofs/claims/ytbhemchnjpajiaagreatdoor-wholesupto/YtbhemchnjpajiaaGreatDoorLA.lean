/- Several texts in one: QMem, QRead, QRd3. -/
import Derived.Test.YtbhemchnjpajiaaGreatDoorJK
import Derived.Test.YtbhemchnjpajiaaGreatDoorKL
import Derived.Test.YtbhemchnjpajiaaGreatDoorKY
set_option linter.unusedVariables false
set_option maxRecDepth 100000
set_option maxHeartbeats 2000000
namespace Go.Proofs.YtbhemchnjpajiaaGreatDoor
open Go.RowKit Go.Proofs.Tryz RD
def eF(x:Fx)(e:Nat):Addr:=if e=4 then x.f else if e=5 then x.l else if e=6 then x.d else if e=8 then x.u else if e=7 then x.s else x.e
structure jG(f:RD.Fr)(ss:List Value)(v:Value)(W8:aj)(w:World):Prop where
 summed:ss[8]?=some (.bool f.summed)
 sized:ss[9]?=some (.bool (decide (0<=f.size)))
 size:∃n:Nat,ss[10]?=some (.int .i64 n)/\(0<=f.size->(n:Int)=f.size)/\n<=16777216
 len:ss[11]?=some (.int .i64 (f.text.length:Nat))
 sum:f.summed=true->∀j,j<6->ss[12+j]?=(iZ (ah f.text))[j]?
 win:ss[29]?=some (.int .i64 (f.window:Nat))
 bytes:ss[30]?=some v
 row:aT 0 w v W8
 tail:∃p,f.dict++f.text=p++W8/\(p=[]\/f.window<=W8.length)
 small:W8.length<=1048576/\0<f.window/\f.window<=1048576
theorem jG.turn{f:RD.Fr}{ss ss':List Value}{v:Value}{W8:aj}{w w':World}{G:Nat->Prop}(h:jG f ss v W8 w)(hs:∀j,8<=j->j<31->ss'[j]?=ss[j]?)(ho:Only G w w')(hv:∀k,v.ownBlock=some k->¬G k):jG f ss' v W8 w':=by
 obtain⟨n,h1,h2⟩:=h.size
 exact⟨by rw[hs 8 (by omega) (by omega)];exact h.summed,by rw[hs 9 (by omega) (by omega)];exact h.sized,⟨n,by rw[hs 10 (by omega) (by omega)];exact h1,h2⟩,by rw[hs 11 (by omega) (by omega)];exact h.len,
  fun e j hj=>by rw[hs (12+j) (by omega) (by omega)];exact h.sum e j hj,by rw[hs 29 (by omega) (by omega)];exact h.win,by rw[hs 30 (by omega) (by omega)];exact h.bytes,h.row.only ho hv,h.tail,h.small⟩
theorem Jf(s:ByteArray):(iZ s).length=6:=rfl
theorem parted{ss cs:List Value}(hl:ss.length=34)(hc:cs.length=6)(h:∀j,j<6->ss[12+j]?=cs[j]?):ss=ss.take 12++(cs++ss.drop 18)/\(ss.take 12).length=12:=by
 refine⟨?_,by rw[List.length_take];omega⟩
 apply List.ext_getElem?
 intro i
 by_cases h1:i<12
 ·rw[List.getElem?_append_left (by rw[List.length_take];omega),List.getElem?_take,if_pos h1]
 ·by_cases h2:i<18
  ·rw[List.getElem?_append_right (by rw[List.length_take];omega),List.length_take,Nat.min_eq_left (by omega),List.getElem?_append_left (by omega),<- h (i-12) (by omega),show 12+(i-12)=i by omega]
  ·rw[List.getElem?_append_right (by rw[List.length_take];omega),List.length_take,Nat.min_eq_left (by omega),List.getElem?_append_right (by omega),hc,List.getElem?_drop,show 18+(i-12-6)=i by omega]
theorem abH{ss cs post:List Value}(hl:ss.length=34)(hc:cs.length=6)(post':List Value)(e:post'=ss.drop 18):(∀j,j<6->(ss.take 12++(cs++post'))[12+j]?=cs[j]?)/\(∀j,j<12\/18<=j->(ss.take 12++(cs++post'))[j]?=ss[j]?)/\(ss.take 12++(cs++post')).length=34:=by
 subst e
 have h12:(ss.take 12).length=12:=by rw[List.length_take];omega
 refine⟨fun j hj=>?_,fun j hj=>?_,by rw[List.length_append,List.length_append,h12,hc,List.length_drop];omega⟩
 ·rw[List.getElem?_append_right (by omega),h12,Nat.add_sub_cancel_left,List.getElem?_append_left (by omega)]
 ·rcases hj with hj|hj
  ·rw[List.getElem?_append_left (by omega),List.getElem?_take,if_pos hj]
  ·rw[List.getElem?_append_right (by omega),h12,List.getElem?_append_right (by omega),hc,List.getElem?_drop,show 18+(j-12-6)=j by omega]
def bK(w:World)(M:Nat):Nat:=match w.heap[M]? with
 | some (.map es _)=>es.size
 | _=>0
theorem bP.self{w:World}{M n:Nat}(h:bP w M n):bP w M (bK w M)/\bK w M<=n:=by
 obtain⟨es,clock,h1,h2,h3,h4⟩:=h
 have e:bK w M=es.size:=by unfold bK;rw[h1]
 rw[e]
 exact⟨⟨es,clock,h1,h2,Nat.le_refl _,h4⟩,h3⟩
theorem wB{G:Nat->Prop}{w w':World}{M:Nat}(ho:Only G w w')(hM:M<w.heap.size)(hn:¬G M):bK w' M=bK w M:=by
 unfold bK
 rw[ho.block M hM hn]
def b_(w:World)(k:Nat):Prop:=(∀xs,¬aB w k 226 xs)/\∀xs,¬aB w k 288 xs
theorem b_.jg{w:World}{k:Nat}{t:TypeId}{ys:List Value}(h:aB w k t ys)(h1:t≠226)(h2:t≠288):b_ w k :=
 ⟨fun xs e=>e.apart h (fun e=>h1 e.symm) rfl,fun xs e=>e.apart h (fun e=>h2 e.symm) rfl⟩
theorem b_.uy{w:World}{k:Nat}(h:U8 w k):b_ w k:=⟨fun xs e=>h.ne e (by decide) rfl,fun xs e=>h.ne e (by decide) rfl⟩
theorem b_.of_map{w:World}{M n:Nat}(h:bP w M n):b_ w M:=⟨fun xs e=>h.ne e rfl,fun xs e=>h.ne e rfl⟩
theorem b_.same{w w':World}{k:Nat}(h:b_ w k)(he:w'.heap[k]?=w.heap[k]?):b_ w' k:=by
 refine⟨fun xs e=>h.1 xs ?_,fun xs e=>h.2 xs ?_⟩<;>(unfold aB at e⊢;rw[<- he];exact e)
theorem gY.carry{G:Nat->Prop}{w w':World}{ss ss':List Value}{M n:Nat}{f:RD.Fr}(h:gY w ss 8 M n f)(hs:∀j,18<=j->j<29->ss'[j]?=ss[j]?)(ho:Only G w w')(hM:¬G M)(hG:∀k,k<w.heap.size->G k->b_ w k):gY w' ss' 8 M n f:=by
 have h1:=h.only ho hM (fun b xs hb e=>(hG b hb.lt e).1 xs hb) (fun b xs hb e=>(hG b hb.lt e).2 xs hb)
 obtain⟨lv,l1,l2⟩:=h1.lit
 obtain⟨a,b,c,q1,q2,q3,q4,q5⟩:=h1.last
 exact⟨⟨lv,by rw[hs _ (by omega) (by omega)];exact l1,l2⟩,by rw[hs _ (by omega) (by omega)];exact h1.map,h1.tabs,h1.seq.cells (fun j e1 e2=>hs j (by omega) (by omega)),h1.fine,⟨a,b,c,q1,q2,by rw[hs _ (by omega) (by omega)];exact q3,by rw[hs _ (by omega) (by omega)];exact q4,by rw[hs _ (by omega) (by omega)];exact q5⟩⟩
def DB(w:World)(k:Nat):Prop:=∃cur fz,w.heap[k]?=some (.cells cur 65 fz)
theorem DB.lt{w:World}{k:Nat}(h:DB w k):k<w.heap.size:=by
 obtain⟨cur,fz,h⟩:=h
 exact(Array.getElem?_eq_some_iff.1 h).1
theorem DB.only{G:Nat->Prop}{w w':World}{k:Nat}(h:DB w k)(ho:Only G w w')(hn:¬G k):DB w' k:=by
 obtain⟨cur,fz,e⟩:=id h
 exact⟨cur,fz,(ho.block k h.lt hn).trans e⟩
structure bF(x:Fx)(G:Nat->Prop)(c:aC)(m:MS)(S:Nat)(ss:List Value)(v6:Value)(w:World):Prop where
 blk:aB w S 146 ss
 len:ss.length=34
 lim:ss[0]?=some (.int .i64 c.limit)
 wX:∃v,ss[1]?=some v/\lJ w v c.aP/\∀k,v.ownBlock=some k->¬G k/\k<S/\DB w k
 tabs:∃M,ss[2]?=some (.map (some M))/\G M/\bP w M (bK w M)/\(4<=m.nx->gY w ss 8 M (bK w M) m.f)
 pure:∀k,G k->k<w.heap.size/\b_ w k
 fr:ss[3]?=some (.int .i64 (m.fr:Nat))
 bl:ss[4]?=some (.int .i64 (m.f.blocks:Nat))
 nx:ss[5]?=some (.int .i64 (m.nx:Nat))
 bg:ss[6]?=some v6
 row:aT 0 w v6 m.bg
 lf:ss[7]?=some (.int .i64 (m.lf:Nat))
 lk:ss[31]?=some (.bool m.lk)
 kd:ss[32]?=some (.int .i64 (m.kd:Nat))
 nm:ss[33]?=some (.int .i64 (m.nm:Nat))
 lV:m.nx<7
 gZ:m.nm<=1024/\m.lf<=1099511627776/\m.bg.length<=1048576
 bW:G S/\∀k,v6.ownBlock=some k->G k
 vars:bI x w
 base:∀k,G k->x.base<=k
 early:m.nx<4->m.f.blocks=0
 frame:4<=m.nx->∃v W8,jG m.f ss v W8 w/\(∀k,v.ownBlock=some k->G k/\v6.ownBlock≠some k)/\(m.nx=6->m.f.summed=true)
structure nU(c:aC):Prop where
 lim:64<=c.limit/\c.limit<=8192
 few:c.aP.length<=4
 text:∀d∈c.aP,1<=d.2.length/\d.2.length<=256
 ids:(c.aP.map (·.1)).Nodup
theorem bF.ne{x:Fx}{G:Nat->Prop}{c:aC}{m:MS}{S:Nat}{ss:List Value}{v6:Value}{w:World}(h:bF x G c m S ss v6 w){k:Nat}(hk:v6.ownBlock=some k):k≠S:=(h.row.blk hk).2.ne h.blk (by decide)
theorem jG.ne{f:RD.Fr}{ss:List Value}{v:Value}{W8:aj}{w:World}(h:jG f ss v W8 w){S:Nat}{cs:List Value}(hb:aB w S 146 cs){k:Nat}(hk:v.ownBlock=some k):k≠S:=(h.row.blk hk).2.ne hb (by decide)
theorem bF.turn{x:Fx}{G:Nat->Prop}{c:aC}{m m':MS}{S:Nat}{ss ss':List Value}{v6:Value}{w w':World}(h:bF x G c m S ss v6 w)(hb:aB w' S 146 ss')(hO:Only (·=S) w w')(hl:ss'.length=34)
  (k0:∀j,j<3->ss'[j]?=ss[j]?) (k3:ss'[3]?=some (.int .i64 (m'.fr:Nat))) (k4:ss'[4]?=some (.int .i64 (m'.f.blocks:Nat))) (k5:ss'[5]?=some (.int .i64 (m'.nx:Nat))) (k6:ss'[6]?=ss[6]?) (hbg:m'.bg=m.bg) (k7:ss'[7]?=some (.int .i64 (m'.lf:Nat)))
  (k31:ss'[31]?=some (.bool m'.lk)) (k32:ss'[32]?=some (.int .i64 (m'.kd:Nat))) (k33:ss'[33]?=some (.int .i64 (m'.nm:Nat))) (h7:m'.nx<7) (hn:m'.nm<=1024/\m'.lf<=1099511627776) (he:m'.nx<4->m'.f.blocks=0)
  (hf:4<=m'.nx->∃v W8,jG m'.f ss' v W8 w'/\(∀k,v.ownBlock=some k->G k/\v6.ownBlock≠some k)/\(m'.nx=6->m'.f.summed=true))
  (hpk:4<=m'.nx->4<=m.nx/\m'.f=m.f/\∀j,18<=j->j<29->ss'[j]?=ss[j]?):bF x G c m' S ss' v6 w':=by
 obtain⟨v,d1,d2,d3⟩:=h.wX
 obtain⟨M,hM,hM1,hM2,gK⟩:=h.tabs
 have uz:¬M=S:=fun e=>hM2.ne h.blk e
 have Qg:∀k,k<w.heap.size->k=S->b_ w k:=fun k _ e=>by rw[e];exact b_.jg h.blk (by decide) (by decide)
 have hN:bK w' M=bK w M:=wB hO hM2.lt uz
 have htab:bP w' M (bK w' M):=by rw[hN];exact hM2.only hO uz (fun b xs hb e=>(Qg b hb.lt e).1 xs hb)
 have hpk':4<=m'.nx->gY w' ss' 8 M (bK w' M) m'.f:=fun e=>by
  obtain⟨e1,e2,e3⟩:=hpk e
  rw[hN,e2]
  exact(gK e1).carry e3 hO uz Qg
 have hpure:∀k,G k->k<w'.heap.size/\b_ w' k:=fun k hk=>by
  refine⟨Nat.lt_of_lt_of_le (h.pure k hk).1 hO.size,?_⟩
  by_cases e:k=S
  ·rw[e];exact b_.jg hb (by decide) (by decide)
  ·exact(h.pure k hk).2.same (hO.block k (h.pure k hk).1 e)
 exact⟨hb,hl,by rw[k0 0 (by omega)];exact h.lim,⟨v,by rw[k0 1 (by omega)];exact d1,d2.only hO (fun k hk e=>(d3 k hk).1 (e▸h.bW.1)),fun k hk=>⟨(d3 k hk).1,(d3 k hk).2.1,(d3 k hk).2.2.only hO (fun e=>(d3 k hk).1 (e▸h.bW.1))⟩⟩,⟨M,by rw[k0 2 (by omega)];exact hM,hM1,htab,hpk'⟩,hpure,k3,k4,k5,by rw[k6];exact h.bg,
  by rw[hbg];exact h.row.only hO (fun k hk e=>h.ne hk e),k7,k31,k32,k33,h7,⟨hn.1,hn.2,by rw[hbg];exact h.gZ.2.2⟩,h.bW,h.vars.only hO (fun k e=>e▸h.base S h.bW.1),h.base,he,hf⟩
theorem bF.apart{x:Fx}{G K:Nat->Prop}{c:aC}{m:MS}{S:Nat}{ss:List Value}{v6:Value}{w w':World}(h:bF x G c m S ss v6 w)(hO:Only K w w')(hK:∀k,k<w.heap.size->K k->¬G k/\S<k)(hK2:∀k,k<w.heap.size->K k->b_ w k):bF x G c m S ss v6 w':=by
 obtain⟨v,d1,d2,d3⟩:=h.wX
 obtain⟨M,hM,hM1,hM2,gK⟩:=h.tabs
 have qx:=h.blk.lt
 have hS:¬K S:=fun e=>(hK S qx e).1 h.bW.1
 have hdb:∀k,v.ownBlock=some k->¬(k<w.heap.size/\K k):=fun k hk e=>by have:=(hK k e.1 e.2).2;have:=(d3 k hk).2.1;omega
 have fQ:Only (fun k=>k<w.heap.size/\K k) w w':=⟨hO.os,hO.tape,hO.output,hO.size,fun k hk hn=>hO.block k hk (fun e=>hn ⟨hk,e⟩)⟩
 have lS:¬(M<w.heap.size/\K M):=fun e=>(hK M e.1 e.2).1 hM1
 have hN:bK w' M=bK w M:=wB fQ hM2.lt lS
 have hK3:∀k,k<w.heap.size->(k<w.heap.size/\K k)->b_ w k:=fun k hk e=>hK2 k hk e.2
 have Qh:∃M,ss[2]?=some (.map (some M))/\G M/\bP w' M (bK w' M)/\(4<=m.nx->gY w' ss 8 M (bK w' M) m.f):=by
  refine⟨M,hM,hM1,by rw[hN];exact hM2.only fQ lS (fun b xs hb e=>(hK3 b hb.lt e).1 xs hb),fun e=>?_⟩
  rw[hN]
  exact(gK e).carry (fun _ _ _=>rfl) fQ lS hK3
 have hpure:∀k,G k->k<w'.heap.size/\b_ w' k:=fun k hk=>⟨Nat.lt_of_lt_of_le (h.pure k hk).1 hO.size,(h.pure k hk).2.same (hO.block k (h.pure k hk).1 (fun e=>(hK k (h.pure k hk).1 e).1 hk))⟩
 refine⟨h.blk.only hO hS,h.len,h.lim,⟨v,d1,d2.only fQ hdb,fun k hk=>⟨(d3 k hk).1,(d3 k hk).2.1,(d3 k hk).2.2.only fQ (hdb k hk)⟩⟩,Qh,hpure,h.fr,h.bl,h.nx,h.bg,h.row.only fQ (fun k hk e=>(hK k e.1 e.2).1 (h.bW.2 k hk)),h.lf,h.lk,h.kd,h.nm,h.lV,h.gZ,h.bW,h.vars.only fQ (fun k e=>by have:=(hK k e.1 e.2).2;have:=h.base S h.bW.1;omega),h.base,h.early,fun e=>?_⟩
 obtain⟨u,W8,h1,h2,h6⟩:=h.frame e
 exact⟨u,W8,h1.turn (fun _ _ _=>rfl) fQ (fun k hk e=>(hK k e.1 e.2).1 (h2 k hk).1),h2,h6⟩
theorem bF.below{x:Fx}{G:Nat->Prop}{c:aC}{m:MS}{S:Nat}{ss:List Value}{v6:Value}{w w':World}(h:bF x G c m S ss v6 w)(hb:Below w.heap.size w w'):bF x G c m S ss v6 w' :=
 h.apart (K:=fun _=>False) (aH hb) (fun _ _ e=>e.elim) (fun _ _ e=>e.elim)
theorem bF.un{x:Fx}{G:Nat->Prop}{c:aC}{m:MS}{S:Nat}{ss:List Value}{v6:Value}{w:World}(h:bF x G c m S ss v6 w):Hf 0 S 146 ss m.nx v6 m.bg m.lk m.kd m.nm w :=
 ⟨h.blk,h.nx,h.bg,h.row,h.lk,h.kd,h.nm,h.lV,h.gZ.2.2,by have:=h.gZ.1;omega⟩
section
attribute [local irreducible] dw
def gX(w:World)(S:Nat):Nat:=match w.cell? ⟨S,2,none⟩with
 | some (.map (some M))=>bK w M
 | _=>0
theorem wC{w:World}{S M:Nat}{t:TypeId}{ss:List Value}(h:aB w S t ss)(hM:ss[2]?=some (.map (some M))):gX w S=bK w M:=by
 unfold gX
 rw[h.cell hM]
theorem qJ{x:Fx}{G K:Nat->Prop}{c:aC}{m:MS}{S:Nat}{ss ss':List Value}{v6:Value}{w w':World}(h:bF x G c m S ss v6 w)(ho:Only K w w')(hK:∀M,bP w M (bK w M)->¬K M)(hb:aB w' S 146 ss')(k2:ss'[2]?=ss[2]?):gX w' S=gX w S:=by
 obtain⟨M,h1,h2,h3,-⟩:=h.tabs
 rw[wC h.blk h1,wC hb (k2.trans h1)]
 exact wB ho h3.lt (hK M h3)
def eY(x:Fx)(G:Nat->Prop)(c:aC)(m:MS)(b:aj)(S:Nat)(v6:Value)(w:World)(e:Ending)(w':World):Prop :=
 Only G w w'/\match m.unit c b with
  | .err n=>e=.returned (.tuple #[.string ⟨#[]⟩,aW (eF x n)])/\bI x w'/\∃ss',aB w' S 146 ss'/\ss'[3]?=some (.int .i64 (m.fr:Nat))/\ss'[4]?=some (.int .i64 (m.f.blocks:Nat))
  | .ok m' p=>e=.returned (.tuple #[.string (ah p),.nilIface])/\∃G' ss',bF x G' c m' S ss' v6 w'/\(∀k,G' k->G k\/w.heap.size<=k)/\gX w' S<=gX w S+3
theorem eY.bad{x:Fx}{G:Nat->Prop}{c:aC}{m:MS}{b:aj}{S:Nat}{ss:List Value}{v6:Value}{w w':World}{n:Nat}(h:bF x G c m S ss v6 w)(hu:m.unit c b=.err n)(hb:Below w.heap.size w w'):eY x G c m b S v6 w (.returned (.tuple #[.string ⟨#[]⟩,aW (eF x n)])) w':=by
 refine⟨aH hb,?_⟩
 rw[hu]
 exact⟨rfl,h.vars.below hb,ss,h.blk.below hb h.blk.lt,h.fr,h.bl⟩
theorem eY.good{x:Fx}{G:Nat->Prop}{c:aC}{m m':MS}{b p:aj}{S:Nat}{ss ss':List Value}{v6:Value}{w w':World}(h:bF x G c m S ss v6 w)(hu:m.unit c b=.ok m' p)(ho:Only (·=S) w w')(h':bF x G c m' S ss' v6 w')(k2:ss'[2]?=ss[2]?):eY x G c m b S v6 w (.returned (.tuple #[.string (ah p),.nilIface])) w':=by
 refine⟨ho.weaken (fun k _ e=>e▸h.bW.1),?_⟩
 rw[hu]
 exact⟨rfl,G,ss',h',fun k hk=>.inl hk,by rw[qJ h ho (fun M hM e=>hM.ne h.blk e) h'.blk k2];omega⟩
theorem aN{ss:List Value}{i j:Nat}{v:Value}(h:i≠j):(ss.set i v)[j]?=ss[j]?:=List.getElem?_set_ne h
theorem lq{ss:List Value}{i:Nat}{v:Value}(hl:ss.length=34)(h:i<34):(ss.set i v)[i]?=some v:=List.getElem?_set_self (by omega)
theorem bF.next{x:Fx}{G:Nat->Prop}{c:aC}{m:MS}{S:Nat}{ss:List Value}{v6:Value}{w w':World}(h:bF x G c m S ss v6 w)(n:Nat)(hb:aB w' S 146 (ss.set 5 (.int .i64 (n:Nat))))(hO:Only (·=S) w w')(h4:n<4)(h0:m.nx<4) :
  bF x G c { m with nx:=n } S (ss.set 5 (.int .i64 (n:Nat))) v6 w':=by
 refine h.turn hb hO (by rw[List.length_set];exact h.len) (fun j hj=>aN (by omega)) (by rw[aN (by omega)];exact h.fr) (by rw[aN (by omega)];exact h.bl) (lq h.len (by omega)) (aN (by omega)) rfl (by rw[aN (by omega)];exact h.lf)
  (by rw[aN (by omega)];exact h.lk) (by rw[aN (by omega)];exact h.kd) (by rw[aN (by omega)];exact h.nm) (by show n<7;omega) ⟨h.gZ.1,h.gZ.2.1⟩ (fun _=>h.early h0) (fun e=>?_) (fun e=>?_)
 all_goals
  have:4<=n:=e
  omega
theorem Jg{ss:List Value}(hl:ss.length=34)(fr:Nat):(ku ss fr).length=34/\(∀j,j<3\/(5<j/\j<8)\/30<j->(ku ss fr)[j]?=ss[j]?)/\(ku ss fr)[3]?=some (.int .i64 ((fr+1:Nat):Int))/\(ku ss fr)[4]?=some (.int .i64 ((0:Nat):Int))/\(ku ss fr)[5]?=some (.int .i64 ((0:Nat):Int)):=by
 have hz:bY.length=23:=rfl
 have h1:(dw ss 8 bY).length=34:=by rw[tZ];exact hl
 refine⟨by simp[ku,h1],fun j hj=>?_,?_,?_,?_⟩
 ·unfold ku
  rw[aN (by omega),aN (by omega),aN (by omega),kR _ _ _ _ (by omega)]
 ·unfold ku
  rw[aN (by omega),aN (by omega),lq h1 (by omega)]
  rfl
 ·unfold ku
  rw[aN (by omega),lq (by rw[List.length_set];exact h1) (by omega)]
  rfl
 ·unfold ku
  rw[lq (by rw[List.length_set,List.length_set];exact h1) (by omega)]
  rfl
theorem bF.ended{x:Fx}{G:Nat->Prop}{c:aC}{m:MS}{S:Nat}{ss:List Value}{v6:Value}{w w':World}(h:bF x G c m S ss v6 w)(hb:aB w' S 146 (ku ss m.fr))(hO:Only (·=S) w w'):bF x G c m.ended S (ku ss m.fr) v6 w':=by
 obtain⟨e1,e2,e3,e4,e5⟩:=Jg h.len m.fr
 exact h.turn hb hO e1 (fun j hj=>e2 j (.inl hj)) e3 e4 e5 (e2 6 (by omega)) rfl (by rw[e2 7 (by omega)];exact h.lf) (by rw[e2 31 (by omega)];exact h.lk) (by rw[e2 32 (by omega)];exact h.kd) (by rw[e2 33 (by omega)];exact h.nm)
  (by show 0<7;omega) ⟨h.gZ.1,h.gZ.2.1⟩ (fun _=>rfl) (fun e=>by have:4<=0:=e;omega) (fun e=>by have:4<=0:=e;omega)
theorem Qi{ss:List Value}(hl:ss.length=34)(n:Nat):(ku ss n)[2]?=ss[2]?:=(Jg hl n).2.1 2 (.inl (by omega))
theorem abI(x:Fx)(G:Nat->Prop)(c:aC)(m:MS)(b:aj)(S:Nat)(ss:List Value)(v6:Value)(w:World)(h:bF x G c m S ss v6 w)(h0:m.nx=0) :
  Calls prog 58 #[.pointer (some ⟨S,0,none⟩),.string (ah b)] w (eY x G c m b S v6 w):=by
 have c5:=h.blk.cell h.nx
 have hp:=Yk x S 146 ss b w h.blk _ h.nx h.vars
 rw[h0]at c5
 have hu:m.unit c b=if b=fJ then .ok { m with nx:=1 } []else if b=iH then .ok { m with nx:=3 } []else .err 4:=by unfold MS.unit;rw[if_pos h0]
 replace hu:=aA hu
 replace h0:=aA h0
 go_enter func58,ntmps58
 go_wp2_with fail
 refine hp.mono ?_
 rintro e w1 (⟨hb,rfl,hB,hO⟩|⟨hb,rfl,hB,hO⟩|⟨h1,h2,rfl,hbl⟩)
 ·go_wp2_with fail
  go_ret2
  exact eY.good h (by rw[hu.out,if_pos hb]) hO (h.next 1 hB hO (by omega) (by have:=h0.out;omega)) (aN (by omega))
 ·go_wp2_with fail
  go_ret2
  exact eY.good h (by rw[hu.out,if_neg (by rw[hb];decide),if_pos hb]) hO (h.next 3 hB hO (by omega) (by have:=h0.out;omega)) (aN (by omega))
 ·go_wp2_with fail
  go_ret2
  exact eY.bad (n:=4) h (by rw[hu.out,if_neg h1,if_neg h2]) hbl
theorem abJ(x:Fx)(G:Nat->Prop)(c:aC)(m:MS)(b:aj)(S:Nat)(ss:List Value)(v6:Value)(w:World)(h:bF x G c m S ss v6 w)(h0:m.nx=1)(hb:b.length=3) :
  Calls prog 58 #[.pointer (some ⟨S,0,none⟩),.string (ah b)] w (eY x G c m b S v6 w):=by
 have c5:=h.blk.cell h.nx
 have c7:=h.blk.cell h.lf
 have fz:=h.blk.free
 rw[h0]at c5
 have hu:m.unit c b=.ok { m with nx:=2,lf:=au b } []:=by unfold MS.unit;rw[if_neg (by omega),if_pos h0]
 have hn:=snum_any b w (by omega)
 have zW:=zA b 3 (by omega)
 rw[List.take_of_length_le (by omega)]at zW
 obtain⟨N,hN⟩:∃N,N=au b:=⟨_,rfl⟩
 rw[<- hN]at hn zW hu
 replace hu:=aA hu
 replace h0:=aA h0
 replace hN:=aA hN
 go_enter func58,ntmps58
 go_wp2_with fail
 refine hn.mono ?_
 rintro e w1 ⟨rfl,rfl⟩
 go_wp2_with fail
 go_ret2
 have hB:=(h.blk.put 7 (.int .i64 (N:Nat))).put 5 (.int .i64 ((2:Nat):Int))
 have hO:Only (·=S) w1 ((w1.setCell ⟨S,7,none⟩ (.int .i64 (N:Nat))).setCell ⟨S,5,none⟩ (.int .i64 ((2:Nat):Int))):=((Only.refl (·=S) w1).setCell ⟨S,7,none⟩ _ (fun _=>rfl)).setCell ⟨S,5,none⟩ _ (fun _=>rfl)
 refine eY.good h hu.out hO (h.turn hB hO (by rw[List.length_set,List.length_set];exact h.len) (fun j hj=>by rw[aN (by omega),aN (by omega)]) (by rw[aN (by omega),aN (by omega)];exact h.fr) (by rw[aN (by omega),aN (by omega)];exact h.bl) (lq (by rw[List.length_set];exact h.len) (by omega))
  (by rw[aN (by omega),aN (by omega)]) rfl (by rw[aN (by omega),lq h.len (by omega)]) (by rw[aN (by omega),aN (by omega)];exact h.lk) (by rw[aN (by omega),aN (by omega)];exact h.kd) (by rw[aN (by omega),aN (by omega)];exact h.nm) (by show 2<7;omega) ⟨h.gZ.1,?_⟩ (fun _=>h.early (by have:=h0.out;omega)) (fun e=>?_) (fun e=>?_)) (by rw[aN (by omega),aN (by omega)])
 ·show N<=_;omega
 all_goals
  have:4<=2:=e
  omega
theorem abK(x:Fx)(G:Nat->Prop)(c:aC)(m:MS)(b:aj)(S:Nat)(ss:List Value)(v6:Value)(w:World)(h:bF x G c m S ss v6 w)(h0:m.nx=2)(hf:m.fr<=1099511627776) :
  Calls prog 58 #[.pointer (some ⟨S,0,none⟩),.string (ah b)] w (eY x G c m b S v6 w):=by
 have c5:=h.blk.cell h.nx
 have hp:=Ho S 146 ss m.fr w h.blk h.len h.fr hf
 rw[h0]at c5
 have hu:m.unit c b=.ok m.ended []:=by unfold MS.unit;rw[if_neg (by omega),if_neg (by omega),if_pos h0]
 replace hu:=aA hu
 replace h0:=aA h0
 go_enter func58,ntmps58
 go_wp2_with fail
 refine hp.mono ?_
 rintro e w1 ⟨rfl,hB,hO⟩
 go_wp2_with fail
 go_ret2
 exact eY.good h hu.out hO (h.ended hB hO) (Qi h.len _)
theorem abL(x:Fx)(G:Nat->Prop)(c:aC)(m:MS)(b:aj)(S:Nat)(ss:List Value)(v6:Value)(w:World)(h:bF x G c m S ss v6 w)(h0:m.nx=4)(hb:b.length=2) :
  Calls prog 58 #[.pointer (some ⟨S,0,none⟩),.string (ah b)] w (eY x G c m b S v6 w):=by
 have c5:=h.blk.cell h.nx
 have hp:=Ym x S 146 ss b w h.blk h.len hb h.vars
 rw[h0]at c5
 have hu:m.unit c b=if au b/2%4=3\/1024<au b/8 then .err 4 else .ok { m with nx:=5,lk:=decide (au b%2=1),kd:=au b/2%4,nm:=au b/8 } []:=by unfold MS.unit;rw[if_neg (by omega),if_neg (by omega),if_neg (by omega),if_neg (by omega),if_pos h0]
 have h4:4<=m.nx:=by omega
 replace hu:=aA hu
 replace h0:=aA h0
 replace h4:=aA h4
 go_enter func58,ntmps58
 go_wp2_with fail
 refine hp.mono ?_
 rintro e w1 (⟨hbad,rfl,hbl⟩|⟨hgood,rfl,hB,hO⟩)
 ·go_wp2_with fail
  go_ret2
  exact eY.bad (n:=4) h (by rw[hu.out,if_pos hbad]) hbl
 ·go_wp2_with fail
  go_ret2
  generalize au b=N at *
  have hL:(dw ss 31 [.bool (decide (N%2=1)),.int .i64 ((N/2%4:Nat)),.int .i64 ((N/8:Nat))]).length=34:=by rw[tZ];exact h.len
  have hin:=fun j hj=>t_ [.bool (decide (N%2=1)),.int .i64 ((N/2%4:Nat)),.int .i64 ((N/8:Nat))] ss 31 j (by rw[h.len];show 31+3<=34;omega) hj
  have hout:∀j,j<31->(dw ss 31 [.bool (decide (N%2=1)),.int .i64 ((N/2%4:Nat)),.int .i64 ((N/8:Nat))])[j]?=ss[j]?:=fun j hj=>kR _ _ _ _ (.inl hj)
  refine eY.good (m':={ m with nx:=5,lk:=decide (N%2=1),kd:=N/2%4,nm:=N/8 }) h (by rw[hu.out,if_neg hgood]) hO (h.turn hB hO (by rw[List.length_set];exact hL) (fun j hj=>by rw[aN (by omega),hout j (by omega)]) (by rw[aN (by omega),hout _ (by omega)];exact h.fr) (by rw[aN (by omega),hout _ (by omega)];exact h.bl) (lq hL (by omega))
   (by rw[aN (by omega),hout _ (by omega)]) rfl (by rw[aN (by omega),hout _ (by omega)];exact h.lf) (by rw[aN (by omega)];exact hin 0 (by simp)) (by rw[aN (by omega)];exact hin 1 (by simp)) (by rw[aN (by omega)];exact hin 2 (by simp)) (by show 5<7;omega) ⟨?_,h.gZ.2.1⟩ (fun e=>by have:5<4:=e;omega) (fun e=>?_) (fun _=>⟨h4.out,rfl,fun j _ hj=>by rw[aN (by omega),hout j (by omega)]⟩)) (by rw[aN (by omega),hout _ (by omega)])
  ·show N/8<=1024
   omega
  ·obtain⟨v,W8,h1,h2,-⟩:=h.frame h4.out
   exact⟨v,W8,h1.turn (fun j _ hj=>by rw[aN (by omega),hout j hj]) hO (fun k hk e=>h1.ne h.blk hk e),h2,fun e=>by cases e⟩
theorem abM(x:Fx)(G:Nat->Prop)(c:aC)(m:MS)(b:aj)(S:Nat)(ss:List Value)(v6:Value)(w:World)(h:bF x G c m S ss v6 w)(h0:m.nx=6)(hb:b.length=4)(hf:m.fr<=1099511627776)(ht:m.f.text.length<=1099511627776) :
  Calls prog 58 #[.pointer (some ⟨S,0,none⟩),.string (ah b)] w (eY x G c m b S v6 w):=by
 have c5:=h.blk.cell h.nx
 obtain⟨v,W8,h1,h2,h6⟩:=h.frame (by omega)
 have hsm:=h6 h0
 obtain⟨hpart,h12⟩:=parted h.len (Jf _) (h1.sum hsm)
 have hp:=Yo x S 146 (ss.take 12) (ss.drop 18) m.fr m.f.text b w (by rw[<- hpart];exact h.blk) h12 (by rw[<- hpart];exact h.len) (by rw[<- hpart];exact h.fr) hf hb ht h.vars
 rw[<- hpart]at hp
 clear hpart
 rw[h0]at c5
 have hu:m.unit c b=if(au b:Int)≠SM.sum m.f.text then .err 8 else .ok m.ended []:=by unfold MS.unit;rw[if_neg (by omega),if_neg (by omega),if_neg (by omega),if_neg (by omega),if_neg (by omega),if_neg (by omega)]
 replace hu:=aA hu
 replace h0:=aA h0
 replace hsm:=aA hsm
 clear h6
 replace h1:=aA h1
 go_enter func58,ntmps58
 go_wp2_with fail
 refine hp.mono ?_
 rintro e w1 (⟨hbad,rfl,hbl⟩|⟨hgood,rfl,hB,hO⟩)
 ·go_wp2_with fail
  go_ret2
  exact eY.bad (n:=8) h (by rw[hu.out,if_pos hbad]) hbl
 ·go_wp2_with fail
  go_ret2
  exact eY.good h (by rw[hu.out,if_neg (fun e=>e hgood)]) hO (h.ended hB hO) (Qi h.len _)
end
section
attribute [local irreducible] dw
theorem Qj(id:Int):∀(ds:List (Int×aj))(d:aj),(ds.map (·.1)).Nodup->ds.foldl (fun d x=>if x.1=id then x.2 else d) d=(kU ds id).getD d
 | [],d,_=>rfl
 | a::l,d,h=>by
  rw[List.map_cons,List.nodup_cons]at h
  rw[List.foldl_cons,Qj id l _ h.2]
  unfold kU
  rw[List.find?_cons]
  by_cases e:a.1=id
  ·have e':(a.1==id)=true:=by simpa using e
   rw[if_pos e,e']
   have hno:l.find? (fun d=>d.1==id)=none:=by
    rw[List.find?_eq_none]
    intro y hy hh
    apply h.1
    have:y.1=id:=by simpa using hh
    rw[e,<- this]
    exact List.mem_map.2 ⟨y,hy,rfl⟩
   rw[hno]
   rfl
  ·have e':(a.1==id)=false:=by simpa using e
   rw[if_neg e,e']
theorem Qk{c:aC}(hc:nU c)(id:Int):c.find id=(kU c.aP id).getD []:=Qj id c.aP [] hc.ids
theorem Ql{c:aC}(hc:nU c){id:Int}{t:aj}(h:kU c.aP id=some t):t≠[]/\t.length<=256:=by
 obtain⟨d,hd1,hd2⟩:=Option.map_eq_some_iff.1 h
 have:=hc.text d (List.mem_of_find?_eq_some hd1)
 rw[hd2]at this
 exact⟨fun e=>by rw[e]at this;simp at this,this.2⟩
def A_(b:aj)(dict:aj):RD.Fr:={ RD.Fr.new with window:=64*2^(ak b 0%8),size:=if ak b 0/16%2=1 then(au (b.drop (1+ak b 0/32%2)):Nat)else -1,summed:=decide (ak b 0/8%2=1),dict:=dict,last:=[1,4,8] }
theorem abN{c:aC}(hc:nU c){b:aj}(hb:b.length=hlen (ak b 0)) :
  (64<=ak b 0->RD.header c b=.err 4)/\(ak b 0<64->c.limit<((64*2^(ak b 0%8):Nat):Int)->RD.header c b=.err 5) /\
  (ak b 0<64->¬c.limit<((64*2^(ak b 0%8):Nat):Int)->ak b 0/32%2=1->kU c.aP (ak b 1)=none->RD.header c b=.err 6) /\
  (ak b 0<64->¬c.limit<((64*2^(ak b 0%8):Nat):Int)->∀dict,(ak b 0/32%2=1->kU c.aP (ak b 1)=some dict)->(ak b 0/32%2=0->dict=[])->RD.header c b=.ok (A_ b dict,[])):=by
 have hl:=DX (ak b 0)
 have h0:¬b.length=0:=by omega
 have hn:¬b.length<1+ak b 0/32%2+3*(ak b 0/16%2):=by rw[hb,hlen];omega
 have hd:b.drop (1+ak b 0/32%2+3*(ak b 0/16%2))=[]:=by rw[<- hlen,<- hb,List.drop_length]
 refine⟨fun h=>?_,fun h h1=>?_,fun h h1 h2 h3=>?_,fun h h1 dict h2 h3=>?_⟩
 ·unfold RD.header
  rw[if_neg h0]
  simp only[]
  rw[if_neg hn,if_pos h]
 ·unfold RD.header
  rw[if_neg h0]
  simp only[]
  rw[if_neg hn,if_neg (by omega),if_pos h1]
 ·unfold RD.header
  rw[if_neg h0]
  simp only[]
  rw[if_neg hn,if_neg (by omega),if_neg h1,if_pos ⟨h2,by rw[Qk hc,h3];rfl⟩]
 ·have Qm:ak b 0/32%2=1->c.find (ak b 1)=dict:=fun e=>by rw[Qk hc,h2 e];rfl
  have hfin:(if ak b 0/32%2=1 then c.find (ak b 1)else[])=dict:=by
   by_cases e:ak b 0/32%2=1
   ·rw[if_pos e,Qm e]
   ·rw[if_neg e,h3 (by omega)]
  have hsz:(if ak b 0/16%2=1 then((au ((b.drop (1+ak b 0/32%2+3*(ak b 0/16%2)-3)).take 3):Nat):Int)else -1)=if ak b 0/16%2=1 then((au (b.drop (1+ak b 0/32%2)):Nat):Int)else -1:=by
   by_cases e:ak b 0/16%2=1
   ·rw[if_pos e,if_pos e,e,show 1+ak b 0/32%2+3*1-3=1+ak b 0/32%2 by omega,List.take_of_length_le]
    rw[List.length_drop,hb,hlen,e]
    omega
   ·rw[if_neg e,if_neg e]
  unfold RD.header
  rw[if_neg h0]
  simp only[]
  rw[if_neg hn,if_neg (by omega),if_neg h1,if_neg (fun e=>(Ql hc (h2 e.1)).1 (by rw[<- Qm e.1];exact e.2)),hfin,hsz,hd]
  rfl
theorem sum_empty:iZ (ah [])=[.int .u32 606290984,.int .u32 2246822519,.int .u32 0,.int .u32 1640531535,.string ⟨#[]⟩,.int .u64 0]:=by
 kernel_rfl
def Jh(x:Fx)(c:aC)(b:aj)(S M:Nat)(ss:List Value)(w:World)(e:Ending)(w':World):Prop :=
 (∃n,RD.header c b=.err n/\e=.returned (aW (eF x n))/\Below w.heap.size w w') \/
 ∃dict v,RD.header c b=.ok (A_ b dict,[])/\dict.length<=256/\e=.returned .nilIface /\
  aB w' S 146 ((dw ss 8 (qm (decide (ak b 0/8%2=1)) (decide (ak b 0/16%2=1)) (au (b.drop (1+ak b 0/32%2)):Nat) M (64*2^(ak b 0%8)) v)).set 5 (.int .i64 ((4:Nat):Int)))/\aT w.heap.size w' v dict/\Only (·=S) w w'
theorem abO(x:Fx)(G:Nat->Prop)(c:aC)(hc:nU c)(m:MS)(b:aj)(S M:Nat)(ss:List Value)(v6:Value)(w:World)(h:bF x G c m S ss v6 w)(hM:ss[2]?=some (.map (some M)))(hb:b.length=hlen (ak b 0)) :
  Calls prog 81 #[.pointer (some ⟨S,0,none⟩),.string (ah b)] w (Jh x c b S M ss w):=by
 obtain⟨dv,d1,d2,d3⟩:=h.wX
 have hp:=YR x S M 146 ss dv c.limit c.aP b w h.blk h.lim d1 hM d2 (by have:=hc.few;omega) (fun d hd=>by have:=(hc.text d hd).2;omega) h.vars hb
 obtain⟨k4,k5,k6,Ba⟩:=abN hc hb
 have hB:=h.blk
 have hl:=h.len
 clear h d1 d2 d3 hM
 go_enter func81,ntmps81
 go_wp2_with fail
 refine hp.mono ?_
 rintro e w1 ⟨hb1,⟨e1,rfl⟩|⟨e1,e2,rfl⟩|⟨e1,e2,e3,e4,rfl⟩|⟨e1,e2,dict,v,e3,e4,rfl,hrow⟩⟩
 ·have kk:=aA (k4 e1)
  clear k4 k5 k6 Ba e1
  have hN0:aB (w1.alloc (.cells #[.bool false,.bool false,.int .i64 0,.int .i64 0,.int .u32 0,.int .u32 0,.int .u32 0,.int .u32 0,.string ⟨#[]⟩,.int .u64 0,.pointer none,.map none,.int .i64 0,.slice none 0 0,.int .i64 0,.slice none 0 0,.int .i64 0,.slice none 0 0,.int .i64 0,.int .i64 0,.int .i64 0,.int .i64 0,.slice none 0 0] 142)) w1.heap.size 142 bY:=aB.new w1 142 bY
  have hb2:Below w.heap.size w (w1.alloc (.cells #[.bool false,.bool false,.int .i64 0,.int .i64 0,.int .u32 0,.int .u32 0,.int .u32 0,.int .u32 0,.string ⟨#[]⟩,.int .u64 0,.pointer none,.map none,.int .i64 0,.slice none 0 0,.int .i64 0,.slice none 0 0,.int .i64 0,.slice none 0 0,.int .i64 0,.int .i64 0,.int .i64 0,.int .i64 0,.slice none 0 0] 142)):=hb1.alloc hb1.size _
  go_wp2_with(refine ug rfl 142 (.tmp 5) (.tmp 11) rfl 0 bY.toArray rfl rfl hN0 (by exact Nat.le_of_eq rfl) oD vN ?_;intro W1 hN1 aF)
  go_ret
  have hb3:Below w.heap.size w W1:=hb2.trans ⟨aF.os,aF.tape,aF.output,aF.size,fun k hk=>aF.block k (Nat.lt_of_lt_of_le hk hb2.size) (by have:=hb1.size;omega)⟩
  exact .inl ⟨4,kk.out,rfl,hb3⟩
 ·have kk:=aA (k5 e1 e2)
  clear k4 k5 k6 Ba e1 e2
  have hN0:aB (w1.alloc (.cells #[.bool false,.bool false,.int .i64 0,.int .i64 0,.int .u32 0,.int .u32 0,.int .u32 0,.int .u32 0,.string ⟨#[]⟩,.int .u64 0,.pointer none,.map none,.int .i64 0,.slice none 0 0,.int .i64 0,.slice none 0 0,.int .i64 0,.slice none 0 0,.int .i64 0,.int .i64 0,.int .i64 0,.int .i64 0,.slice none 0 0] 142)) w1.heap.size 142 bY:=aB.new w1 142 bY
  have hb2:Below w.heap.size w (w1.alloc (.cells #[.bool false,.bool false,.int .i64 0,.int .i64 0,.int .u32 0,.int .u32 0,.int .u32 0,.int .u32 0,.string ⟨#[]⟩,.int .u64 0,.pointer none,.map none,.int .i64 0,.slice none 0 0,.int .i64 0,.slice none 0 0,.int .i64 0,.slice none 0 0,.int .i64 0,.int .i64 0,.int .i64 0,.int .i64 0,.slice none 0 0] 142)):=hb1.alloc hb1.size _
  go_wp2_with(refine ug rfl 142 (.tmp 5) (.tmp 11) rfl 0 bY.toArray rfl rfl hN0 (by exact Nat.le_of_eq rfl) oD vN ?_;intro W1 hN1 aF)
  go_ret
  have hb3:Below w.heap.size w W1:=hb2.trans ⟨aF.os,aF.tape,aF.output,aF.size,fun k hk=>aF.block k (Nat.lt_of_lt_of_le hk hb2.size) (by have:=hb1.size;omega)⟩
  exact .inl ⟨5,kk.out,rfl,hb3⟩
 ·have kk:=aA (k6 e1 (by omega) e3 e4)
  clear k4 k5 k6 Ba e1 e2 e3 e4
  have hN0:aB (w1.alloc (.cells #[.bool false,.bool false,.int .i64 0,.int .i64 0,.int .u32 0,.int .u32 0,.int .u32 0,.int .u32 0,.string ⟨#[]⟩,.int .u64 0,.pointer none,.map none,.int .i64 0,.slice none 0 0,.int .i64 0,.slice none 0 0,.int .i64 0,.slice none 0 0,.int .i64 0,.int .i64 0,.int .i64 0,.int .i64 0,.slice none 0 0] 142)) w1.heap.size 142 bY:=aB.new w1 142 bY
  have hb2:Below w.heap.size w (w1.alloc (.cells #[.bool false,.bool false,.int .i64 0,.int .i64 0,.int .u32 0,.int .u32 0,.int .u32 0,.int .u32 0,.string ⟨#[]⟩,.int .u64 0,.pointer none,.map none,.int .i64 0,.slice none 0 0,.int .i64 0,.slice none 0 0,.int .i64 0,.slice none 0 0,.int .i64 0,.int .i64 0,.int .i64 0,.int .i64 0,.slice none 0 0] 142)):=hb1.alloc hb1.size _
  go_wp2_with(refine ug rfl 142 (.tmp 5) (.tmp 11) rfl 0 bY.toArray rfl rfl hN0 (by exact Nat.le_of_eq rfl) oD vN ?_;intro W1 hN1 aF)
  go_ret
  have hb3:Below w.heap.size w W1:=hb2.trans ⟨aF.os,aF.tape,aF.output,aF.size,fun k hk=>aF.block k (Nat.lt_of_lt_of_le hk hb2.size) (by have:=hb1.size;omega)⟩
  exact .inl ⟨6,kk.out,rfl,hb3⟩
 ·have kk:=aA (Ba e1 (by omega) dict e3 e4)
  have hdl:Hid (dict.length<=256):=by
   rw[Hid]
   by_cases e5:ak b 0/32%2=1
   ·exact(Ql hc (e3 e5)).2
   ·rw[e4 (by omega)];simp
  clear k4 k5 k6 Ba e1 e2 e3 e4
  have hRh:∀e w',Jh x c b S M ss w e w'↔Jh x c b S M ss w e w':=fun _ _=>Iff.rfl
  obtain⟨F,hF⟩:∃F,F=qm (decide (ak b 0/8%2=1)) (decide (ak b 0/16%2=1)) (au (b.drop (1+ak b 0/32%2)):Nat) M (64*2^(ak b 0%8)) v:=⟨_,rfl⟩
  have kV:F.length=23:=by rw[hF];rfl
  have hone:F.toArray.all (·.oneCell')=true:=by
   obtain⟨aa,cc,rfl,_⟩:=hrow.form
   rw[hF]
   simp[qm,Value.oneCell']
  rw[<- hF]
  replace hF:=aA hF
  have hN0:aB (w1.alloc (.cells #[.bool false,.bool false,.int .i64 0,.int .i64 0,.int .u32 0,.int .u32 0,.int .u32 0,.int .u32 0,.string ⟨#[]⟩,.int .u64 0,.pointer none,.map none,.int .i64 0,.slice none 0 0,.int .i64 0,.slice none 0 0,.int .i64 0,.slice none 0 0,.int .i64 0,.int .i64 0,.int .i64 0,.int .i64 0,.slice none 0 0] 142)) w1.heap.size 142 bY:=aB.new w1 142 bY
  have hS0:aB (w1.alloc (.cells #[.bool false,.bool false,.int .i64 0,.int .i64 0,.int .u32 0,.int .u32 0,.int .u32 0,.int .u32 0,.string ⟨#[]⟩,.int .u64 0,.pointer none,.map none,.int .i64 0,.slice none 0 0,.int .i64 0,.slice none 0 0,.int .i64 0,.slice none 0 0,.int .i64 0,.int .i64 0,.int .i64 0,.int .i64 0,.slice none 0 0] 142)) S 146 ss:=(hB.below hb1 hB.lt).alloc _
  have iL:Only (·=S) w (w1.alloc (.cells #[.bool false,.bool false,.int .i64 0,.int .i64 0,.int .u32 0,.int .u32 0,.int .u32 0,.int .u32 0,.string ⟨#[]⟩,.int .u64 0,.pointer none,.map none,.int .i64 0,.slice none 0 0,.int .i64 0,.slice none 0 0,.int .i64 0,.slice none 0 0,.int .i64 0,.int .i64 0,.int .i64 0,.int .i64 0,.slice none 0 0] 142)):=(aH hb1).alloc _
  have hr0:aT w.heap.size (w1.alloc (.cells #[.bool false,.bool false,.int .i64 0,.int .i64 0,.int .u32 0,.int .u32 0,.int .u32 0,.int .u32 0,.string ⟨#[]⟩,.int .u64 0,.pointer none,.map none,.int .i64 0,.slice none 0 0,.int .i64 0,.slice none 0 0,.int .i64 0,.slice none 0 0,.int .i64 0,.int .i64 0,.int .i64 0,.int .i64 0,.slice none 0 0] 142)) v dict:=hrow.only (G:=fun _=>False) (aH ((Below.refl _ w1).alloc (Nat.le_refl _) _)) (fun _ _ e=>e)
  have hsz1:=hb1.size
  have hvl:∀k,v.ownBlock=some k->k<w1.heap.size:=fun k hk=>(hrow.blk hk).2.lt
  have qx:S<w1.heap.size:=Nat.lt_of_lt_of_le hB.lt hb1.size
  replace qx:=aA qx
  have hn0:0+F.toArray.size<=bY.length:=by rw[List.size_toArray,kV];exact Nat.le_of_eq rfl
  have hn:8+F.toArray.size<=ss.length:=by rw[hl,List.size_toArray,kV];omega
  have hsf:(prog.info? 142).map (·.size)=some F.toArray.size:=by rw[List.size_toArray,kV];exact oD
  have abP:(prog.info? 142).map (·.size)=some F.length:=by rw[kV];exact oD
  obtain⟨z5,zV⟩:∃z,(dw ss 8 F)[5]?=some z:=get_some (by rw[tZ,hl];omega)
  have hin:∀j u,F[j]?=some u->(dw bY 0 F)[0+j]?=some u:=fun j u hu=>by
   rw[t_ F bY 0 j (by rw[kV];exact Nat.le_of_eq rfl) (List.getElem?_eq_some_iff.1 hu).1];exact hu
  replace kV:=aA kV
  go_wp2_with(first|(refine ug rfl 142 (.tmp 5) (.tmp 11) rfl 0 F.toArray rfl rfl hN0 hn0 hsf hone ?_;intro W1 hN1 aF;have hS1:=hS0.only aF (fun e=>by have:=qx.out;omega))|(refine wpList_load_mid rfl 142 _ rfl w1.heap.size 0 rfl F _ (hN1.range hin) underlying142 rfl abP ?_)|(refine ug rfl 142 _ _ rfl 8 F.toArray rfl rfl hS1 hn hsf hone ?_;intro W2 hS2 hO2;have d5:=hS2.cell zV;have DC:=hS2.free))
  go_ret
  have hr1:=hr0.only aF (fun k hk e=>by have:=hvl k hk;omega)
  have abQ:Only (·=S) w W1:=⟨aF.os.trans iL.os,aF.tape.trans iL.tape,aF.output.trans iL.output,Nat.le_trans iL.size aF.size,fun k hk hn=>(aF.block k (Nat.lt_of_lt_of_le hk iL.size) (by omega)).trans (iL.block k hk hn)⟩
  have hr2:=hr1.only hO2 (fun k hk e=>(hr1.blk hk).2.ne hS1 (by decide) e)
  have hO3:Only (·=S) W2 (W2.setCell ⟨S,5,none⟩ (.int .i64 ((4:Nat):Int))):=(Only.refl (·=S) W2).setCell ⟨S,5,none⟩ _ (fun _=>rfl)
  refine .inr ⟨dict,v,kk.out,hdl.out,rfl,?_,hr2.only hO3 (fun k hk e=>(hr2.blk hk).2.ne hS2 (by decide) e),(abQ.trans hO2).trans hO3⟩
  rw[<- hF.out]
  exact hS2.put 5 _
end
end Go.Proofs.YtbhemchnjpajiaaGreatDoor
