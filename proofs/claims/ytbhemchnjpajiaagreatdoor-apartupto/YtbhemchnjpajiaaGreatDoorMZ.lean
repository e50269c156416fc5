/- Several texts in one: QLent, QMade, QReads, ActArg, QTwo, QApart. -/
import Derived.Test.YtbhemchnjpajiaaGreatDoorMO
import Derived.Test.YtbhemchnjpajiaaGreatDoorME
import Derived.Test.YtbhemchnjpajiaaGreatDoorMI
import Derived.Laws.CopyRow
import Derived.Test.YtbhemchnjpajiaaGreatDoorMT
import Derived.Test.YtbhemchnjpajiaaGreatDoorLM
set_option linter.unusedVariables false
set_option linter.unusedSimpArgs false
set_option maxRecDepth 100000
set_option maxHeartbeats 4000000
namespace Go.Proofs.YtbhemchnjpajiaaGreatDoor
open Go.RowKit Go.Proofs.Tryz RD
theorem akK{P:Program}(w:World)(dT sT ty elem:TypeId)(g o dLen dCap:Nat)(a:Addr)(sLen sCap:Nat)(cur:Array Value)(t:TypeId)(cs:List Value)
  (hu:P.underlying dT=some (.slice elem)) (hs:(P.info? elem).map (·.size)=some 2)
  (hg:w.heap[g]?=some (.cells cur t (0,0))) (hn:cs.length=Nat.min sLen dLen*2)
  (hsrc:∀j v,cs[j]?=some v->w.cell? (a.add j)=some v) (hfit:o+cs.length<=cur.size) (h1:∀v∈cs,v.oneCell'=true) :
  (Builtin.copy_ #[dT,sT] ty #[.slice (some ⟨g,o,none⟩) dLen dCap,.slice (some a) sLen sCap]).run P w =
   .ok (goInt (Nat.min sLen dLen)) (w.setRow g (cur.toList.take o++cs++cur.toList.drop (o+cs.length)).toArray):=by
 have hl:=run_loadCells_list (P:=P) w a cs hsrc
 have hst:=run_storeCells_at P g o t cs 0 cur w hg (by simpa using hfit) h1
 cases hq:P.info? elem with
 | none=>simp[hq]at hs
 | some i =>
  have hi:i.size=2:=by simpa[hq]using hs
  simp[Builtin.copy_,run_underlying hu,Builtin.lenOf,Builtin.firstCells,sizeOf,typeInfo,hq,hi,<- hn,hl,hst]
theorem ahg:(prog.info? 65).map (·.size)=some 2:=by kernel_rfl
def nY(n:Nat):List Value:=iJ (List.replicate n (0,[]))
theorem Uh(n:Nat):(nY n).length=n*2:=by unfold nY;rw[HY,List.length_replicate]
theorem akL(n i:Nat):(List.replicate n ((0,[]):Int×aj)).getD i (0,[])=(0,[]):=by
 rw[List.getD_eq_getElem?_getD,List.getElem?_replicate]
 split<;>rfl
theorem akM(n:Nat):madeCells #[.int .i64 0,.string ⟨#[]⟩] (n*2)=(nY n).toArray:=by
 apply Array.ext
 ·simp[madeCells,Uh]
 ·intro i h1 h2
  have hi:i<n*2:=by simpa[madeCells]using h1
  obtain⟨e1,e2⟩:=KN (List.replicate n ((0,[]):Int×aj)) (i/2) (by rw[List.length_replicate];omega)
  rw[akL]at e1 e2
  have hb:i<(nY n).length:=by rw[Uh];exact hi
  rcases(by omega:i%2=0\/i%2=1)with e|e
  ·rw[show i/2*2=i by omega]at e1
   have e3:(nY n)[i]?=some (.int .i64 0):=e1
   rw[List.getElem?_eq_getElem hb]at e3
   have e4:(nY n)[i]=.int .i64 0:=Option.some.inj e3
   simp[madeCells,e,e4]
  ·rw[show i/2*2+1=i by omega]at e2
   have e3:(nY n)[i]?=some (.string (ah [])):=e2
   rw[List.getElem?_eq_getElem hb]at e3
   have e4:(nY n)[i]=.string ⟨#[]⟩:=Option.some.inj e3
   simp[madeCells,e,e4]
theorem akN(w:World)(n:Nat)(hn:n*24<=281474976710656) :
  (Instr.makeSlice 22 (.int .i64 (n:Int)) (.int .i64 (n:Int))).run prog w =
   .ok (.slice (some ⟨w.heap.size,0,none⟩) n n) (w.alloc (.cells (nY n).toArray 65)):=by
 obtain⟨i0,hi,hz0,hz1,hz2⟩:=info_parts KP
 have h:=run_make (P:=prog) w 22 65 i0 (.agg #[.int .i64 0,.string ⟨#[]⟩]) underlying22 hi hz0 .i64 .i64 (n:Int) (n:Int) (by omega) (Int.le_refl _) (by rw[hz2];omega) (by omega)
 rw[h,Int.toNat_natCast,hz1,<- akM n]
 rfl
theorem akO(ds:List (Int×aj)):∀v∈iJ ds,v.oneCell'=true:=by
 intro v hv
 unfold iJ at hv
 rw[List.mem_flatMap]at hv
 obtain⟨d,_,hv⟩:=hv
 simp only[List.mem_cons,List.not_mem_nil,or_false]at hv
 rcases hv with rfl|rfl<;>rfl
theorem akP(W:World)(v:Value)(g m dc:Nat)(ds:List (Int×aj))(hD:iE W v ds)(hg:aB W g 65 (nY m))(hnm:ds.length<=m) :
  ∃W2 k,(Builtin.copy_ #[22,22] 3 #[.slice (some ⟨g,0,none⟩) m dc,v]).run prog W=.ok k W2 /\
   Hid (aB W2 g 65 (iJ ds++nY (m-ds.length)))/\Below g W W2/\W2.heap.size=W.heap.size:=by
 obtain⟨a,cc,rfl,hcc,hd⟩:=hD
 have h0:ds.length=0->∃W2 k,(Builtin.copy_ #[22,22] 3 #[.slice (some ⟨g,0,none⟩) m dc,.slice a ds.length cc]).run prog W=.ok k W2 /\
   Hid (aB W2 g 65 (iJ ds++nY (m-ds.length)))/\Below g W W2/\W2.heap.size=W.heap.size:=fun h0=>by
  obtain rfl:ds=[]:=List.eq_nil_of_length_eq_zero h0
  refine⟨W,goInt 0,?_,hg,Below.refl _ _,rfl⟩
  cases hq:prog.info? 65 with
  | none=>have:=ahg;simp[hq]at this
  | some i =>
   have hi:i.size=2:=by have:=ahg;simpa[hq]using this
   have hl:=fun b=>run_loadCells_list (P:=prog) W b [] (fun j u hj=>by cases hj)
   cases a with
   | none=>simp[Builtin.copy_,run_underlying underlying22,Builtin.lenOf,Builtin.firstCells,sizeOf,typeInfo,hq,hi,storeCells]
   | some b =>
    have hl':=hl b
    simp at hl'
    simp[Builtin.copy_,run_underlying underlying22,Builtin.lenOf,Builtin.firstCells,sizeOf,typeInfo,hq,hi,hl',storeCells]
 rcases hd with hd|⟨b,o,rfl,hb,hd⟩
 ·exact h0 (by rw[hd];rfl)
 ·by_cases hz:ds.length=0
  ·exact h0 hz
  ·have hlc:=HY ds
   have hrun:=akK (P:=prog) W 22 22 3 65 g 0 m dc ⟨b,o,none⟩ ds.length cc (nY m).toArray 65 (iJ ds) underlying22 ahg hg (by rw[hlc];congr 1;show ds.length=min ds.length m;omega)
    (by
     intro j u hj
     have hjn:j<ds.length*2:=by
      rcases Nat.lt_or_ge j (ds.length*2)with h|h
      ·exact h
      ·rw[List.getElem?_eq_none (by omega)]at hj;cases hj
     obtain⟨e1,e2⟩:=KN ds (j/2) (by omega)
     rw[addr_add]
     rcases(by omega:j%2=0\/j%2=1)with e|e
     ·rw[show j/2*2=j by omega]at e1
      rw[e1]at hj
      have:=(hd (j/2) (by omega)).1
      rw[show o+j/2*2=o+j by omega]at this
      rw[this]
      exact hj
     ·rw[show j/2*2+1=j by omega]at e2
      rw[e2]at hj
      have:=(hd (j/2) (by omega)).2
      rw[show o+j/2*2+1=o+j by omega]at this
      rw[this]
      exact hj)
    (by simp[Uh,hlc];omega) (akO ds)
   refine⟨_,_,hrun,?_,below_setRow (Below.refl _ _) (Nat.le_refl _) _,by simp[World.setRow]⟩
   have e:(iJ ds++nY (m-ds.length)).toArray=(List.take 0 (nY m).toArray.toList++iJ ds++List.drop (0+(iJ ds).length) (nY m).toArray.toList).toArray:=by
    have e1:nY m=nY ds.length++nY (m-ds.length):=by
     unfold nY iJ
     rw[<- List.flatMap_append,List.replicate_append_replicate,show ds.length+(m-ds.length)=m by omega]
    rw[List.take_zero,List.nil_append,Nat.zero_add,hlc]
    show _=(iJ ds++List.drop (ds.length*2) (nY m)).toArray
    rw[e1,List.drop_left' (Uh _)]
   show(W.setRow g _).heap[g]?=_
   rw[<- e]
   rw[setRow_heap _ _ _ _ _ _ hg]
def akQ(ds:List (Int×aj))(w:World)(e:Ending)(w':World):Prop :=
 Below w.heap.size w w'/\∃b,w.heap.size<=b/\e=.returned (.slice (some ⟨b,0,none⟩) (ds.length+1) (ds.length+1))/\aB w' b 65 (iJ ds++[.int .i64 (-77),.string ⟨#[]⟩])
theorem akR(lim:Int)(ds:List (Int×aj))(v:Value)(w:World)(hD:iE w v ds)(hn:ds.length<=1048576) :
  Calls prog 33 #[.agg #[.int .i64 lim,v]] w (akQ ds w):=by
 obtain⟨a,cc,rfl,hcc,hd⟩:=id hD
 have hmk:=fun u=>akN u (ds.length+1) (by omega)
 have ec:((ds.length+1:Nat):Int)=(ds.length:Int)+1:=by omega
 rw[ec]at hmk
 clear ec
 have hb0:Below w.heap.size w (w.alloc (.cells #[.int .i64 lim,.slice a ds.length cc] 24)):=(Below.refl _ w).alloc (Nat.le_refl _) _
 have hC0:=aB.new w 24 [.int .i64 lim,.slice a ds.length cc]
 have hb1:Below w.heap.size w ((w.alloc (.cells #[.int .i64 lim,.slice a ds.length cc] 24)).alloc (.cells (nY (ds.length+1)).toArray 65)):=hb0.alloc hb0.size _
 have hD1:=(hD.below hb0).below ((Below.refl _ (w.alloc (.cells #[.int .i64 lim,.slice a ds.length cc] 24))).alloc (Nat.le_refl _) (.cells (nY (ds.length+1)).toArray 65))
 have hR1:=aB.new (w.alloc (.cells #[.int .i64 lim,.slice a ds.length cc] 24)) 65 (nY (ds.length+1))
 have hsz0:(w.alloc (.cells #[.int .i64 lim,.slice a ds.length cc] 24)).heap.size=w.heap.size+1:=by simp
 rw[hsz0]at hR1
 obtain⟨W2,k,hrun,hB2,hbel,hsz⟩:=akP _ _ (w.heap.size+1) (ds.length+1) (ds.length+1) ds hD1 hR1 (by omega)
 have hl:=HY ds
 have hbl:=Uh 1
 have hrow:iJ ds++nY (ds.length+1-ds.length)=iJ ds++[.int .i64 0,.string ⟨#[]⟩]:=by
  rw[show ds.length+1-ds.length=1 by omega]
  rfl
 rw[hrow]at hB2
 have hcn:W2.cell? ⟨w.heap.size+1,ds.length*2,none⟩=some (.int .i64 0):=hB2.out.cell (by rw[List.getElem?_append_right (by omega),hl,Nat.sub_self];rfl)
 have KO:W2.cell? ⟨w.heap.size+1,ds.length*2+1,none⟩=some (.string ⟨#[]⟩):=hB2.out.cell (by rw[List.getElem?_append_right (by omega),hl,show ds.length*2+1-ds.length*2=1 by omega];rfl)
 have hfn:=hB2.out.free
 have hbw:Hid (Below w.heap.size w W2):=aA (hb1.trans ⟨hbel.os,hbel.tape,hbel.output,hbel.size,fun k hk=>hbel.block k (by omega)⟩)
 have IY:Hid (aB ((W2.setCell ⟨w.heap.size+1,ds.length*2,none⟩ (.int .i64 (-77))).setCell ⟨w.heap.size+1,ds.length*2+1,none⟩ (.string ⟨#[]⟩)) (w.heap.size+1) 65 (iJ ds++[.int .i64 (-77),.string ⟨#[]⟩])):=by
  have:=(hB2.out.put (ds.length*2) (.int .i64 (-77))).put (ds.length*2+1) (.string ⟨#[]⟩)
  rw[List.set_append_right _ _ (by omega),hl,Nat.sub_self,List.set_append_right _ _ (by omega),hl,show ds.length*2+1-ds.length*2=1 by omega]at this
  exact this
 clear hbel hb1 hD1 hR1 hrow hbl hl hsz hC0 hb0
 replace hd:=aA hd
 replace hD:=aA hD
 go_enter func33,ntmps33
 go_wp2
 go_ret
 exact⟨jw (jw hbw.out (w.heap.size+1) _ _ (by omega)) (w.heap.size+1) _ _ (by omega),w.heap.size+1,by omega,rfl,IY.out⟩
def ahw(x:Fx)(lim:Int)(ds:List (Int×aj))(w:World)(e:Ending)(w':World):Prop :=
 Below w.heap.size w w'/\((dK lim ds=false/\e=.returned (.tuple #[.pointer none,.bool true])) \/
  (dK lim ds=true/\∃P G R r v,e=.returned (.tuple #[.pointer (some ⟨P,0,none⟩),.bool true])/\tq x G R r v w' P ⟨lim,ds⟩ [] false 0/\(∀k,G k->w.heap.size<=k)/\w.heap.size<=r/\w.heap.size<=P/\∀b,bJ v=some b->w.heap.size<=b))
def wZ(w:World)(b:Nat)(ds:List (Int×aj))(i:Nat):Prop:=∃xs,aB w b 65 xs/\xs.length=ds.length*2+2/\xs[ds.length*2]?=some (.int .i64 (-77))/\∀j,i<=j->j<ds.length->xs[j*2]?=some (.int .i64 (ds.getD j (0,[])).1)/\xs[j*2+1]?=some (.string (ah (ds.getD j (0,[])).2))
theorem wZ.start{w:World}{b:Nat}{ds:List (Int×aj)}(h:aB w b 65 (iJ ds++[.int .i64 (-77),.string ⟨#[]⟩])):wZ w b ds 0:=by
 have hl:=HY ds
 refine⟨_,h,by rw[List.length_append,hl];rfl,?_,fun j _ hj=>?_⟩
 ·rw[List.getElem?_append_right (by omega),hl,Nat.sub_self]
  rfl
 ·obtain⟨e1,e2⟩:=KN ds j hj
  rw[List.getElem?_append_left (by omega),List.getElem?_append_left (by omega)]
  exact⟨e1,e2⟩
theorem wZ.only{w w':World}{b i:Nat}{ds:List (Int×aj)}{K:Nat->Prop}(h:wZ w b ds i)(ho:Only K w w')(hb:¬K b):wZ w' b ds i:=by
 obtain⟨xs,h1,h2⟩:=h
 exact⟨xs,h1.only ho hb,h2⟩
theorem wZ.next{w:World}{b i:Nat}{ds:List (Int×aj)}(h:wZ w b ds i)(hi:i<ds.length)(x y:Value):wZ ((w.setCell ⟨b,i*2,none⟩ x).setCell ⟨b,i*2+1,none⟩ y) b ds (i+1):=by
 obtain⟨xs,h1,h2,h3,h4⟩:=h
 refine⟨_,(h1.put (i*2) x).put (i*2+1) y,by simp[h2],?_,fun j h5 h6=>?_⟩
 ·rw[List.getElem?_set_ne (by omega),List.getElem?_set_ne (by omega)]
  exact h3
 ·rw[List.getElem?_set_ne (by omega),List.getElem?_set_ne (by omega),List.getElem?_set_ne (by omega),List.getElem?_set_ne (by omega)]
  exact h4 j (by omega) h6
theorem wZ.arg{w:World}{b:Nat}{ds:List (Int×aj)}(h:wZ w b ds 0)(cc:Nat)(hcc:ds.length<=cc):iE w (.slice (some ⟨b,0,none⟩) ds.length cc) ds:=by
 obtain⟨xs,h1,h2,h3,h4⟩:=h
 exact⟨_,cc,rfl,hcc,.inr ⟨b,0,rfl,h1.lt,fun i hi=>⟨by rw[Nat.zero_add];exact h1.cell (h4 i (Nat.zero_le _) hi).1,by rw[Nat.zero_add];exact h1.cell (h4 i (Nat.zero_le _) hi).2⟩⟩⟩
def Ui(x:Fx)(lim:Int)(ds:List (Int×aj))(B b:Nat)(w:World)(px py:Value):Prop :=
 (dK lim ds=false/\px=.pointer none/\py=.pointer none) \/
 (dK lim ds=true/\∃R r v lo hi S G1 ss,px=.pointer (some ⟨R,0,none⟩)/\py=.pointer (some ⟨r,0,none⟩)/\sJ x (fun k=>lo<=k/\k<hi) ⟨lim,ds⟩ [] [] 0 R w S MS.start (RD.St.start []) G1 ss (.slice none 0 0) (.slice none 0 0)/\(∀v k,ss[1]?=some v->v.ownBlock=some k->lo<=k)/\dY w r ⟨lim,ds⟩ v [] false 0/\B<=r/\r<b/\b<lo/\hi<=w.heap.size/\∀k,bJ v=some k->B<=k/\k<b)
theorem Ui.turn{x:Fx}{lim:Int}{ds:List (Int×aj)}{B b:Nat}{w w':World}{px py:Value}(h:Ui x lim ds B b w px py)(hx:x.base<=B)(hBb:B<=b){xs:List Value}(hb:aB w b 65 xs)(ho:Only (·=b) w w'):Ui x lim ds B b w' px py:=by
 rcases h with h|⟨hg,R,r,v,lo,hi,S,G1,ss,e1,e2,hL,hlo,hR,h1,h2,h3,h4,h5⟩
 ·exact .inl h
 ·refine .inr ⟨hg,R,r,v,lo,hi,S,G1,ss,e1,e2,hL.turn ho (fun k _ e=>by omega) (fun k _ e=>by omega) (fun k _ e=>e▸b_.jg hb (by decide) (by decide)) (fun v hv=>?_),hlo,hR.away ho (by omega) (fun k hk e=>by have:=h5 k hk;omega),h1,h2,h3,Nat.le_trans h4 ho.size,h5⟩
  obtain⟨v',d1,d2,d3⟩:=hL.str.wX
  have hvv:v'=v:=by rw[d1]at hv;exact Option.some.inj hv
  subst hvv
  exact⟨d2.only ho (fun k hk e=>by have:=hlo v' k d1 hk;omega),fun k hk=>(d3 k hk).2.2.only ho (fun e=>by have:=hlo v' k d1 hk;omega)⟩
theorem akS(x:Fx)(lim:Int)(ds:List (Int×aj))(v:Value)(w:World)(lW:-9223372036854775808<=lim/\lim<=9223372036854775807)(hD:iE w v ds)(hn:ds.length<=1048576)(ht:∀d∈ds,d.2.length<=140737488355328)(hV:bI x w)(hE:jE x w) :
  Calls prog 19 #[.agg #[.int .i64 lim,v]] w (ahw x lim ds w):=by
 obtain⟨a,cc,rfl,hcc,hd⟩:=id hD
 have hb0:Below w.heap.size w (w.alloc (.cells #[.int .i64 lim,.slice a ds.length cc] 24)):=(Below.refl _ w).alloc (Nat.le_refl _) _
 have hC0:=aB.new w 24 [.int .i64 lim,.slice a ds.length cc]
 obtain⟨W0,hW0⟩:∃W,w.alloc (.cells #[.int .i64 lim,.slice a ds.length cc] 24)=W:=⟨_,rfl⟩
 rw[hW0]at hb0 hC0
 replace hW0:=aA hW0
 have hD0:=hD.below hb0
 have hrn:=Uu lim ds _ W0 lW hD0 (by omega) ht
 have hxb:x.base<=w.heap.size:=hV.size
 obtain⟨C,hC⟩:∃C,w.heap.size=C:=⟨_,rfl⟩
 rw[hC]at hC0
 replace hC:=aA hC
 replace hd:=aA hd
 go_enter func19,ntmps19
 go_wp2_with fail
 rw[hW0.out]
 try rw[hC.out]
 refine hrn.mono ?_
 rintro e w1 ⟨hb1,hcase⟩
 obtain⟨py,E,rfl,FV,hpy⟩:∃(py:Value)(E:Int),e=.returned (.tuple #[py,.int .i64 E])/\(E=if dK lim ds then 0 else 3)/\((dK lim ds=false/\py=.pointer none)\/(dK lim ds=true/\∃r v',W0.heap.size<=r/\py=.pointer (some ⟨r,0,none⟩)/\dY w1 r ⟨lim,ds⟩ v' [] false 0/\∀b,bJ v'=some b->W0.heap.size<=b)):=by
  rcases hcase with⟨h1,rfl⟩|⟨h1,r,v',h2,rfl,h3,h4⟩
  ·exact⟨_,_,rfl,by rw[h1];rfl,.inl ⟨h1,rfl⟩⟩
  ·exact⟨_,_,rfl,by rw[h1];rfl,.inr ⟨h1,r,v',h2,rfl,h3,h4⟩⟩
 have oL:=hC0.below hb1 hC0.lt
 have k0:=oL.cell (j:=0) rfl
 have k1:=oL.cell (j:=1) rfl
 have hD1:=hD0.below hb1
 have hle:=akR lim ds _ w1 hD1 hn
 replace hcase:=aA hcase
 replace hpy:=aA hpy
 replace FV:=aA FV
 go_wp2_with fail
 refine hle.mono ?_
 rintro e w2 ⟨hb2,b,hbb,rfl,hrow⟩
 have hC2:=oL.below hb2 oL.lt
 have l0:=hC2.cell (j:=0) rfl
 have l1:=hC2.cell (j:=1) rfl
 have Py:=hC2.lt
 have hrow0:=wZ.start hrow
 have hD2:=hrow0.arg (ds.length+1) (by omega)
 have s0:=hb0.size
 have s1:=hb1.size
 have s2:=hb2.size
 have ak8:=hC0.lt
 have wY:Below w.heap.size w w1:=hb0.trans ⟨hb1.os,hb1.tape,hb1.output,hb1.size,fun k hk=>hb1.block k (Nat.lt_of_lt_of_le hk hb0.size)⟩
 have hbw2:Below w.heap.size w w2:=wY.trans ⟨hb2.os,hb2.tape,hb2.output,hb2.size,fun k hk=>hb2.block k (Nat.lt_of_lt_of_le hk wY.size)⟩
 have hbl:=hrow.lt
 have hnw:∀W,jK W w2->Calls prog 22 #[.agg #[.int .i64 lim,.slice (some ⟨b,0,none⟩) ds.length (ds.length+1)]] W fun e w'=>∃px,e=.returned (.tuple #[px,.int .i64 E])/\Below w2.heap.size w2 w'/\Ui x lim ds C b w' px py:=fun W hW=>by
  have hbW:Below w2.heap.size w2 W:=⟨hW.2.1,hW.2.2.1,hW.2.2.2,by rw[hW.1];exact Nat.le_refl _,fun k _=>by rw[hW.1]⟩
  have ahx:Below w.heap.size w W:=hbw2.trans ⟨hbW.os,hbW.tape,hbW.output,hbW.size,fun k hk=>hbW.block k (Nat.lt_of_lt_of_le hk hbw2.size)⟩
  rcases hpy.out with⟨hg,rfl⟩|⟨hg,r,v',hr,rfl,uS,hv'⟩
  ·have hEq:E=3:=by rw[FV.out,hg];rfl
   refine(Ux lim ds _ W lW (hD2.below hbW) (by omega) ht hg).mono ?_
   rintro e w' ⟨rfl,h1⟩
   have h12:Below w2.heap.size w2 w':=hbW.trans ⟨h1.os,h1.tape,h1.output,h1.size,fun k hk=>h1.block k (Nat.lt_of_lt_of_le hk hbW.size)⟩
   exact⟨_,by rw[hEq],h12,.inl ⟨hg,rfl,rfl⟩⟩
  ·have hEq:E=0:=by rw[FV.out,hg];rfl
   refine(Uw x ⟨lim,ds⟩ hg _ W (hD2.below hbW) (hV.below ahx) (hE.below hV ahx)).mono ?_
   rintro e w' ⟨h1,R,S,G1,ss,rfl,hL,hlo⟩
   have h12:Below w2.heap.size w2 w':=hbW.trans ⟨h1.os,h1.tape,h1.output,h1.size,fun k hk=>h1.block k (Nat.lt_of_lt_of_le hk hbW.size)⟩
   have hWs:W.heap.size=w2.heap.size:=by rw[hW.1]
   have l9:=(uS.below hb2).below h12
   exact⟨_,by rw[hEq],h12,.inr ⟨hg,R,r,v',W.heap.size,w'.heap.size,S,G1,ss,rfl,rfl,hL,hlo,l9,by have:=hC.out;omega,by have:=uS.blk.lt;omega,by omega,Nat.le_refl _,fun k hk=>⟨by have:=hv' k hk;have:=hC.out;omega,by have:=(uS.inn k hk).1;omega⟩⟩⟩
 have hCn:¬C=b:=by omega
 have hq1:¬(ds.length:Int)<0:=by omega
 have hq2:ds.length<=ds.length+1:=by omega
 have hq3:(ds.length:Int)<=((ds.length+1:Nat):Int):=by omega
 have hq4:(ds.length:Int)<=(ds.length:Int)+1:=by omega
 have hq5:(0:Int)<=(ds.length:Int):=by omega
 clear oL hC0 k0 k1 hle hrn
 go_wp2_with fail
 go_region_held3(fun w'=>w'.cell? ⟨C,0,none⟩=some (.int .i64 lim)) (first|go_keep|assumption) (first
  | (go_at_call 22;refine(hnw _ (by exact⟨rfl,rfl,rfl,rfl⟩)).mono ?_;rintro e w3 ⟨px,rfl,hb3,hboth⟩;have hk1:w3.cell? ⟨C,0,none⟩=some (.int .i64 lim):=(hb3.cell (p:=⟨C,0,none⟩) Py).trans l0))
 have hbw3:Below w.heap.size w w3:=hbw2.trans ⟨hb3.os,hb3.tape,hb3.output,hb3.size,fun k hk=>hb3.block k (Nat.lt_of_lt_of_le hk hbw2.size)⟩
 have m1:w3.cell? ⟨C,1,none⟩=some (.slice a ds.length cc):=(hb3.cell (p:=⟨C,1,none⟩) Py).trans l1
 have ahy:C<w3.heap.size:=Nat.lt_of_lt_of_le Py hb3.size
 have hrow3:=wZ.only hrow0 (aH (G:=fun _=>False) hb3) (fun e=>e)
 have akU:=hrow.below hb3 hbl
 have yR:¬C=b:=hCn
 have hlast:w3.cell? ⟨b,ds.length*2,none⟩=some (.int .i64 (-77)):=by
  obtain⟨xs,q1,q2,q3,q4⟩:=hrow3
  exact q1.cell q3
 have hnn:(ds.length:Int)<((ds.length+1:Nat):Int):=by omega
 have ak9:(ds.length:Int)<(ds.length:Int)+1:=by omega
 have hEE:(E != E)=false:=by simp
 rename_i hHeld
 clear hHeld hk1 l0 l1 hnw hD2
 rcases id hboth with⟨hg,rfl,rfl⟩|⟨hg,R,r,v',lo,hi,S,G1,ss,rfl,rfl,hL,hlo,hR,h1,h2,h3,h4,h5⟩
 ·go_wp2_with fail
  have hII:∀I:Int,(I==I)=true:=fun I=>by simp
  go_loopg[10] (ds.length+1) (fun gh iv wr=>∃i:Nat,gh=ds.length+1-i/\i<=ds.length/\iv=.int .i64 (i:Int)/\Hid (wZ wr b ds i)/\Hid (Only (·=b) w3 wr))
  case atStart=>exact⟨0,by omega,by omega,rfl,aA hrow3,aA (Only.refl _ _)⟩
  case round =>
   obtain⟨i,rfl,hi,rfl,hrw,hor⟩:=hrel
   have y1:wr.cell? ⟨C,1,none⟩=some (.slice a ds.length cc):=hor.out.cell m1 ahy yR
   by_cases hlt:i<ds.length
   ·have hlt':(i:Int)<(ds.length:Int):=by omega
    have hi0:(0:Int)<=(i:Int):=by omega
    have hlt1:(i:Int)<((ds.length+1:Nat):Int):=by omega
    have hlt2:(i:Int)<(ds.length:Int)+1:=by omega
    obtain⟨xs,q1,q2,q3,q4⟩:=hrw.out
    obtain⟨z0,z1⟩:=q4 i (Nat.le_refl _) hlt
    have u0:=q1.cell z0
    have u1:=q1.cell z1
    have uf:=q1.free
    rcases hd.out with hd'|⟨ba,o,rfl,hba,hd'⟩
    ·rw[hd']at hlt;simp at hlt
    have hbne:¬ba=b:=by omega
    have d0:=hor.out.cell ((hbw3.cell (p:=⟨ba,o+i*2,none⟩) hba).trans (hd' i hlt).1) (Nat.lt_of_lt_of_le hba hbw3.size) hbne
    have d1:=hor.out.cell ((hbw3.cell (p:=⟨ba,o+i*2+1,none⟩) hba).trans (hd' i hlt).2) (Nat.lt_of_lt_of_le hba hbw3.size) hbne
    have hnx:=fun y z=>hrw.out.next hlt y z
    obtain⟨I,hI⟩:∃I,(ds.getD i (0,[])).1=I:=⟨_,rfl⟩
    obtain⟨TT,hT⟩:∃T,ah (ds.getD i (0,[])).2=T:=⟨_,rfl⟩
    rw[hI]at u0 d0
    rw[hT]at u1 d1
    have hI2:=hII I
    have hT2:(TT.toList==TT.toList)=true:=by simp
    replace hI:=aA hI
    replace hT:=aA hT
    replace hnx:=aA hnx
    replace hd':=aA hd'
    clear q1 q2 q3 q4 z0 z1
    go_wp2_with fail
    go_quiet(fail)
    go_wp2_with fail
    go_roundg(ds.length+1-(i+1))
    case rel=>exact⟨i+1,by omega,by omega,by go_num,aA (hnx.out _ _),aA ((((hor.out.drewN nq)).setCell _ _ (fun _=>rfl)).setCell _ _ (fun _=>rfl))⟩
    case measure=>omega
   ·have hlt':¬(i:Int)<(ds.length:Int):=by omega
    have hbf:Below w.heap.size w wr:=BZ hbw3 hor.out (fun k e=>by omega) (Nat.le_refl _)
    replace hbf:=aA hbf
    go_wp2_with fail
    go_ret2
    exact⟨hbf.out,.inl ⟨hg,rfl⟩⟩
 ·go_wp2_with fail
  have hII:∀I:Int,(I==I)=true:=fun I=>by simp
  go_loopg[10] (ds.length+1) (fun gh iv wr=>∃i:Nat,gh=ds.length+1-i/\i<=ds.length/\iv=.int .i64 (i:Int)/\Hid (wZ wr b ds i)/\Hid (Only (·=b) w3 wr))
  case atStart=>exact⟨0,by omega,by omega,rfl,aA hrow3,aA (Only.refl _ _)⟩
  case round =>
   obtain⟨i,rfl,hi,rfl,hrw,hor⟩:=hrel
   have y1:wr.cell? ⟨C,1,none⟩=some (.slice a ds.length cc):=hor.out.cell m1 ahy yR
   by_cases hlt:i<ds.length
   ·have hlt':(i:Int)<(ds.length:Int):=by omega
    have hi0:(0:Int)<=(i:Int):=by omega
    have hlt1:(i:Int)<((ds.length+1:Nat):Int):=by omega
    have hlt2:(i:Int)<(ds.length:Int)+1:=by omega
    obtain⟨xs,q1,q2,q3,q4⟩:=hrw.out
    obtain⟨z0,z1⟩:=q4 i (Nat.le_refl _) hlt
    have u0:=q1.cell z0
    have u1:=q1.cell z1
    have uf:=q1.free
    rcases hd.out with hd'|⟨ba,o,rfl,hba,hd'⟩
    ·rw[hd']at hlt;simp at hlt
    have hbne:¬ba=b:=by omega
    have d0:=hor.out.cell ((hbw3.cell (p:=⟨ba,o+i*2,none⟩) hba).trans (hd' i hlt).1) (Nat.lt_of_lt_of_le hba hbw3.size) hbne
    have d1:=hor.out.cell ((hbw3.cell (p:=⟨ba,o+i*2+1,none⟩) hba).trans (hd' i hlt).2) (Nat.lt_of_lt_of_le hba hbw3.size) hbne
    have hnx:=fun y z=>hrw.out.next hlt y z
    obtain⟨I,hI⟩:∃I,(ds.getD i (0,[])).1=I:=⟨_,rfl⟩
    obtain⟨TT,hT⟩:∃T,ah (ds.getD i (0,[])).2=T:=⟨_,rfl⟩
    rw[hI]at u0 d0
    rw[hT]at u1 d1
    have hI2:=hII I
    have hT2:(TT.toList==TT.toList)=true:=by simp
    replace hI:=aA hI
    replace hT:=aA hT
    replace hnx:=aA hnx
    replace hd':=aA hd'
    clear q1 q2 q3 q4 z0 z1
    go_wp2_with fail
    go_quiet(fail)
    go_wp2_with fail
    go_roundg(ds.length+1-(i+1))
    case rel=>exact⟨i+1,by omega,by omega,by go_num,aA (hnx.out _ _),aA ((((hor.out.drewN nq)).setCell _ _ (fun _=>rfl)).setCell _ _ (fun _=>rfl))⟩
    case measure=>omega
   ·have hlt':¬(i:Int)<(ds.length:Int):=by omega
    have hbf:Below w.heap.size w wr:=BZ hbw3 hor.out (fun k e=>by omega) (Nat.le_refl _)
    replace hbf:=aA hbf
    obtain hbt:=Ui.turn hboth (by have:=hC.out;omega) (by have:=hC.out;omega) akU hor.out
    have hfin:ahw x lim ds w (.returned (.tuple #[.pointer (some ⟨wr.heap.size,0,none⟩),.bool true])) (wr.alloc (.cells #[.pointer (some ⟨R,0,none⟩),.pointer (some ⟨r,0,none⟩)] 87)):=by
     rcases hbt with⟨hgf,_⟩|⟨_,R2,r2,v2,lo2,hi2,S2,G2,ss2,e1,e2,hL2,hlo2,hR2,b1,b2,b3,b4,b5⟩
     ·rw[hg]at hgf;cases hgf
     ·cases e1
      cases e2
      have hba:Below wr.heap.size wr (wr.alloc (.cells #[.pointer (some ⟨R,0,none⟩),.pointer (some ⟨r,0,none⟩)] 87)):=(Below.refl _ wr).alloc (Nat.le_refl _) _
      have hbz:=hbf.out.size
      have hrl:=hR2.blk.lt
      have hop:OpenAt x (fun k=>lo2<=k/\k<hi2) ⟨lim,ds⟩ [] 0 R wr:=⟨RD.St.start [],.refl _,.inl ⟨hL2.wants,S2,MS.start,G2,ss2,_,_,hL2⟩⟩
      have wW:=hC.out
      refine⟨hbf.out.alloc hbz _,.inr ⟨hg,wr.heap.size,(fun k=>lo2<=k/\k<hi2),R,r,v2,rfl,⟨aB.new wr 87 [.pointer (some ⟨R,0,none⟩),.pointer (some ⟨r,0,none⟩)],(FX hg).1,hop.away (aH (G:=fun _=>False) hba) (pK.none x _ wr),hR2.below hba,fun e=>by omega,fun e=>by omega,fun k hk e=>by have:=b5 k hk;omega,by omega,by omega,fun k hk=>by have:=hba.size;omega⟩,fun k hk=>by omega,by omega,hbz,fun k hk=>by have:=b5 k hk;omega⟩⟩
    replace hfin:=aA hfin
    clear hbt
    go_wp2_with fail
    go_ret2
    exact hfin.out
abbrev FQ:=Int×Int×aj
def ahz(w:World)(v:Value)(acts:List FQ):Prop:=∃a c,v=.slice a acts.length c/\acts.length<=c/\(acts=[]\/∃b o,a=some ⟨b,o,none⟩/\b<w.heap.size/\∀i,i<acts.length->w.cell? ⟨b,o+i*3,none⟩=some (.int .i64 (acts.getD i (0,0,[])).1)/\w.cell? ⟨b,o+i*3+1,none⟩=some (.int .i64 (acts.getD i (0,0,[])).2.1)/\w.cell? ⟨b,o+i*3+2,none⟩=some (.string (ah (acts.getD i (0,0,[])).2.2)))
def tu:List FQ->Nat
 | []=>0
 | d::l=>d.2.2.length+tu l
theorem akV(acts:List FQ)(i:Nat)(h:i<acts.length):tu (acts.take (i+1))=tu (acts.take i)+(acts.getD i (0,0,[])).2.2.length:=by
 induction acts generalizing i with
 | nil=>simp at h
 | cons d l ih =>
  cases i with
  | zero=>simp[tu]
  | succ i =>
   have:=ih i (by simpa using h)
   simp only[List.take_succ_cons,tu]
   rw[this]
   simp only[List.getD_cons_succ]
   omega
theorem ahA(acts:List FQ)(i:Nat):tu (acts.take i)<=tu acts:=by
 induction acts generalizing i with
 | nil=>simp[tu]
 | cons d l ih =>
  cases i with
  | zero=>simp[tu]
  | succ i =>
   simp only[List.take_succ_cons,tu]
   have:=ih i
   omega
end Go.Proofs.YtbhemchnjpajiaaGreatDoor
namespace Go.Proofs.YtbhemchnjpajiaaGreatDoor
open Go.RowKit Go.Deep Go.ChangeShapes Go.WideShapes Go.Proofs.Tryz RD
theorem akZ:prog.cellsOf 52=3:=by kernel_rfl
theorem ahB{H:Type}(f:Nat->FQ)(D:Nat->DataW H)(n:Nat)(h:∀i,i<n->(f i).2.2.length<=Rows.uptoBulk (D i)):∀l:List Nat,(∀i∈l,i<n)->tu (l.map f)<=Rows.uptoBulkAll (l.map D)
 | [],_=>by simp[tu]
 | i::l,hl=>by
  have:=ahB f D n h l (fun j hj=>hl j (by simp[hj]))
  have hi:=h i (hl i (by simp))
  rw[List.map_cons,List.map_cons]
  simp only[tu,Rows.uptoBulkAll]
  omega
theorem ak0{H:Type}{enc:TypeId×Value->H}{W:World}{fuel:Nat}{v:Value}{x:DataW H×List MemPlace}(h:DataW.trod enc prog W 0 (fun _=>true) true fuel 46 [v]=some x):∃acts,ahz W v acts/\acts.length<=Rows.uptoBulk x.1/\tu acts<=Rows.uptoBulk x.1/\∀d∈acts,-9223372036854775808<=d.2.1/\d.2.1<=9223372036854775807:=by
 rcases open_slice underlying46 h with⟨hcs,rfl⟩|⟨a,len,cap,m,n,D,Pl,hcs,_,hl,hm,hmm,rfl,hx⟩
 ·obtain rfl:=List.singleton_inj.1 hcs
  exact⟨[],⟨none,0,rfl,Nat.le_refl _,.inl rfl⟩,by simp,by simp[tu],by simp⟩
 ·obtain rfl:=List.singleton_inj.1 hcs
  simp only[if_true]at hmm
  subst hmm
  have each:∀i,i<m->∃d:FQ,(W.cell? (a.add (i*3))=some (.int .i64 d.1)/\W.cell? (a.add (i*3+1))=some (.int .i64 d.2.1)/\W.cell? (a.add (i*3+2))=some (.string (ah d.2.2)))/\(-9223372036854775808<=d.2.1/\d.2.1<=9223372036854775807)/\d.2.2.length<=Rows.uptoBulk (D i):=by
   intro i hi
   obtain⟨cs',h1,h2⟩:=hx i hi
   rw[akZ]at h1
   obtain⟨_,hlen,hcell⟩:=World.cells?_some h1
   obtain⟨xs,k,hk,hxy,_,hxl,hf⟩:=DataW.trod_struct underlying52 h2
   match xs,hxl,cs',hlen with
   | [y0,y1,y2],_,[v0,v1,v2],_ =>
    have g0:=hf 0 _ rfl
    have g1:=hf 1 _ rfl
    have g2:=hf 2 _ rfl
    simp[Uo,KQ]at g0 g1 g2
    have e0:=hcell 0 (by omega)
    have e1:=hcell 1 (by omega)
    have e2:=hcell 2 (by omega)
    rw[add_add]at e0 e1 e2
    simp only[Prod.mk.injEq]at hxy
    obtain⟨z0,q0,-,-⟩:=DataW.trod_int underlying3 g0
    obtain⟨z1,q1,-,w1⟩:=DataW.trod_int underlying3 g1
    obtain⟨s,q2,q3,-⟩:=DataW.trod_string underlying9 g2
    obtain rfl:=List.singleton_inj.1 q0
    obtain rfl:=List.singleton_inj.1 q1
    obtain rfl:=List.singleton_inj.1 q2
    have w1':(decide ((-9223372036854775808:Int)<=z1)&&decide (z1<=9223372036854775807))=true:=w1
    refine⟨(z0,z1,s.data.toList),⟨by simpa using e0,by simpa using e1,by rw[<- Lm];simpa using e2⟩,by simpa using w1',?_⟩
    rw[hxy.1]
    have hy:y2.1=.lit (.string s.data.toList):=by rw[q3]
    simp only[List.map_cons,List.map_nil,Rows.uptoBulk,Rows.uptoBulkAll,hy]
    omega
  have:Inhabited FQ:=⟨(0,0,[])⟩
  obtain⟨f,hfs⟩:=choose_lt each
  have q:=Ut ((List.range len).map D) ((List.range (m-len)).map fun j=>D (len+j))
  refine⟨(List.range len).map f,⟨some a,m,by simp,by simpa using hl,?_⟩,?_,?_,?_⟩
  ·by_cases h0:len=0
   ·left
    simp[h0]
   ·right
    obtain⟨⟨c0,_⟩,_⟩:=hfs 0 (by omega)
    obtain⟨b,o,rfl,hb⟩:=Ur (by simpa using c0)
    refine⟨b,o,rfl,hb,fun i hi=>?_⟩
    have hi':i<len:=by simpa using hi
    obtain⟨⟨c0,c1,c2⟩,_⟩:=hfs i (by omega)
    rw[addr_add]at c0 c1 c2
    have e:((List.range len).map f).getD i (0,0,[])=f i:=by simp[List.getD_eq_getElem?_getD,hi']
    rw[e]
    exact⟨c0,c1,c2⟩
  ·have:=Us ((List.range len).map D)
   simp only[List.length_map,List.length_range]at this⊢
   show _<=Rows.uptoBulk (DataW.slice ((List.range len).map D) ((List.range (m-len)).map fun j=>D (len+j)))
   omega
  ·have:=ahB f D m (fun i hi=>(hfs i hi).2.2) (List.range len) (fun i hi=>by have:=List.mem_range.1 hi;omega)
   show _<=Rows.uptoBulk (DataW.slice ((List.range len).map D) ((List.range (m-len)).map fun j=>D (len+j)))
   omega
  ·intro d hd
   obtain⟨i,hi,rfl⟩:=List.mem_map.1 hd
   exact(hfs i (by have:=List.mem_range.1 hi;omega)).2.1
end Go.Proofs.YtbhemchnjpajiaaGreatDoor
namespace Go.Proofs.YtbhemchnjpajiaaGreatDoor
open Go.RowKit Go.Proofs.Tryz RD
def Plain(w:World)(k:Nat):Prop:=b_ w k/\(∀xs,¬aB w k 111 xs)/\¬DB w k
theorem Plain.jg{w:World}{k:Nat}{t:TypeId}{ys:List Value}(h:aB w k t ys)(h1:t≠226)(h2:t≠288)(h3:t≠111)(h4:t≠65):Plain w k:=by
 refine⟨b_.jg h h1 h2,fun xs e=>e.apart h (fun e=>h3 e.symm) rfl,fun⟨cur,fz,e⟩=>?_⟩
 have hb:w.heap[k]?=_:=h
 rw[e]at hb
 injection hb with hb
 injection hb with a1 a2 a3
 exact h4 a2.symm
theorem Plain.uy{w:World}{k:Nat}(h:U8 w k):Plain w k:=by
 refine⟨b_.uy h,fun xs e=>h.ne e (by decide) rfl,fun⟨cur,fz,e⟩=>?_⟩
 obtain⟨cur',fz',h⟩:=h
 rw[e]at h
 injection h with h
 injection h with a1 a2 a3
 exact absurd a2 (by decide)
theorem Plain.of_map{w:World}{M n:Nat}(h:bP w M n):Plain w M:=by
 refine⟨b_.of_map h,fun xs e=>h.ne e rfl,fun⟨cur,fz,e⟩=>?_⟩
 obtain⟨es,clock,h,-⟩:=h
 rw[e]at h
 injection h with h
 cases h
theorem bF.plain{x:Fx}{G:Nat->Prop}{c:aC}{m:MS}{S:Nat}{ss:List Value}{v6:Value}{w:World}(h:bF x G c m S ss v6 w):bF x (fun k=>G k/\Plain w k) c m S ss v6 w:=by
 obtain⟨v,d1,d2,d3⟩:=h.wX
 obtain⟨M,hM,hM1,hM2,gK⟩:=h.tabs
 refine⟨h.blk,h.len,h.lim,⟨v,d1,d2,fun k hk=>⟨fun e=>(d3 k hk).1 e.1,(d3 k hk).2⟩⟩,⟨M,hM,⟨hM1,Plain.of_map hM2⟩,hM2,gK⟩,fun k hk=>h.pure k hk.1,h.fr,h.bl,h.nx,h.bg,h.row,h.lf,h.lk,h.kd,h.nm,h.lV,h.gZ,⟨⟨h.bW.1,Plain.jg h.blk (by decide) (by decide) (by decide) (by decide)⟩,fun k hk=>⟨h.bW.2 k hk,Plain.uy (h.row.blk hk).2⟩⟩,h.vars,fun k hk=>h.base k hk.1,h.early,fun e=>?_⟩
 obtain⟨u,W8,g1,g2,g3⟩:=h.frame e
 exact⟨u,W8,g1,fun k hk=>⟨⟨(g2 k hk).1,Plain.uy (g1.row.blk hk).2⟩,(g2 k hk).2⟩,g3⟩
theorem sJ.plain{x:Fx}{G:Nat->Prop}{c:aC}{fed out:aj}{given R S:Nat}{m:MS}{a:RD.St}{G1:Nat->Prop}{ss:List Value}{v6 vr:Value}{w:World}(h:sJ x G c fed out given R w S m a G1 ss v6 vr):sJ x (fun k=>G k/\Plain w k) c fed out given R w S m a (fun k=>G1 k/\Plain w k) ss v6 vr :=
 ⟨h.blk,h.row,h.le,h.lk,h.wants,h.len,h.str.plain,fun k hk=>⟨⟨(h.own k hk.1).1,hk.2⟩,(h.own k hk.1).2⟩,fun e=>h.nr e.1,fun k hk=>⟨fun e=>(h.nv k hk).1 e.1,⟨(h.nv k hk).2.1,Plain.uy (h.row.blk hk).2⟩,(h.nv k hk).2.2⟩,h.sr,⟨h.bW,Plain.jg h.blk (by decide) (by decide) (by decide) (by decide)⟩,fun k hk=>h.base k hk.1,h.rows,h.few⟩
theorem lD.plain{x:Fx}{G:Nat->Prop}{text:aj}{n:Nat}{pl:Nat×Nat}{cl:Bool}{given R F:Nat}{vr:Value}{w:World}(h:lD x G text n pl cl given R w F vr):lD x (fun k=>G k/\Plain w k) text n pl cl given R w F vr :=
 ⟨h.blk,h.row,h.le,h.flt,h.num,⟨h.bW,Plain.jg h.blk (by decide) (by decide) (by decide) (by decide)⟩,fun k hk=>⟨h.nv k hk,Plain.uy (h.row.blk hk).2⟩,fun k hk=>h.base k hk.1,h.vars,h.rows⟩
theorem tq.plain{x:Fx}{G:Nat->Prop}{R r:Nat}{v:Value}{w:World}{P:Nat}{c:aC}{fed:aj}{closed:Bool}{given:Nat}(h:tq x G R r v w P c fed closed given):tq x (fun k=>G k/\Plain w k) R r v w P c fed closed given:=by
 refine⟨h.blk,h.cfg,?_,h.ref,fun e=>h.nr e.1,fun e=>h.np e.1,fun b hb e=>h.nv b hb e.1,h.rp,h.base,fun k hk=>h.small k hk.1⟩
 have hm:=h.mine
 cases closed with
 | true =>
  obtain⟨text,n,pl,F,vr,ht,hS⟩:uU x G c fed given R w:=hm
  exact⟨text,n,pl,F,vr,ht,hS.plain⟩
 | false =>
  obtain⟨a,hr,⟨hw,S,m,G1,ss,v6,vr,hL⟩|⟨n,F,vr,hn,hS⟩⟩:OpenAt x G c fed given R w:=hm
  ·exact⟨a,hr,.inl ⟨hw,S,m,_,ss,v6,vr,hL.plain⟩⟩
  ·exact⟨a,hr,.inr ⟨n,F,vr,hn,hS.plain⟩⟩
theorem tq.bases{x:Fx}{G:Nat->Prop}{R r:Nat}{v:Value}{w:World}{P:Nat}{c:aC}{fed:aj}{closed:Bool}{given:Nat}(h:tq x G R r v w P c fed closed given):∀k,G k->x.base<=k:=by
 have hm:=h.mine
 cases closed with
 | true =>
  obtain⟨text,n,pl,F,vr,ht,hS⟩:uU x G c fed given R w:=hm
  exact hS.base
 | false =>
  obtain⟨a,hr,⟨hw,S,m,G1,ss,v6,vr,hL⟩|⟨n,F,vr,hn,hS⟩⟩:OpenAt x G c fed given R w:=hm
  ·exact hL.base
  ·exact hS.base
theorem tq.away{x:Fx}{G K:Nat->Prop}{R r:Nat}{v:Value}{w w':World}{P:Nat}{c:aC}{fed:aj}{closed:Bool}{given:Nat}(h:tq x G R r v w P c fed closed given)(ho:Only K w w')(hK:pK x G w K)(hP:¬K P)(hr:¬K r)(hv:∀k,bJ v=some k->¬K k):tq x G R r v w' P c fed closed given:=by
 refine⟨h.blk.only ho hP,h.cfg,?_,h.ref.away ho hr hv,h.nr,h.np,h.nv,h.rp,h.base,fun k hk=>Nat.lt_of_lt_of_le (h.small k hk) ho.size⟩
 have hm:=h.mine
 cases closed with
 | true=>exact uU.away (show uU x G c fed given R w from hm) ho hK
 | false=>exact OpenAt.away (show OpenAt x G c fed given R w from hm) ho hK
def alu(G:Nat->Prop)(r:Nat)(G':Nat->Prop)(r':Nat)(v':Value)(P':Nat):Prop:=∀k,(G k\/k=r)->¬G' k/\k≠r'/\k≠P'/\bJ v'≠some k
structure aaD(x:Fx)(w:World)(G:Nat->Prop)(R r:Nat)(v:Value)(P:Nat)(c:aC)(fed:aj)(closed:Bool)(given:Nat)(G':Nat->Prop)(R' r':Nat)(v':Value)(P':Nat)(c':aC)(CJ:aj)(closed':Bool)(Cm:Nat):Prop where
 one:tq x G R r v w P c fed closed given
 two:tq x G' R' r' v' w P' c' CJ closed' Cm
 ab:alu G r G' r' v' P'
 ba:alu G' r' G r v P
theorem aaD.swap{x:Fx}{w:World}{G:Nat->Prop}{R r:Nat}{v:Value}{P:Nat}{c:aC}{fed:aj}{closed:Bool}{given:Nat}{G':Nat->Prop}{R' r':Nat}{v':Value}{P':Nat}{c':aC}{CJ:aj}{closed':Bool}{Cm:Nat}(h:aaD x w G R r v P c fed closed given G' R' r' v' P' c' CJ closed' Cm):aaD x w G' R' r' v' P' c' CJ closed' Cm G R r v P c fed closed given:=⟨h.two,h.one,h.ba,h.ab⟩
theorem aaD.step{x:Fx}{w w':World}{G:Nat->Prop}{R r:Nat}{v:Value}{P:Nat}{c:aC}{fed:aj}{closed:Bool}{given:Nat}{G':Nat->Prop}{R' r':Nat}{v':Value}{P':Nat}{c':aC}{CJ:aj}{closed':Bool}{Cm:Nat}(h:aaD x w G R r v P c fed closed given G' R' r' v' P' c' CJ closed' Cm)
  (ho:Only (fun k=>(G k/\Plain w k)\/k=r) w w') {G2:Nat->Prop} {Ug:aj} {UD:Bool} {UE:Nat} (hG:∀k,G2 k->(G k/\Plain w k)\/w.heap.size<=k) (h2:tq x G2 R r v w' P c Ug UD UE):aaD x w' G2 R r v P c Ug UD UE G' R' r' v' P' c' CJ closed' Cm:=by
 have hA:=h.one
 have hB:=h.two
 have hpl:∀k,((G k/\Plain w k)\/k=r)->Plain w k:=fun k e=>e.elim And.right (fun e=>e▸Plain.jg hA.ref.blk (by decide) (by decide) (by decide) (by decide))
 have hab:∀k,((G k/\Plain w k)\/k=r)->¬G' k/\k≠r'/\k≠P'/\bJ v'≠some k:=fun k e=>h.ab k (e.imp And.left id)
 refine⟨h2,hB.away ho ⟨fun k _ e=>(hab k e).1,fun k _ e=>e.elim (fun e=>hA.bases k e.1) (fun e=>e▸hA.base),fun k _ e=>(hpl k e).1,fun k xs e=>(hpl k e).2.1 xs,fun k e=>(hpl k e).2.2⟩ (fun e=>(hab P' e).2.2.1 rfl) (fun e=>(hab r' e).2.1 rfl) (fun k hk e=>(hab k e).2.2.2 hk),fun k e=>?_,fun k e=>?_⟩
 ·rcases e with e|e
  ·rcases hG k e with e|e
   ·exact hab k (.inl e)
   ·exact⟨fun e'=>by have:=hB.small k e';omega,fun e'=>by have:=hB.ref.blk.lt;omega,fun e'=>by have:=hB.blk.lt;omega,fun e'=>by have:=(hB.ref.inn k e').1;omega⟩
  ·exact hab k (.inr e)
 ·obtain⟨h1,h3⟩:=h.ba k e
  refine⟨fun e'=>?_,h3⟩
  rcases hG k e' with e'|e'
  ·exact h1 e'.1
  ·rcases e with e|e
   ·have:=hB.small k e;omega
   ·have:=hB.ref.blk.lt;omega
def ah9(x:Fx)(G:Nat->Prop)(R r:Nat)(v:Value)(P:Nat)(c:aC)(bound:Nat)(G':Nat->Prop)(R' r':Nat)(v':Value)(P':Nat)(c':aC)(CJ:aj)(closed':Bool)(Cm:Nat)(w:World)(e:Ending)(w':World):Prop :=
 e=.returned (.bool true)/\Only (fun k=>G k\/k=r) w w'/\∃G2 Ug UD UE,(∀k,G2 k->G k\/w.heap.size<=k)/\Ug.length<=bound/\aaD x w' G2 R r v P c Ug UD UE G' R' r' v' P' c' CJ closed' Cm
theorem aaD.any{x:Fx}{w:World}{G:Nat->Prop}{R r:Nat}{v:Value}{P:Nat}{c:aC}{fed:aj}{closed:Bool}{given:Nat}{G':Nat->Prop}{R' r':Nat}{v':Value}{P':Nat}{c':aC}{CJ:aj}{closed':Bool}{Cm:Nat}(h:aaD x w G R r v P c fed closed given G' R' r' v' P' c' CJ closed' Cm){bound:Nat}{e:Ending}{w':World}(hp:AnyPost x (fun k=>G k/\Plain w k) R r v P c bound w e w'):ah9 x G R r v P c bound G' R' r' v' P' c' CJ closed' Cm w e w':=by
 obtain⟨rfl,ho,G2,Ug,UD,UE,hG2,hl2,hP2⟩:=hp
 exact⟨rfl,ho.weaken (fun k _ e=>e.imp And.left id),G2,Ug,UD,UE,fun k hk=>(hG2 k hk).imp And.left id,hl2,h.step ho hG2 hP2⟩
theorem ah_(x:Fx)(w:World)(G:Nat->Prop)(R r:Nat)(v:Value)(P:Nat)(c:aC)(fed s:aj)(closed:Bool)(given:Nat)(k n:Int)(G':Nat->Prop)(R' r':Nat)(v':Value)(P':Nat)(c':aC)(CJ:aj)(closed':Bool)(Cm:Nat)(h:aaD x w G R r v P c fed closed given G' R' r' v' P' c' CJ closed' Cm)(hn:-9223372036854775808<=n/\n<=9223372036854775807)(hl:fed.length+s.length<=268435456) :
  Calls prog 20 #[.pointer (some ⟨P,0,none⟩),.agg #[.int .i64 k,.int .i64 n,.string (ah s)]] w (ah9 x G R r v P c (fed.length+s.length) G' R' r' v' P' c' CJ closed' Cm w) :=
 (UC x _ R r v w P c fed s closed given k n h.one.plain hn hl).mono fun e w' hp=>h.any hp
theorem alv(x:Fx)(w:World)(G:Nat->Prop)(R r:Nat)(v:Value)(P:Nat)(c:aC)(fed:aj)(closed:Bool)(given:Nat)(G':Nat->Prop)(R' r':Nat)(v':Value)(P':Nat)(c':aC)(CJ:aj)(closed':Bool)(Cm:Nat)(h:aaD x w G R r v P c fed closed given G' R' r' v' P' c' CJ closed' Cm)(hl:fed.length<=268435456) :
  Calls prog 21 #[.pointer (some ⟨P,0,none⟩)] w (ah9 x G R r v P c fed.length G' R' r' v' P' c' CJ closed' Cm w) :=
 (last_any x _ R r v w P c fed closed given h.one.plain hl).mono fun e w' hp=>h.any hp
theorem aaD.made{x:Fx}{w w':World}{G:Nat->Prop}{R r:Nat}{v:Value}{P:Nat}{c:aC}{fed:aj}{closed:Bool}{given:Nat}{G':Nat->Prop}{R' r':Nat}{v':Value}{P':Nat}{c':aC}{CJ:aj}{closed':Bool}{Cm:Nat}(h:tq x G R r v w P c fed closed given)(hb:Below w.heap.size w w')(h':tq x G' R' r' v' w' P' c' CJ closed' Cm)(hG:∀k,G' k->w.heap.size<=k)(hr:w.heap.size<=r')(hP:w.heap.size<=P')(hv:∀k,bJ v'=some k->w.heap.size<=k):aaD x w' G R r v P c fed closed given G' R' r' v' P' c' CJ closed' Cm:=by
 have h1:=h.ref.blk.lt
 have h2:=h.blk.lt
 refine⟨h.away (aH (G:=fun _=>False) hb) (pK.none x G w) (fun e=>e) (fun e=>e) (fun _ _ e=>e),h',fun k e=>?_,fun k e=>?_⟩
 ·have hk:k<w.heap.size:=e.elim (h.small k) (fun e=>e▸h1)
  exact⟨fun e'=>by have:=hG k e';omega,by omega,by omega,fun e'=>by have:=hv k e';omega⟩
 ·have hk:w.heap.size<=k:=e.elim (hG k) (fun e=>e▸hr)
  exact⟨fun e'=>by have:=h.small k e';omega,by omega,by omega,fun e'=>by have:=(h.ref.inn k e').1;omega⟩
theorem aia{w wr:World}{sa:Option Addr}{sc:Nat}{acts:List FQ}(hA:ahz w (.slice sa acts.length sc) acts)(hb:Below w.heap.size w wr)(hN:∀d∈acts,-9223372036854775808<=d.2.1/\d.2.1<=9223372036854775807){i:Nat}(hi:i<acts.length):∃b o K N S,sa=some ⟨b,o,none⟩/\wr.cell? ⟨b,o+i*3,none⟩=some (.int .i64 K)/\wr.cell? ⟨b,o+i*3+1,none⟩=some (.int .i64 N)/\wr.cell? ⟨b,o+i*3+2,none⟩=some (.string (ah S))/\(-9223372036854775808<=N/\N<=9223372036854775807)/\tu (acts.take (i+1))=tu (acts.take i)+S.length:=by
 obtain⟨a',c',e,h1,h2⟩:=hA
 injection e with e1 e2 e3
 subst e1
 rcases h2 with hc|⟨b,o,rfl,hbl,hc⟩
 ·rw[hc]at hi;simp at hi
 obtain⟨c0,c1,c2⟩:=hc i hi
 have hmem:acts.getD i (0,0,[])∈acts:=by
  rw[List.getD_eq_getElem?_getD,List.getElem?_eq_getElem hi]
  exact List.getElem_mem hi
 exact⟨b,o,_,_,_,rfl,(hb.cell (p:=⟨b,o+i*3,none⟩) hbl).trans c0,(hb.cell (p:=⟨b,o+i*3+1,none⟩) hbl).trans c1,(hb.cell (p:=⟨b,o+i*3+2,none⟩) hbl).trans c2,hN _ hmem,akV acts i hi⟩
theorem alx(acts:List FQ)(i:Nat)(h:¬i<acts.length):tu (acts.take (i+1))=tu (acts.take i):=by
 rw[List.take_of_length_le (by omega),List.take_of_length_le (by omega)]
theorem alK(x:Fx)(lim aaB:Int)(ds ds2:List (Int×aj))(v v2 sv sv2:Value)(acts aah:List FQ)(w:World)(lW:-9223372036854775808<=lim/\lim<=9223372036854775807)(alL:-9223372036854775808<=aaB/\aaB<=9223372036854775807)(hD:iE w v ds)(hD2:iE w v2 ds2)(hn:ds.length<=1048576)(hn2:ds2.length<=1048576)(ht:∀d∈ds,d.2.length<=140737488355328)(ht2:∀d∈ds2,d.2.length<=140737488355328)(hA:ahz w sv acts)(hA2:ahz w sv2 aah)(has:acts.length<=1048576)(alr:aah.length<=1048576)(hN:∀d∈acts,-9223372036854775808<=d.2.1/\d.2.1<=9223372036854775807)(uX:∀d∈aah,-9223372036854775808<=d.2.1/\d.2.1<=9223372036854775807)(hl:tu acts<=268435456)(hl2:tu aah<=268435456)(hV:bI x w)(hE:jE x w) :
  Calls prog 8 #[.agg #[.int .i64 lim,v],.agg #[.int .i64 aaB,v2],sv,sv2] w fun e w'=>e=.returned (.bool true)/\Below w.heap.size w w':=by
 obtain⟨a,cc,rfl,hcc,-⟩:=id hD
 obtain⟨a2,nV,rfl,alP,-⟩:=id hD2
 obtain⟨sa,sc,rfl,hsc,-⟩:=id hA
 obtain⟨sa2,sc2,rfl,hsc2,-⟩:=id hA2
 have hb0:Below w.heap.size w ((w.alloc (.cells #[.int .i64 lim,.slice a ds.length cc] 24)).alloc (.cells #[.int .i64 aaB,.slice a2 ds2.length nV] 24)):=((Below.refl _ w).alloc (Nat.le_refl _) _).alloc (by simp) _
 have hC:=aB.new (w.alloc (.cells #[.int .i64 lim,.slice a ds.length cc] 24)) 24 [.int .i64 aaB,.slice a2 ds2.length nV]
 rw[show(w.alloc (.cells #[.int .i64 lim,.slice a ds.length cc] 24)).heap.size=w.heap.size+1 by simp]at hC
 obtain⟨W0,hW0⟩:∃W,(w.alloc (.cells #[.int .i64 lim,.slice a ds.length cc] 24)).alloc (.cells #[.int .i64 aaB,.slice a2 ds2.length nV] 24)=W:=⟨_,rfl⟩
 have hC':aB W0 (w.heap.size+1) 24 [.int .i64 aaB,.slice a2 ds2.length nV]:=by rw[<- hW0];exact hC
 clear hC
 rw[hW0]at hb0
 replace hW0:=aA hW0
 have hmd:=akS x lim ds _ W0 lW (hD.below hb0) hn ht (hV.below hb0) (hE.below hV hb0)
 replace hA:=aA hA
 replace hA2:=aA hA2
 replace hN:=aA hN
 replace uX:=aA uX
 go_enter func8,ntmps8
 go_wp2_with fail
 rw[hW0.out]
 refine hmd.mono ?_
 rintro e w1 ⟨hb1,hfirst⟩
 have wY:Below w.heap.size w w1:=hb0.trans ⟨hb1.os,hb1.tape,hb1.output,hb1.size,fun k hk=>hb1.block k (Nat.lt_of_lt_of_le hk hb0.size)⟩
 have oL:=hC'.below hb1 hC'.lt
 have l0:=oL.cell (j:=0) rfl
 have l1:=oL.cell (j:=1) rfl
 have alz:=akS x aaB ds2 _ w1 alL (hD2.below wY) hn2 ht2 (hV.below wY) (hE.below hV wY)
 obtain⟨p1,rfl,hone⟩:∃p1,e=.returned (.tuple #[.pointer p1,.bool true])/\Hid (p1=none\/∃P G R r v,p1=some ⟨P,0,none⟩/\tq x G R r v w1 P ⟨lim,ds⟩ [] false 0/\(∀k,G k->w.heap.size<=k)/\w.heap.size<=r):=by
  have s0:=hb0.size
  rcases hfirst with⟨_,rfl⟩|⟨_,P,G,R,r,v',rfl,hP,gI,hrw,hPw,hvw⟩
  ·exact⟨_,rfl,aA (.inl rfl)⟩
  ·exact⟨_,rfl,aA (.inr ⟨P,G,R,r,v',rfl,hP,fun k hk=>Nat.le_trans s0 (gI k hk),Nat.le_trans s0 hrw⟩)⟩
 clear oL hC' hmd hfirst
 go_wp2_with fail
 refine alz.mono ?_
 rintro e w2 ⟨hb2,alA⟩
 have hbw2:Below w.heap.size w w2:=wY.trans ⟨hb2.os,hb2.tape,hb2.output,hb2.size,fun k hk=>hb2.block k (Nat.lt_of_lt_of_le hk wY.size)⟩
 replace hbw2:=aA hbw2
 clear l0 l1 alz
 rcases hone.out with rfl|⟨P,G,R,r,v',rfl,hP,gI,hrw⟩
 ·rcases alA with⟨_,rfl⟩|⟨_,P',G',R',r',v'',rfl,-⟩
  ·go_wp2_with fail
   go_ret
   exact⟨rfl,hbw2.out⟩
  ·go_wp2_with fail
   go_ret
   exact⟨rfl,hbw2.out⟩
 rcases alA with⟨_,rfl⟩|⟨_,P',G',R',r',v'',rfl,hP',aaE,abz,alB,alC⟩
 ·go_wp2_with fail
  go_ret
  exact⟨rfl,hbw2.out⟩
 have hT:=aA (aaD.made hP hb2 hP' aaE abz alB alC)
 have gI:=aA gI
 have aaE:Hid (∀k,G' k->w.heap.size<=k):=aA (fun k hk=>Nat.le_trans wY.size (aaE k hk))
 have abz:w.heap.size<=r':=Nat.le_trans wY.size abz
 clear hP hP' alB alC hone
 go_wp2_with fail
 go_loopg[10,13] (acts.length+aah.length+1) (fun gh okv iv wr=>∃(i:Nat)(G:Nat->Prop)(fed:aj)(closed:Bool)(given:Nat)(G':Nat->Prop)(CJ:aj)(closed':Bool)(Cm:Nat),gh=acts.length+aah.length+1-i/\i<=acts.length+aah.length/\okv=.bool true/\iv=.int .i64 (i:Int)/\fed.length<=tu (acts.take i)/\CJ.length<=tu (aah.take i)/\Hid (aaD x wr G R r v' P ⟨lim,ds⟩ fed closed given G' R' r' v'' P' ⟨aaB,ds2⟩ CJ closed' Cm)/\Hid (Below w.heap.size w wr)/\Hid (∀k,G k->w.heap.size<=k)/\Hid (∀k,G' k->w.heap.size<=k))
 case atStart=>exact⟨0,G,[],false,0,G',[],false,0,by omega,by omega,rfl,rfl,by simp,by simp,hT,hbw2,gI,aaE⟩
 case round =>
  clear hT gI aaE hbw2
  obtain⟨i,G,fed,closed,given,G',CJ,closed',Cm,rfl,hi,rfl,rfl,hfl,alM,hT,hbw,gI,aaE⟩:=hrel
  have hi0:(0:Int)<=(i:Int):=by omega
  have hsl:=ahA acts (i+1)
  have hsl2:=ahA aah (i+1)
  by_cases hlt:i<acts.length
  ·have hlt':(i:Int)<(acts.length:Int):=by omega
   obtain⟨b,o,K,N,S,rfl,e0,e1,e2,hNi,hst⟩:=aia hA.out hbw.out hN.out hlt
   have hact:=ah_ x wr G R r v' P ⟨lim,ds⟩ fed S closed given K N G' R' r' v'' P' ⟨aaB,ds2⟩ CJ closed' Cm hT.out hNi (by omega)
   replace hst:=aA hst
   by_cases hlt2:i<aah.length
   ·have aie:(i:Int)<(aah.length:Int):=by omega
    go_wp2_with fail
    refine hact.mono ?_
    rintro e w3 ⟨rfl,ho3,G3,akH,cl3,gv3,hG3,hl3,bZ⟩
    have hbw3:Hid (Below w.heap.size w w3):=aA (BZ hbw.out ho3 (fun k e=>e.elim (gI.out k) (fun e=>e▸hrw)) (Nat.le_refl _))
    have aif:Hid (∀k,G3 k->w.heap.size<=k):=aA (fun k hk=>(hG3 k hk).elim (gI.out k) (fun e=>by have:=hbw.out.size;omega))
    have ahQ:akH.length<=tu (acts.take (i+1)):=by rw[hst.out];omega
    obtain⟨b2,o2,K2,N2,S2,rfl,f0,f1,f2,aii,hst2⟩:=aia hA2.out hbw3.out uX.out hlt2
    have ahY:=ah_ x w3 G' R' r' v'' P' ⟨aaB,ds2⟩ CJ S2 closed' Cm K2 N2 G3 R r v' P ⟨lim,ds⟩ akH cl3 gv3 bZ.swap aii (by omega)
    replace hst2:=aA hst2
    clear e0 e1 e2 hact hT hbw gI ho3 bZ hG3
    go_wp2_with fail
    refine ahY.mono ?_
    rintro e w4 ⟨rfl,gu,G4,abA,cl4,gv4,hG4,hl4,gV⟩
    have agt:Hid (Below w.heap.size w w4):=aA (BZ hbw3.out gu (fun k e=>e.elim (aaE.out k) (fun e=>e▸abz)) (Nat.le_refl _))
    have aij:Hid (∀k,G4 k->w.heap.size<=k):=aA (fun k hk=>(hG4 k hk).elim (aaE.out k) (fun e=>by have:=hbw3.out.size;omega))
    have ahS:abA.length<=tu (aah.take (i+1)):=by rw[hst2.out];omega
    have kW:=aA gV.swap
    clear gV gu hG4
    go_wp2_with fail
    go_roundg(acts.length+aah.length+1-(i+1))
    case rel=>exact⟨i+1,G3,akH,cl3,gv3,G4,abA,cl4,gv4,by omega,by omega,rfl,by go_num,ahQ,ahS,kW,agt,aif,aij⟩
    case measure=>omega
   ·have aie:¬(i:Int)<(aah.length:Int):=by omega
    go_wp2_with fail
    refine hact.mono ?_
    rintro e w3 ⟨rfl,ho3,G3,akH,cl3,gv3,hG3,hl3,bZ⟩
    have hbw3:Hid (Below w.heap.size w w3):=aA (BZ hbw.out ho3 (fun k e=>e.elim (gI.out k) (fun e=>e▸hrw)) (Nat.le_refl _))
    have aif:Hid (∀k,G3 k->w.heap.size<=k):=aA (fun k hk=>(hG3 k hk).elim (gI.out k) (fun e=>by have:=hbw.out.size;omega))
    have ahQ:akH.length<=tu (acts.take (i+1)):=by rw[hst.out];omega
    have ahS:CJ.length<=tu (aah.take (i+1)):=by rw[alx aah i hlt2];exact alM
    replace bZ:=aA bZ
    clear e0 e1 e2 hact hT hbw gI ho3 hG3
    go_wp2_with fail
    go_roundg(acts.length+aah.length+1-(i+1))
    case rel=>exact⟨i+1,G3,akH,cl3,gv3,G',CJ,closed',Cm,by omega,by omega,rfl,by go_num,ahQ,ahS,bZ,hbw3,aif,aaE⟩
    case measure=>omega
  ·have hlt':¬(i:Int)<(acts.length:Int):=by omega
   by_cases hlt2:i<aah.length
   ·have aie:(i:Int)<(aah.length:Int):=by omega
    obtain⟨b2,o2,K2,N2,S2,rfl,f0,f1,f2,aii,hst2⟩:=aia hA2.out hbw.out uX.out hlt2
    have ahY:=ah_ x wr G' R' r' v'' P' ⟨aaB,ds2⟩ CJ S2 closed' Cm K2 N2 G R r v' P ⟨lim,ds⟩ fed closed given hT.out.swap aii (by omega)
    replace hst2:=aA hst2
    go_wp2_with fail
    refine ahY.mono ?_
    rintro e w4 ⟨rfl,gu,G4,abA,cl4,gv4,hG4,hl4,gV⟩
    have agt:Hid (Below w.heap.size w w4):=aA (BZ hbw.out gu (fun k e=>e.elim (aaE.out k) (fun e=>e▸abz)) (Nat.le_refl _))
    have aij:Hid (∀k,G4 k->w.heap.size<=k):=aA (fun k hk=>(hG4 k hk).elim (aaE.out k) (fun e=>by have:=hbw.out.size;omega))
    have ahS:abA.length<=tu (aah.take (i+1)):=by rw[hst2.out];omega
    have ahQ:fed.length<=tu (acts.take (i+1)):=by rw[alx acts i hlt];exact hfl
    have kW:=aA gV.swap
    clear gV gu hG4 ahY hT hbw aaE
    go_wp2_with fail
    go_roundg(acts.length+aah.length+1-(i+1))
    case rel=>exact⟨i+1,G,fed,closed,given,G4,abA,cl4,gv4,by omega,by omega,rfl,by go_num,ahQ,ahS,kW,agt,gI,aij⟩
    case measure=>omega
   ·have aie:¬(i:Int)<(aah.length:Int):=by omega
    have hs1:=ahA acts i
    have hs2:=ahA aah i
    have hla:=alv x wr G R r v' P ⟨lim,ds⟩ fed closed given G' R' r' v'' P' ⟨aaB,ds2⟩ CJ closed' Cm hT.out (by omega)
    go_wp2_with fail
    refine hla.mono ?_
    rintro e w3 ⟨rfl,ho3,G3,akH,cl3,gv3,hG3,hl3,bZ⟩
    have hbw3:Hid (Below w.heap.size w w3):=aA (BZ hbw.out ho3 (fun k e=>e.elim (gI.out k) (fun e=>e▸hrw)) (Nat.le_refl _))
    have J3:=alv x w3 G' R' r' v'' P' ⟨aaB,ds2⟩ CJ closed' Cm G3 R r v' P ⟨lim,ds⟩ akH cl3 gv3 bZ.swap (by omega)
    clear hla hT hbw ho3 bZ hG3
    go_wp2_with fail
    refine J3.mono ?_
    rintro e w4 ⟨rfl,gu,G4,abA,cl4,gv4,hG4,hl4,gV⟩
    have agt:Below w.heap.size w w4:=BZ hbw3.out gu (fun k e=>e.elim (aaE.out k) (fun e=>e▸abz)) (Nat.le_refl _)
    clear gu hG4 gV
    go_wp2_with fail
    go_ret
    exact⟨rfl,agt⟩
end Go.Proofs.YtbhemchnjpajiaaGreatDoor
