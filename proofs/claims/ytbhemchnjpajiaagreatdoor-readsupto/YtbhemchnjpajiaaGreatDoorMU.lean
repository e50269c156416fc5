/- Several texts in one: QLent, QMade, QReads, ActArg. -/
import Derived.Test.YtbhemchnjpajiaaGreatDoorMO
import Derived.Test.YtbhemchnjpajiaaGreatDoorME
import Derived.Test.YtbhemchnjpajiaaGreatDoorMI
import Derived.Laws.CopyRow
import Derived.Test.YtbhemchnjpajiaaGreatDoorMT
import Derived.Test.YtbhemchnjpajiaaGreatDoorLM
set_option linter.unusedVariables false
set_option linter.unusedSimpArgs false
set_option maxRecDepth 100000
set_option maxHeartbeats 4000000
namespace Go.Proofs.YtbhemchnjpajiaaGreatDoor
open Go.RowKit Go.Proofs.Tryz RD
theorem akK{P:Program}(w:World)(dT sT ty elem:TypeId)(g o dLen dCap:Nat)(a:Addr)(sLen sCap:Nat)(cur:Array Value)(t:TypeId)(cs:List Value)
  (hu:P.underlying dT=some (.slice elem)) (hs:(P.info? elem).map (·.size)=some 2)
  (hg:w.heap[g]?=some (.cells cur t (0,0))) (hn:cs.length=Nat.min sLen dLen*2)
  (hsrc:∀j v,cs[j]?=some v->w.cell? (a.add j)=some v) (hfit:o+cs.length<=cur.size) (h1:∀v∈cs,v.oneCell'=true) :
  (Builtin.copy_ #[dT,sT] ty #[.slice (some ⟨g,o,none⟩) dLen dCap,.slice (some a) sLen sCap]).run P w =
   .ok (goInt (Nat.min sLen dLen)) (w.setRow g (cur.toList.take o++cs++cur.toList.drop (o+cs.length)).toArray):=by
 have hl:=run_loadCells_list (P:=P) w a cs hsrc
 have hst:=run_storeCells_at P g o t cs 0 cur w hg (by simpa using hfit) h1
 cases hq:P.info? elem with
 | none=>simp[hq]at hs
 | some i =>
  have hi:i.size=2:=by simpa[hq]using hs
  simp[Builtin.copy_,run_underlying hu,Builtin.lenOf,Builtin.firstCells,sizeOf,typeInfo,hq,hi,<- hn,hl,hst]
theorem ahg:(prog.info? 65).map (·.size)=some 2:=by kernel_rfl
def nY(n:Nat):List Value:=iJ (List.replicate n (0,[]))
theorem Uh(n:Nat):(nY n).length=n*2:=by unfold nY;rw[HY,List.length_replicate]
theorem akL(n i:Nat):(List.replicate n ((0,[]):Int×aj)).getD i (0,[])=(0,[]):=by
 rw[List.getD_eq_getElem?_getD,List.getElem?_replicate]
 split<;>rfl
theorem akM(n:Nat):madeCells #[.int .i64 0,.string ⟨#[]⟩] (n*2)=(nY n).toArray:=by
 apply Array.ext
 ·simp[madeCells,Uh]
 ·intro i h1 h2
  have hi:i<n*2:=by simpa[madeCells]using h1
  obtain⟨e1,e2⟩:=KN (List.replicate n ((0,[]):Int×aj)) (i/2) (by rw[List.length_replicate];omega)
  rw[akL]at e1 e2
  have hb:i<(nY n).length:=by rw[Uh];exact hi
  rcases(by omega:i%2=0\/i%2=1)with e|e
  ·rw[show i/2*2=i by omega]at e1
   have e3:(nY n)[i]?=some (.int .i64 0):=e1
   rw[List.getElem?_eq_getElem hb]at e3
   have e4:(nY n)[i]=.int .i64 0:=Option.some.inj e3
   simp[madeCells,e,e4]
  ·rw[show i/2*2+1=i by omega]at e2
   have e3:(nY n)[i]?=some (.string (ah [])):=e2
   rw[List.getElem?_eq_getElem hb]at e3
   have e4:(nY n)[i]=.string ⟨#[]⟩:=Option.some.inj e3
   simp[madeCells,e,e4]
theorem akN(w:World)(n:Nat)(hn:n*24<=281474976710656) :
  (Instr.makeSlice 22 (.int .i64 (n:Int)) (.int .i64 (n:Int))).run prog w =
   .ok (.slice (some ⟨w.heap.size,0,none⟩) n n) (w.alloc (.cells (nY n).toArray 65)):=by
 obtain⟨i0,hi,hz0,hz1,hz2⟩:=info_parts KP
 have h:=run_make (P:=prog) w 22 65 i0 (.agg #[.int .i64 0,.string ⟨#[]⟩]) underlying22 hi hz0 .i64 .i64 (n:Int) (n:Int) (by omega) (Int.le_refl _) (by rw[hz2];omega) (by omega)
 rw[h,Int.toNat_natCast,hz1,<- akM n]
 rfl
theorem akO(ds:List (Int×aj)):∀v∈iJ ds,v.oneCell'=true:=by
 intro v hv
 unfold iJ at hv
 rw[List.mem_flatMap]at hv
 obtain⟨d,_,hv⟩:=hv
 simp only[List.mem_cons,List.not_mem_nil,or_false]at hv
 rcases hv with rfl|rfl<;>rfl
theorem akP(W:World)(v:Value)(g m dc:Nat)(ds:List (Int×aj))(hD:iE W v ds)(hg:aB W g 65 (nY m))(hnm:ds.length<=m) :
  ∃W2 k,(Builtin.copy_ #[22,22] 3 #[.slice (some ⟨g,0,none⟩) m dc,v]).run prog W=.ok k W2 /\
   Hid (aB W2 g 65 (iJ ds++nY (m-ds.length)))/\Below g W W2/\W2.heap.size=W.heap.size:=by
 obtain⟨a,cc,rfl,hcc,hd⟩:=hD
 have h0:ds.length=0->∃W2 k,(Builtin.copy_ #[22,22] 3 #[.slice (some ⟨g,0,none⟩) m dc,.slice a ds.length cc]).run prog W=.ok k W2 /\
   Hid (aB W2 g 65 (iJ ds++nY (m-ds.length)))/\Below g W W2/\W2.heap.size=W.heap.size:=fun h0=>by
  obtain rfl:ds=[]:=List.eq_nil_of_length_eq_zero h0
  refine⟨W,goInt 0,?_,hg,Below.refl _ _,rfl⟩
  cases hq:prog.info? 65 with
  | none=>have:=ahg;simp[hq]at this
  | some i =>
   have hi:i.size=2:=by have:=ahg;simpa[hq]using this
   have hl:=fun b=>run_loadCells_list (P:=prog) W b [] (fun j u hj=>by cases hj)
   cases a with
   | none=>simp[Builtin.copy_,run_underlying underlying22,Builtin.lenOf,Builtin.firstCells,sizeOf,typeInfo,hq,hi,storeCells]
   | some b =>
    have hl':=hl b
    simp at hl'
    simp[Builtin.copy_,run_underlying underlying22,Builtin.lenOf,Builtin.firstCells,sizeOf,typeInfo,hq,hi,hl',storeCells]
 rcases hd with hd|⟨b,o,rfl,hb,hd⟩
 ·exact h0 (by rw[hd];rfl)
 ·by_cases hz:ds.length=0
  ·exact h0 hz
  ·have hlc:=HY ds
   have hrun:=akK (P:=prog) W 22 22 3 65 g 0 m dc ⟨b,o,none⟩ ds.length cc (nY m).toArray 65 (iJ ds) underlying22 ahg hg (by rw[hlc];congr 1;show ds.length=min ds.length m;omega)
    (by
     intro j u hj
     have hjn:j<ds.length*2:=by
      rcases Nat.lt_or_ge j (ds.length*2)with h|h
      ·exact h
      ·rw[List.getElem?_eq_none (by omega)]at hj;cases hj
     obtain⟨e1,e2⟩:=KN ds (j/2) (by omega)
     rw[addr_add]
     rcases(by omega:j%2=0\/j%2=1)with e|e
     ·rw[show j/2*2=j by omega]at e1
      rw[e1]at hj
      have:=(hd (j/2) (by omega)).1
      rw[show o+j/2*2=o+j by omega]at this
      rw[this]
      exact hj
     ·rw[show j/2*2+1=j by omega]at e2
      rw[e2]at hj
      have:=(hd (j/2) (by omega)).2
      rw[show o+j/2*2+1=o+j by omega]at this
      rw[this]
      exact hj)
    (by simp[Uh,hlc];omega) (akO ds)
   refine⟨_,_,hrun,?_,below_setRow (Below.refl _ _) (Nat.le_refl _) _,by simp[World.setRow]⟩
   have e:(iJ ds++nY (m-ds.length)).toArray=(List.take 0 (nY m).toArray.toList++iJ ds++List.drop (0+(iJ ds).length) (nY m).toArray.toList).toArray:=by
    have e1:nY m=nY ds.length++nY (m-ds.length):=by
     unfold nY iJ
     rw[<- List.flatMap_append,List.replicate_append_replicate,show ds.length+(m-ds.length)=m by omega]
    rw[List.take_zero,List.nil_append,Nat.zero_add,hlc]
    show _=(iJ ds++List.drop (ds.length*2) (nY m)).toArray
    rw[e1,List.drop_left' (Uh _)]
   show(W.setRow g _).heap[g]?=_
   rw[<- e]
   rw[setRow_heap _ _ _ _ _ _ hg]
def akQ(ds:List (Int×aj))(w:World)(e:Ending)(w':World):Prop :=
 Below w.heap.size w w'/\∃b,w.heap.size<=b/\e=.returned (.slice (some ⟨b,0,none⟩) (ds.length+1) (ds.length+1))/\aB w' b 65 (iJ ds++[.int .i64 (-77),.string ⟨#[]⟩])
theorem akR(lim:Int)(ds:List (Int×aj))(v:Value)(w:World)(hD:iE w v ds)(hn:ds.length<=1048576) :
  Calls prog 33 #[.agg #[.int .i64 lim,v]] w (akQ ds w):=by
 obtain⟨a,cc,rfl,hcc,hd⟩:=id hD
 have hmk:=fun u=>akN u (ds.length+1) (by omega)
 have ec:((ds.length+1:Nat):Int)=(ds.length:Int)+1:=by omega
 rw[ec]at hmk
 clear ec
 have hb0:Below w.heap.size w (w.alloc (.cells #[.int .i64 lim,.slice a ds.length cc] 24)):=(Below.refl _ w).alloc (Nat.le_refl _) _
 have hC0:=aB.new w 24 [.int .i64 lim,.slice a ds.length cc]
 have hb1:Below w.heap.size w ((w.alloc (.cells #[.int .i64 lim,.slice a ds.length cc] 24)).alloc (.cells (nY (ds.length+1)).toArray 65)):=hb0.alloc hb0.size _
 have hD1:=(hD.below hb0).below ((Below.refl _ (w.alloc (.cells #[.int .i64 lim,.slice a ds.length cc] 24))).alloc (Nat.le_refl _) (.cells (nY (ds.length+1)).toArray 65))
 have hR1:=aB.new (w.alloc (.cells #[.int .i64 lim,.slice a ds.length cc] 24)) 65 (nY (ds.length+1))
 have hsz0:(w.alloc (.cells #[.int .i64 lim,.slice a ds.length cc] 24)).heap.size=w.heap.size+1:=by simp
 rw[hsz0]at hR1
 obtain⟨W2,k,hrun,hB2,hbel,hsz⟩:=akP _ _ (w.heap.size+1) (ds.length+1) (ds.length+1) ds hD1 hR1 (by omega)
 have hl:=HY ds
 have hbl:=Uh 1
 have hrow:iJ ds++nY (ds.length+1-ds.length)=iJ ds++[.int .i64 0,.string ⟨#[]⟩]:=by
  rw[show ds.length+1-ds.length=1 by omega]
  rfl
 rw[hrow]at hB2
 have hcn:W2.cell? ⟨w.heap.size+1,ds.length*2,none⟩=some (.int .i64 0):=hB2.out.cell (by rw[List.getElem?_append_right (by omega),hl,Nat.sub_self];rfl)
 have KO:W2.cell? ⟨w.heap.size+1,ds.length*2+1,none⟩=some (.string ⟨#[]⟩):=hB2.out.cell (by rw[List.getElem?_append_right (by omega),hl,show ds.length*2+1-ds.length*2=1 by omega];rfl)
 have hfn:=hB2.out.free
 have hbw:Hid (Below w.heap.size w W2):=aA (hb1.trans ⟨hbel.os,hbel.tape,hbel.output,hbel.size,fun k hk=>hbel.block k (by omega)⟩)
 have IY:Hid (aB ((W2.setCell ⟨w.heap.size+1,ds.length*2,none⟩ (.int .i64 (-77))).setCell ⟨w.heap.size+1,ds.length*2+1,none⟩ (.string ⟨#[]⟩)) (w.heap.size+1) 65 (iJ ds++[.int .i64 (-77),.string ⟨#[]⟩])):=by
  have:=(hB2.out.put (ds.length*2) (.int .i64 (-77))).put (ds.length*2+1) (.string ⟨#[]⟩)
  rw[List.set_append_right _ _ (by omega),hl,Nat.sub_self,List.set_append_right _ _ (by omega),hl,show ds.length*2+1-ds.length*2=1 by omega]at this
  exact this
 clear hbel hb1 hD1 hR1 hrow hbl hl hsz hC0 hb0
 replace hd:=aA hd
 replace hD:=aA hD
 go_enter func33,ntmps33
 go_wp2
 go_ret
 exact⟨jw (jw hbw.out (w.heap.size+1) _ _ (by omega)) (w.heap.size+1) _ _ (by omega),w.heap.size+1,by omega,rfl,IY.out⟩
def ahw(x:Fx)(lim:Int)(ds:List (Int×aj))(w:World)(e:Ending)(w':World):Prop :=
 Below w.heap.size w w'/\((dK lim ds=false/\e=.returned (.tuple #[.pointer none,.bool true])) \/
  (dK lim ds=true/\∃P G R r v,e=.returned (.tuple #[.pointer (some ⟨P,0,none⟩),.bool true])/\tq x G R r v w' P ⟨lim,ds⟩ [] false 0/\(∀k,G k->w.heap.size<=k)/\w.heap.size<=r/\w.heap.size<=P/\∀b,bJ v=some b->w.heap.size<=b))
def wZ(w:World)(b:Nat)(ds:List (Int×aj))(i:Nat):Prop:=∃xs,aB w b 65 xs/\xs.length=ds.length*2+2/\xs[ds.length*2]?=some (.int .i64 (-77))/\∀j,i<=j->j<ds.length->xs[j*2]?=some (.int .i64 (ds.getD j (0,[])).1)/\xs[j*2+1]?=some (.string (ah (ds.getD j (0,[])).2))
theorem wZ.start{w:World}{b:Nat}{ds:List (Int×aj)}(h:aB w b 65 (iJ ds++[.int .i64 (-77),.string ⟨#[]⟩])):wZ w b ds 0:=by
 have hl:=HY ds
 refine⟨_,h,by rw[List.length_append,hl];rfl,?_,fun j _ hj=>?_⟩
 ·rw[List.getElem?_append_right (by omega),hl,Nat.sub_self]
  rfl
 ·obtain⟨e1,e2⟩:=KN ds j hj
  rw[List.getElem?_append_left (by omega),List.getElem?_append_left (by omega)]
  exact⟨e1,e2⟩
theorem wZ.only{w w':World}{b i:Nat}{ds:List (Int×aj)}{K:Nat->Prop}(h:wZ w b ds i)(ho:Only K w w')(hb:¬K b):wZ w' b ds i:=by
 obtain⟨xs,h1,h2⟩:=h
 exact⟨xs,h1.only ho hb,h2⟩
theorem wZ.next{w:World}{b i:Nat}{ds:List (Int×aj)}(h:wZ w b ds i)(hi:i<ds.length)(x y:Value):wZ ((w.setCell ⟨b,i*2,none⟩ x).setCell ⟨b,i*2+1,none⟩ y) b ds (i+1):=by
 obtain⟨xs,h1,h2,h3,h4⟩:=h
 refine⟨_,(h1.put (i*2) x).put (i*2+1) y,by simp[h2],?_,fun j h5 h6=>?_⟩
 ·rw[List.getElem?_set_ne (by omega),List.getElem?_set_ne (by omega)]
  exact h3
 ·rw[List.getElem?_set_ne (by omega),List.getElem?_set_ne (by omega),List.getElem?_set_ne (by omega),List.getElem?_set_ne (by omega)]
  exact h4 j (by omega) h6
theorem wZ.arg{w:World}{b:Nat}{ds:List (Int×aj)}(h:wZ w b ds 0)(cc:Nat)(hcc:ds.length<=cc):iE w (.slice (some ⟨b,0,none⟩) ds.length cc) ds:=by
 obtain⟨xs,h1,h2,h3,h4⟩:=h
 exact⟨_,cc,rfl,hcc,.inr ⟨b,0,rfl,h1.lt,fun i hi=>⟨by rw[Nat.zero_add];exact h1.cell (h4 i (Nat.zero_le _) hi).1,by rw[Nat.zero_add];exact h1.cell (h4 i (Nat.zero_le _) hi).2⟩⟩⟩
def Ui(x:Fx)(lim:Int)(ds:List (Int×aj))(B b:Nat)(w:World)(px py:Value):Prop :=
 (dK lim ds=false/\px=.pointer none/\py=.pointer none) \/
 (dK lim ds=true/\∃R r v lo hi S G1 ss,px=.pointer (some ⟨R,0,none⟩)/\py=.pointer (some ⟨r,0,none⟩)/\sJ x (fun k=>lo<=k/\k<hi) ⟨lim,ds⟩ [] [] 0 R w S MS.start (RD.St.start []) G1 ss (.slice none 0 0) (.slice none 0 0)/\(∀v k,ss[1]?=some v->v.ownBlock=some k->lo<=k)/\dY w r ⟨lim,ds⟩ v [] false 0/\B<=r/\r<b/\b<lo/\hi<=w.heap.size/\∀k,bJ v=some k->B<=k/\k<b)
theorem Ui.turn{x:Fx}{lim:Int}{ds:List (Int×aj)}{B b:Nat}{w w':World}{px py:Value}(h:Ui x lim ds B b w px py)(hx:x.base<=B)(hBb:B<=b){xs:List Value}(hb:aB w b 65 xs)(ho:Only (·=b) w w'):Ui x lim ds B b w' px py:=by
 rcases h with h|⟨hg,R,r,v,lo,hi,S,G1,ss,e1,e2,hL,hlo,hR,h1,h2,h3,h4,h5⟩
 ·exact .inl h
 ·refine .inr ⟨hg,R,r,v,lo,hi,S,G1,ss,e1,e2,hL.turn ho (fun k _ e=>by omega) (fun k _ e=>by omega) (fun k _ e=>e▸b_.jg hb (by decide) (by decide)) (fun v hv=>?_),hlo,hR.away ho (by omega) (fun k hk e=>by have:=h5 k hk;omega),h1,h2,h3,Nat.le_trans h4 ho.size,h5⟩
  obtain⟨v',d1,d2,d3⟩:=hL.str.wX
  have hvv:v'=v:=by rw[d1]at hv;exact Option.some.inj hv
  subst hvv
  exact⟨d2.only ho (fun k hk e=>by have:=hlo v' k d1 hk;omega),fun k hk=>(d3 k hk).2.2.only ho (fun e=>by have:=hlo v' k d1 hk;omega)⟩
theorem akS(x:Fx)(lim:Int)(ds:List (Int×aj))(v:Value)(w:World)(lW:-9223372036854775808<=lim/\lim<=9223372036854775807)(hD:iE w v ds)(hn:ds.length<=1048576)(ht:∀d∈ds,d.2.length<=140737488355328)(hV:bI x w)(hE:jE x w) :
  Calls prog 19 #[.agg #[.int .i64 lim,v]] w (ahw x lim ds w):=by
 obtain⟨a,cc,rfl,hcc,hd⟩:=id hD
 have hb0:Below w.heap.size w (w.alloc (.cells #[.int .i64 lim,.slice a ds.length cc] 24)):=(Below.refl _ w).alloc (Nat.le_refl _) _
 have hC0:=aB.new w 24 [.int .i64 lim,.slice a ds.length cc]
 obtain⟨W0,hW0⟩:∃W,w.alloc (.cells #[.int .i64 lim,.slice a ds.length cc] 24)=W:=⟨_,rfl⟩
 rw[hW0]at hb0 hC0
 replace hW0:=aA hW0
 have hD0:=hD.below hb0
 have hrn:=Uu lim ds _ W0 lW hD0 (by omega) ht
 have hxb:x.base<=w.heap.size:=hV.size
 obtain⟨C,hC⟩:∃C,w.heap.size=C:=⟨_,rfl⟩
 rw[hC]at hC0
 replace hC:=aA hC
 replace hd:=aA hd
 go_enter func19,ntmps19
 go_wp2_with fail
 rw[hW0.out]
 try rw[hC.out]
 refine hrn.mono ?_
 rintro e w1 ⟨hb1,hcase⟩
 obtain⟨py,E,rfl,FV,hpy⟩:∃(py:Value)(E:Int),e=.returned (.tuple #[py,.int .i64 E])/\(E=if dK lim ds then 0 else 3)/\((dK lim ds=false/\py=.pointer none)\/(dK lim ds=true/\∃r v',W0.heap.size<=r/\py=.pointer (some ⟨r,0,none⟩)/\dY w1 r ⟨lim,ds⟩ v' [] false 0/\∀b,bJ v'=some b->W0.heap.size<=b)):=by
  rcases hcase with⟨h1,rfl⟩|⟨h1,r,v',h2,rfl,h3,h4⟩
  ·exact⟨_,_,rfl,by rw[h1];rfl,.inl ⟨h1,rfl⟩⟩
  ·exact⟨_,_,rfl,by rw[h1];rfl,.inr ⟨h1,r,v',h2,rfl,h3,h4⟩⟩
 have oL:=hC0.below hb1 hC0.lt
 have k0:=oL.cell (j:=0) rfl
 have k1:=oL.cell (j:=1) rfl
 have hD1:=hD0.below hb1
 have hle:=akR lim ds _ w1 hD1 hn
 replace hcase:=aA hcase
 replace hpy:=aA hpy
 replace FV:=aA FV
 go_wp2_with fail
 refine hle.mono ?_
 rintro e w2 ⟨hb2,b,hbb,rfl,hrow⟩
 have hC2:=oL.below hb2 oL.lt
 have l0:=hC2.cell (j:=0) rfl
 have l1:=hC2.cell (j:=1) rfl
 have Py:=hC2.lt
 have hrow0:=wZ.start hrow
 have hD2:=hrow0.arg (ds.length+1) (by omega)
 have s0:=hb0.size
 have s1:=hb1.size
 have s2:=hb2.size
 have ak8:=hC0.lt
 have wY:Below w.heap.size w w1:=hb0.trans ⟨hb1.os,hb1.tape,hb1.output,hb1.size,fun k hk=>hb1.block k (Nat.lt_of_lt_of_le hk hb0.size)⟩
 have hbw2:Below w.heap.size w w2:=wY.trans ⟨hb2.os,hb2.tape,hb2.output,hb2.size,fun k hk=>hb2.block k (Nat.lt_of_lt_of_le hk wY.size)⟩
 have hbl:=hrow.lt
 have hnw:∀W,jK W w2->Calls prog 22 #[.agg #[.int .i64 lim,.slice (some ⟨b,0,none⟩) ds.length (ds.length+1)]] W fun e w'=>∃px,e=.returned (.tuple #[px,.int .i64 E])/\Below w2.heap.size w2 w'/\Ui x lim ds C b w' px py:=fun W hW=>by
  have hbW:Below w2.heap.size w2 W:=⟨hW.2.1,hW.2.2.1,hW.2.2.2,by rw[hW.1];exact Nat.le_refl _,fun k _=>by rw[hW.1]⟩
  have ahx:Below w.heap.size w W:=hbw2.trans ⟨hbW.os,hbW.tape,hbW.output,hbW.size,fun k hk=>hbW.block k (Nat.lt_of_lt_of_le hk hbw2.size)⟩
  rcases hpy.out with⟨hg,rfl⟩|⟨hg,r,v',hr,rfl,uS,hv'⟩
  ·have hEq:E=3:=by rw[FV.out,hg];rfl
   refine(Ux lim ds _ W lW (hD2.below hbW) (by omega) ht hg).mono ?_
   rintro e w' ⟨rfl,h1⟩
   have h12:Below w2.heap.size w2 w':=hbW.trans ⟨h1.os,h1.tape,h1.output,h1.size,fun k hk=>h1.block k (Nat.lt_of_lt_of_le hk hbW.size)⟩
   exact⟨_,by rw[hEq],h12,.inl ⟨hg,rfl,rfl⟩⟩
  ·have hEq:E=0:=by rw[FV.out,hg];rfl
   refine(Uw x ⟨lim,ds⟩ hg _ W (hD2.below hbW) (hV.below ahx) (hE.below hV ahx)).mono ?_
   rintro e w' ⟨h1,R,S,G1,ss,rfl,hL,hlo⟩
   have h12:Below w2.heap.size w2 w':=hbW.trans ⟨h1.os,h1.tape,h1.output,h1.size,fun k hk=>h1.block k (Nat.lt_of_lt_of_le hk hbW.size)⟩
   have hWs:W.heap.size=w2.heap.size:=by rw[hW.1]
   have l9:=(uS.below hb2).below h12
   exact⟨_,by rw[hEq],h12,.inr ⟨hg,R,r,v',W.heap.size,w'.heap.size,S,G1,ss,rfl,rfl,hL,hlo,l9,by have:=hC.out;omega,by have:=uS.blk.lt;omega,by omega,Nat.le_refl _,fun k hk=>⟨by have:=hv' k hk;have:=hC.out;omega,by have:=(uS.inn k hk).1;omega⟩⟩⟩
 have hCn:¬C=b:=by omega
 have hq1:¬(ds.length:Int)<0:=by omega
 have hq2:ds.length<=ds.length+1:=by omega
 have hq3:(ds.length:Int)<=((ds.length+1:Nat):Int):=by omega
 have hq4:(ds.length:Int)<=(ds.length:Int)+1:=by omega
 have hq5:(0:Int)<=(ds.length:Int):=by omega
 clear oL hC0 k0 k1 hle hrn
 go_wp2_with fail
 go_region_held3(fun w'=>w'.cell? ⟨C,0,none⟩=some (.int .i64 lim)) (first|go_keep|assumption) (first
  | (go_at_call 22;refine(hnw _ (by exact⟨rfl,rfl,rfl,rfl⟩)).mono ?_;rintro e w3 ⟨px,rfl,hb3,hboth⟩;have hk1:w3.cell? ⟨C,0,none⟩=some (.int .i64 lim):=(hb3.cell (p:=⟨C,0,none⟩) Py).trans l0))
 have hbw3:Below w.heap.size w w3:=hbw2.trans ⟨hb3.os,hb3.tape,hb3.output,hb3.size,fun k hk=>hb3.block k (Nat.lt_of_lt_of_le hk hbw2.size)⟩
 have m1:w3.cell? ⟨C,1,none⟩=some (.slice a ds.length cc):=(hb3.cell (p:=⟨C,1,none⟩) Py).trans l1
 have ahy:C<w3.heap.size:=Nat.lt_of_lt_of_le Py hb3.size
 have hrow3:=wZ.only hrow0 (aH (G:=fun _=>False) hb3) (fun e=>e)
 have akU:=hrow.below hb3 hbl
 have yR:¬C=b:=hCn
 have hlast:w3.cell? ⟨b,ds.length*2,none⟩=some (.int .i64 (-77)):=by
  obtain⟨xs,q1,q2,q3,q4⟩:=hrow3
  exact q1.cell q3
 have hnn:(ds.length:Int)<((ds.length+1:Nat):Int):=by omega
 have ak9:(ds.length:Int)<(ds.length:Int)+1:=by omega
 have hEE:(E != E)=false:=by simp
 rename_i hHeld
 clear hHeld hk1 l0 l1 hnw hD2
 rcases id hboth with⟨hg,rfl,rfl⟩|⟨hg,R,r,v',lo,hi,S,G1,ss,rfl,rfl,hL,hlo,hR,h1,h2,h3,h4,h5⟩
 ·go_wp2_with fail
  have hII:∀I:Int,(I==I)=true:=fun I=>by simp
  go_loopg[10] (ds.length+1) (fun gh iv wr=>∃i:Nat,gh=ds.length+1-i/\i<=ds.length/\iv=.int .i64 (i:Int)/\Hid (wZ wr b ds i)/\Hid (Only (·=b) w3 wr))
  case atStart=>exact⟨0,by omega,by omega,rfl,aA hrow3,aA (Only.refl _ _)⟩
  case round =>
   obtain⟨i,rfl,hi,rfl,hrw,hor⟩:=hrel
   have y1:wr.cell? ⟨C,1,none⟩=some (.slice a ds.length cc):=hor.out.cell m1 ahy yR
   by_cases hlt:i<ds.length
   ·have hlt':(i:Int)<(ds.length:Int):=by omega
    have hi0:(0:Int)<=(i:Int):=by omega
    have hlt1:(i:Int)<((ds.length+1:Nat):Int):=by omega
    have hlt2:(i:Int)<(ds.length:Int)+1:=by omega
    obtain⟨xs,q1,q2,q3,q4⟩:=hrw.out
    obtain⟨z0,z1⟩:=q4 i (Nat.le_refl _) hlt
    have u0:=q1.cell z0
    have u1:=q1.cell z1
    have uf:=q1.free
    rcases hd.out with hd'|⟨ba,o,rfl,hba,hd'⟩
    ·rw[hd']at hlt;simp at hlt
    have hbne:¬ba=b:=by omega
    have d0:=hor.out.cell ((hbw3.cell (p:=⟨ba,o+i*2,none⟩) hba).trans (hd' i hlt).1) (Nat.lt_of_lt_of_le hba hbw3.size) hbne
    have d1:=hor.out.cell ((hbw3.cell (p:=⟨ba,o+i*2+1,none⟩) hba).trans (hd' i hlt).2) (Nat.lt_of_lt_of_le hba hbw3.size) hbne
    have hnx:=fun y z=>hrw.out.next hlt y z
    obtain⟨I,hI⟩:∃I,(ds.getD i (0,[])).1=I:=⟨_,rfl⟩
    obtain⟨TT,hT⟩:∃T,ah (ds.getD i (0,[])).2=T:=⟨_,rfl⟩
    rw[hI]at u0 d0
    rw[hT]at u1 d1
    have hI2:=hII I
    have hT2:(TT.toList==TT.toList)=true:=by simp
    replace hI:=aA hI
    replace hT:=aA hT
    replace hnx:=aA hnx
    replace hd':=aA hd'
    clear q1 q2 q3 q4 z0 z1
    go_wp2_with fail
    go_quiet(fail)
    go_wp2_with fail
    go_roundg(ds.length+1-(i+1))
    case rel=>exact⟨i+1,by omega,by omega,by go_num,aA (hnx.out _ _),aA ((((hor.out.drewN nq)).setCell _ _ (fun _=>rfl)).setCell _ _ (fun _=>rfl))⟩
    case measure=>omega
   ·have hlt':¬(i:Int)<(ds.length:Int):=by omega
    have hbf:Below w.heap.size w wr:=BZ hbw3 hor.out (fun k e=>by omega) (Nat.le_refl _)
    replace hbf:=aA hbf
    go_wp2_with fail
    go_ret2
    exact⟨hbf.out,.inl ⟨hg,rfl⟩⟩
 ·go_wp2_with fail
  have hII:∀I:Int,(I==I)=true:=fun I=>by simp
  go_loopg[10] (ds.length+1) (fun gh iv wr=>∃i:Nat,gh=ds.length+1-i/\i<=ds.length/\iv=.int .i64 (i:Int)/\Hid (wZ wr b ds i)/\Hid (Only (·=b) w3 wr))
  case atStart=>exact⟨0,by omega,by omega,rfl,aA hrow3,aA (Only.refl _ _)⟩
  case round =>
   obtain⟨i,rfl,hi,rfl,hrw,hor⟩:=hrel
   have y1:wr.cell? ⟨C,1,none⟩=some (.slice a ds.length cc):=hor.out.cell m1 ahy yR
   by_cases hlt:i<ds.length
   ·have hlt':(i:Int)<(ds.length:Int):=by omega
    have hi0:(0:Int)<=(i:Int):=by omega
    have hlt1:(i:Int)<((ds.length+1:Nat):Int):=by omega
    have hlt2:(i:Int)<(ds.length:Int)+1:=by omega
    obtain⟨xs,q1,q2,q3,q4⟩:=hrw.out
    obtain⟨z0,z1⟩:=q4 i (Nat.le_refl _) hlt
    have u0:=q1.cell z0
    have u1:=q1.cell z1
    have uf:=q1.free
    rcases hd.out with hd'|⟨ba,o,rfl,hba,hd'⟩
    ·rw[hd']at hlt;simp at hlt
    have hbne:¬ba=b:=by omega
    have d0:=hor.out.cell ((hbw3.cell (p:=⟨ba,o+i*2,none⟩) hba).trans (hd' i hlt).1) (Nat.lt_of_lt_of_le hba hbw3.size) hbne
    have d1:=hor.out.cell ((hbw3.cell (p:=⟨ba,o+i*2+1,none⟩) hba).trans (hd' i hlt).2) (Nat.lt_of_lt_of_le hba hbw3.size) hbne
    have hnx:=fun y z=>hrw.out.next hlt y z
    obtain⟨I,hI⟩:∃I,(ds.getD i (0,[])).1=I:=⟨_,rfl⟩
    obtain⟨TT,hT⟩:∃T,ah (ds.getD i (0,[])).2=T:=⟨_,rfl⟩
    rw[hI]at u0 d0
    rw[hT]at u1 d1
    have hI2:=hII I
    have hT2:(TT.toList==TT.toList)=true:=by simp
    replace hI:=aA hI
    replace hT:=aA hT
    replace hnx:=aA hnx
    replace hd':=aA hd'
    clear q1 q2 q3 q4 z0 z1
    go_wp2_with fail
    go_quiet(fail)
    go_wp2_with fail
    go_roundg(ds.length+1-(i+1))
    case rel=>exact⟨i+1,by omega,by omega,by go_num,aA (hnx.out _ _),aA ((((hor.out.drewN nq)).setCell _ _ (fun _=>rfl)).setCell _ _ (fun _=>rfl))⟩
    case measure=>omega
   ·have hlt':¬(i:Int)<(ds.length:Int):=by omega
    have hbf:Below w.heap.size w wr:=BZ hbw3 hor.out (fun k e=>by omega) (Nat.le_refl _)
    replace hbf:=aA hbf
    obtain hbt:=Ui.turn hboth (by have:=hC.out;omega) (by have:=hC.out;omega) akU hor.out
    have hfin:ahw x lim ds w (.returned (.tuple #[.pointer (some ⟨wr.heap.size,0,none⟩),.bool true])) (wr.alloc (.cells #[.pointer (some ⟨R,0,none⟩),.pointer (some ⟨r,0,none⟩)] 87)):=by
     rcases hbt with⟨hgf,_⟩|⟨_,R2,r2,v2,lo2,hi2,S2,G2,ss2,e1,e2,hL2,hlo2,hR2,b1,b2,b3,b4,b5⟩
     ·rw[hg]at hgf;cases hgf
     ·cases e1
      cases e2
      have hba:Below wr.heap.size wr (wr.alloc (.cells #[.pointer (some ⟨R,0,none⟩),.pointer (some ⟨r,0,none⟩)] 87)):=(Below.refl _ wr).alloc (Nat.le_refl _) _
      have hbz:=hbf.out.size
      have hrl:=hR2.blk.lt
      have hop:OpenAt x (fun k=>lo2<=k/\k<hi2) ⟨lim,ds⟩ [] 0 R wr:=⟨RD.St.start [],.refl _,.inl ⟨hL2.wants,S2,MS.start,G2,ss2,_,_,hL2⟩⟩
      have wW:=hC.out
      refine⟨hbf.out.alloc hbz _,.inr ⟨hg,wr.heap.size,(fun k=>lo2<=k/\k<hi2),R,r,v2,rfl,⟨aB.new wr 87 [.pointer (some ⟨R,0,none⟩),.pointer (some ⟨r,0,none⟩)],(FX hg).1,hop.away (aH (G:=fun _=>False) hba) (pK.none x _ wr),hR2.below hba,fun e=>by omega,fun e=>by omega,fun k hk e=>by have:=b5 k hk;omega,by omega,by omega,fun k hk=>by have:=hba.size;omega⟩,fun k hk=>by omega,by omega,hbz,fun k hk=>by have:=b5 k hk;omega⟩⟩
    replace hfin:=aA hfin
    clear hbt
    go_wp2_with fail
    go_ret2
    exact hfin.out
abbrev FQ:=Int×Int×aj
def ahz(w:World)(v:Value)(acts:List FQ):Prop:=∃a c,v=.slice a acts.length c/\acts.length<=c/\(acts=[]\/∃b o,a=some ⟨b,o,none⟩/\b<w.heap.size/\∀i,i<acts.length->w.cell? ⟨b,o+i*3,none⟩=some (.int .i64 (acts.getD i (0,0,[])).1)/\w.cell? ⟨b,o+i*3+1,none⟩=some (.int .i64 (acts.getD i (0,0,[])).2.1)/\w.cell? ⟨b,o+i*3+2,none⟩=some (.string (ah (acts.getD i (0,0,[])).2.2)))
def tu:List FQ->Nat
 | []=>0
 | d::l=>d.2.2.length+tu l
theorem akV(acts:List FQ)(i:Nat)(h:i<acts.length):tu (acts.take (i+1))=tu (acts.take i)+(acts.getD i (0,0,[])).2.2.length:=by
 induction acts generalizing i with
 | nil=>simp at h
 | cons d l ih =>
  cases i with
  | zero=>simp[tu]
  | succ i =>
   have:=ih i (by simpa using h)
   simp only[List.take_succ_cons,tu]
   rw[this]
   simp only[List.getD_cons_succ]
   omega
theorem ahA(acts:List FQ)(i:Nat):tu (acts.take i)<=tu acts:=by
 induction acts generalizing i with
 | nil=>simp[tu]
 | cons d l ih =>
  cases i with
  | zero=>simp[tu]
  | succ i =>
   simp only[List.take_succ_cons,tu]
   have:=ih i
   omega
theorem akW(x:Fx)(lim:Int)(ds:List (Int×aj))(v sv:Value)(acts:List FQ)(w:World)(lW:-9223372036854775808<=lim/\lim<=9223372036854775807)(hD:iE w v ds)(hn:ds.length<=1048576)(ht:∀d∈ds,d.2.length<=140737488355328)(hA:ahz w sv acts)(has:acts.length<=1048576)(hN:∀d∈acts,-9223372036854775808<=d.2.1/\d.2.1<=9223372036854775807)(hl:tu acts<=268435456)(hV:bI x w)(hE:jE x w) :
  Calls prog 7 #[.agg #[.int .i64 lim,v],sv] w fun e w'=>e=.returned (.bool true)/\Below w.heap.size w w':=by
 obtain⟨a,cc,rfl,hcc,-⟩:=id hD
 obtain⟨sa,sc,rfl,hsc,hcell⟩:=hA
 have hb0:Below w.heap.size w (w.alloc (.cells #[.int .i64 lim,.slice a ds.length cc] 24)):=(Below.refl _ w).alloc (Nat.le_refl _) _
 obtain⟨W0,hW0⟩:∃W,w.alloc (.cells #[.int .i64 lim,.slice a ds.length cc] 24)=W:=⟨_,rfl⟩
 rw[hW0]at hb0
 replace hW0:=aA hW0
 have hmd:=akS x lim ds _ W0 lW (hD.below hb0) hn ht (hV.below hb0) (hE.below hV hb0)
 replace hcell:=aA hcell
 go_enter func7,ntmps7
 go_wp2_with fail
 rw[hW0.out]
 refine hmd.mono ?_
 rintro e w1 ⟨hb1,⟨hg,rfl⟩|⟨hg,P,G,R,r,v',rfl,hP,gI,hrw,hPw,hvw⟩⟩
 ·have hbw:Below w.heap.size w w1:=hb0.trans ⟨hb1.os,hb1.tape,hb1.output,hb1.size,fun k hk=>hb1.block k (Nat.lt_of_lt_of_le hk hb0.size)⟩
  go_wp2_with fail
  go_ret
  exact⟨rfl,hbw⟩
 ·have hbw:Below w.heap.size w w1:=hb0.trans ⟨hb1.os,hb1.tape,hb1.output,hb1.size,fun k hk=>hb1.block k (Nat.lt_of_lt_of_le hk hb0.size)⟩
  have s0:=hb0.size
  replace hbw:=aA hbw
  go_wp2_with fail
  go_loopg[6,7] (acts.length+1) (fun gh okv iv wr=>∃(i:Nat)(G:Nat->Prop)(fed:aj)(closed:Bool)(given:Nat),gh=acts.length+1-i/\i<=acts.length/\okv=.bool true/\iv=.int .i64 (i:Int)/\fed.length<=tu (acts.take i)/\Hid (tq x G R r v' wr P ⟨lim,ds⟩ fed closed given)/\Hid (Below w.heap.size w wr)/\Hid (∀k,G k->w.heap.size<=k))
  case atStart=>exact⟨0,G,[],false,0,by omega,by omega,rfl,rfl,by simp,aA hP,hbw,aA (fun k hk=>by have:=gI k hk;omega)⟩
  case round =>
   clear hP gI hbw
   obtain⟨i,G,fed,closed,given,rfl,hi,rfl,rfl,hfl,hP,hbw,gI⟩:=hrel
   have hrl:w.heap.size<=r:=by omega
   by_cases hlt:i<acts.length
   ·have hlt':(i:Int)<(acts.length:Int):=by omega
    have hi0:(0:Int)<=(i:Int):=by omega
    have hst:=akV acts i hlt
    have hsl:=ahA acts (i+1)
    have hmem:acts.getD i (0,0,[])∈acts:=by
     rw[List.getD_eq_getElem?_getD,List.getElem?_eq_getElem hlt]
     exact List.getElem_mem hlt
    have hNi:=hN _ hmem
    rcases hcell.out with hc|⟨b,o,rfl,hbl,hc⟩
    ·rw[hc]at hlt;simp at hlt
    obtain⟨c0,c1,c2⟩:=hc i hlt
    have e0:=(hbw.out.cell (p:=⟨b,o+i*3,none⟩) hbl).trans c0
    have e1:=(hbw.out.cell (p:=⟨b,o+i*3+1,none⟩) hbl).trans c1
    have e2:=(hbw.out.cell (p:=⟨b,o+i*3+2,none⟩) hbl).trans c2
    obtain⟨⟨K,N,S⟩,ahi⟩:∃d:FQ,acts.getD i (0,0,[])=d:=⟨_,rfl⟩
    rw[ahi]at e0 e1 e2 hst hNi
    simp only[]at e0 e1 e2 hst hNi
    have hact:=UC x G R r v' wr P ⟨lim,ds⟩ fed S closed given K N hP.out hNi (by omega)
    replace ahi:=aA ahi
    replace hc:=aA hc
    replace hst:=aA hst
    go_wp2_with fail
    refine hact.mono ?_
    rintro e w2 ⟨rfl,ho2,G2,Ug,UD,UE,hG2,hl2,hP2⟩
    have hbw2:Hid (Below w.heap.size w w2):=aA (BZ hbw.out ho2 (fun k e=>e.elim (gI.out k) (fun e=>e▸hrl)) (Nat.le_refl _))
    have akY:Hid (∀k,G2 k->w.heap.size<=k):=aA (fun k hk=>(hG2 k hk).elim (gI.out k) (fun e=>by have:=hbw.out.size;omega))
    have hl3:Ug.length<=tu (acts.take (i+1)):=by rw[hst.out];omega
    replace hP2:=aA hP2
    go_wp2_with fail
    go_roundg(acts.length+1-(i+1))
    case rel=>exact⟨i+1,G2,Ug,UD,UE,by omega,by omega,rfl,by go_num,hl3,hP2,hbw2,akY⟩
    case measure=>omega
   ·have hlt':¬(i:Int)<(acts.length:Int):=by omega
    have hsl:=ahA acts i
    have hla:=last_any x G R r v' wr P ⟨lim,ds⟩ fed closed given hP.out (by omega)
    go_wp2_with fail
    refine hla.mono ?_
    rintro e w2 ⟨rfl,ho2,G2,Ug,UD,UE,hG2,hl2,hP2⟩
    have hbw2:Below w.heap.size w w2:=BZ hbw.out ho2 (fun k e=>e.elim (gI.out k) (fun e=>e▸hrl)) (Nat.le_refl _)
    go_wp2_with fail
    go_ret
    exact⟨rfl,hbw2⟩
end Go.Proofs.YtbhemchnjpajiaaGreatDoor
namespace Go.Proofs.YtbhemchnjpajiaaGreatDoor
open Go.RowKit Go.Deep Go.ChangeShapes Go.WideShapes Go.Proofs.Tryz RD
theorem akZ:prog.cellsOf 52=3:=by kernel_rfl
theorem ahB{H:Type}(f:Nat->FQ)(D:Nat->DataW H)(n:Nat)(h:∀i,i<n->(f i).2.2.length<=Rows.uptoBulk (D i)):∀l:List Nat,(∀i∈l,i<n)->tu (l.map f)<=Rows.uptoBulkAll (l.map D)
 | [],_=>by simp[tu]
 | i::l,hl=>by
  have:=ahB f D n h l (fun j hj=>hl j (by simp[hj]))
  have hi:=h i (hl i (by simp))
  rw[List.map_cons,List.map_cons]
  simp only[tu,Rows.uptoBulkAll]
  omega
theorem ak0{H:Type}{enc:TypeId×Value->H}{W:World}{fuel:Nat}{v:Value}{x:DataW H×List MemPlace}(h:DataW.trod enc prog W 0 (fun _=>true) true fuel 46 [v]=some x):∃acts,ahz W v acts/\acts.length<=Rows.uptoBulk x.1/\tu acts<=Rows.uptoBulk x.1/\∀d∈acts,-9223372036854775808<=d.2.1/\d.2.1<=9223372036854775807:=by
 rcases open_slice underlying46 h with⟨hcs,rfl⟩|⟨a,len,cap,m,n,D,Pl,hcs,_,hl,hm,hmm,rfl,hx⟩
 ·obtain rfl:=List.singleton_inj.1 hcs
  exact⟨[],⟨none,0,rfl,Nat.le_refl _,.inl rfl⟩,by simp,by simp[tu],by simp⟩
 ·obtain rfl:=List.singleton_inj.1 hcs
  simp only[if_true]at hmm
  subst hmm
  have each:∀i,i<m->∃d:FQ,(W.cell? (a.add (i*3))=some (.int .i64 d.1)/\W.cell? (a.add (i*3+1))=some (.int .i64 d.2.1)/\W.cell? (a.add (i*3+2))=some (.string (ah d.2.2)))/\(-9223372036854775808<=d.2.1/\d.2.1<=9223372036854775807)/\d.2.2.length<=Rows.uptoBulk (D i):=by
   intro i hi
   obtain⟨cs',h1,h2⟩:=hx i hi
   rw[akZ]at h1
   obtain⟨_,hlen,hcell⟩:=World.cells?_some h1
   obtain⟨xs,k,hk,hxy,_,hxl,hf⟩:=DataW.trod_struct underlying52 h2
   match xs,hxl,cs',hlen with
   | [y0,y1,y2],_,[v0,v1,v2],_ =>
    have g0:=hf 0 _ rfl
    have g1:=hf 1 _ rfl
    have g2:=hf 2 _ rfl
    simp[Uo,KQ]at g0 g1 g2
    have e0:=hcell 0 (by omega)
    have e1:=hcell 1 (by omega)
    have e2:=hcell 2 (by omega)
    rw[add_add]at e0 e1 e2
    simp only[Prod.mk.injEq]at hxy
    obtain⟨z0,q0,-,-⟩:=DataW.trod_int underlying3 g0
    obtain⟨z1,q1,-,w1⟩:=DataW.trod_int underlying3 g1
    obtain⟨s,q2,q3,-⟩:=DataW.trod_string underlying9 g2
    obtain rfl:=List.singleton_inj.1 q0
    obtain rfl:=List.singleton_inj.1 q1
    obtain rfl:=List.singleton_inj.1 q2
    have w1':(decide ((-9223372036854775808:Int)<=z1)&&decide (z1<=9223372036854775807))=true:=w1
    refine⟨(z0,z1,s.data.toList),⟨by simpa using e0,by simpa using e1,by rw[<- Lm];simpa using e2⟩,by simpa using w1',?_⟩
    rw[hxy.1]
    have hy:y2.1=.lit (.string s.data.toList):=by rw[q3]
    simp only[List.map_cons,List.map_nil,Rows.uptoBulk,Rows.uptoBulkAll,hy]
    omega
  have:Inhabited FQ:=⟨(0,0,[])⟩
  obtain⟨f,hfs⟩:=choose_lt each
  have q:=Ut ((List.range len).map D) ((List.range (m-len)).map fun j=>D (len+j))
  refine⟨(List.range len).map f,⟨some a,m,by simp,by simpa using hl,?_⟩,?_,?_,?_⟩
  ·by_cases h0:len=0
   ·left
    simp[h0]
   ·right
    obtain⟨⟨c0,_⟩,_⟩:=hfs 0 (by omega)
    obtain⟨b,o,rfl,hb⟩:=Ur (by simpa using c0)
    refine⟨b,o,rfl,hb,fun i hi=>?_⟩
    have hi':i<len:=by simpa using hi
    obtain⟨⟨c0,c1,c2⟩,_⟩:=hfs i (by omega)
    rw[addr_add]at c0 c1 c2
    have e:((List.range len).map f).getD i (0,0,[])=f i:=by simp[List.getD_eq_getElem?_getD,hi']
    rw[e]
    exact⟨c0,c1,c2⟩
  ·have:=Us ((List.range len).map D)
   simp only[List.length_map,List.length_range]at this⊢
   show _<=Rows.uptoBulk (DataW.slice ((List.range len).map D) ((List.range (m-len)).map fun j=>D (len+j)))
   omega
  ·have:=ahB f D m (fun i hi=>(hfs i hi).2.2) (List.range len) (fun i hi=>by have:=List.mem_range.1 hi;omega)
   show _<=Rows.uptoBulk (DataW.slice ((List.range len).map D) ((List.range (m-len)).map fun j=>D (len+j)))
   omega
  ·intro d hd
   obtain⟨i,hi,rfl⟩:=List.mem_map.1 hd
   exact(hfs i (by have:=List.mem_range.1 hi;omega)).2.1
end Go.Proofs.YtbhemchnjpajiaaGreatDoor
