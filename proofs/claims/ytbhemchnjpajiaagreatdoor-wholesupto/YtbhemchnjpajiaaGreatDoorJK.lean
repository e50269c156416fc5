/- Several texts in one: PrHd, PrReg, PrReg2, PrHd2. -/
import Derived.Test.YtbhemchnjpajiaaGreatDoorJJ
import Derived.Deep.RegionHeld3
set_option linter.unusedVariables false
set_option maxRecDepth 100000
set_option maxHeartbeats 4000000
namespace Go.Proofs.YtbhemchnjpajiaaGreatDoor
open Go.RowKit Go.Proofs.Tryz RD
def iJ(ds:List (Int×aj)):List Value:=ds.flatMap fun d=>[.int .i64 d.1,.string (ah d.2)]
theorem HY(ds:List (Int×aj)):(iJ ds).length=ds.length*2:=by
 induction ds with
 | nil=>rfl
 | cons a l ih=>simp only[iJ,List.flatMap_cons,List.length_append,List.length_cons,List.length_nil]at *;omega
theorem KN(ds:List (Int×aj))(i:Nat)(h:i<ds.length):(iJ ds)[i*2]?=some (.int .i64 (ds.getD i (0,[])).1)/\(iJ ds)[i*2+1]?=some (.string (ah (ds.getD i (0,[])).2)):=by
 induction ds generalizing i with
 | nil=>simp at h
 | cons a l ih =>
  cases i with
  | zero=>exact⟨rfl,rfl⟩
  | succ i =>
   have:=ih i (by simpa using h)
   rw[show(i+1)*2=i*2+2 by omega]
   exact this
def lJ(w:World)(v:Value)(ds:List (Int×aj)):Prop:=∃a c,v=.slice a ds.length c/\ds.length<=c/\(ds=[]\/∃b,a=some ⟨b,0,none⟩/\b<w.heap.size/\∀i,i<ds.length->w.cell? ⟨b,i*2,none⟩=some (.int .i64 (ds.getD i (0,[])).1)/\w.cell? ⟨b,i*2+1,none⟩=some (.string (ah (ds.getD i (0,[])).2)))
def kU(ds:List (Int×aj))(id:Int):Option aj:=(ds.find? fun d=>d.1==id).map (·.2)
theorem Yy{ds:List (Int×aj)}{id:Int}{k:Nat}(hk:k<ds.length)(h:∀i,i<k->(ds.getD i (0,[])).1≠id)(he:(ds.getD k (0,[])).1=id):kU ds id=some (ds.getD k (0,[])).2:=by
 induction ds generalizing k with
 | nil=>simp at hk
 | cons a l ih =>
  unfold kU
  cases k with
  | zero =>
   have:(a.1==id)=true:=by simpa using he
   rw[List.find?_cons,this]
   rfl
  | succ k =>
   have h0:(a.1==id)=false:=by simpa using h 0 (by omega)
   rw[List.find?_cons,h0]
   exact ih (by simpa using hk) (fun i hi=>h (i+1) (by omega)) he
theorem Yz{ds:List (Int×aj)}{id:Int}(h:∀i,i<ds.length->(ds.getD i (0,[])).1≠id):kU ds id=none:=by
 induction ds with
 | nil=>rfl
 | cons a l ih =>
  unfold kU
  have h0:(a.1==id)=false:=by simpa using h 0 (by simp)
  rw[List.find?_cons,h0]
  exact ih (fun i hi=>h (i+1) (by simpa using hi))
theorem seqNew_any(M:Nat)(w:World) :
  Calls prog 104 #[.map (some M)] w fun e w'=>e=.returned (.agg #[.map (some M),.int .i64 0,.slice none 0 0,.int .i64 0,.slice none 0 0,.int .i64 0,.slice none 0 0,.int .i64 1,.int .i64 4,.int .i64 8])/\Below w.heap.size w w':=by
 go_enter func104,ntmps104
 go_wp2_with fail
 refine bodyPost_ret (v:=.agg #[.map (some M),.int .i64 0,.slice none 0 0,.int .i64 0,.slice none 0 0,.int .i64 0,.slice none 0 0,.int .i64 1,.int .i64 4,.int .i64 8]) (by simp[results,results104,go_sem]) rfl ⟨rfl,?_⟩
 exact(Below.refl _ w).alloc (Nat.le_refl _) _
def YA(x:Fx)(ds:List (Int×aj))(id:Int)(w:World)(e:Ending)(w':World):Prop :=
 Below w.heap.size w w'/\((kU ds id=none/\e=.returned (.tuple #[.string ⟨#[]⟩,aW x.d]))\/∃t,kU ds id=some t/\e=.returned (.tuple #[.string (ah t),.nilIface]))
theorem YB(x:Fx)(S:Nat)(t:TypeId)(ss:List Value)(v:Value)(ds:List (Int×aj))(id:Int)(w:World)(h:aB w S t ss)(h1:ss[1]?=some v)(hD:lJ w v ds)(hds:ds.length<=1048576)(hV:bI x w) :
  Calls prog 103 #[.pointer (some ⟨S,0,none⟩),.int .i64 id] w (YA x ds id w):=by
 have c1:=h.cell h1
 obtain⟨a,cc,rfl,hcc,hd⟩:=hD
 have hbs:=d_ w
 go_enter func103,ntmps103
 go_wp2_with fail
 go_loopg[13] (ds.length+1) (fun gh kv wr=>∃k:Nat,gh=ds.length+1-k/\k<=ds.length/\kv=.int .i64 (k:Int)/\Below w.heap.size w wr/\∀i,i<k->(ds.getD i (0,[])).1≠id)
 case atStart=>exact⟨0,by omega,by omega,rfl,hbs,fun i hi=>by omega⟩
 case round =>
  obtain⟨k,rfl,hk,rfl,hb,hno⟩:=hrel
  replace hno:=aA hno
  replace hb:=aA hb
  by_cases hlt:k<ds.length
  ·have hlt':(k:Int)<(ds.length:Int):=by omega
   rcases hd with hd|⟨b,rfl,hbl,hd⟩
   ·rw[hd]at hlt;simp at hlt
   obtain⟨d0,d1⟩:=hd k hlt
   have e0:=(hb.out.cell (p:=⟨b,k*2,none⟩) hbl).trans d0
   have e1:=(hb.out.cell (p:=⟨b,k*2+1,none⟩) hbl).trans d1
   obtain⟨I,hI⟩:∃I,I=(ds.getD k (0,[])).1:=⟨_,rfl⟩
   obtain⟨T,hT⟩:∃T,T=(ds.getD k (0,[])).2:=⟨_,rfl⟩
   rw[<- hI]at e0
   rw[<- hT]at e1
   replace hI:=aA hI
   replace hT:=aA hT
   replace hd:=aA hd
   have hba:=aA (hb.out.alloc hb.out.size (.cells #[.int .i64 I,.string (ah T)] 65))
   by_cases heq:I=id
   ·have heq':(I==id)=true:=by simpa using heq
    replace heq:=aA heq
    go_wp2_with fail
    go_ret2
    refine⟨hba.out,.inr ⟨T,?_,rfl⟩⟩
    rw[hT.out]
    exact Yy hlt hno.out (by rw[<- hI.out];exact heq.out)
   ·have heq':(I==id)=false:=by simpa using heq
    go_wp2_with fail
    go_roundg(ds.length+1-(k+1))
    case rel =>
     refine⟨k+1,rfl,by omega,by go_num,hba.out,fun i hi=>?_⟩
     by_cases hik:i=k
     ·rw[hik,<- hI.out];exact heq
     ·exact hno.out i (by omega)
    case measure=>omega
  ·obtain rfl:k=ds.length:=by omega
   have H6:=(hV.below hb.out)
   have cD:=H6.cD
   go_wp2_with fail
   go_quiet(fail)
   go_wp2_with fail
   go_ret2
   exact⟨hb.out.trans ⟨rfl,rfl,rfl,Nat.le_refl _,fun _ _=>rfl⟩,.inl ⟨Yz hno.out,rfl⟩⟩
theorem lJ.only{G:Nat->Prop}{w w':World}{v:Value}{ds:List (Int×aj)}(h:lJ w v ds)(ho:Only G w w')(hn:∀k,v.ownBlock=some k->¬G k):lJ w' v ds:=by
 obtain⟨a,c,rfl,h1,h2⟩:=h
 refine⟨a,c,rfl,h1,?_⟩
 rcases h2 with h2|⟨b,rfl,hb,hd⟩
 ·exact .inl h2
 ·exact .inr ⟨b,rfl,Nat.lt_of_lt_of_le hb ho.size,fun i hi=>⟨ho.cell (hd i hi).1 hb (hn b rfl),ho.cell (hd i hi).2 hb (hn b rfl)⟩⟩
section
attribute [local irreducible] dw
theorem vP{P:Program}{md:Region.Mode}{ops:Array Oper}{Q:Exit->Act->World->Prop}{fuel:Nat}{listed:Array Bool}{a:Act}{w:World}{rs:List Nat}(hr:Region.ready md ops listed=rs)(hne:rs≠[])
  (h:∀i∈rs,wpOp P ops Q i (wpAny P md ops Q fuel (listed.setIfInBounds i true)) a w):wpAny P md ops Q (fuel+1) listed a w:=by
 unfold wpAny
 rw[hr]
 exact⟨fun e=>absurd e hne,h⟩
theorem kC{P:Program}{ops:Array Oper}{Q:Exit->Act->World->Prop}{K:Act->World->Prop}{a:Act}{w:World}{i:Nat}{o:Oper}(ho:ops[i]?=some o)(hg:o.guard=none)(h:o.wp P a w K Q):wpOp P ops Q i K a w:=by
 unfold wpOp
 rw[ho]
 have hw:Region.wanted o (yielded ops a.tmps)=true:=by simp[Region.wanted,hg]
 simp only[hw,if_true]
 exact .inl h
theorem uh{P:Program}{o:Oper}{Q:Exit->Act->World->Prop}{K:Act->World->Prop}{a:Act}{w w':World}{v:Value}(hr:(execOp a.eval o).run P w=.ok (.value v) w')(h:K (a.put o.dst v) w'):o.wp P a w K Q:=by
 unfold Oper.wp
 rw[hr]
 exact h
theorem aI(a:Act)(d e:Nat)(v:Value)(h:d≠e):(a.put (some d) v).eval (.tmp e)=a.eval (.tmp e):=by
 simp only[Act.put,Act.eval,Array.getD_eq_getD_getElem?,Array.getElem?_setIfInBounds]
 rw[if_neg h]
theorem iK(a:Act)(d:Nat)(v:Value)(h:d<a.tmps.size):(a.put (some d) v).eval (.tmp d)=v:=by
 simp[Act.put,Act.eval,Array.getD_eq_getD_getElem?,h]
theorem put_comm(a:Act)(d e:Nat)(v u:Value)(h:d≠e):(a.put (some d) v).put (some e) u=(a.put (some e) u).put (some d) v:=by
 simp only[Act.put]
 congr 1
 exact Array.setIfInBounds_comm _ _ h
theorem ig(a:Act)(d:Option Tmp)(v:Value):(a.put d v).tmps.size=a.tmps.size:=by
 cases d<;>simp[Act.put]
def qX(pos:String)(ty p:Nat):Oper:={ dst:=some p,op:=.build ty #[],type:=ty,pos:=pos,after:=#[],guard:=none }
def ql(pos:String)(te g q:Nat):Oper:={ dst:=some q,op:=.load te (.global g),type:=te,pos:=pos,after:=#[{ on:=2,ground:=.gcOnly .lateStores }],guard:=none }
def vS(pos:String)(ty r p:Nat):Oper:={ dst:=none,op:=.store ty (.tmp r) (.tmp p),type:=0,pos:=pos,after:=#[{ on:=0,ground:=.data },{ on:=0,ground:=.phase },{ on:=1,ground:=.textOnly .lateStores }],guard:=none }
def zY(pos:String)(te s q:Nat):Oper:={ dst:=some s,op:=.assign (.tmp q),type:=te,pos:=pos,after:=#[{ on:=1,ground:=.data },{ on:=2,ground:=.chain },{ on:=0,ground:=.phase },{ on:=1,ground:=.phase },{ on:=2,ground:=.phase }],guard:=none }
theorem Oh{P:Program}{id:Nat}{Q:Exit->Act->World->Prop}{a:Act}{w:World}{t:TypeId}{ss:List Value}(pos:String)(ty te g p q r s R:Nat)(Z:Array Value)(E:Value)(hm:P.follows .mixedOrders=true)
  (hz:∀(ρ:Operand->Value)(W:World),(execOp ρ (qX pos ty p)).run P W=.ok (.value (.agg Z)) W)
  (hl:∀(b:Act)(W:World),W.cell? ⟨g,0,none⟩=some E->(execOp b.eval (ql pos te g q)).run P W=.ok (.value E) W)
  (hcell:w.cell? ⟨g,0,none⟩=some E) (hgR:g≠R)
  (hB:aB w R t ss) (hn:Z.size<=ss.length) (hi:(P.info? ty).map (·.size)=some Z.size) (h1:Z.all (·.oneCell')=true)
  (hr:a.eval (.tmp r)=.pointer (some ⟨R,0,none⟩)) (hpr:p≠r) (hqr:q≠r) (hpq:p≠q) (hp:p<a.tmps.size) (hq:q<a.tmps.size)
  (h:∀W1,aB W1 R t (dw ss 0 Z.toList)->Only (·=R) w W1->Q .normal (((a.put (some p) (.agg Z)).put (some q) E).put (some s) E) W1) :
  (Code.region id #[qX pos ty p,ql pos te g q,vS pos ty r p,zY pos te s q] true).wp P Q a w:=by
 refine wp_region_any hm ?_
 have hBd:aB { w with drawn:=w.drawn+1 } R t ss:=hB
 have hth:=hBd.there (o:=0) (n:=Z.size) (by omega)
 have hc0:({ w with drawn:=w.drawn+1 }:World).cell? ⟨g,0,none⟩=some E:=hcell
 have hc1:((({ w with drawn:=w.drawn+1 }:World).setCells R 0 Z.toList)).cell? ⟨g,0,none⟩=some E:=by
  rw[World.cell?_setCells_out _ _ _ _ _ (fun e _=>absurd e hgR)]
  exact hc0
 have hfin:∀b:Act,b=(a.put (some p) (.agg Z)).put (some q) E->∀listed,Region.ready .any #[qX pos ty p,ql pos te g q,vS pos ty r p,zY pos te s q] listed=[3]->Region.ready .any #[qX pos ty p,ql pos te g q,vS pos ty r p,zY pos te s q] (listed.setIfInBounds 3 true)=[] ->
   wpAny P .any #[qX pos ty p,ql pos te g q,vS pos ty r p,zY pos te s q] Q 1 listed b (({ w with drawn:=w.drawn+1 }:World).setCells R 0 Z.toList):=by
  intro b hb listed h3 h4
  refine vP h3 (by simp) ?_
  intro i hi
  simp only[List.mem_singleton]at hi
  subst hi
  refine kC (o:=zY pos te s q) rfl rfl (uh (BigFrame.run_assign (.tmp q) rfl _) ?_)
  refine⟨h4,?_⟩
  have hev:b.eval (.tmp q)=E:=by rw[hb];exact iK _ _ _ (by rw[ig];exact hq)
  rw[hev,hb]
  exact h _ (aB.puts _ _ _ _ hBd) ⟨(qc R _ _ _).os,(qc R _ _ _).tape,(qc R _ _ _).output,(qc R Z.toList 0 { w with drawn:=w.drawn+1 }).size,(qc R Z.toList 0 { w with drawn:=w.drawn+1 }).block⟩
 refine vP (rs:=[0,1]) (by kernel_rfl) (by simp) ?_
 intro i hi
 simp only[List.mem_cons,List.not_mem_nil,or_false]at hi
 rcases hi with rfl|rfl
 ·refine kC (o:=qX pos ty p) rfl rfl (uh (hz _ _) ?_)
  refine vP (rs:=[1,2]) (by kernel_rfl) (by simp) ?_
  intro i hi
  simp only[List.mem_cons,List.not_mem_nil,or_false]at hi
  rcases hi with rfl|rfl
  ·refine kC (o:=ql pos te g q) rfl rfl (uh (hl _ _ hc0) ?_)
   refine vP (rs:=[2]) (by kernel_rfl) (by simp) ?_
   intro i hi
   simp only[List.mem_singleton]at hi
   subst hi
   refine kC (o:=vS pos ty r p) rfl rfl (wp_store_mid ty (.tmp r) (.tmp p) rfl R 0 Z ?_ ?_ hth hi h1 ?_)
   ·show((a.put (some p) (.agg Z)).put (some q) E).eval (.tmp r)=_
    rw[aI _ _ _ _ hqr,aI _ _ _ _ hpr]
    exact hr
   ·show((a.put (some p) (.agg Z)).put (some q) E).eval (.tmp p)=_
    rw[aI _ _ _ _ hpq.symm]
    exact iK _ _ _ hp
   ·exact hfin _ rfl _ (by kernel_rfl) (by kernel_rfl)
  ·refine kC (o:=vS pos ty r p) rfl rfl (wp_store_mid ty (.tmp r) (.tmp p) rfl R 0 Z ?_ ?_ hth hi h1 ?_)
   ·show(a.put (some p) (.agg Z)).eval (.tmp r)=_
    rw[aI _ _ _ _ hpr]
    exact hr
   ·exact iK _ _ _ hp
   ·refine vP (rs:=[1]) (by kernel_rfl) (by simp) ?_
    intro i hi
    simp only[List.mem_singleton]at hi
    subst hi
    refine kC (o:=ql pos te g q) rfl rfl (uh (hl _ _ hc1) ?_)
    exact hfin _ rfl _ (by kernel_rfl) (by kernel_rfl)
 ·refine kC (o:=ql pos te g q) rfl rfl (uh (hl _ _ hc0) ?_)
  refine vP (rs:=[0]) (by kernel_rfl) (by simp) ?_
  intro i hi
  simp only[List.mem_singleton]at hi
  subst hi
  refine kC (o:=qX pos ty p) rfl rfl (uh (hz _ _) ?_)
  refine vP (rs:=[2]) (by kernel_rfl) (by simp) ?_
  intro i hi
  simp only[List.mem_singleton]at hi
  subst hi
  refine kC (o:=vS pos ty r p) rfl rfl (wp_store_mid ty (.tmp r) (.tmp p) rfl R 0 Z ?_ ?_ hth hi h1 ?_)
  ·show((a.put (some q) E).put (some p) (.agg Z)).eval (.tmp r)=_
   rw[aI _ _ _ _ hpr,aI _ _ _ _ hqr]
   exact hr
  ·exact iK _ _ _ (by rw[ig];exact hp)
  ·exact hfin _ (put_comm _ _ _ _ _ hpq.symm) _ (by kernel_rfl) (by kernel_rfl)
end
section
attribute [local irreducible] dw
theorem jl{P:Program}{md:Region.Mode}{ops:Array Oper}{Q:Exit->Act->World->Prop}{S:World->Prop}{f:Nat}{l l':Array Bool}{a:Act}{w:World}(e:l=l')(h:wpAnyH P md ops Q S f l' a w):wpAnyH P md ops Q S f l a w:=e▸h
theorem xJ{P:Program}{ops:Array Oper}{S:World->Prop}{o:Oper}{a:Act}{v:Value}(x:Operand)(ho:o.op=.move x)(hg:o.guard=none)(hv:a.eval x=v):YieldsIf P ops S o v a :=
 .inl ⟨by simp[Region.wanted,hg],fun w _=>by unfold execOp;simp[ho,hv]⟩
theorem vT{P:Program}{ops:Array Oper}{S:World->Prop}{o:Oper}{a:Act}{v:Value}(hg:o.guard=none)(hr:∀w,S w->(execOp a.eval o).run P w=.ok (.value v) w):YieldsIf P ops S o v a :=
 .inl ⟨by simp[Region.wanted,hg],hr⟩
theorem zZ{P:Program}{o:Oper}{a:Act}{w:World}{K:Act->World->Prop}{Q:Exit->Act->World->Prop}(f:Nat)(vs:Array Value)(hrun:(execOp a.eval o).run P w=.ok (.enter f vs) w){Post:Ending->World->Prop}(hc:Calls P f vs w Post)(hk:∀e w',Post e w'->∃v,e=.returned v/\K (a.put o.dst v) w'):o.wp P a w K Q:=by
 unfold Oper.wp
 rw[hrun,Oper.upon_enter]
 refine hc.mono fun e w'' hh=>?_
 obtain⟨v,rfl,h⟩:=hk e w'' hh
 exact h
theorem Oi(b:Act)(o:Oper)(x:Operand)(k:Int)(H:Nat)(ho:o.op=.binOp .and 5 x (.const (.int .u8 k)) 5)(hx:b.eval x=.int .u8 H)(W:World):(execOp b.eval o).run prog W=.ok (.value (.int .u8 (bits .and .u8 H k))) W:=by
 have hc:b.eval (.const (.int .u8 k))=.int .u8 k:=rfl
 unfold execOp
 simp only[ho,hx,hc]
 simp[go_sem]
theorem Oj(b:Act)(o:Oper)(x:Operand)(z:Int)(q:Bool)(hq:(z != 0)=q)(ho:o.op=.binOp .neq 5 x (.const (.int .u8 0)) 5)(hx:b.eval x=.int .u8 z)(W:World):(execOp b.eval o).run prog W=.ok (.value (.bool q)) W:=by
 have hc:b.eval (.const (.int .u8 0))=.int .u8 0:=rfl
 unfold execOp
 simp only[ho,hx,hc]
 simp[go_sem,<- hq]
theorem YC(b:Act)(o:Oper)(x:Operand)(S:Nat)(ho:o.op=.fieldAddr 146 x 2)(hx:b.eval x=.pointer (some ⟨S,0,none⟩))(W:World):(execOp b.eval o).run prog W=.ok (.value (.pointer (some ⟨S,2,none⟩))) W:=by
 unfold execOp
 simp only[ho,hx]
 simp[go_sem]
theorem YD(b:Act)(o:Oper)(x:Operand)(S:Nat)(ho:o.op=.nilCheck x)(hx:b.eval x=.pointer (some ⟨S,0,none⟩))(W:World):(execOp b.eval o).run prog W=.ok (.value (.pointer (some ⟨S,0,none⟩))) W:=by
 unfold execOp
 simp only[ho,hx]
 simp[go_sem]
theorem YE(b:Act)(o:Oper)(x:Operand)(S M:Nat)(ho:o.op=.load 127 x)(hx:b.eval x=.pointer (some ⟨S,2,none⟩))(W:World)(hW:W.cell? ⟨S,2,none⟩=some (.map (some M))):(execOp b.eval o).run prog W=.ok (.value (.map (some M))) W:=by
 unfold execOp
 simp only[ho,hx]
 simp[go_sem,hW,isAgg127]
def nC(p:String):Oper:={ dst:=some 48,op:=.move (.tmp 6),type:=5,pos:=p,after:=#[],guard:=none }
def op1(p:String):Oper:={ dst:=some 49,op:=.binOp .and 5 (.tmp 48) (.const (.int .u8 8)) 5,type:=5,pos:=p,after:=#[{ on:=0,ground:=.data }],guard:=none }
def op2(p:String):Oper:={ dst:=some 50,op:=.binOp .neq 5 (.tmp 49) (.const (.int .u8 0)) 5,type:=4,pos:=p,after:=#[{ on:=1,ground:=.data }],guard:=none }
def nD(p:String):Oper:={ dst:=some 51,op:=.move (.tmp 6),type:=5,pos:=p,after:=#[],guard:=none }
def nG(p:String):Oper:={ dst:=some 52,op:=.binOp .and 5 (.tmp 51) (.const (.int .u8 16)) 5,type:=5,pos:=p,after:=#[{ on:=3,ground:=.data }],guard:=none }
def nH(p:String):Oper:={ dst:=some 53,op:=.binOp .neq 5 (.tmp 52) (.const (.int .u8 0)) 5,type:=4,pos:=p,after:=#[{ on:=4,ground:=.data }],guard:=none }
def nI(p:String):Oper:={ dst:=some 54,op:=.move (.tmp 7),type:=9,pos:=p,after:=#[],guard:=none }
def qY(p:String):Oper:={ dst:=some 55,op:=.call { callee:=.value (.func 79),args:=#[.tmp 54],argTypes:=#[9] },type:=3,pos:=p,after:=#[{ on:=6,ground:=.data }],guard:=none }
def qZ(p:String):Oper:={ dst:=some 56,op:=.call { callee:=.value (.func 27),args:=#[],argTypes:=#[] },type:=69,pos:=p,after:=#[{ on:=7,ground:=.chain }],guard:=none }
def nJ(p:String):Oper:={ dst:=some 57,op:=.move (.tmp 0),type:=88,pos:=p,after:=#[],guard:=none }
def nK(p:String):Oper:={ dst:=some 58,op:=.nilCheck (.tmp 57),type:=0,pos:=p,after:=#[{ on:=9,ground:=.data }],guard:=none }
def nM(p:String):Oper:={ dst:=some 59,op:=.fieldAddr 146 (.tmp 58) 2,type:=0,pos:=p,after:=#[{ on:=10,ground:=.data }],guard:=none }
def nN(p:String):Oper:={ dst:=some 60,op:=.load 127 (.tmp 59),type:=127,pos:=p,after:=#[{ on:=11,ground:=.data }],guard:=none }
def rC(p:String):Oper:={ dst:=some 61,op:=.call { callee:=.value (.func 104),args:=#[.tmp 60],argTypes:=#[127] },type:=138,pos:=p,after:=#[{ on:=12,ground:=.data },{ on:=8,ground:=.chain }],guard:=none }
def nO(p:String):Oper:={ dst:=some 62,op:=.move (.tmp 8),type:=3,pos:=p,after:=#[],guard:=none }
def nP(p:String):Oper:={ dst:=some 63,op:=.move (.tmp 9),type:=9,pos:=p,after:=#[],guard:=none }
def rD(p:String):Oper:={ dst:=some 64,op:=.call { callee:=.value (.func 105),args:=#[.tmp 62,.tmp 63],argTypes:=#[3,9] },type:=140,pos:=p,after:=#[{ on:=14,ground:=.data },{ on:=15,ground:=.data },{ on:=13,ground:=.chain }],guard:=none }
def rE(p:String):Oper:={ dst:=some 65,op:=.build 142 #[(0,.tmp 50),(1,.tmp 53),(2,.tmp 55),(4,.tmp 56),(6,.tmp 61),(7,.tmp 64)],type:=142,pos:=p,after:=#[{ on:=2,ground:=.data },{ on:=5,ground:=.data },{ on:=7,ground:=.data },{ on:=8,ground:=.data },{ on:=13,ground:=.data },{ on:=16,ground:=.data }],guard:=none }
def nR(p:String):Oper:={ dst:=none,op:=.store 142 (.tmp 4) (.tmp 65),type:=0,pos:=p,after:=#[{ on:=17,ground:=.data },{ on:=16,ground:=.chain },{ on:=0,ground:=.phase },{ on:=1,ground:=.phase },{ on:=2,ground:=.phase },{ on:=3,ground:=.phase },{ on:=4,ground:=.phase },{ on:=5,ground:=.phase },{ on:=6,ground:=.phase },{ on:=7,ground:=.phase },{ on:=8,ground:=.phase },{ on:=9,ground:=.phase },{ on:=10,ground:=.phase },{ on:=11,ground:=.phase },{ on:=12,ground:=.phase },{ on:=13,ground:=.phase },{ on:=14,ground:=.phase },{ on:=15,ground:=.phase },{ on:=16,ground:=.phase },{ on:=17,ground:=.phase }],guard:=none }
def vU(p:String):Oper:={ dst:=some 5,op:=.assign (.const .nilIface),type:=92,pos:=p,after:=#[{ on:=18,ground:=.chain },{ on:=0,ground:=.phase },{ on:=1,ground:=.phase },{ on:=2,ground:=.phase },{ on:=3,ground:=.phase },{ on:=4,ground:=.phase },{ on:=5,ground:=.phase },{ on:=6,ground:=.phase },{ on:=7,ground:=.phase },{ on:=8,ground:=.phase },{ on:=9,ground:=.phase },{ on:=10,ground:=.phase },{ on:=11,ground:=.phase },{ on:=12,ground:=.phase },{ on:=13,ground:=.phase },{ on:=14,ground:=.phase },{ on:=15,ground:=.phase },{ on:=16,ground:=.phase },{ on:=17,ground:=.phase },{ on:=18,ground:=.phase }],guard:=none }
def DZ(p q7 q8 q13 q16:String):Array Oper:=#[nC p,op1 p,op2 p,nD p,nG p,nH p,nI p,qY q7,qZ q8,nJ p,nK p,nM p,nN p,rC q13,nO p,nP p,rD q16,rE p,nR p,vU p]
theorem YF(b:Act)(p:String)(s:ByteArray)(hx:b.eval (.tmp 54)=.string s)(W:World):(execOp b.eval (qY p)).run prog W=.ok (.enter 79 #[.string s]) W:=by
 unfold execOp qY
 simp[resolve,invoke,go_sem]
 simpa[Act.eval]using hx
theorem YG(b:Act)(p:String)(W:World):(execOp b.eval (qZ p)).run prog W=.ok (.enter 27 #[]) W:=by
 unfold execOp qZ
 simp[resolve,invoke,go_sem]
theorem YH(b:Act)(p:String)(M:Nat)(hx:b.eval (.tmp 60)=.map (some M))(W:World):(execOp b.eval (rC p)).run prog W=.ok (.enter 104 #[.map (some M)]) W:=by
 unfold execOp rC
 simp[resolve,invoke,go_sem]
 simpa[Act.eval]using hx
theorem YI(b:Act)(p:String)(V:Nat)(T:ByteArray)(hx:b.eval (.tmp 62)=.int .i64 V)(hy:b.eval (.tmp 63)=.string T)(W:World):(execOp b.eval (rD p)).run prog W=.ok (.enter 105 #[.int .i64 V,.string T]) W:=by
 unfold execOp rD
 simp[resolve,invoke,go_sem]
 exact⟨by simpa[Act.eval]using hx,by simpa[Act.eval]using hy⟩
def rF:Value:=.agg #[.int .u32 606290984,.int .u32 2246822519,.int .u32 0,.int .u32 1640531535,.string ⟨#[]⟩,.int .u64 0]
def rG(M:Nat):Value:=.agg #[.map (some M),.int .i64 0,.slice none 0 0,.int .i64 0,.slice none 0 0,.int .i64 0,.slice none 0 0,.int .i64 1,.int .i64 4,.int .i64 8]
def lK(z8 z16:Bool)(N M V:Nat)(v:Value):List Value:=[.bool z8,.bool z16,.int .i64 N,.int .i64 0,.int .u32 606290984,.int .u32 2246822519,.int .u32 0,.int .u32 1640531535,.string ⟨#[]⟩,.int .u64 0,.pointer none,.map (some M),.int .i64 0,.slice none 0 0,.int .i64 0,.slice none 0 0,.int .i64 0,.slice none 0 0,.int .i64 1,.int .i64 4,.int .i64 8,.int .i64 V,v]
theorem YJ(b:Act)(p:String)(z8 z16:Bool)(N M V:Nat)(v:Value)(h0:b.eval (.tmp 50)=.bool z8)(h1:b.eval (.tmp 53)=.bool z16)(h2:b.eval (.tmp 55)=.int .i64 N)(h3:b.eval (.tmp 56)=rF)(h4:b.eval (.tmp 61)=rG M)(h5:b.eval (.tmp 64)=.agg #[.int .i64 V,v])(W:World) :
  (execOp b.eval (rE p)).run prog W=.ok (.value (.agg (lK z8 z16 N M V v).toArray)) W:=by
 have hb:prog.built 142 (#[(0,.bool z8),(1,.bool z16),(2,.int .i64 N),(4,rF),(6,rG M),(7,.agg #[.int .i64 V,v])]:Array (Nat×Value)).toList=some (lK z8 z16 N M V v).toArray:=by kernel_rfl
 unfold execOp rE
 simp only[Sem.run_bind,List.map_toArray,List.map_cons,List.map_nil,h0,h1,h2,h3,h4,h5,run_build W 142 _ _ hb,Result.andThen_ok]
 rfl
theorem put_defers(a:Act)(d:Option Tmp)(v:Value):(a.put d v).defers=a.defers:=by cases d<;>rfl
theorem YK(a:Act)(v:Value)(e:Nat):(a.put none v).eval (.tmp e)=a.eval (.tmp e):=rfl
theorem YL{Q:Exit->Act->World->Prop}(p q7 q8 q13 q16:String)(z8 z16:Bool)(rest T:ByteArray)(M V N R:Nat){t:TypeId}{rs:List Value}(a:Act)(w w0:World)(hS0:Only (·=R) w w0)(hR0:aB w0 R t rs)(hrl:rs.length=23)
  (cN:∀W:World,Calls prog 79 #[.string rest] W fun e w'=>e=.returned (.int .i64 N)/\w'=W)
  (cS:∀W:World,Calls prog 27 #[] W fun e w'=>e=.returned rF/\Below W.heap.size W w')
  (cQ:∀W:World,Calls prog 104 #[.map (some M)] W fun e w'=>e=.returned (rG M)/\Below W.heap.size W w')
  (d:aj) (cW:∀W:World,Calls prog 105 #[.int .i64 V,.string T] W fun e w'=>∃v,e=.returned (.agg #[.int .i64 V,v])/\aT W.heap.size w' v d/\Below W.heap.size W w')
  (hs:66<=a.tmps.size) (f4:a.eval (.tmp 4)=.pointer (some ⟨R,0,none⟩)) (f50:a.eval (.tmp 50)=.bool z8) (f53:a.eval (.tmp 53)=.bool z16) (f54:a.eval (.tmp 54)=.string rest) (f60:a.eval (.tmp 60)=.map (some M)) (f62:a.eval (.tmp 62)=.int .i64 V) (f63:a.eval (.tmp 63)=.string T)
  (h:∀W1 v(b:Act),b.eval (.tmp 4)=.pointer (some ⟨R,0,none⟩)->b.eval (.tmp 5)=.nilIface->b.defers=a.defers->b.tmps.size=a.tmps.size->aB W1 R t (dw rs 0 (lK z8 z16 N M V v))->aT w.heap.size W1 v d->Only (·=R) w W1->Q .normal b W1) (l9:R<w.heap.size) :
  wpAnyH prog .any (DZ p q7 q8 q13 q16) (NoPanic Q) (Only (·=R) w) 7 #[true,true,true,true,true,true,true,false,false,true,true,true,true,false,true,true,false,false,false,false] a w0:=by
 refine wpAnyH_all (rs:=[7]) (by kernel_rfl) (by simp) fun i hi=>?_
 obtain rfl:=List.mem_singleton.1 hi
 refine kC (o:=qY q7) rfl rfl (zZ _ _ (YF _ _ rest f54 _) (cN _) ?_)
 rintro e w1 ⟨rfl,rfl⟩
 refine⟨_,rfl,hS0,?_⟩
 refine jl (l':=#[true,true,true,true,true,true,true,true,false,true,true,true,true,false,true,true,false,false,false,false]) (by kernel_rfl) ?_
 refine wpAnyH_all (rs:=[8]) (by kernel_rfl) (by simp) fun i hi=>?_
 obtain rfl:=List.mem_singleton.1 hi
 refine kC (o:=qZ q8) rfl rfl (zZ _ _ (YG _ _ _) (cS _) ?_)
 rintro e w2 ⟨rfl,hb2⟩
 have hS2:=hS0.below hb2
 refine⟨_,rfl,hS2,?_⟩
 refine jl (l':=#[true,true,true,true,true,true,true,true,true,true,true,true,true,false,true,true,false,false,false,false]) (by kernel_rfl) ?_
 refine wpAnyH_all (rs:=[13]) (by kernel_rfl) (by simp) fun i hi=>?_
 obtain rfl:=List.mem_singleton.1 hi
 refine kC (o:=rC q13) rfl rfl (zZ _ _ (YH _ _ M ((aI _ 56 60 _ (by decide)).trans ((aI _ 55 60 _ (by decide)).trans f60)) _) (cQ _) ?_)
 rintro e w3 ⟨rfl,hb3⟩
 have hS3:=hS2.below hb3
 refine⟨_,rfl,hS3,?_⟩
 refine jl (l':=#[true,true,true,true,true,true,true,true,true,true,true,true,true,true,true,true,false,false,false,false]) (by kernel_rfl) ?_
 refine wpAnyH_all (rs:=[16]) (by kernel_rfl) (by simp) fun i hi=>?_
 obtain rfl:=List.mem_singleton.1 hi
 refine kC (o:=rD q16) rfl rfl (zZ _ _ (YI _ _ V T ((aI _ 61 62 _ (by decide)).trans ((aI _ 56 62 _ (by decide)).trans ((aI _ 55 62 _ (by decide)).trans f62))) ((aI _ 61 63 _ (by decide)).trans ((aI _ 56 63 _ (by decide)).trans ((aI _ 55 63 _ (by decide)).trans f63))) _) (cW _) ?_)
 rintro e w4 ⟨v,rfl,hrow,hb4⟩
 have hS4:=hS3.below hb4
 refine⟨_,rfl,hS4,?_⟩
 refine jl (l':=#[true,true,true,true,true,true,true,true,true,true,true,true,true,true,true,true,true,false,false,false]) (by kernel_rfl) ?_
 refine wpAnyH_all (rs:=[17]) (by kernel_rfl) (by simp) fun i hi=>?_
 obtain rfl:=List.mem_singleton.1 hi
 refine kC (o:=rE p) rfl rfl (uh (YJ _ _ z8 z16 N M V v ((aI _ 64 50 _ (by decide)).trans ((aI _ 61 50 _ (by decide)).trans ((aI _ 56 50 _ (by decide)).trans ((aI _ 55 50 _ (by decide)).trans f50)))) ((aI _ 64 53 _ (by decide)).trans ((aI _ 61 53 _ (by decide)).trans ((aI _ 56 53 _ (by decide)).trans ((aI _ 55 53 _ (by decide)).trans f53)))) ((aI _ 64 55 _ (by decide)).trans ((aI _ 61 55 _ (by decide)).trans ((aI _ 56 55 _ (by decide)).trans (iK _ _ _ (by first|omega|(simp only[ig];omega)))))) ((aI _ 64 56 _ (by decide)).trans ((aI _ 61 56 _ (by decide)).trans (iK _ _ _ (by first|omega|(simp only[ig];omega))))) ((aI _ 64 61 _ (by decide)).trans (iK _ _ _ (by first|omega|(simp only[ig];omega)))) (iK _ _ _ (by first|omega|(simp only[ig];omega))) _) ?_)
 refine⟨hS4,?_⟩
 refine jl (l':=#[true,true,true,true,true,true,true,true,true,true,true,true,true,true,true,true,true,true,false,false]) (by kernel_rfl) ?_
 have hR2:=hR0.below hb2 hR0.lt
 have aV:=hR2.below hb3 hR2.lt
 have fA:=aV.below hb4 aV.lt
 obtain⟨Z,hZ⟩:∃Z,Z=(lK z8 z16 N M V v).toArray:=⟨_,rfl⟩
 have z_:Z.toList=lK z8 z16 N M V v:=by rw[hZ]
 have hone:Z.all (·.oneCell')=true:=by
  obtain⟨aa,cc,rfl,_⟩:=hrow.form
  rw[hZ]
  simp[lK,Value.oneCell']
 have hZs:Z.size=23:=by rw[hZ];rfl
 have hsf:(prog.info? 142).map (·.size)=some Z.size:=by rw[hZs];exact oD
 have hth:=fA.there (o:=0) (n:=Z.size) (by rw[hrl,hZs];omega)
 rw[<- hZ]
 have g4:(((((a.put (qY q7).dst (Value.int IntKind.i64 ↑N)).put (qZ q8).dst rF).put (rC q13).dst (rG M)).put (rD q16).dst (Value.agg #[Value.int IntKind.i64 ↑V,v])).put (rE p).dst (Value.agg Z)).eval (.tmp 4)=.pointer (some ⟨R,0,none⟩):=((aI _ 65 4 _ (by decide)).trans ((aI _ 64 4 _ (by decide)).trans ((aI _ 61 4 _ (by decide)).trans ((aI _ 56 4 _ (by decide)).trans ((aI _ 55 4 _ (by decide)).trans f4)))))
 have Ol:(((((a.put (qY q7).dst (Value.int IntKind.i64 ↑N)).put (qZ q8).dst rF).put (rC q13).dst (rG M)).put (rD q16).dst (Value.agg #[Value.int IntKind.i64 ↑V,v])).put (rE p).dst (Value.agg Z)).eval (.tmp 65)=.agg Z:=(iK _ _ _ (by first|omega|(simp only[ig];omega)))
 have gd:(((((a.put (qY q7).dst (Value.int IntKind.i64 ↑N)).put (qZ q8).dst rF).put (rC q13).dst (rG M)).put (rD q16).dst (Value.agg #[Value.int IntKind.i64 ↑V,v])).put (rE p).dst (Value.agg Z)).defers=a.defers:=by simp only[put_defers]
 have gs:(((((a.put (qY q7).dst (Value.int IntKind.i64 ↑N)).put (qZ q8).dst rF).put (rC q13).dst (rG M)).put (rD q16).dst (Value.agg #[Value.int IntKind.i64 ↑V,v])).put (rE p).dst (Value.agg Z)).tmps.size=a.tmps.size:=by simp only[ig]
 generalize(((((a.put (qY q7).dst (Value.int IntKind.i64 ↑N)).put (qZ q8).dst rF).put (rC q13).dst (rG M)).put (rD q16).dst (Value.agg #[Value.int IntKind.i64 ↑V,v])).put (rE p).dst (Value.agg Z))=A at g4 Ol gd gs⊢
 refine wpAnyH_all (rs:=[18]) (by kernel_rfl) (by simp) fun i hi=>?_
 obtain rfl:=List.mem_singleton.1 hi
 refine kC (o:=nR p) rfl rfl (wp_store_mid 142 (.tmp 4) (.tmp 65) rfl R 0 Z g4 Ol hth hsf hone ?_)
 have qj:=aB.puts Z.toList w4 rs 0 fA
 have dB:=qc R Z.toList 0 w4
 have YM:aT w.heap.size (w4.setCells R 0 Z.toList) v d:=(hrow.only dB (fun k hk e=>by have:=(hrow.blk hk).1;have:=hS3.size;omega)).base hS3.size
 refine⟨hS4.trans dB,?_⟩
 refine jl (l':=#[true,true,true,true,true,true,true,true,true,true,true,true,true,true,true,true,true,true,true,false]) (by kernel_rfl) ?_
 refine wpAnyH_all (rs:=[19]) (by kernel_rfl) (by simp) fun i hi=>?_
 obtain rfl:=List.mem_singleton.1 hi
 refine kC (o:=vU p) rfl rfl (uh (BigFrame.run_assign (.const .nilIface) rfl _) ?_)
 refine⟨hS4.trans dB,?_⟩
 refine jl (l':=#[true,true,true,true,true,true,true,true,true,true,true,true,true,true,true,true,true,true,true,true]) (by kernel_rfl) ?_
 refine wpAnyH_done (by kernel_rfl) ?_ _
 have xK:aB (w4.setCells R 0 Z.toList) R t (dw rs 0 (lK z8 z16 N M V v)):=by rw[<- z_];exact qj
 have k4:((A.put (nR p).dst undef).put (vU p).dst ((A.put (nR p).dst undef).eval (Operand.const Value.nilIface))).eval (.tmp 4)=.pointer (some ⟨R,0,none⟩):=(aI _ 5 4 _ (by decide)).trans ((YK _ _ 4).trans g4)
 have k5:((A.put (nR p).dst undef).put (vU p).dst ((A.put (nR p).dst undef).eval (Operand.const Value.nilIface))).eval (.tmp 5)=.nilIface:=iK _ 5 _ (by simp only[ig];omega)
 have kd:((A.put (nR p).dst undef).put (vU p).dst ((A.put (nR p).dst undef).eval (Operand.const Value.nilIface))).defers=a.defers:=by simp only[put_defers,gd]
 have ks:((A.put (nR p).dst undef).put (vU p).dst ((A.put (nR p).dst undef).eval (Operand.const Value.nilIface))).tmps.size=a.tmps.size:=by simp only[ig,gs]
 generalize((A.put (nR p).dst undef).put (vU p).dst ((A.put (nR p).dst undef).eval (Operand.const Value.nilIface)))=B at k4 k5 kd ks⊢
 exact NoPanic.normal (h _ v B k4 k5 kd ks xK YM (hS4.trans dB))
theorem wp_header{id:Nat}{Q:Exit->Act->World->Prop}{a:Act}{w:World}(p q7 q8 q13 q16:String)(H:Nat)(z8 z16:Bool)(rest T:ByteArray)(S M V N R:Nat){t tS:TypeId}{rs ss:List Value}
  (hs:66<=a.tmps.size) (a0:a.eval (.tmp 0)=.pointer (some ⟨S,0,none⟩)) (a4:a.eval (.tmp 4)=.pointer (some ⟨R,0,none⟩)) (a6:a.eval (.tmp 6)=.int .u8 H) (a7:a.eval (.tmp 7)=.string rest) (a8:a.eval (.tmp 8)=.int .i64 V) (a9:a.eval (.tmp 9)=.string T)
  (e8:(bits .and .u8 (H:Int) 8 != 0)=z8) (e16:(bits .and .u8 (H:Int) 16 != 0)=z16) (dL:aB w S tS ss) (h2:ss[2]?=some (.map (some M))) (hSR:S≠R) (Om:aB w R t rs) (hrl:rs.length=23)
  (cN:∀W:World,Calls prog 79 #[.string rest] W fun e w'=>e=.returned (.int .i64 N)/\w'=W)
  (cS:∀W:World,Calls prog 27 #[] W fun e w'=>e=.returned rF/\Below W.heap.size W w')
  (cQ:∀W:World,Calls prog 104 #[.map (some M)] W fun e w'=>e=.returned (rG M)/\Below W.heap.size W w')
  (d:aj) (cW:∀W:World,Calls prog 105 #[.int .i64 V,.string T] W fun e w'=>∃v,e=.returned (.agg #[.int .i64 V,v])/\aT W.heap.size w' v d/\Below W.heap.size W w')
  (h:∀W1 v(b:Act),b.eval (.tmp 4)=.pointer (some ⟨R,0,none⟩)->b.eval (.tmp 5)=.nilIface->b.defers=a.defers->b.tmps.size=a.tmps.size->aB W1 R t (dw rs 0 (lK z8 z16 N M V v))->aT w.heap.size W1 v d->Only (·=R) w W1->Q .normal b W1) :
  (Code.region id (DZ p q7 q8 q13 q16) true).wp prog Q a w:=by
 refine wp_region_noPanic (wp_region_held (S:=Only (·=R) w) (by kernel_rfl) ?_)
 have hq:∀(d:Option Tmp)(v:Value) c(a:Act) w,NoPanic Q (.panic c) (a.put d v) w->NoPanic Q (.panic c) a w:=fun _ _ _ _ _ h=>h
 have hsel:Region.noSelect (DZ p q7 q8 q13 q16)=true:=by kernel_rfl
 have hS0:Only (·=R) w { w with drawn:=w.drawn+1 }:=⟨rfl,rfl,rfl,Nat.le_refl _,fun _ _ _=>rfl⟩
 show wpAnyH prog .any (DZ p q7 q8 q13 q16) (NoPanic Q) (Only (·=R) w) 20 (Array.replicate 20 false) a { w with drawn:=w.drawn+1 }
 have hR0:aB { w with drawn:=w.drawn+1 } R t rs:=Om
 generalize({ w with drawn:=w.drawn+1 }:World)=w0 at hS0 hR0⊢
 have hcell:∀W,Only (·=R) w W->W.cell? ⟨S,2,none⟩=some (.map (some M)):=fun W hW=>hW.cell (dL.cell h2) dL.lt hSR
 have hcell:∀W,Only (·=R) w W->W.cell? ⟨S,2,none⟩=some (.map (some M)):=fun W hW=>hW.cell (dL.cell h2) dL.lt hSR
 have hcell:∀W,Only (·=R) w W->W.cell? ⟨S,2,none⟩=some (.map (some M)):=fun W hW=>hW.cell (dL.cell h2) dL.lt hSR
 have hcell:∀W,Only (·=R) w W->W.cell? ⟨S,2,none⟩=some (.map (some M)):=fun W hW=>hW.cell (dL.cell h2) dL.lt hSR
 have hcell:∀W,Only (·=R) w W->W.cell? ⟨S,2,none⟩=some (.map (some M)):=fun W hW=>hW.cell (dL.cell h2) dL.lt hSR
 have hcell:∀W,Only (·=R) w W->W.cell? ⟨S,2,none⟩=some (.map (some M)):=fun W hW=>hW.cell (dL.cell h2) dL.lt hSR
 have hcell:∀W,Only (·=R) w W->W.cell? ⟨S,2,none⟩=some (.map (some M)):=fun W hW=>hW.cell (dL.cell h2) dL.lt hSR
 have hcell:∀W,Only (·=R) w W->W.cell? ⟨S,2,none⟩=some (.map (some M)):=fun W hW=>hW.cell (dL.cell h2) dL.lt hSR
 refine wpAnyH_take (i:=0) (oi:=nC p) (v:=.int .u8 H) rfl hsel (by kernel_rfl) (by kernel_rfl) (hq _ _) (xJ _ rfl rfl a6) hS0 ?_
 refine jl (l':=#[true,false,false,false,false,false,false,false,false,false,false,false,false,false,false,false,false,false,false,false]) (by kernel_rfl) ?_
 refine wpAnyH_take (i:=1) (oi:=op1 p) (v:=.int .u8 (bits .and .u8 H 8)) rfl hsel (by kernel_rfl) (by kernel_rfl) (hq _ _) (vT rfl fun W _=>Oi _ _ (.tmp 48) 8 H rfl (iK _ _ _ (by first|omega|(simp only[ig];omega))) W) hS0 ?_
 refine jl (l':=#[true,true,false,false,false,false,false,false,false,false,false,false,false,false,false,false,false,false,false,false]) (by kernel_rfl) ?_
 refine wpAnyH_take (i:=2) (oi:=op2 p) (v:=.bool z8) rfl hsel (by kernel_rfl) (by kernel_rfl) (hq _ _) (vT rfl fun W _=>Oj _ _ (.tmp 49) _ _ e8 rfl (iK _ _ _ (by first|omega|(simp only[ig];omega))) W) hS0 ?_
 refine jl (l':=#[true,true,true,false,false,false,false,false,false,false,false,false,false,false,false,false,false,false,false,false]) (by kernel_rfl) ?_
 refine wpAnyH_take (i:=3) (oi:=nD p) (v:=.int .u8 H) rfl hsel (by kernel_rfl) (by kernel_rfl) (hq _ _) (xJ _ rfl rfl ((aI _ 50 6 _ (by decide)).trans ((aI _ 49 6 _ (by decide)).trans ((aI _ 48 6 _ (by decide)).trans a6)))) hS0 ?_
 refine jl (l':=#[true,true,true,true,false,false,false,false,false,false,false,false,false,false,false,false,false,false,false,false]) (by kernel_rfl) ?_
 refine wpAnyH_take (i:=4) (oi:=nG p) (v:=.int .u8 (bits .and .u8 H 16)) rfl hsel (by kernel_rfl) (by kernel_rfl) (hq _ _) (vT rfl fun W _=>Oi _ _ (.tmp 51) 16 H rfl (iK _ _ _ (by first|omega|(simp only[ig];omega))) W) hS0 ?_
 refine jl (l':=#[true,true,true,true,true,false,false,false,false,false,false,false,false,false,false,false,false,false,false,false]) (by kernel_rfl) ?_
 refine wpAnyH_take (i:=5) (oi:=nH p) (v:=.bool z16) rfl hsel (by kernel_rfl) (by kernel_rfl) (hq _ _) (vT rfl fun W _=>Oj _ _ (.tmp 52) _ _ e16 rfl (iK _ _ _ (by first|omega|(simp only[ig];omega))) W) hS0 ?_
 refine jl (l':=#[true,true,true,true,true,true,false,false,false,false,false,false,false,false,false,false,false,false,false,false]) (by kernel_rfl) ?_
 refine wpAnyH_take (i:=6) (oi:=nI p) (v:=.string rest) rfl hsel (by kernel_rfl) (by kernel_rfl) (hq _ _) (xJ _ rfl rfl ((aI _ 53 7 _ (by decide)).trans ((aI _ 52 7 _ (by decide)).trans ((aI _ 51 7 _ (by decide)).trans ((aI _ 50 7 _ (by decide)).trans ((aI _ 49 7 _ (by decide)).trans ((aI _ 48 7 _ (by decide)).trans a7))))))) hS0 ?_
 refine jl (l':=#[true,true,true,true,true,true,true,false,false,false,false,false,false,false,false,false,false,false,false,false]) (by kernel_rfl) ?_
 refine wpAnyH_take (i:=9) (oi:=nJ p) (v:=.pointer (some ⟨S,0,none⟩)) rfl hsel (by kernel_rfl) (by kernel_rfl) (hq _ _) (xJ _ rfl rfl ((aI _ 54 0 _ (by decide)).trans ((aI _ 53 0 _ (by decide)).trans ((aI _ 52 0 _ (by decide)).trans ((aI _ 51 0 _ (by decide)).trans ((aI _ 50 0 _ (by decide)).trans ((aI _ 49 0 _ (by decide)).trans ((aI _ 48 0 _ (by decide)).trans a0)))))))) hS0 ?_
 refine jl (l':=#[true,true,true,true,true,true,true,false,false,true,false,false,false,false,false,false,false,false,false,false]) (by kernel_rfl) ?_
 refine wpAnyH_take (i:=10) (oi:=nK p) (v:=.pointer (some ⟨S,0,none⟩)) rfl hsel (by kernel_rfl) (by kernel_rfl) (hq _ _) (vT rfl fun W _=>YD _ _ (.tmp 57) S rfl (iK _ _ _ (by first|omega|(simp only[ig];omega))) W) hS0 ?_
 refine jl (l':=#[true,true,true,true,true,true,true,false,false,true,true,false,false,false,false,false,false,false,false,false]) (by kernel_rfl) ?_
 refine wpAnyH_take (i:=11) (oi:=nM p) (v:=.pointer (some ⟨S,2,none⟩)) rfl hsel (by kernel_rfl) (by kernel_rfl) (hq _ _) (vT rfl fun W _=>YC _ _ (.tmp 58) S rfl (iK _ _ _ (by first|omega|(simp only[ig];omega))) W) hS0 ?_
 refine jl (l':=#[true,true,true,true,true,true,true,false,false,true,true,true,false,false,false,false,false,false,false,false]) (by kernel_rfl) ?_
 refine wpAnyH_take (i:=12) (oi:=nN p) (v:=.map (some M)) rfl hsel (by kernel_rfl) (by kernel_rfl) (hq _ _) (vT rfl fun W hW=>YE _ _ (.tmp 59) S M rfl (iK _ _ _ (by first|omega|(simp only[ig];omega))) W (hcell W hW)) hS0 ?_
 refine jl (l':=#[true,true,true,true,true,true,true,false,false,true,true,true,true,false,false,false,false,false,false,false]) (by kernel_rfl) ?_
 refine wpAnyH_take (i:=14) (oi:=nO p) (v:=.int .i64 V) rfl hsel (by kernel_rfl) (by kernel_rfl) (hq _ _) (xJ _ rfl rfl ((aI _ 60 8 _ (by decide)).trans ((aI _ 59 8 _ (by decide)).trans ((aI _ 58 8 _ (by decide)).trans ((aI _ 57 8 _ (by decide)).trans ((aI _ 54 8 _ (by decide)).trans ((aI _ 53 8 _ (by decide)).trans ((aI _ 52 8 _ (by decide)).trans ((aI _ 51 8 _ (by decide)).trans ((aI _ 50 8 _ (by decide)).trans ((aI _ 49 8 _ (by decide)).trans ((aI _ 48 8 _ (by decide)).trans a8)))))))))))) hS0 ?_
 refine jl (l':=#[true,true,true,true,true,true,true,false,false,true,true,true,true,false,true,false,false,false,false,false]) (by kernel_rfl) ?_
 refine wpAnyH_take (i:=15) (oi:=nP p) (v:=.string T) rfl hsel (by kernel_rfl) (by kernel_rfl) (hq _ _) (xJ _ rfl rfl ((aI _ 62 9 _ (by decide)).trans ((aI _ 60 9 _ (by decide)).trans ((aI _ 59 9 _ (by decide)).trans ((aI _ 58 9 _ (by decide)).trans ((aI _ 57 9 _ (by decide)).trans ((aI _ 54 9 _ (by decide)).trans ((aI _ 53 9 _ (by decide)).trans ((aI _ 52 9 _ (by decide)).trans ((aI _ 51 9 _ (by decide)).trans ((aI _ 50 9 _ (by decide)).trans ((aI _ 49 9 _ (by decide)).trans ((aI _ 48 9 _ (by decide)).trans a9))))))))))))) hS0 ?_
 refine jl (l':=#[true,true,true,true,true,true,true,false,false,true,true,true,true,false,true,true,false,false,false,false]) (by kernel_rfl) ?_
 have f4:(((((((((((((a.put (nC p).dst (Value.int IntKind.u8 ↑H)).put (op1 p).dst (Value.int IntKind.u8 (bits BinOp.and IntKind.u8 (↑H) 8))).put (op2 p).dst (Value.bool z8)).put (nD p).dst (Value.int IntKind.u8 ↑H)).put (nG p).dst (Value.int IntKind.u8 (bits BinOp.and IntKind.u8 (↑H) 16))).put (nH p).dst (Value.bool z16)).put (nI p).dst (Value.string rest)).put (nJ p).dst (Value.pointer (some ⟨S,0,none⟩))).put (nK p).dst (Value.pointer (some ⟨S,0,none⟩))).put (nM p).dst (Value.pointer (some ⟨S,2,none⟩))).put (nN p).dst (Value.map (some M))).put (nO p).dst (Value.int IntKind.i64 ↑V)).put (nP p).dst (Value.string T)).eval (.tmp 4)=.pointer (some ⟨R,0,none⟩):=((aI _ 63 4 _ (by decide)).trans ((aI _ 62 4 _ (by decide)).trans ((aI _ 60 4 _ (by decide)).trans ((aI _ 59 4 _ (by decide)).trans ((aI _ 58 4 _ (by decide)).trans ((aI _ 57 4 _ (by decide)).trans ((aI _ 54 4 _ (by decide)).trans ((aI _ 53 4 _ (by decide)).trans ((aI _ 52 4 _ (by decide)).trans ((aI _ 51 4 _ (by decide)).trans ((aI _ 50 4 _ (by decide)).trans ((aI _ 49 4 _ (by decide)).trans ((aI _ 48 4 _ (by decide)).trans a4)))))))))))))
 have f50:(((((((((((((a.put (nC p).dst (Value.int IntKind.u8 ↑H)).put (op1 p).dst (Value.int IntKind.u8 (bits BinOp.and IntKind.u8 (↑H) 8))).put (op2 p).dst (Value.bool z8)).put (nD p).dst (Value.int IntKind.u8 ↑H)).put (nG p).dst (Value.int IntKind.u8 (bits BinOp.and IntKind.u8 (↑H) 16))).put (nH p).dst (Value.bool z16)).put (nI p).dst (Value.string rest)).put (nJ p).dst (Value.pointer (some ⟨S,0,none⟩))).put (nK p).dst (Value.pointer (some ⟨S,0,none⟩))).put (nM p).dst (Value.pointer (some ⟨S,2,none⟩))).put (nN p).dst (Value.map (some M))).put (nO p).dst (Value.int IntKind.i64 ↑V)).put (nP p).dst (Value.string T)).eval (.tmp 50)=.bool z8:=((aI _ 63 50 _ (by decide)).trans ((aI _ 62 50 _ (by decide)).trans ((aI _ 60 50 _ (by decide)).trans ((aI _ 59 50 _ (by decide)).trans ((aI _ 58 50 _ (by decide)).trans ((aI _ 57 50 _ (by decide)).trans ((aI _ 54 50 _ (by decide)).trans ((aI _ 53 50 _ (by decide)).trans ((aI _ 52 50 _ (by decide)).trans ((aI _ 51 50 _ (by decide)).trans (iK _ _ _ (by first|omega|(simp only[ig];omega)))))))))))))
 have f53:(((((((((((((a.put (nC p).dst (Value.int IntKind.u8 ↑H)).put (op1 p).dst (Value.int IntKind.u8 (bits BinOp.and IntKind.u8 (↑H) 8))).put (op2 p).dst (Value.bool z8)).put (nD p).dst (Value.int IntKind.u8 ↑H)).put (nG p).dst (Value.int IntKind.u8 (bits BinOp.and IntKind.u8 (↑H) 16))).put (nH p).dst (Value.bool z16)).put (nI p).dst (Value.string rest)).put (nJ p).dst (Value.pointer (some ⟨S,0,none⟩))).put (nK p).dst (Value.pointer (some ⟨S,0,none⟩))).put (nM p).dst (Value.pointer (some ⟨S,2,none⟩))).put (nN p).dst (Value.map (some M))).put (nO p).dst (Value.int IntKind.i64 ↑V)).put (nP p).dst (Value.string T)).eval (.tmp 53)=.bool z16:=((aI _ 63 53 _ (by decide)).trans ((aI _ 62 53 _ (by decide)).trans ((aI _ 60 53 _ (by decide)).trans ((aI _ 59 53 _ (by decide)).trans ((aI _ 58 53 _ (by decide)).trans ((aI _ 57 53 _ (by decide)).trans ((aI _ 54 53 _ (by decide)).trans (iK _ _ _ (by first|omega|(simp only[ig];omega))))))))))
 have f54:(((((((((((((a.put (nC p).dst (Value.int IntKind.u8 ↑H)).put (op1 p).dst (Value.int IntKind.u8 (bits BinOp.and IntKind.u8 (↑H) 8))).put (op2 p).dst (Value.bool z8)).put (nD p).dst (Value.int IntKind.u8 ↑H)).put (nG p).dst (Value.int IntKind.u8 (bits BinOp.and IntKind.u8 (↑H) 16))).put (nH p).dst (Value.bool z16)).put (nI p).dst (Value.string rest)).put (nJ p).dst (Value.pointer (some ⟨S,0,none⟩))).put (nK p).dst (Value.pointer (some ⟨S,0,none⟩))).put (nM p).dst (Value.pointer (some ⟨S,2,none⟩))).put (nN p).dst (Value.map (some M))).put (nO p).dst (Value.int IntKind.i64 ↑V)).put (nP p).dst (Value.string T)).eval (.tmp 54)=.string rest:=((aI _ 63 54 _ (by decide)).trans ((aI _ 62 54 _ (by decide)).trans ((aI _ 60 54 _ (by decide)).trans ((aI _ 59 54 _ (by decide)).trans ((aI _ 58 54 _ (by decide)).trans ((aI _ 57 54 _ (by decide)).trans (iK _ _ _ (by first|omega|(simp only[ig];omega)))))))))
 have f60:(((((((((((((a.put (nC p).dst (Value.int IntKind.u8 ↑H)).put (op1 p).dst (Value.int IntKind.u8 (bits BinOp.and IntKind.u8 (↑H) 8))).put (op2 p).dst (Value.bool z8)).put (nD p).dst (Value.int IntKind.u8 ↑H)).put (nG p).dst (Value.int IntKind.u8 (bits BinOp.and IntKind.u8 (↑H) 16))).put (nH p).dst (Value.bool z16)).put (nI p).dst (Value.string rest)).put (nJ p).dst (Value.pointer (some ⟨S,0,none⟩))).put (nK p).dst (Value.pointer (some ⟨S,0,none⟩))).put (nM p).dst (Value.pointer (some ⟨S,2,none⟩))).put (nN p).dst (Value.map (some M))).put (nO p).dst (Value.int IntKind.i64 ↑V)).put (nP p).dst (Value.string T)).eval (.tmp 60)=.map (some M):=((aI _ 63 60 _ (by decide)).trans ((aI _ 62 60 _ (by decide)).trans (iK _ _ _ (by first|omega|(simp only[ig];omega)))))
 have f62:(((((((((((((a.put (nC p).dst (Value.int IntKind.u8 ↑H)).put (op1 p).dst (Value.int IntKind.u8 (bits BinOp.and IntKind.u8 (↑H) 8))).put (op2 p).dst (Value.bool z8)).put (nD p).dst (Value.int IntKind.u8 ↑H)).put (nG p).dst (Value.int IntKind.u8 (bits BinOp.and IntKind.u8 (↑H) 16))).put (nH p).dst (Value.bool z16)).put (nI p).dst (Value.string rest)).put (nJ p).dst (Value.pointer (some ⟨S,0,none⟩))).put (nK p).dst (Value.pointer (some ⟨S,0,none⟩))).put (nM p).dst (Value.pointer (some ⟨S,2,none⟩))).put (nN p).dst (Value.map (some M))).put (nO p).dst (Value.int IntKind.i64 ↑V)).put (nP p).dst (Value.string T)).eval (.tmp 62)=.int .i64 V:=((aI _ 63 62 _ (by decide)).trans (iK _ _ _ (by first|omega|(simp only[ig];omega))))
 have f63:(((((((((((((a.put (nC p).dst (Value.int IntKind.u8 ↑H)).put (op1 p).dst (Value.int IntKind.u8 (bits BinOp.and IntKind.u8 (↑H) 8))).put (op2 p).dst (Value.bool z8)).put (nD p).dst (Value.int IntKind.u8 ↑H)).put (nG p).dst (Value.int IntKind.u8 (bits BinOp.and IntKind.u8 (↑H) 16))).put (nH p).dst (Value.bool z16)).put (nI p).dst (Value.string rest)).put (nJ p).dst (Value.pointer (some ⟨S,0,none⟩))).put (nK p).dst (Value.pointer (some ⟨S,0,none⟩))).put (nM p).dst (Value.pointer (some ⟨S,2,none⟩))).put (nN p).dst (Value.map (some M))).put (nO p).dst (Value.int IntKind.i64 ↑V)).put (nP p).dst (Value.string T)).eval (.tmp 63)=.string T:=(iK _ _ _ (by first|omega|(simp only[ig];omega)))
 have fd:(((((((((((((a.put (nC p).dst (Value.int IntKind.u8 ↑H)).put (op1 p).dst (Value.int IntKind.u8 (bits BinOp.and IntKind.u8 (↑H) 8))).put (op2 p).dst (Value.bool z8)).put (nD p).dst (Value.int IntKind.u8 ↑H)).put (nG p).dst (Value.int IntKind.u8 (bits BinOp.and IntKind.u8 (↑H) 16))).put (nH p).dst (Value.bool z16)).put (nI p).dst (Value.string rest)).put (nJ p).dst (Value.pointer (some ⟨S,0,none⟩))).put (nK p).dst (Value.pointer (some ⟨S,0,none⟩))).put (nM p).dst (Value.pointer (some ⟨S,2,none⟩))).put (nN p).dst (Value.map (some M))).put (nO p).dst (Value.int IntKind.i64 ↑V)).put (nP p).dst (Value.string T)).defers=a.defers:=by simp only[put_defers]
 have fs:(((((((((((((a.put (nC p).dst (Value.int IntKind.u8 ↑H)).put (op1 p).dst (Value.int IntKind.u8 (bits BinOp.and IntKind.u8 (↑H) 8))).put (op2 p).dst (Value.bool z8)).put (nD p).dst (Value.int IntKind.u8 ↑H)).put (nG p).dst (Value.int IntKind.u8 (bits BinOp.and IntKind.u8 (↑H) 16))).put (nH p).dst (Value.bool z16)).put (nI p).dst (Value.string rest)).put (nJ p).dst (Value.pointer (some ⟨S,0,none⟩))).put (nK p).dst (Value.pointer (some ⟨S,0,none⟩))).put (nM p).dst (Value.pointer (some ⟨S,2,none⟩))).put (nN p).dst (Value.map (some M))).put (nO p).dst (Value.int IntKind.i64 ↑V)).put (nP p).dst (Value.string T)).tmps.size=a.tmps.size:=by simp only[ig]
 generalize(((((((((((((a.put (nC p).dst (Value.int IntKind.u8 ↑H)).put (op1 p).dst (Value.int IntKind.u8 (bits BinOp.and IntKind.u8 (↑H) 8))).put (op2 p).dst (Value.bool z8)).put (nD p).dst (Value.int IntKind.u8 ↑H)).put (nG p).dst (Value.int IntKind.u8 (bits BinOp.and IntKind.u8 (↑H) 16))).put (nH p).dst (Value.bool z16)).put (nI p).dst (Value.string rest)).put (nJ p).dst (Value.pointer (some ⟨S,0,none⟩))).put (nK p).dst (Value.pointer (some ⟨S,0,none⟩))).put (nM p).dst (Value.pointer (some ⟨S,2,none⟩))).put (nN p).dst (Value.map (some M))).put (nO p).dst (Value.int IntKind.i64 ↑V)).put (nP p).dst (Value.string T))=B at f4 f50 f53 f54 f60 f62 f63 fd fs⊢
 exact YL p q7 q8 q13 q16 z8 z16 rest T M V N R B w w0 hS0 hR0 hrl cN cS cQ d cW (by omega) f4 f50 f53 f54 f60 f62 f63 (fun W1 v b g1 g2 g3 g4 g5 g6 g7=>h W1 v b g1 g2 (g3.trans fd) (g4.trans fs) g5 g6 g7) Om.lt
end
section
attribute [local irreducible] dw
theorem YN(l:aj):l.drop (1+1)=l.tail.tail:=by rcases l with _|⟨a,_|⟨b,r⟩⟩<;>rfl
theorem YO(l:aj):l.drop (1+0)=l.tail:=by cases l<;>rfl
theorem H7(r:Nat)(h:r<8):64<=64*2^r/\64*2^r<=8192:=by
 have:r=0\/r=1\/r=2\/r=3\/r=4\/r=5\/r=6\/r=7:=by omega
 rcases this with e|e|e|e|e|e|e|e<;>subst e<;>decide
theorem wrap64_small(n:Nat)(h:n<=1099511627776):wrap64 (n:Int)=(n:Int):=by
 unfold wrap64
 omega
theorem YP(r:Nat)(h:r<8):wrap64 (64*2^r)=((64*2^r:Nat):Int):=by
 have h1:=H7 r h
 have hc:(64*2^r:Int)=((64*2^r:Nat):Int):=by push_cast;rfl
 rw[hc]
 exact wrap64_small _ (by omega)
theorem Oo(q p:Nat)(hp:0<p):(((q%2*p:Nat):Int) != 0)=decide (q%2=1):=by
 rcases Nat.mod_two_eq_zero_or_one q with h|h
 ·rw[h];simp
 ·rw[h];simp;omega
theorem Oq(pos:String)(p:Nat)(ρ:Operand->Value)(W:World):(execOp ρ (qX pos 142 p)).run prog W=.ok (.value (.agg bY.toArray)) W:=by
 have hb:prog.built 142 (#[]:Array (Nat×Value)).toList=some bY.toArray:=by kernel_rfl
 unfold execOp qX
 simp only[Sem.run_bind,List.map_toArray,List.map_nil,run_build W 142 #[] _ hb,Result.andThen_ok]
 rfl
theorem Ot(pos:String)(g q:Nat)(E:Value)(b:Act)(W:World)(h:W.cell? ⟨g,0,none⟩=some E):(execOp b.eval (ql pos 92 g q)).run prog W=.ok (.value E) W:=by
 unfold execOp ql
 simp[Act.eval,go_sem,h,isAgg92]
theorem Aa{W:World}{R o:Nat}{t:TypeId}{ss cs:List Value}(h:aB W R t ss)(hc:∀j v,cs[j]?=some v->ss[o+j]?=some v)(hl:cs.length=23):(loadVar 142 ⟨R,o,none⟩).run prog W=.ok (.agg cs.toArray) W :=
 run_loadVar_mid W R o 142 cs _ (h.range hc) underlying142 rfl (by rw[hl];exact oD)
def qm(sm sz:Bool)(n:Int)(M W:Nat)(v:Value):List Value:=[.bool sm,.bool sz,.int .i64 n,.int .i64 0,.int .u32 606290984,.int .u32 2246822519,.int .u32 0,.int .u32 1640531535,.string ⟨#[]⟩,.int .u64 0,.pointer none,.map (some M),.int .i64 0,.slice none 0 0,.int .i64 0,.slice none 0 0,.int .i64 0,.slice none 0 0,.int .i64 1,.int .i64 4,.int .i64 8,.int .i64 W,v]
def YQ(x:Fx)(l:aj)(M:Nat)(lim:Int)(ds:List (Int×aj))(w:World)(e:Ending)(w':World):Prop :=
 Below w.heap.size w w'/\((64<=ak l 0/\e=.returned (.tuple #[.agg bY.toArray,aW x.f])) \/
  (ak l 0<64/\lim<((64*2^(ak l 0%8):Nat):Int)/\e=.returned (.tuple #[.agg bY.toArray,aW x.l])) \/
  (ak l 0<64/\¬lim<((64*2^(ak l 0%8):Nat):Int)/\ak l 0/32%2=1/\kU ds (ak l 1)=none/\e=.returned (.tuple #[.agg bY.toArray,aW x.d])) \/
  (ak l 0<64/\¬lim<((64*2^(ak l 0%8):Nat):Int)/\∃dict v,(ak l 0/32%2=1->kU ds (ak l 1)=some dict)/\(ak l 0/32%2=0->dict=[]) /\
   e=.returned (.tuple #[.agg (qm (decide (ak l 0/8%2=1)) (decide (ak l 0/16%2=1)) (au (l.drop (1+ak l 0/32%2)):Nat) M (64*2^(ak l 0%8)) v).toArray,.nilIface])/\aT w.heap.size w' v dict))
theorem YR(x:Fx)(S M:Nat)(t:TypeId)(ss:List Value)(v:Value)(lim:Int)(ds:List (Int×aj))(l:aj)(w:World)(h:aB w S t ss)(h0:ss[0]?=some (.int .i64 lim))(h1:ss[1]?=some v)(h2:ss[2]?=some (.map (some M)))(hD:lJ w v ds)(hds:ds.length<=1048576)(hdb:∀d∈ds,d.2.length<=1048576)(hV:bI x w)
  (hl:l.length=hlen (ak l 0)) :
  Calls prog 95 #[.pointer (some ⟨S,0,none⟩),.string (ah l)] w (YQ x l M lim ds w):=by
 have c0:=h.cell h0
 have c1:=h.cell h1
 have c2:=h.cell h2
 obtain⟨H,hH⟩:∃H,H=ak l 0:=⟨_,rfl⟩
 have xM:H<256:=by have:=dQ l 0;omega
 have hlb:=DX (ak l 0)
 have Ac:=XV ⟨H,xM⟩
 have k7:=u8_and7 ⟨H,xM⟩
 have k32:=NY ⟨H,xM⟩
 have k16:=NZ ⟨H,xM⟩
 have k8:=XU ⟨H,xM⟩
 simp only[]at Ac k7 k32 k16 k8
 have hz:=aQ l
 have hpos:0<l.length:=by omega
 have hone:1<=l.length:=by omega
 have hidx:∀W:World,(Instr.index 9 (.string (ah l)) (.int .i64 0)).run prog W=.ok (.int .u8 (H:Int)) W:=fun W=>by
  have hb0:=gq l 0 (by omega)
  rw[run_index_string _ _ _ _ _ underlying9,dif_pos ⟨by omega,by omega⟩]
  rw[hH,<- hb0]
  rfl
 go_enter func95,ntmps95
 go_wp2_with fail
 have hbW:Below w.heap.size w (w.alloc (.cells #[.bool false,.bool false,.int .i64 0,.int .i64 0,.int .u32 0,.int .u32 0,.int .u32 0,.int .u32 0,.string ⟨#[]⟩,.int .u64 0,.pointer none,.map none,.int .i64 0,.slice none 0 0,.int .i64 0,.slice none 0 0,.int .i64 0,.slice none 0 0,.int .i64 0,.int .i64 0,.int .i64 0,.int .i64 0,.slice none 0 0] 142)):=(Below.refl _ w).alloc (Nat.le_refl _) _
 have hR:aB (w.alloc (.cells #[.bool false,.bool false,.int .i64 0,.int .i64 0,.int .u32 0,.int .u32 0,.int .u32 0,.int .u32 0,.string ⟨#[]⟩,.int .u64 0,.pointer none,.map none,.int .i64 0,.slice none 0 0,.int .i64 0,.slice none 0 0,.int .i64 0,.slice none 0 0,.int .i64 0,.int .i64 0,.int .i64 0,.int .i64 0,.slice none 0 0] 142)) w.heap.size 142 bY:=aB.new w _ bY
 generalize w.alloc (.cells #[.bool false,.bool false,.int .i64 0,.int .i64 0,.int .u32 0,.int .u32 0,.int .u32 0,.int .u32 0,.string ⟨#[]⟩,.int .u64 0,.pointer none,.map none,.int .i64 0,.slice none 0 0,.int .i64 0,.slice none 0 0,.int .i64 0,.slice none 0 0,.int .i64 0,.int .i64 0,.int .i64 0,.int .i64 0,.slice none 0 0] 142)=W at *
 have DK:=hV.below hbW
 have hSW:=h.below hbW h.lt
 have d0:=hSW.cell h0
 have d1:=hSW.cell h1
 have d2:=hSW.cell h2
 have hlt:=h.lt
 have h8:8<=w.heap.size:=Nat.le_trans hV.eight hV.size
 have hne:∀j,j<w.heap.size->¬j=w.heap.size:=fun j hj e=>by omega
 obtain⟨R,hRe⟩:∃R,R=w.heap.size:=⟨_,rfl⟩
 rw[<- hRe]at hR hlt h8 hne
 rw[<- hRe]
 have hRl:=hR.lt
 replace hRe:=aA hRe
 clear c0 c1 c2
 have hdr:=mQ l 1
 replace hH:=aA hH
 replace hl:=aA hl
 have hzs:bY.length=23:=rfl
 have hzz:dw bY 0 bY=bY:=by
  apply List.ext_getElem?
  intro i
  by_cases hi:i<23
  ·have:=t_ bY bY 0 i (by rw[hzs];omega) (by rw[hzs];exact hi)
   rw[Nat.zero_add]at this
   exact this
  ·rw[kR _ _ _ _ (.inr (by rw[hzs];omega))]
 replace hzz:=aA hzz
 go_quiet(fail)
 have hb1:Below w.heap.size w (W.drewN nq):=hbW.trans ⟨rfl,rfl,rfl,Nat.le_refl _,fun _ _=>rfl⟩
 by_cases hA:64<=H
 ·have YS:(bits .and .u8 (H:Int) 192 != 0)=true:=by rw[Ac];simp;omega
  have cF:=DK.cF
  have DN:=hne 6 (by omega)
  clear Ac
  go_wp2_with fail
  refine Oh _ 142 92 6 _ _ _ _ R bY.toArray (aW x.f) (by kernel_rfl) (Oq _ _) (Ot _ _ _ _) cF DN (by exact hR) (by exact Nat.le_of_eq rfl) oD (by exact vN) (by simp[Act.eval]) (by decide) (by decide) (by decide) (by simp) (by simp) ?_
  intro W1 hS1 aF
  replace hS1:aB W1 R 142 bY:=by rw[<- hzz.out];exact hS1
  have hld:=Aa (o:=0) (cs:=bY) hS1 (fun j v hv=>by rw[Nat.zero_add];exact hv) rfl
  simp only[Act.put,List.setIfInBounds_toArray,List.set_cons_succ,List.set_cons_zero]
  go_wp2_with fail
  refine bodyPost_ret (v:=.tuple #[.agg bY.toArray,aW x.f]) (by simp[results,results95,asAddr,hld]) rfl ?_
  have hb2:=aA hb1
  exact⟨hb2.out.trans ⟨aF.os,aF.tape,aF.output,aF.size,fun k hk=>aF.block k (by have:=hb2.out.size;exact Nat.lt_of_lt_of_le hk this) (by have:=hRe.out;omega)⟩,.inl ⟨by rw[<- hH.out];exact hA,rfl⟩⟩
 ·have YS:(bits .and .u8 (H:Int) 192 != 0)=false:=by rw[Ac];simp;omega
  clear Ac
  obtain⟨r,hr⟩:∃r,r=H%8:=⟨_,rfl⟩
  have Ou:r<8:=by omega
  rw[<- hr]at k7
  replace hr:=aA hr
  obtain⟨V,oG⟩:∃V,V=64*2^r:=⟨_,rfl⟩
  have xO:64<=V/\V<=8192:=by rw[oG];exact H7 r Ou
  have hVw:wrap64 (64*2^r)=(V:Int):=by rw[oG];exact YP r Ou
  have D5:Hid (64*2^(ak l 0%8)=V):=by rw[Hid,<- hH.out,<- hr.out,oG]
  replace oG:=aA oG
  by_cases YT:lim<(V:Int)
  ·have cL:=DK.cL
   have DN:=hne 1 (by omega)
   go_wp2_with fail
   refine Oh _ 142 92 1 _ _ _ _ R bY.toArray (aW x.l) (by kernel_rfl) (Oq _ _) (Ot _ _ _ _) cL DN (by exact hR) (by exact Nat.le_of_eq rfl) oD (by exact vN) (by simp[Act.eval]) (by decide) (by decide) (by decide) (by simp) (by simp) ?_
   intro W1 hS1 aF
   replace hS1:aB W1 R 142 bY:=by rw[<- hzz.out];exact hS1
   have hld:=Aa (o:=0) (cs:=bY) hS1 (fun j v hv=>by rw[Nat.zero_add];exact hv) rfl
   simp only[Act.put,List.setIfInBounds_toArray,List.set_cons_succ,List.set_cons_zero]
   go_wp2_with fail
   refine bodyPost_ret (v:=.tuple #[.agg bY.toArray,aW x.l]) (by simp[results,results95,asAddr,hld]) rfl ?_
   have hb2:=aA hb1
   exact⟨hb2.out.trans ⟨aF.os,aF.tape,aF.output,aF.size,fun k hk=>aF.block k (by have:=hb2.out.size;exact Nat.lt_of_lt_of_le hk this) (by have:=hRe.out;omega)⟩,.inr (.inl ⟨by rw[<- hH.out];omega,by rw[D5.out];exact YT,rfl⟩)⟩
  ·have hl5:Hid (l.length<=5):=by rw[Hid];have:=hl.out;omega
   obtain⟨z16,h16⟩:∃z,z=decide (H/16%2=1):=⟨_,rfl⟩
   obtain⟨z8,Ad⟩:∃z,z=decide (H/8%2=1):=⟨_,rfl⟩
   have e16:(bits .and .u8 (H:Int) 16 != 0)=z16:=by rw[k16,h16];exact Oo (H/16) 16 (by omega)
   have e8:(bits .and .u8 (H:Int) 8 != 0)=z8:=by rw[k8,Ad];exact Oo (H/8) 8 (by omega)
   clear k16 k8
   replace h16:=aA h16
   replace Ad:=aA Ad
   by_cases h32:H/32%2=1
   ·have e32:(bits .and .u8 (H:Int) 32 != 0)=true:=by rw[k32,h32];rfl
    clear k32
    have hl2:2<=l.length:=by have:=hl.out;rw[<- hH.out,hlen]at this;omega
    obtain⟨D,hDe⟩:∃D,D=ak l 1:=⟨_,rfl⟩
    have H8:=dQ l 1
    rw[<- hDe]at H8
    have hidx2:∀W:World,(Instr.index 9 (.string (ah l.tail)) (.int .i64 0)).run prog W=.ok (.int .u8 (D:Int)) W:=fun W=>by
     have hz1:=aQ l.tail
     have hb0:=gq l.tail 0 (by rw[hz1,List.length_tail];omega)
     rw[run_index_string _ _ _ _ _ underlying9,dif_pos ⟨by omega,by rw[hz1,List.length_tail];omega⟩]
     rw[hDe,show ak l 1=ak l.tail 0 by unfold ak;cases l<;>rfl,<- hb0]
     rfl
    have ou:wrap64 (D:Int)=(D:Int):=wrap64_small D (by omega)
    replace hDe:=aA hDe
    replace h32:=aA h32
    replace xO:=aA xO
    replace H8:=aA H8
    have hdc:=YB x S t ss v ds (D:Int) (W.drewN nq) (hSW.drewN nq) h1 (hD.only (aH (G:=fun _=>False) hb1) (fun _ _ e=>e)) hds (hV.below hb1)
    have hTb:∀T,kU ds (D:Int)=some T->T.length<=1048576:=fun T hT=>by
     obtain⟨d,hd1,hd2⟩:=Option.map_eq_some_iff.1 hT
     rw[<- hd2]
     exact hdb d (List.mem_of_find?_eq_some hd1)
    replace hTb:=aA hTb
    have YU:=mQ l.tail 1
    rw[List.drop_one,List.length_tail]at YU
    have Ae:=aQ l.tail
    rw[List.length_tail]at Ae
    have hl1:1<=l.length-1:=by omega
    go_wp2_with fail
    refine hdc.mono ?_
    rintro e w1 ⟨hb3,⟨hno,rfl⟩|⟨T,hT,rfl⟩⟩
    ·have aV:aB w1 R 142 bY:=(hR.drewN nq).below hb3 hRl
     have hn0:0+(#[.bool false,.bool false,.int .i64 0,.int .i64 0,.int .u32 0,.int .u32 0,.int .u32 0,.int .u32 0,.string ⟨#[]⟩,.int .u64 0,.pointer none,.map none,.int .i64 0,.slice none 0 0,.int .i64 0,.slice none 0 0,.int .i64 0,.slice none 0 0,.int .i64 0,.int .i64 0,.int .i64 0,.int .i64 0,.slice none 0 0]:Array Value).size<=bY.length:=by rw[hzs];show 0+23<=23;omega
     go_wp2_with(refine ug rfl 142 (.tmp 4) (.tmp 44) rfl 0 #[.bool false,.bool false,.int .i64 0,.int .i64 0,.int .u32 0,.int .u32 0,.int .u32 0,.int .u32 0,.string ⟨#[]⟩,.int .u64 0,.pointer none,.map none,.int .i64 0,.slice none 0 0,.int .i64 0,.slice none 0 0,.int .i64 0,.slice none 0 0,.int .i64 0,.int .i64 0,.int .i64 0,.int .i64 0,.slice none 0 0] rfl rfl aV hn0 oD vN ?_;intro W1 hS1 aF)
     replace hS1:aB W1 R 142 bY:=by rw[<- hzz.out];exact hS1
     have hld:=Aa (o:=0) (cs:=bY) hS1 (fun j v hv=>by rw[Nat.zero_add];exact hv) rfl
     refine bodyPost_ret (v:=.tuple #[.agg bY.toArray,aW x.d]) (by simp[results,results95,asAddr,hld]) rfl ?_
     have hb2:=aA (hb1.trans ⟨hb3.os,hb3.tape,hb3.output,hb3.size,fun k hk=>hb3.block k (Nat.lt_of_lt_of_le hk hb1.size)⟩)
     exact⟨hb2.out.trans ⟨aF.os,aF.tape,aF.output,aF.size,fun k hk=>aF.block k (by have:=hb2.out.size;exact Nat.lt_of_lt_of_le hk this) (by have:=hRe.out;omega)⟩,.inr (.inr (.inl ⟨by rw[<- hH.out];omega,by rw[D5.out];omega,by rw[<- hH.out];exact h32.out,by rw[<- hDe.out];exact hno,rfl⟩))⟩
    ·replace hT:=aA hT
     go_wp2_with fail
     refine wp_header "frame.go:62" "frame.go:65" "frame.go:66" "frame.go:67" "frame.go:68" H z8 z16 (RD.ah l.tail.tail) (RD.ah T) S M V (RD.au l.tail.tail) R (by simp) rfl rfl rfl rfl rfl rfl e8 e16 ((hSW.drewN nq).below hb3 (hSW.drewN nq).lt) h2 (fun e => by omega) ((hR.drewN nq).below hb3 hRl) rfl (fun W => snum_any l.tail.tail W (by have := hl5.out; simp only [List.length_tail]; omega)) (fun W => start_any W) (fun W => seqNew_any M W) T (fun W => winNew_any V T W (hTb.out T hT.out)) ?_
     intro W1 v1 b g4 g5 gd gs hB1 hrow aF
     have hld:=Aa (o:=0) (cs:=lK z8 z16 (au l.tail.tail) M V v1) hB1 (fun j u hu=>by
      rw[t_ (lK z8 z16 (au l.tail.tail) M V v1) bY 0 j (by rw[hzs];exact Nat.le_of_eq rfl) (List.getElem?_eq_some_iff.1 hu).1];exact hu) rfl
     have g4':b.tmps[4]?.getD undef=.pointer (some ⟨R,0,none⟩):=by simpa[Act.eval]using g4
     have H9:b.tmps[5]?.getD undef=.nilIface:=by simpa[Act.eval]using g5
     go_wp2_with fail
     refine bodyPost_ret (v:=.tuple #[.agg (lK z8 z16 (au l.tail.tail) M V v1).toArray,.nilIface]) (by simp[results,results95,asAddr,hld,g4',H9]) gd ?_
     have hb2:=aA (hb1.trans ⟨hb3.os,hb3.tape,hb3.output,hb3.size,fun k hk=>hb3.block k (Nat.lt_of_lt_of_le hk hb1.size)⟩)
     refine⟨hb2.out.trans ⟨aF.os,aF.tape,aF.output,aF.size,fun k hk=>aF.block k (by have:=hb2.out.size;exact Nat.lt_of_lt_of_le hk this) (by have:=hRe.out;omega)⟩,.inr (.inr (.inr ⟨by rw[<- hH.out];omega,by rw[D5.out];omega,T,v1,(fun _=>by rw[<- hDe.out];exact hT.out),(fun e=>by rw[<- hH.out,h32.out]at e;cases e),?_,hrow.base (by have:=hb2.out.size;exact this)⟩))⟩
     rw[<- hH.out,h32.out,YN,<- Ad.out,<- h16.out,<- hr.out,<- oG.out]
     rfl
   ·have e32:(bits .and .u8 (H:Int) 32 != 0)=false:=by
     rw[k32]
     have:H/32%2=0:=by omega
     rw[this];rfl
    have D6:H/32%2=0:=by omega
    clear k32
    replace h32:=aA h32
    replace D6:=aA D6
    replace xO:=aA xO
    go_wp2_with fail
    refine wp_header "frame.go:62" "frame.go:65" "frame.go:66" "frame.go:67" "frame.go:68" H z8 z16 (RD.ah l.tail) (RD.ah ([] : RD.aj)) S M V (RD.au l.tail) R (by simp) rfl rfl rfl rfl rfl rfl e8 e16 (hSW.drewN nq) h2 (fun e => by omega) (hR.drewN nq) rfl (fun W => snum_any l.tail W (by have := hl5.out; simp only [List.length_tail]; omega)) (fun W => start_any W) (fun W => seqNew_any M W) ([] : RD.aj) (fun W => winNew_any V ([] : RD.aj) W (by simp)) ?_
    intro W1 v1 b g4 g5 gd gs hB1 hrow aF
    have hld:=Aa (o:=0) (cs:=lK z8 z16 (au l.tail) M V v1) hB1 (fun j u hu=>by
     rw[t_ (lK z8 z16 (au l.tail) M V v1) bY 0 j (by rw[hzs];exact Nat.le_of_eq rfl) (List.getElem?_eq_some_iff.1 hu).1];exact hu) rfl
    have g4':b.tmps[4]?.getD undef=.pointer (some ⟨R,0,none⟩):=by simpa[Act.eval]using g4
    have H9:b.tmps[5]?.getD undef=.nilIface:=by simpa[Act.eval]using g5
    go_wp2_with fail
    refine bodyPost_ret (v:=.tuple #[.agg (lK z8 z16 (au l.tail) M V v1).toArray,.nilIface]) (by simp[results,results95,asAddr,hld,g4',H9]) gd ?_
    have hb2:=aA (hb1)
    refine⟨hb2.out.trans ⟨aF.os,aF.tape,aF.output,aF.size,fun k hk=>aF.block k (by have:=hb2.out.size;exact Nat.lt_of_lt_of_le hk this) (by have:=hRe.out;omega)⟩,.inr (.inr (.inr ⟨by rw[<- hH.out];omega,by rw[D5.out];omega,([]:aj),v1,(fun e=>by rw[<- hH.out,D6.out]at e;cases e),(fun _=>rfl),?_,hrow.base (by have:=hb2.out.size;exact this)⟩))⟩
    rw[<- hH.out,D6.out,YO,<- Ad.out,<- h16.out,<- hr.out,<- oG.out]
    rfl
end
end Go.Proofs.YtbhemchnjpajiaaGreatDoor
