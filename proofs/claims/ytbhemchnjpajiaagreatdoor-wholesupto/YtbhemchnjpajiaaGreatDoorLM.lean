/- Several texts in one: QLaw1, QLaw2, QLaw3, QArg, QLaid. -/
import Derived.Test.YtbhemchnjpajiaaGreatDoorLK
import Derived.Maps.AppendAt
import Derived.Test.YtbhemchnjpajiaaGreatDoorRows
import Derived.Deep.SlicePairs
import Derived.Deep.Strs
import Derived.Test.YtbhemchnjpajiaaGreatDoorLF
import Derived.LaidLaws
import Derived.LaidHandle
set_option linter.unusedVariables false
set_option linter.unusedSimpArgs false
set_option maxRecDepth 100000
namespace Go.Proofs.YtbhemchnjpajiaaGreatDoor
open Go.RowKit RD
def ajb:aj:=[83,75,78,49,0,25,0,97,98,99]
def adw(c n:Int):Int:=(if c<0 then -(c+1)else c)%n
def iE(w:World)(v:Value)(ds:List (Int×aj)):Prop:=∃a c,v=.slice a ds.length c/\ds.length<=c/\(ds=[]\/∃b o,a=some ⟨b,o,none⟩/\b<w.heap.size/\∀i,i<ds.length->w.cell? ⟨b,o+i*2,none⟩=some (.int .i64 (ds.getD i (0,[])).1)/\w.cell? ⟨b,o+i*2+1,none⟩=some (.string (ah (ds.getD i (0,[])).2)))
def adx(t:aj):aj:=(t++[46]).take 256
def ady(ds:List (Int×aj))(k:Nat):List (Int×aj):=(List.range k).map fun i=>(((3*i:Nat):Int),adx (ds.getD i (0,[])).2)
def Ri(lim:Int)(ds:List (Int×aj)):aC:=⟨64+adw lim 8129,ady ds (min ds.length 4)⟩
def ajc(lim:Int)(ds:List (Int×aj))(w:World)(e:Ending)(w':World):Prop:=Below w.heap.size w w'/\∃v,e=.returned (.agg #[.int .i64 (Ri lim ds).limit,v])/\lJ w' v (Ri lim ds).aP
def ints(l:List Nat):List Value:=l.map fun(e:Nat)=>.int .i64 (e:Int)
def strs(l:List aj):List Value:=l.map fun t=>.string (ah t)
def mM(w:World)(B:Nat)(T:TypeId)(g:Nat)(v:Value)(xs:List Value):Prop:=w.ownsRow B T 1 v xs.length xs/\v.ownBlock=some g/\∃c,v=.slice (some ⟨g,0,none⟩) xs.length c
theorem mM.lt{w:World}{B:Nat}{T:TypeId}{g:Nat}{v:Value}{xs:List Value}(h:mM w B T g v xs):B<=g/\g<w.heap.size:=World.ownsRow.lt h.1 g h.2.1
theorem mM.below{w w':World}{B:Nat}{T:TypeId}{g:Nat}{v:Value}{xs:List Value}(h:mM w B T g v xs)(hb:Below w.heap.size w w'):mM w' B T g v xs:=⟨own_below h.1 hb,h.2⟩
theorem mM.grown{w w':World}{B:Nat}{T:TypeId}{g k:Nat}{v:Value}{xs:List Value}(h:mM w B T g v xs)(hg:w.grownBy w' (some k))(hne:g≠k):mM w' B T g v xs:=by
 have hl:=h.lt
 obtain⟨⟨h1,h2⟩,h3,h4⟩:=h
 refine⟨⟨h1,?_⟩,h3,h4⟩
 rcases h2 with h2|⟨g',cap,cur,hv,hbg,hg',r⟩
 ·exact .inl h2
 ·have e:g'=g:=by
   rw[hv]at h3
   exact Option.some.inj h3
  subst e
  exact .inr ⟨g',cap,cur,hv,hbg,by rw[hg.block g' hl.2 (fun e=>hne (Option.some.inj e))];exact hg',r⟩
theorem mM.cell{w:World}{B:Nat}{T:TypeId}{g:Nat}{v:Value}{xs:List Value}(h:mM w B T g v xs){j:Nat}{u:Value}(hj:xs[j]?=some u):w.cell? ⟨g,j,none⟩=some u:=by
 obtain⟨h1,h2,c,rfl⟩:=h
 have:=h1.cells (g:=g) rfl j u hj
 rw[Addr.add_mid,Nat.zero_add]at this
 exact this
structure Jz(w:World)(B:Nat)(e s t:Value)(es ss:List Nat)(ts:List aj):Prop where
 ex:∃g1 g2 g3,mM w B 3 g1 e (ints es)/\mM w B 3 g2 s (ints ss)/\mM w B 9 g3 t (strs ts)/\g1≠g2/\g1≠g3/\g2≠g3
theorem Jz.below{w w':World}{B:Nat}{e s t:Value}{es ss:List Nat}{ts:List aj}(h:Jz w B e s t es ss ts)(hb:Below w.heap.size w w'):Jz w' B e s t es ss ts:=by
 obtain⟨g1,g2,g3,h1,h2,h3,n⟩:=h.ex
 exact⟨g1,g2,g3,h1.below hb,h2.below hb,h3.below hb,n⟩
def adz(w:World)(v:Value)(ts:List aj):Prop:=∃a c,v=.slice a ts.length c/\ts.length<=c/\(ts=[]\/∃b o,a=some ⟨b,o,none⟩/\b<w.heap.size/\∀i,i<ts.length->w.cell? ⟨b,o+i,none⟩=some (.string (ah (ts.getD i []))))
def EJ:RD.Pc:=⟨[],false,false,false⟩
def ajd(w:World)(v:Value)(ps:List RD.Pc):Prop:=∃a c,v=.slice a ps.length c/\ps.length<=c/\(ps=[]\/∃b o,a=some ⟨b,o,none⟩/\b<w.heap.size/\∀i,i<ps.length->∃tv,adz w tv (ps.getD i EJ).texts/\w.cell? ⟨b,o+i*4,none⟩=some tv/\w.cell? ⟨b,o+i*4+1,none⟩=some (.bool (ps.getD i EJ).summed)/\w.cell? ⟨b,o+i*4+2,none⟩=some (.bool (ps.getD i EJ).wrong)/\w.cell? ⟨b,o+i*4+3,none⟩=some (.bool (ps.getD i EJ).skipped))
def lens(ts:List aj):Nat:=(ts.map List.length).sum
def cost(p:RD.Pc):Nat:=11+3*(p.texts.length+1)+lens p.texts
def costs(ps:List RD.Pc):Nat:=(ps.map cost).sum
theorem adA(ts:List aj)(k:Nat)(h:k<ts.length):lens (ts.take (k+1))=lens (ts.take k)+(ts.getD k []).length:=by
 unfold lens
 rw[List.take_succ_eq_append_getElem h,List.map_append,List.sum_append,List.getD_eq_getElem?_getD,List.getElem?_eq_getElem h]
 simp
theorem adB(ts:List aj)(k:Nat):lens (ts.take k)<=lens ts:=by
 have:lens ts=lens (ts.take k)+lens (ts.drop k):=by
  unfold lens
  rw[<- List.sum_append,<- List.map_append,List.take_append_drop]
 omega
theorem adC(ts:List aj)(k:Nat):(RD.nth ts k).length<=1024/\(RD.nth ts k).length<=(ts.getD k []).length:=by
 unfold RD.nth
 rw[List.length_take]
 omega
theorem adD(t:aj)(l:Bool):(qB t l).length=2+t.length:=by
 unfold qB
 rw[List.length_append]
 rfl
theorem Rj(text:aj)(i:RD.Mid)(ts:List aj):∀k,k<=ts.length+1->(jq text i ts k).s.length<=i.s.length+2*k+lens (ts.take k)/\(jq text i ts k).all.length<=i.all.length+lens (ts.take k)/\(jq text i ts k).starts.length=i.starts.length+k/\(jq text i ts k).texts.length=i.texts.length+k
 | 0,_=>by unfold jq;simp
 | k+1,hk=>by
  obtain⟨h1,h2,h3,h4⟩:=Rj text i ts k (by omega)
  have hn:=adC ts k
  have hl:lens (ts.take k)+(ts.getD k []).length=lens (ts.take (k+1)):=by
   by_cases h:k<ts.length
   ·exact(adA ts k h).symm
   ·rw[List.take_of_length_le (by omega),List.take_of_length_le (by omega),List.getD_eq_getElem?_getD,List.getElem?_eq_none (by omega)]
    rfl
  unfold jq RD.Mid.add
  simp only[List.length_append,adD,List.length_cons,List.length_nil]
  omega
theorem adE(n:Int):(RD.four n).length=4:=rfl
theorem adF(n:Nat):(yj n).length<=7+n:=by
 unfold yj
 simp only[List.length_append,List.length_replicate]
 have:fJ.length=4:=rfl
 have:(RD.two (n%256)).length=2:=rfl
 have:([0]:aj).length=1:=rfl
 omega
structure Room(F:RD.Full)(n:Nat):Prop where
 s:F.L.s.length<=n
 text:F.text.length<=n
 ends:F.L.ends.length<=n+1
 starts:F.L.starts.length<=n+1
 texts:F.L.texts.length=F.L.starts.length
theorem Room.add{F:RD.Full}{n:Nat}(h:Room F n)(p:RD.Pc):Room (F.add p) (n+cost p):=by
 obtain⟨h1,h2,h3,h4,h5⟩:=h
 unfold RD.Full.add cost
 by_cases hs:p.skipped
 ·rw[if_pos hs]
  have:=adF p.texts.length
  refine⟨?_,?_,?_,?_,?_⟩
  all_goals simp only[List.length_append,List.length_cons,List.length_nil]
  all_goals omega
 ·rw[if_neg hs]
  obtain⟨m1,m2,m3,m4⟩:=Rj F.text (jS F.L p) p.texts (p.texts.length+1) (Nat.le_refl _)
  have hL:=adB p.texts (p.texts.length+1)
  have e1:(jS F.L p).s.length=F.L.s.length+5:=by
   unfold jS
   simp only[List.length_append]
   rfl
  have e2:(jS F.L p).all.length=0:=rfl
  have e3:(jS F.L p).starts=F.L.starts:=rfl
  have e4:(jS F.L p).texts=F.L.texts:=rfl
  have e5:(uH p (mJ F p).all).length<=4:=by
   unfold uH
   split
   ·rw[adE];omega
   ·simp
  rw[e3]at m3
  rw[e4]at m4
  unfold mJ at e5⊢
  refine⟨?_,?_,?_,?_,?_⟩
  all_goals simp only[List.length_append,List.length_cons,List.length_nil]
  all_goals omega
end Go.Proofs.YtbhemchnjpajiaaGreatDoor
namespace Go.Proofs.YtbhemchnjpajiaaGreatDoor
open Go.RowKit Go.Deep Go.ChangeShapes Go.WideShapes Go.Proofs.Tryz RD
theorem KQ:prog.cellsOf 9=1:=by kernel_rfl
theorem Uo:prog.cellsOf 3=1:=by kernel_rfl
theorem adG:prog.cellsOf 65=2:=by kernel_rfl
theorem adH:prog.cellsOf 24=2:=by kernel_rfl
theorem Ur{W:World}{a:Addr}{v:Value}(h:W.cell? (a.add 0)=some v):∃b o,a=⟨b,o,none⟩/\b<W.heap.size:=by
 obtain⟨b,off,spot⟩:=a
 have hs:spot=none:=by simpa[Addr.add]using World.cell?_spot h
 subst hs
 refine⟨b,off,rfl,?_⟩
 rw[addr_add]at h
 rcases Nat.lt_or_ge b W.heap.size with q|q
 ·exact q
 ·simp[World.cell?,Array.getElem?_eq_none q]at h
theorem adI{H:Type}(d:DataW H):1<=Rows.uptoBulk d:=by
 cases d with
 | lit l=>cases l<;>simp[Rows.uptoBulk]
 | _=>simp[Rows.uptoBulk]
theorem adJ{H:Type}{d:DataW H}{l:List (DataW H)}(h:d∈l):Rows.uptoBulk d<=Rows.uptoBulkAll l:=by
 induction l with
 | nil=>cases h
 | cons x r ih =>
  simp only[Rows.uptoBulkAll]
  cases List.mem_cons.1 h with
  | inl e=>subst e;omega
  | inr e=>have:=ih e;omega
theorem Us{H:Type}(l:List (DataW H)):l.length<=Rows.uptoBulkAll l:=by
 induction l with
 | nil=>simp
 | cons x r ih=>have:=adI x;simp only[Rows.uptoBulkAll,List.length_cons];omega
theorem Ut{H:Type}(l r:List (DataW H)):Rows.uptoBulkAll l+1<=Rows.uptoBulk (.slice l r):=by
 simp only[Rows.uptoBulk]
 omega
theorem adK{H:Type}{enc:TypeId×Value->H}{W:World}{fuel:Nat}{v:Value}{x:DataW H×List MemPlace}(h:DataW.trod enc prog W 0 (fun _=>true) true fuel 22 [v]=some x):∃ds,iE W v ds/\ds.length<=Rows.uptoBulk x.1/\∀d∈ds,d.2.length<=Rows.uptoBulk x.1:=by
 rcases open_slice_pairs underlying22 underlying65 adG rfl rfl Uo KQ h with⟨hcs,rfl⟩|⟨a,len,cap,m,n,V0,V1,D0,D1,P0,P1,hcs,_,hl,hm,hmm,rfl,hx⟩
 ·obtain rfl:=List.singleton_inj.1 hcs
  exact⟨[],⟨none,0,rfl,Nat.le_refl _,.inl rfl⟩,by simp,by simp⟩
 ·obtain rfl:=List.singleton_inj.1 hcs
  simp only[if_true]at hmm
  subst hmm
  have each:∀i,i<m->∃d:Int×aj,W.cell? (a.add (i*2))=some (.int .i64 d.1)/\W.cell? (a.add (i*2+1))=some (.string (ah d.2))/\D1 i=.lit (.string d.2):=by
   intro i hi
   obtain⟨c0,c1,t0,t1⟩:=hx i hi
   obtain⟨z,q0,-,-⟩:=DataW.trod_int underlying3 t0
   obtain⟨s,q1,q2,-⟩:=DataW.trod_string underlying9 t1
   have q0':=List.singleton_inj.1 q0
   have q1':=List.singleton_inj.1 q1
   simp only[Prod.mk.injEq]at q2
   exact⟨(z,s.data.toList),by rw[c0,q0'],by rw[c1,q1',<- Lm],q2.1⟩
  obtain⟨f,hfs⟩:=choose_lt each
  have q:=Ut ((List.range len).map fun i=>DataW.agg [D0 i,D1 i]) ((List.range (m-len)).map fun j=>DataW.agg [D0 (len+j),D1 (len+j)])
  show ∃ds,iE W (.slice (some a) len m) ds/\ds.length<=Rows.uptoBulk (DataW.slice ((List.range len).map fun i=>DataW.agg [D0 i,D1 i]) ((List.range (m-len)).map fun j=>DataW.agg [D0 (len+j),D1 (len+j)]))/\∀d∈ds,d.2.length<=Rows.uptoBulk (DataW.slice ((List.range len).map fun i=>DataW.agg [D0 i,D1 i]) ((List.range (m-len)).map fun j=>DataW.agg [D0 (len+j),D1 (len+j)]))
  refine⟨(List.range len).map f,⟨some a,m,by simp,by simpa using hl,?_⟩,?_,?_⟩
  ·by_cases h0:len=0
   ·left
    simp[h0]
   ·right
    obtain⟨c0,-⟩:=hfs 0 (by omega)
    obtain⟨b,o,rfl,hb⟩:=Ur (by simpa using c0)
    refine⟨b,o,rfl,hb,fun i hi=>?_⟩
    have hi':i<len:=by simpa using hi
    obtain⟨c0,c1,-⟩:=hfs i (by omega)
    rw[addr_add]at c0 c1
    have e:((List.range len).map f).getD i (0,[])=f i:=by simp[List.getD_eq_getElem?_getD,hi']
    rw[e]
    exact⟨c0,c1⟩
  ·have:=Us ((List.range len).map fun i=>DataW.agg [D0 i,D1 i])
   simp only[List.length_map,List.length_range]at this⊢
   omega
  ·intro d hd
   obtain⟨i,hi,rfl⟩:=List.mem_map.1 hd
   have hi':=List.mem_range.1 hi
   have h1:=adJ (d:=DataW.agg [D0 i,D1 i]) (List.mem_map.2 ⟨i,hi,rfl⟩:DataW.agg [D0 i,D1 i]∈(List.range len).map fun i=>DataW.agg [D0 i,D1 i])
   obtain⟨-,-,e⟩:=hfs i (by omega)
   rw[e]at h1
   simp only[Rows.uptoBulk,Rows.uptoBulkAll]at h1
   omega
end Go.Proofs.YtbhemchnjpajiaaGreatDoor
namespace Go.Proofs.YtbhemchnjpajiaaGreatDoor
open Go.RowKit Go.ChangeShapes Go.WideShapes Go.Proofs.Tryz
theorem adL:prog.cellsOf 326=1:=by kernel_rfl
theorem star_es : "*" ++ "errors.errorString" = "*errors.errorString" := by decide
theorem row_es (u : TypeId) (h : Tryz.prog.typeName? 3 u = some "*errors.errorString") : u = 308 :=
 typeName_ptr_named (nm := "errors.errorString") (by rw [star_es]; kernel_rfl) (by kernel_rfl) (by decide) u (by rw [star_es]; exact h)
theorem sentinel{W:World}{nm:String}{g:Nat}{text:List UInt8}{rest:List (String×DataW Unit)}{ps:List MemPlace}
  (hg:prog.globalNamed nm=some g) (hgt:(prog.globals[g]?).map (·.type)=some 92)
  (h : DataW.LaidVars Tryz.prog W ((nm, .iface "*errors.errorString" (.ptr (.agg [.lit (.string text)]))) :: rest) ps)
  (hok:∀b off,MemPlace.cell b off∈ps->(∃c t,W.heap[b]?=some (.cells c t (0,0)))/\∀u v,W.cell? ⟨b,off,none⟩=some (.iface u v)->Value.okWide prog W .any 0 u v) :
  ∃(a:Addr)(q:List MemPlace),W.cell? ⟨g,0,none⟩=some (aW a)/\(∃c t,W.heap[a.block]?=some (.cells c t (0,0)))/\DataW.LaidVars prog W rest q/\ps=.cell g 0::.cell a.block a.off::q/\a.spot=none:=by
 obtain⟨g',t,cs,fuel,p,q,e1,e2,e3,e4,e5,rfl⟩:=h
 obtain rfl:=Option.some.inj (hg.symm.trans e1)
 obtain rfl:=Option.some.inj (hgt.symm.trans e2)
 have hc0:∀u v,cs.toList=[.iface u v]->Value.okWide prog W .any 0 u v:=fun u v hcs=>by
  have hcs':cs=#[.iface u v]:=by cases cs;simp_all
  subst hcs'
  refine(hok g 0 (by simp[MemPlace.row])).2 u v ?_
  simpa using World.var?_cell hg e3 0
 obtain⟨a,s,hcs,hcell,_,_,rfl⟩:=errorString_of_trod underlying92 row_es underlying308 underlying326 rfl rfl underlying9 adL KQ e4 hc0
 have hcs':cs=#[aW a]:=by cases cs;simp_all
 subst hcs'
 have hsp:a.spot=none:=World.cell?_spot hcell
 obtain⟨b,o,sp⟩:=a
 simp only at hsp
 subst hsp
 refine⟨⟨b,o,none⟩,q,by simpa using World.var?_cell hg e3 0,?_,e5,by simp[MemPlace.row],rfl⟩
 exact(hok b o (by simp[MemPlace.row])).1
theorem gEnd : Tryz.prog.globalNamed "skein/faults.End" = some 0 := by kernel_rfl
theorem adM:(prog.globals[0]?).map (·.type)=some 92:=by kernel_rfl
theorem gFormat : Tryz.prog.globalNamed "skein/faults.Format" = some 6 := by kernel_rfl
theorem adN:(prog.globals[6]?).map (·.type)=some 92:=by kernel_rfl
theorem gLimit : Tryz.prog.globalNamed "skein/faults.Limit" = some 1 := by kernel_rfl
theorem adO:(prog.globals[1]?).map (·.type)=some 92:=by kernel_rfl
theorem gDict : Tryz.prog.globalNamed "skein/faults.Dict" = some 2 := by kernel_rfl
theorem adP:(prog.globals[2]?).map (·.type)=some 92:=by kernel_rfl
theorem gShort : Tryz.prog.globalNamed "skein/faults.Short" = some 3 := by kernel_rfl
theorem adQ:(prog.globals[3]?).map (·.type)=some 92:=by kernel_rfl
theorem gSum : Tryz.prog.globalNamed "skein/faults.Sum" = some 4 := by kernel_rfl
theorem adR:(prog.globals[4]?).map (·.type)=some 92:=by kernel_rfl
theorem gType : Tryz.prog.globalNamed "errors.errorType" = some 5 := by kernel_rfl
theorem rtType : (Tryz.prog.cutTypes.find? (·.1 == "internal/reflectlite.rtype")).map (·.2) = some 181 := by kernel_rfl
theorem adS:((List.range prog.types.size).filter fun t=>prog.rowNamed t [101,114,114,111,114])=[92]:=by kernel_rfl
def theLaid : List (String × DataW Unit) := [("errors.errorType", Rows.laid_errors_errorType), ("skein/faults.End", Rows.laid_skein_faults_End), ("skein/faults.Format", Rows.laid_skein_faults_Format), ("skein/faults.Limit", Rows.laid_skein_faults_Limit), ("skein/faults.Dict", Rows.laid_skein_faults_Dict), ("skein/faults.Short", Rows.laid_skein_faults_Short), ("skein/faults.Sum", Rows.laid_skein_faults_Sum)]
theorem adT{W:World}(h:laidMetH prog theLaid W):laidMet prog (theLaid.drop 1) W/\handlesMet prog (theLaid.take 1) W:=h
theorem adU{W:World}(h:handlesMet prog (theLaid.take 1) W):W.cell? ⟨5,0,none⟩=some (.iface 181 (.agg #[.pointer (some ⟨8,92,none⟩)])):=by
 obtain⟨name,u,ty,e1,e2,e3,e4,e5⟩:=h _ (List.mem_singleton.2 rfl)
 have en:name=[101,114,114,111,114]:=(Option.some.inj e1).symm
 subst en
 obtain rfl:=Option.some.inj (rtType.symm.trans e2)
 have hm:ty∈(List.range prog.types.size).filter fun t=>prog.rowNamed t [101,114,114,111,114]:=List.mem_filter.2 ⟨List.mem_range.2 e3,e4⟩
 rw[adS]at hm
 obtain rfl:=List.mem_singleton.1 hm
 have hh:typeHandle prog 92=.pointer (some ⟨8,92,none⟩):=by kernel_rfl
 rw[hh]at e5
 simpa using World.var?_cell gType e5 0
theorem adV{W:World}(h8:8<=W.heap.size)(h:laidMetH prog theLaid W):∃x:Fx,bI x W/\jE x W:=by
 obtain⟨⟨ps,hl,hn,hok⟩,hh⟩:=adT h
 obtain⟨e,q0,ce,re,l0,rfl,se⟩:=sentinel gEnd adM hl hok
 have o0:=fun b o(hm:MemPlace.cell b o∈q0)=>hok b o (List.mem_cons_of_mem _ (List.mem_cons_of_mem _ hm))
 obtain⟨f,q1,cf,rf,l1,rfl,sf⟩:=sentinel gFormat adN l0 o0
 have o1:=fun b o(hm:MemPlace.cell b o∈q1)=>o0 b o (List.mem_cons_of_mem _ (List.mem_cons_of_mem _ hm))
 obtain⟨l,q2,cl,rl,l2,rfl,sl⟩:=sentinel gLimit adO l1 o1
 have o2:=fun b o(hm:MemPlace.cell b o∈q2)=>o1 b o (List.mem_cons_of_mem _ (List.mem_cons_of_mem _ hm))
 obtain⟨d,q3,cd,rd,l3,rfl,sd⟩:=sentinel gDict adP l2 o2
 have o3:=fun b o(hm:MemPlace.cell b o∈q3)=>o2 b o (List.mem_cons_of_mem _ (List.mem_cons_of_mem _ hm))
 obtain⟨s,q4,cs,rs,l4,rfl,ss⟩:=sentinel gShort adQ l3 o3
 have o4:=fun b o(hm:MemPlace.cell b o∈q4)=>o3 b o (List.mem_cons_of_mem _ (List.mem_cons_of_mem _ hm))
 obtain⟨u,q5,cu,ru,l5,rfl,su⟩:=sentinel gSum adR l4 o4
 have o5:=fun b o(hm:MemPlace.cell b o∈q5)=>o4 b o (List.mem_cons_of_mem _ (List.mem_cons_of_mem _ hm))
 have lt:∀a:Addr,(∃c t,W.heap[a.block]?=some (.cells c t (0,0)))->a.block<W.heap.size:=fun a⟨c,t,h⟩=>(Array.getElem?_eq_some_iff.1 h).1
 have hap:[e,f,l,d,s,u].Nodup:=by
  refine List.Pairwise.of_map (fun a:Addr=>MemPlace.cell a.block a.off) (S:=(·≠·)) (fun a b hne hab=>hne (by rw[hab])) ?_
  refine List.Pairwise.sublist ?_ hn
  exact .cons _ (.cons_cons _ (.cons _ (.cons_cons _ (.cons _ (.cons_cons _ (.cons _ (.cons_cons _ (.cons _ (.cons_cons _ (.cons _ (.cons_cons _ (List.nil_sublist _))))))))))))
 refine⟨⟨W.heap.size,e,f,l,d,s,u⟩,⟨Nat.le_refl _,h8,⟨lt _ re,lt _ rf,lt _ rl,lt _ rd,lt _ rs,lt _ ru⟩,hap,ce,cf,cl,cd,cs,cu,adU hh⟩,?_⟩
 intro a ha
 simp only[List.mem_cons,List.not_mem_nil,or_false]at ha
 rcases ha with rfl|rfl|rfl|rfl|rfl|rfl<;>assumption
theorem adW{W:World}(h:W.ShapedOpen prog):8<=W.heap.size:=by
 obtain⟨cs,hc,-⟩:=h.1 7 #[.int .i64 0] 3 (of_decide_eq_true (by kernel_rfl)) (by kernel_rfl)
 exact(Array.getElem?_eq_some_iff.1 hc).1
abbrev adX:ByteArray:=⟨#[97,108,108,32,104,97,115,32,98,101,101,110,32,114,101,97,100]⟩
abbrev adY:ByteArray:=⟨#[98,121,116,101,115,32,116,104,97,116,32,97,114,101,32,110,111,32,115,116,114,101,97,109]⟩
abbrev adZ:ByteArray:=⟨#[97,32,119,105,110,100,111,119,32,116,104,97,116,32,105,115,32,116,111,111,32,108,97,114,103,101]⟩
abbrev ad1:ByteArray:=⟨#[97,32,100,105,99,116,105,111,110,97,114,121,32,116,104,97,116,32,105,115,32,110,111,116,32,116,104,101,114,101]⟩
abbrev ad2:ByteArray:=⟨#[97,32,115,116,114,101,97,109,32,116,104,97,116,32,101,110,100,115,32,116,111,111,32,115,111,111,110]⟩
abbrev ad3:ByteArray:=⟨#[97,32,102,114,97,109,101,32,119,104,111,115,101,32,115,117,109,32,105,115,32,97,110,111,116,104,101,114,32,111,110,101]⟩
noncomputable def low:Nat:=(World.holding prog default ⟨#[],#[],[]⟩).heap.size
noncomputable def laidWorld (os:Os):World :=
 let w0:=World.holding prog os ⟨#[.cells #[.string adX] 326,.cells #[.string adY] 326,.cells #[.string adZ] 326,.cells #[.string ad1] 326,.cells #[.string ad2] 326,.cells #[.string ad3] 326],#[],[]⟩
 { w0 with heap:=(((((((((((((w0.heap).modify 0 fun
   | .cells _ t frozen=>.cells #[.iface 308 (.pointer (some ⟨low+0,0,none⟩))] t frozen
   | o=>o)).modify 6 fun
   | .cells _ t frozen=>.cells #[.iface 308 (.pointer (some ⟨low+1,0,none⟩))] t frozen
   | o=>o)).modify 1 fun
   | .cells _ t frozen=>.cells #[.iface 308 (.pointer (some ⟨low+2,0,none⟩))] t frozen
   | o=>o)).modify 2 fun
   | .cells _ t frozen=>.cells #[.iface 308 (.pointer (some ⟨low+3,0,none⟩))] t frozen
   | o=>o)).modify 3 fun
   | .cells _ t frozen=>.cells #[.iface 308 (.pointer (some ⟨low+4,0,none⟩))] t frozen
   | o=>o)).modify 4 fun
   | .cells _ t frozen=>.cells #[.iface 308 (.pointer (some ⟨low+5,0,none⟩))] t frozen
   | o=>o)).modify 5 fun
   | .cells _ t frozen=>.cells #[.iface 181 (.agg #[.pointer (some ⟨8,92,none⟩)])] t frozen
   | o=>o }
end Go.Proofs.YtbhemchnjpajiaaGreatDoor
