/- Several texts in one: QSk3, QSk4, QWh, QWh2. -/
import Derived.Test.YtbhemchnjpajiaaGreatDoorLI
import Derived.Test.YtbhemchnjpajiaaGreatDoorLF
set_option linter.unusedVariables false
set_option linter.unusedSimpArgs false
set_option maxRecDepth 100000
set_option maxHeartbeats 4000000
namespace Go.Proofs.YtbhemchnjpajiaaGreatDoor
open Go.RowKit Go.Proofs.Tryz RD
theorem adn{c:aC}{fed out:aj}{m:MS}{a:RD.St}(h:Lk c fed m [] out a)(hw:RD.step c a=.wants):RD.told c fed true=(out,if m.nx=0/\m.bg=[]then 2 else 7,(a.frames,a.f.blocks)):=by
 rw[yQ true h.reach hw,h.text]
 simp only[if_true]
 have e:(a.ph=.letters/\a.left=[])↔(m.nx=0/\m.bg=[]):=by
  rcases h.at' with⟨h1,h2,h3⟩|⟨h1,h2,h3⟩|⟨h1,h0,h2,h3⟩|⟨h1,h2,h3⟩|⟨h1,h2,h3⟩|⟨h1,h2,h3⟩|⟨h1,h2,h3⟩
  ·rw[List.append_nil]at h3
   rw[h1,h2,h3]
   simp
  all_goals
   rw[h1,h2]
   simp
 by_cases k:m.nx=0/\m.bg=[]
 ·rw[if_pos k,if_pos (e.2 k)]
 ·rw[if_neg k,if_neg (fun z=>k (e.1 z))]
theorem Um(x:Fx)(G:Nat->Prop)(c:aC)(fed out:aj)(given R S:Nat)(m:MS)(a:RD.St)(G1:Nat->Prop)(ss:List Value)(v6 vr:Value)(w:World)(h:sJ x G c fed out given R w S m a G1 ss v6 vr) :
  Calls prog 25 #[.pointer (some ⟨R,0,none⟩)] w fun e w'=>e=.returned (.int .i64 0)/\Only G w w'/\∃n F,RD.told c fed true=(out,n,(a.frames,a.f.blocks))/\lD x G out n (a.frames,a.f.blocks) true given R w' F vr:=by
 have c0:=h.blk.cell (j:=0) rfl
 have c2:=h.blk.cell (j:=2) rfl
 have c3:=h.blk.cell (j:=3) rfl
 have fz:=h.blk.free
 have hB1:=h.blk.put 3 (.bool true)
 have aF:Only (·=R) w (w.setCell ⟨R,3,none⟩ (.bool true)):=(Only.refl (·=R) w).setCell ⟨R,3,none⟩ _ (fun _=>rfl)
 have hS1:=h.str.apart aF (fun k _ hk=>⟨fun e=>h.nr (hk▸e),by rw[hk];exact h.sr⟩) (fun k _ hk=>by rw[hk];exact b_.jg h.blk (by decide) (by decide))
 have hR1:=h.row.only aF (fun k hk e=>(h.row.blk hk).2.ne h.blk (by decide) e)
 have hsz1:w.heap.size<=(w.setCell ⟨R,3,none⟩ (.bool true)).heap.size:=aF.size
 have Js:=h.blk.lt
 have htold:=adn h.lk h.wants
 obtain⟨n,hn⟩:∃n,n=if m.nx=0/\m.bg=[]then 2 else 7:=⟨_,rfl⟩
 have hnum:n=2\/n=7:=by rw[hn];split<;>simp
 have hcl:=acT x G1 c m S ss v6 _ hS1
 have hpl:m.fr=a.frames/\m.f.blocks=a.f.blocks:=⟨h.lk.fr.symm,by rw[h.lk.f]⟩
 unfold QH at hcl
 rw[<- hn,hpl.1,hpl.2]at hcl
 rw[<- hn]at htold
 replace hn:=aA hn
 replace htold:=aA htold
 replace hpl:=aA hpl
 go_enter func25,ntmps25
 go_wp2_with fail
 generalize w.setCell ⟨R,3,none⟩ (.bool true)=w1 at *
 have d2:=hB1.cell (j:=2) rfl
 have d0:=hB1.cell (j:=0) rfl
 go_wp2_with fail
 refine hcl.mono ?_
 rintro e w2 ⟨rfl,Ju,hb2⟩
 have hB2:=hB1.below hb2 hB1.lt
 have hst:=QZ R _ _ _ _ w1.heap.size w2 hB2
 go_wp2_with fail
 refine hst.mono ?_
 rintro e w3 ⟨rfl,hB3,hO3⟩
 go_wp2_with fail
 go_ret
 have wG:Only (·=R) w w3:=(aF.below hb2).trans hO3
 have aV:=(hR1.only (aH (G:=fun _=>False) hb2) (fun _ _ e=>e)).only hO3 (fun k hk e=>by have:=(hR1.blk hk).2.ne hB1 (by decide);exact this e)
 exact⟨rfl,wG.weaken (fun k _ e=>e▸h.bW),n,w1.heap.size,htold.out,hB3,aV,h.le,Ju.only hO3 (fun e=>by omega),by omega,h.bW,fun k hk=>(h.nv k hk).2.1,h.base,h.str.vars.only wG (fun k e=>e▸h.base R h.bW),h.rows.only h.str.vars wG (fun k e=>e▸h.base R h.bW)⟩
theorem Un(x:Fx)(G:Nat->Prop)(text:aj)(n:Nat)(pl:Nat×Nat)(given R F:Nat)(vr:Value)(w:World)(h:lD x G text n pl false given R w F vr) :
  Calls prog 25 #[.pointer (some ⟨R,0,none⟩)] w fun e w'=>e=.returned (.int .i64 0)/\Only G w w'/\lD x G text n pl true given R w' F vr:=by
 have c2:=h.blk.cell (j:=2) rfl
 have c3:=h.blk.cell (j:=3) rfl
 have fz:=h.blk.free
 have hB1:=h.blk.put 3 (.bool true)
 have aF:Only (·=R) w (w.setCell ⟨R,3,none⟩ (.bool true)):=(Only.refl (·=R) w).setCell ⟨R,3,none⟩ _ (fun _=>rfl)
 go_enter func25,ntmps25
 go_wp2_with fail
 go_ret
 have Q9:F≠R:=fun e=>by
  have h1:w.heap[F]?=some (.cells _ _ _):=h.flt
  have h2:w.heap[R]?=some (.cells _ _ _):=h.blk
  rw[e,h2]at h1
  injection h1 with h1
  injection h1 with _ h1 _
  exact absurd h1 (by decide)
 exact⟨rfl,aF.weaken (fun k _ e=>e▸h.bW),hB1,h.row.only aF (fun k hk e=>(h.row.blk hk).2.ne h.blk (by decide) e),h.le,h.flt.only aF Q9,h.num,h.bW,h.nv,h.base,h.vars.only aF (fun k e=>e▸h.base R h.bW),h.rows.only h.vars aF (fun k e=>e▸h.base R h.bW)⟩
theorem ado(F T:Nat)(w:World)(hV:w.cell? ⟨5,0,none⟩=some (.iface 181 (.agg #[.pointer (some ⟨8,92,none⟩)])))(hB:aB w T 106 [.pointer none]) :
  Calls prog 51 #[.iface 106 (.pointer (some ⟨F,0,none⟩)),.iface 108 (.pointer (some ⟨T,0,none⟩))] w fun e w'=>e=.returned (.bool true)/\aB w' T 106 [.pointer (some ⟨F,0,none⟩)]/\Only (·=T) w w':=by
 refine(as_hit ⟨F,0,none⟩ ⟨T,0,none⟩ (.pointer none) w hV (hB.cell (j:=0) rfl) (hB.free 0)).mono ?_
 rintro e w' ⟨rfl,rfl⟩
 exact⟨rfl,((((hB.alloc _).alloc _).alloc _).alloc _).put 0 _,((((((Only.refl (·=T) w).alloc _).alloc _).alloc _).alloc _).setCell ⟨T,0,none⟩ _ (fun _=>rfl))⟩
theorem Q_(x:Fx)(G:Nat->Prop)(text:aj)(n:Nat)(pl:Nat×Nat)(cl:Bool)(given R F:Nat)(vr:Value)(w:World)(h:lD x G text n pl cl given R w F vr) :
  Calls prog 30 #[.pointer (some ⟨R,0,none⟩)] w fun e w'=>e=.returned (.tuple #[.agg #[.int .i64 (pl.1:Nat),.int .i64 (pl.2:Nat)],.int .i64 (if n=2 then 0 else n:Nat)])/\Below w.heap.size w w':=by
 have hb0:Below w.heap.size w ((w.alloc (.cells #[.int .i64 0,.int .i64 0] 74)).alloc (.cells #[.pointer none] 106)):=((Below.refl _ w).alloc (Nat.le_refl _) _).alloc (by simp) _
 have hT0:aB ((w.alloc (.cells #[.int .i64 0,.int .i64 0] 74)).alloc (.cells #[.pointer none] 106)) (w.heap.size+1) 106 [.pointer none]:=by
  have:=aB.new (w.alloc (.cells #[.int .i64 0,.int .i64 0] 74)) 106 [.pointer none]
  rw[show(w.alloc (.cells #[.int .i64 0,.int .i64 0] 74)).heap.size=w.heap.size+1 by simp]at this
  exact this
 have hP0:aB ((w.alloc (.cells #[.int .i64 0,.int .i64 0] 74)).alloc (.cells #[.pointer none] 106)) w.heap.size 74 [.int .i64 0,.int .i64 0]:=(aB.new w 74 [.int .i64 0,.int .i64 0]).alloc _
 obtain⟨T,hT⟩:∃T,T=w.heap.size+1:=⟨_,rfl⟩
 obtain⟨P0,hP⟩:∃P,P=w.heap.size:=⟨_,rfl⟩
 have hB0:=h.blk.below hb0 h.blk.lt
 have mg:=h.flt.below hb0 h.flt.lt
 have hV0:=h.vars.below hb0
 have hE0:=h.rows.below h.vars hb0
 have adp:=h.flt.lt
 have Js:=h.blk.lt
 have hnum:=h.num
 have h8:8<=w.heap.size:=Nat.le_trans h.vars.eight h.vars.size
 have hbs:=h.vars.size
 clear h
 obtain⟨Q,hQ⟩:∃Q,Q=(if n=2 then 0 else n:Nat):=⟨_,rfl⟩
 rw[<- hQ]
 replace hQ:=aA hQ
 have c2:=hB0.cell (j:=2) rfl
 have has:=ado F (w.heap.size+1) _ hV0.ty hT0
 go_enter func30,ntmps30
 go_wp2_with fail
 generalize hW:(w.alloc (.cells #[.int .i64 0,.int .i64 0] 74)).alloc (.cells #[.pointer none] 106)=W at *
 rw[<- hT]at hT0 has⊢
 rw[<- hP]at hP0 hb0 adp Js h8 hbs⊢
 have hPT:P0<T:=by omega
 replace hT:=aA hT
 replace hP:=aA hP
 replace hW:=aA hW
 refine has.mono ?_
 rintro e w1 ⟨rfl,hT1,aF⟩
 have hP1:=hP0.only aF (fun e=>by omega)
 have hF1:=mg.only aF (fun e=>by omega)
 have hsz0:=hb0.size
 have hV1:=hV0.only aF (fun k e=>by omega)
 have hE1:=hE0.only hV0 aF (fun k e=>by omega)
 have t0:=hT1.cell (j:=0) rfl
 have f0:=hF1.cell (j:=0) rfl
 have f1:=hF1.cell (j:=1) rfl
 have f2:=hF1.cell (j:=2) rfl
 have p0:=hP1.cell (j:=0) rfl
 have p1:=hP1.cell (j:=1) rfl
 have fzP:=hP1.free
 have cE:=hV1.cE
 have his:=yw x F n x.e w1 (by simp) f2 hE1
 have hno:=FU x F n w1 hnum f2 hV1 hE1
 rw[(QU hV1 hnum).1]at his
 have hbw:Hid (∀W':World,Only (·=P0) w1 W'->Below P0 w W'):=fun W' hW'=>hb0.trans ⟨(hW'.os).trans aF.os,hW'.tape.trans aF.tape,hW'.output.trans aF.output,Nat.le_trans aF.size hW'.size,fun k hk=>(hW'.block k (by have:=aF.size;have:=hP0.lt;omega) (by omega)).trans (aF.block k (by have:=hP0.lt;omega) (by omega))⟩
 by_cases h2:n=2
 ·have h2':decide (n=2)=true:=by simpa using h2
  have hres:Q=0:=by rw[hQ.out,if_pos h2]
  subst hres
  rw[h2']at his
  replace h2:=aA h2
  go_wp2_with fail
  refine his.mono ?_
  rintro e w2 ⟨rfl,hw2⟩
  subst hw2
  go_wp2_with fail
  have hP2:=(hP1.put 0 (.int .i64 (pl.1:Nat))).put 1 (.int .i64 (pl.2:Nat))
  have hO2:Only (·=P0) w2 ((w2.setCell ⟨P0,0,none⟩ (.int .i64 (pl.1:Nat))).setCell ⟨P0,1,none⟩ (.int .i64 (pl.2:Nat))):=((Only.refl (·=P0) w2).setCell ⟨P0,0,none⟩ _ (fun _=>rfl)).setCell ⟨P0,1,none⟩ _ (fun _=>rfl)
  generalize(w2.setCell ⟨P0,0,none⟩ (.int .i64 (pl.1:Nat))).setCell ⟨P0,1,none⟩ (.int .i64 (pl.2:Nat))=w3 at *
  have z0:=hP2.cell (j:=0) rfl
  have z1:=hP2.cell (j:=1) rfl
  refine bodyPost_ret (v:=.tuple #[.agg #[.int .i64 (pl.1:Nat),.int .i64 (pl.2:Nat)],.int .i64 0]) (by simp[results,results30,go_sem,z0,z1]) rfl ⟨rfl,?_⟩
  have:=hbw.out w3 hO2
  rw[hP.out]at this
  exact this
 ·have h2':decide (n=2)=false:=by simpa using h2
  have hres:Q=n:=by rw[hQ.out,if_neg h2]
  clear hQ
  subst hres
  rw[h2']at his
  replace h2:=aA h2
  go_wp2_with fail
  refine his.mono ?_
  rintro e w2 ⟨rfl,hw2⟩
  subst hw2
  have adq:∀W':World,Only (·=P0) w2 W'->Calls prog 43 #[.iface 106 (.pointer (some ⟨F,0,none⟩))] W' fun e w'=>e=.returned (.int .i64 Q)/\w'=W':=fun W' hW' =>
   FU x F Q W' hnum ((hF1.only hW' (by omega)).cell (j:=2) rfl) (hV1.only hW' (fun k e=>by omega)) (hE1.only hV1 hW' (fun k e=>by omega))
  have hne1:¬P0=T:=by omega
  have hne2:¬P0=F:=by omega
  have aja:¬T=P0:=by omega
  have aaC:¬F=P0:=by omega
  go_wp2_with fail
  go_region_with(go_at_call 43;refine(adq _ (by first|exact(Only.refl (·=P0) w2).drew|exact(((Only.refl (·=P0) w2).drew.setCell ⟨P0,0,none⟩ _ (fun _=>rfl)).setCell ⟨P0,1,none⟩ _ (fun _=>rfl))|exact(((Only.refl (·=P0) w2).setCell ⟨P0,0,none⟩ _ (fun _=>rfl)).setCell ⟨P0,1,none⟩ _ (fun _=>rfl)).drew)).mono ?_;rintro e w3 ⟨rfl,hw3⟩;subst hw3)
  all_goals
   go_wp2_with fail
   refine bodyPost_ret (v:=.tuple #[.agg #[.int .i64 (pl.1:Nat),.int .i64 (pl.2:Nat)],.int .i64 Q]) (by simp[results,results30,go_sem,p0,p1]) rfl ⟨rfl,?_⟩
   have hO2:Only (·=P0) w2 ((w2.setCell ⟨P0,0,none⟩ (.int .i64 (pl.1:Nat))).setCell ⟨P0,1,none⟩ (.int .i64 (pl.2:Nat))).drew:=(((Only.refl (·=P0) w2).setCell ⟨P0,0,none⟩ _ (fun _=>rfl)).setCell ⟨P0,1,none⟩ _ (fun _=>rfl)).drew
   have:=hbw.out _ hO2
   rw[<- hP.out]
   exact this
def adr(G:Nat->Prop)(T:aj)(w:World)(e:Ending)(w':World):Prop:=∃z,e=.returned (.tuple #[.string (ah T),.int .i64 z])/\Only G w w'
theorem ads(x:Fx)(G:Nat->Prop)(text:aj)(n:Nat)(pl:Nat×Nat)(cl:Bool)(given R F:Nat)(vr:Value)(k:Int)(w:World)(h:lD x G text n pl cl given R w F vr)(hk:(text.drop given).length<=k)(hk2:k<=9223372036854775807) :
  Calls prog 24 #[.pointer (some ⟨R,0,none⟩),.int .i64 k] w (adr G (text.drop given) w):=by
 have c1:=h.blk.cell (j:=1) rfl
 have c2:=h.blk.cell (j:=2) rfl
 have hno:=FU x F n w h.num (h.flt.cell (j:=2) rfl) h.vars h.rows
 have hrow:=h.row
 obtain⟨T,hT⟩:∃T,T=text.drop given:=⟨_,rfl⟩
 rw[<- hT]at hrow hk⊢
 replace hT:=aA hT
 obtain⟨ad,cc,rfl,q1,q2,q3⟩:=hrow.form
 have fz:=h.blk.free
 have Rf:=h.bW
 by_cases h0:T=[]
 ·subst h0
  go_enter func24,ntmps24
  go_wp2_with fail
  refine hno.mono ?_
  rintro e w1 ⟨rfl,hw⟩
  subst hw
  go_wp2_with fail
  go_ret2
  exact⟨_,rfl,Only.refl _ _⟩
 ·have hpos:0<T.length:=List.length_pos_iff.2 h0
  have hne:((T.length:Int)==0)=false:=by simp;omega
  have hmin:min k (T.length:Int)=(T.length:Int):=by omega
  have hmax:max 0 (T.length:Int)=(T.length:Int):=by omega
  have hconv:=fun W hW=>CB 0 w W _ T hrow hW
  have Uj:=hconv w rfl
  obtain⟨g,off,rfl,hg1,hg2⟩:∃g off,ad=some ⟨g,off,none⟩/\0<=g/\U8 w g:=by
   rcases q3 with⟨_,e,_⟩|e
   ·exact absurd e h0
   ·exact e
  replace h0:=aA h0
  go_enter func24,ntmps24
  go_wp2_with fail
  all_goals
   go_ret2
   exact⟨_,rfl,((Only.refl G w).setCell ⟨R,1,none⟩ _ (fun _=>Rf)).setCell ⟨R,1,none⟩ _ (fun _=>Rf)⟩
theorem Rh{w:World}{B:Nat}{v:Value}{ds:List (Int×aj)}(h:w.ownsRow B 65 2 v ds.length (iJ ds)):lJ w v ds/\∀k,v.ownBlock=some k->B<=k/\k<w.heap.size:=by
 by_cases h0:ds=[]
 ·subst h0
  obtain⟨-,h2⟩:=h
  rcases h2 with⟨rfl,-⟩|⟨g,cap,cur,rfl,hbg,hg,r⟩
  ·exact⟨⟨none,0,rfl,Nat.le_refl _,.inl rfl⟩,fun k hk=>by cases hk⟩
  ·refine⟨⟨_,cap,rfl,Nat.zero_le _,.inl rfl⟩,fun k hk=>?_⟩
   injection hk with hk
   have:k=g:=hk.symm
   rw[this]
   exact⟨hbg,(Array.getElem?_eq_some_iff.1 hg).1⟩
 ·obtain⟨g,c,rest,rfl,hbg,hB,h1,h2,h3⟩:=mY h (List.length_pos_iff.2 h0)
  refine⟨⟨_,c,rfl,h1,.inr ⟨g,rfl,hB.lt,fun i hi=>?_⟩⟩,fun k hk=>?_⟩
  ·obtain⟨e1,e2⟩:=KN ds i hi
   have hl:=HY ds
   exact⟨hB.cell (by rw[List.getElem?_append_left (by omega)];exact e1),hB.cell (by rw[List.getElem?_append_left (by omega)];exact e2)⟩
  ·injection hk with hk
   have:k=g:=hk.symm
   rw[this]
   exact⟨hbg,hB.lt⟩
theorem adt{w:World}{B:Nat}{v:Value}{ds:List (Int×aj)}(h:w.ownsRow B 65 2 v ds.length (iJ ds)):∀k,v.ownBlock=some k->DB w k:=fun k hk=>by
 obtain⟨-,h2⟩:=h
 rcases h2 with⟨rfl,-⟩|⟨g,cap,cur,rfl,hbg,hg,r⟩
 ·cases hk
 ·injection hk with hk
  have:k=g:=hk.symm
  rw[this]
  exact⟨_,_,hg⟩
def adu(x:Fx)(c:aC)(w:World)(e:Ending)(w':World):Prop :=
 Below w.heap.size w w'/\∃R S G1 ss,e=.returned (.tuple #[.pointer (some ⟨R,0,none⟩),.int .i64 0])/\sJ x (fun k=>w.heap.size<=k/\k<w'.heap.size) c [] [] 0 R w' S MS.start (RD.St.start []) G1 ss (.slice none 0 0) (.slice none 0 0)
theorem Below.only{B:Nat}{G:Nat->Prop}{w w1 w2:World}(h:Below B w w1)(ho:Only G w1 w2)(hG:∀k,G k->B<=k)(hB:B<=w.heap.size):Below B w w2 :=
 h.trans ⟨ho.os,ho.tape,ho.output,ho.size,fun k hk=>ho.block k (by have:=h.size;omega) (fun e=>by have:=hG k e;omega)⟩
def errOf(n:Nat):Nat:=if n=2 then 0 else n
def adv(c:aC)(s:aj)(w:World)(e:Ending)(w':World):Prop :=
 e=.returned (.tuple #[.string (ah (RD.gave c s).1),.int .i64 (errOf (RD.gave c s).2:Nat)])/\Below w.heap.size w w'
end Go.Proofs.YtbhemchnjpajiaaGreatDoor
