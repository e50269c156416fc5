/- Several texts in one: RefBkM, RefBk. -/
import Derived.Test.YtbhemchnjpajiaaGreatDoorMJ
import Derived.Test.YtbhemchnjpajiaaGreatDoorMF
import Derived.Test.YtbhemchnjpajiaaGreatDoorJH
set_option linter.unusedVariables false
set_option maxRecDepth 100000
set_option maxHeartbeats 4000000
namespace Go.Proofs.YtbhemchnjpajiaaGreatDoor.RD
open Go
def pI(f:Fr)(H:Nat)(l:aj):Option (aj×Fr)->mX (Bool×Fr×aj×aj)
 | none=>.err 4
 | some (T,f') =>
  if 1024<T.length\/(0<=f.size/\(f.size<((f.text.length+T.length:Nat):Int)\/(H%2=1/\((f.text.length+T.length:Nat):Int)≠f.size)))then .err 4
  else .ok (decide (H%2=1),{ f' with text:=f.text++T,blocks:=f.blocks+1 },l,T)
theorem afE{f:Fr}{l:aj}{H K M n:Nat}(h2:¬l.length<2)(hH:au (l.take 2)=H)(hK:H/2%4=K)(hM:H/8=M)(hb:¬(K=3\/1024<M))(hn:n=if K=1 then 1 else M) :
  block f l=if l.length<2+n then .wants else pI f H (l.drop (2+n)) (inner f K M ((l.drop 2).take n)):=by
 subst hH hK hM hn
 unfold block
 rw[if_neg h2]
 simp only[]
 rw[if_neg hb]
 generalize(if au (l.take 2)/2%4=1 then 1 else au (l.take 2)/8)=n
 by_cases hn:l.length<2+n
 ·rw[if_pos hn,if_pos hn]
 ·rw[if_neg hn,if_neg hn]
  cases inner f (au (l.take 2)/2%4) (au (l.take 2)/8) ((l.drop 2).take n)with
  | none=>rfl
  | some r=>rfl
theorem afF{f:Fr}{l:aj}{H K M:Nat}(h2:¬l.length<2)(hH:au (l.take 2)=H)(hK:H/2%4=K)(hM:H/8=M)(hb:K=3\/1024<M):block f l=.err 4:=by
 subst hH hK hM
 unfold block
 rw[if_neg h2]
 simp only[]
 rw[if_pos hb]
end Go.Proofs.YtbhemchnjpajiaaGreatDoor.RD
namespace Go.Proofs.YtbhemchnjpajiaaGreatDoor
open Go.RowKit Go.Proofs.Tryz RD
theorem aB.mem{w:World}{g:Nat}{t:TypeId}{cs:List Value}(h:aB w g t cs){j:Nat}{x:Value}(hx:w.cell? ⟨g,j,none⟩=some x):cs[j]?=some x:=by
 have h1:w.heap[g]?=some (.cells cs.toArray t):=h
 by_cases hj:j<cs.length
 ·have:=h.cell (j:=j) (v:=cs[j]) (List.getElem?_eq_getElem hj)
  rw[this]at hx
  rw[List.getElem?_eq_getElem hj]
  exact hx
 ·exfalso
  simp only[World.cell?,h1]at hx
  simp at hx
  rw[List.getElem?_eq_none (by omega)]at hx
  cases hx
theorem dA.yI{w:World}{v:Value}{l:List CM.aG}{p:Nat}(h:dA w v l)(hp:∀i,w.cell? ⟨p,1,none⟩≠some (.int .i64 i)):lives v≠some p:=by
 obtain⟨a,c,rfl,h⟩:=h
 by_cases h0:l.length=0
 ·unfold Go.Proofs.YtbhemchnjpajiaaGreatDoor.lives
  cases a<;>simp[h0]
 ·obtain⟨g',rfl,hg,h⟩:=h.resolve_left h0
  intro e
  simp only[Go.Proofs.YtbhemchnjpajiaaGreatDoor.lives]at e
  rw[if_neg h0]at e
  injection e with e
  have e':g'=p:=e
  have:=(h 0 (by omega)).2.1
  rw[e']at this
  exact hp _ this
theorem eG.yI{w:World}{v:Value}{z:List Int}{p:Nat}{t:TypeId}{a b c d e:Value}(h:eG w v z)(hz:z.length=3)(hp:aB w p t [a,b,c,d,e])(hb:∀i,b≠.int .i64 i)(hc:∀i,c≠.int .i64 i)(he:∀i,e≠.int .i64 i):lives v≠some p:=by
 obtain⟨ad,cc,rfl,h1,h2,h⟩:=h
 obtain⟨g',off,rfl,hg,h⟩:=h.resolve_left (by omega)
 intro q
 simp only[Go.Proofs.YtbhemchnjpajiaaGreatDoor.lives]at q
 rw[if_neg (by omega)]at q
 injection q with q
 have e':g'=p:=q
 subst e'
 have k0:=hp.mem (h 0 (by omega))
 have k1:=hp.mem (h 1 (by omega))
 rcases(by omega:off=0\/off=1\/off=2\/off=3\/off=4\/5<=off)with rfl|rfl|rfl|rfl|rfl|ho
 ·exact hb _ (by simpa using k1)
 ·exact hb _ (by simpa using k0)
 ·exact hc _ (by simpa using k0)
 ·exact he _ (by simpa using k1)
 ·exact he _ (by simpa using k0)
 ·rw[List.getElem?_eq_none (by simp;omega)]at k0
  cases k0
theorem aJ.yJ{w:World}{p g:Nat}{c:aC}{v:Value}{l:aj}{fr:Nat}{text:aj}{f:RD.Fr}(h:aJ w g f)(hla:dG f.last)(hR:bU w p c v l fr text)(hv:∃a n k,v=.slice a n k):Free w g p:=by
 obtain⟨a,n,k,rfl⟩:=hv
 obtain⟨hok,vc,v0,v1,v2,vl,hB,⟨hc,oc⟩,⟨h0,o0⟩,⟨h1,o1⟩,⟨h2,o2⟩,⟨hl,ol⟩⟩:=h
 have hr:aB w p 114 [.int .i64 c.limit,.slice a n k,.string (ah l),.int .i64 fr,.string (ah text)]:=hR
 have c1:∀i,w.cell? ⟨p,1,none⟩≠some (.int .i64 i):=fun i e=>by
  rw[hr.cell (j:=1) rfl]at e
  cases e
 have hl3:f.last.length=3:=by
  obtain⟨x,y,z,e,_⟩:=hla
  rw[e]
  rfl
 have hlr:=hl.yI hl3 hr (fun i e=>by cases e) (fun i e=>by cases e) (fun i e=>by cases e)
 intro j x hx
 have hm:=List.mem_of_getElem? (hB.mem hx)
 unfold kG at hm
 simp only[List.mem_cons,List.not_mem_nil,or_false]at hm
 rcases hm with rfl|rfl|rfl|rfl|rfl|rfl|rfl|rfl|rfl|rfl|rfl|rfl|rfl|rfl|rfl|rfl|rfl
 all_goals first
  | exact hc.yI c1
  | exact h0.yI c1
  | exact h1.yI c1
  | exact h2.yI c1
  | exact hlr
  | (simp[Go.Proofs.YtbhemchnjpajiaaGreatDoor.lives];done)
theorem afG(f:RD.Fr)(vc v0 v1 v2 vl:Value)(T:aj):(kG f vc v0 v1 v2 vl).set 4 (.string (ah T))=kG { f with text:=T } vc v0 v1 v2 vl:=rfl
theorem afH(f:RD.Fr)(vc v0 v1 v2 vl:Value)(n:Nat):(kG f vc v0 v1 v2 vl).set 16 (.int .i64 (n:Int))=kG { f with blocks:=n } vc v0 v1 v2 vl:=rfl
theorem aJ.afI{w:World}{g:Nat}{f:RD.Fr}(h:aJ w g f)(T:aj)(hT:T.length<=1099511627776):aJ (w.setCell ⟨g,4,none⟩ (.string (ah T))) g { f with text:=T }:=by
 obtain⟨hok,vc,v0,v1,v2,vl,hB,⟨hc',oc⟩,⟨h0,o0⟩,⟨h1,o1⟩,⟨h2,o2⟩,⟨hl,ol⟩⟩:=h
 refine⟨⟨hok.window,hok.size,hok.dict,hT,hok.codes,hok.t0,hok.t1,hok.t2,hok.last,hok.blocks⟩,vc,v0,v1,v2,vl,?_,⟨hc'.put g 4 _ oc,oc⟩,⟨h0.put g 4 _ o0,o0⟩,⟨h1.put g 4 _ o1,o1⟩,⟨h2.put g 4 _ o2,o2⟩,⟨hl.put g 4 _ ol,ol⟩⟩
 have:=hB.put 4 (.string (ah T))
 rwa[afG]at this
theorem aJ.afJ{w:World}{g:Nat}{f:RD.Fr}(h:aJ w g f)(n:Nat)(hn:n<=1099511627776):aJ (w.setCell ⟨g,16,none⟩ (.int .i64 (n:Int))) g { f with blocks:=n }:=by
 obtain⟨hok,vc,v0,v1,v2,vl,hB,⟨hc',oc⟩,⟨h0,o0⟩,⟨h1,o1⟩,⟨h2,o2⟩,⟨hl,ol⟩⟩:=h
 refine⟨⟨hok.window,hok.size,hok.dict,hok.text,hok.codes,hok.t0,hok.t1,hok.t2,hok.last,hn⟩,vc,v0,v1,v2,vl,?_,⟨hc'.put g 16 _ oc,oc⟩,⟨h0.put g 16 _ o0,o0⟩,⟨h1.put g 16 _ o1,o1⟩,⟨h2.put g 16 _ o2,o2⟩,⟨hl.put g 16 _ ol,ol⟩⟩
 have:=hB.put 16 (.int .i64 (n:Int))
 rwa[afH]at this
theorem aJ.nums{w:World}{g:Nat}{f:RD.Fr}(h:aJ w g f):g<w.heap.size/\(∀j,w.frozen? ⟨g,j,none⟩=false)/\w.cell? ⟨g,1,none⟩=some (.int .i64 f.size)/\w.cell? ⟨g,2,none⟩=some (.bool f.summed)/\w.cell? ⟨g,4,none⟩=some (.string (ah f.text))/\w.cell? ⟨g,16,none⟩=some (.int .i64 (f.blocks:Nat)):=by
 obtain⟨_,vc,v0,v1,v2,vl,hB,_⟩:=h
 exact⟨hB.lt,hB.free,hB.cell rfl,hB.cell rfl,hB.cell rfl,hB.cell rfl⟩
theorem Sv{w:World}{p g:Nat}{c:aC}{v:Value}{l:aj}{fr:Nat}{text:aj}{f:RD.Fr}(h:Stub w g f)(hR:bU w p c v l fr text):p≠g:=by
 obtain⟨cs,h1,_⟩:=h
 intro e
 subst e
 have h2:w.heap[p]?=some (.cells _ _):=hR
 have h3:w.heap[p]?=some (.cells _ _):=h1
 rw[h2]at h3
 injection h3 with h3
 injection h3 with _ h3
 exact absurd h3 (by decide)
theorem Stub.only{G:Nat->Prop}{w w':World}{g:Nat}{f:RD.Fr}(h:Stub w g f)(ho:Only G w w')(hg:¬G g):Stub w' g f:=by
 obtain⟨cs,h1,h2⟩:=h
 exact⟨cs,h1.only ho hg,h2⟩
theorem bU.take{w:World}{p:Nat}{c:aC}{v:Value}{l:aj}{fr:Nat}{text:aj}(h:bU w p c v l fr text)(t:aj):bU (w.setCell ⟨p,2,none⟩ (.string (ah t))) p c v t fr text:=aB.put h 2 _
theorem bU.afK{w:World}{p:Nat}{c:aC}{v:Value}{l:aj}{fr:Nat}{text:aj}(h:bU w p c v l fr text)(t:aj):bU (w.setCell ⟨p,4,none⟩ (.string (ah t))) p c v l fr t:=aB.put h 4 _
theorem J5{w:World}{p g:Nat}{c:aC}{v:Value}{l:aj}{fr:Nat}{text:aj}{f:RD.Fr}(h:aJ w g f)(hla:dG f.last)(hR:bU w p c v l fr text)(hv:∃a n k,v=.slice a n k)(T text':aj)(n:Nat)(hT:T.length<=1099511627776)(hn:n<=1099511627776) :
  aJ (((w.setCell ⟨g,4,none⟩ (.string (ah T))).setCell ⟨p,4,none⟩ (.string (ah text'))).setCell ⟨g,16,none⟩ (.int .i64 (n:Int))) g { f with text:=T,blocks:=n } /\
  bU (((w.setCell ⟨g,4,none⟩ (.string (ah T))).setCell ⟨p,4,none⟩ (.string (ah text'))).setCell ⟨g,16,none⟩ (.int .i64 (n:Int))) p c v l fr text' /\
  Only (fun b=>b=p\/b=g) w (((w.setCell ⟨g,4,none⟩ (.string (ah T))).setCell ⟨p,4,none⟩ (.string (ah text'))).setCell ⟨g,16,none⟩ (.int .i64 (n:Int))):=by
 have hne:=Sv h.stub hR
 have h1:=h.afI T hT
 have hR1:bU (w.setCell ⟨g,4,none⟩ (.string (ah T))) p c v l fr text:=aB.other hR ⟨g,4,none⟩ _ hne
 have hf:=h1.yJ hla hR1 hv
 have ho:=(Only.refl (fun b=>b=p) (w.setCell ⟨g,4,none⟩ (.string (ah T)))).setCell ⟨p,4,none⟩ (.string (ah text')) (fun _=>rfl)
 have h2:=h1.away ho (fun e=>hne e.symm) (fun b e=>by rw[e];exact hf)
 have hR2:=hR1.afK text'
 exact⟨h2.afJ n hn,aB.other hR2 ⟨g,16,none⟩ _ hne,(((Only.refl (fun b=>b=p\/b=g) w).setCell ⟨g,4,none⟩ _ (fun _=>.inr rfl)).setCell ⟨p,4,none⟩ _ (fun _=>.inl rfl)).setCell ⟨g,16,none⟩ _ (fun _=>.inr rfl)⟩
def qF(p g:Nat)(c:aC)(v:Value)(l:aj)(fr:Nat)(text:aj)(f:RD.Fr)(w:World)(e:Ending)(w':World):Prop :=
 Only (fun b=>b=p\/b=g) w w'/\((RD.block f l=.wants/\e=.returned (.tuple #[.bool false,.int .i64 (-2)])/\Stub w' g f/\∃l',bU w' p c v l' fr text) \/
  (RD.block f l=.err 4/\e=.returned (.tuple #[.bool false,.int .i64 4])/\Stub w' g f/\∃l',bU w' p c v l' fr text) \/
  ∃last f' l' t,RD.block f l=.ok (last,f',l',t)/\e=.returned (.tuple #[.bool last,.int .i64 (-1)])/\aJ w' g f'/\dG f'.last/\bU w' p c v l' fr (text++t))
theorem afL(RC:lU)(RS:je)(p g:Nat)(c:aC)(v:Value)(l:aj)(fr:Nat)(text:aj)(f:RD.Fr)(w:World)(hR:bU w p c v l fr text)(hv:∃a n k,v=.slice a n k)(hF:aJ w g f)(hla:dG f.last)
  (hl:l.length<=1073741824) (htx:text.length<=549755813888) (hft:f.text.length<=549755813888) (hfb:f.blocks<=549755813888) :
  Calls prog 72 #[.pointer (some ⟨p,0,none⟩),.pointer (some ⟨g,0,none⟩)] w (qF p g c v l fr text f w):=by
 have hne:=Sv hF.stub hR
 have htk:=take_any p _ _ _ _ _ l 2 w hR (by omega) (by omega)
 by_cases h2:l.length<2
 ·have hw:Hid (RD.block f l=.wants):=by unfold Hid RD.block;rw[if_pos h2]
  go_enter func72,ntmps72
  go_wp2_with fail
  refine htk.mono ?_
  rintro e w1 (⟨_,rfl,rfl⟩|⟨h,_⟩)
  ·go_wp2_with fail
   go_ret2
   exact⟨Only.refl _ _,.inl ⟨hw.out,rfl,hF.stub,l,hR⟩⟩
  ·omega
 have htk:Calls prog 69 #[.pointer (some ⟨p,0,none⟩),.int .i64 2] w fun e w'=>e=.returned (.tuple #[.string (ah (l.take 2)),.bool true])/\w'=w.setCell ⟨p,2,none⟩ (.string (ah (l.drop 2))):=by
  refine htk.mono ?_
  rintro e w1 (⟨h,_⟩|⟨_,h⟩)
  ·omega
  ·exact h
 have hnum:∀W:World,Calls prog 70 #[.string (ah (l.take 2)),.int .i64 0,.int .i64 2] W fun e w'=>e=.returned (.int .i64 (au (l.take 2):Nat))/\w'=W:=fun W=>by
  have:=mZ (l.take 2) 0 2 W (by rw[List.length_take];omega) (by omega) (by rw[List.length_take];omega)
  rw[List.drop_zero,List.take_take]at this
  exact this
 obtain⟨W1,hW1⟩:∃W,W=w.setCell ⟨p,2,none⟩ (.string (ah (l.drop 2))):=⟨_,rfl⟩
 have ho1:=(Only.refl (fun b=>b=p) w).setCell ⟨p,2,none⟩ (.string (ah (l.drop 2))) (fun _=>rfl)
 have hR1:=hR.take (l.drop 2)
 rw[<- hW1]at htk ho1 hR1
 have hF1:=hF.away ho1 (fun e=>hne e.symm) (fun b e=>by rw[e];exact hF.yJ hla hR hv)
 have aF:Only (fun b=>b=p\/b=g) w W1:=ho1.weaken (fun k _ e=>.inl e)
 clear hW1 ho1
 obtain⟨H,hH⟩:∃H,au (l.take 2)=H:=⟨_,rfl⟩
 have xM:H<65536:=by
  have:=qP l 2 (by omega)
  have a:=pV (l.take 2)
  have b:(l.take 2).length=2:=by rw[List.length_take];omega
  rw[b]at a
  omega
 rw[hH]at hnum
 obtain⟨K,hK⟩:∃K,H/2%4=K:=⟨_,rfl⟩
 obtain⟨M,hM⟩:∃M,H/8=M:=⟨_,rfl⟩
 obtain⟨Q,hQ⟩:∃Q,H%2=Q:=⟨_,rfl⟩
 have hKi:((H:Int)/2).tmod 4=(K:Int):=by rw[Int.tmod_eq_emod_of_nonneg (by omega)];omega
 have hMi:(H:Int)/8=(M:Int):=by omega
 have hQi:(H:Int).tmod 2=(Q:Int):=by rw[Int.tmod_eq_emod_of_nonneg (by omega)];omega
 have fV:M<=8192:=by omega
 have hKb:K<=3:=by omega
 have hQb:Q<=1:=by omega
 have hno:=fun hb=>afF (f:=f) h2 hH hK hM hb
 have hat:=fun n hb hn=>afE (f:=f) (n:=n) h2 hH hK hM hb hn
 replace hQ:=aA hQ
 replace hH:=aA hH
 replace hK:=aA hK
 replace hM:=aA hM
 replace hno:=aA hno
 replace hat:=aA hat
 go_enter func72,ntmps72
 go_wp2_with fail
 refine htk.mono ?_
 rintro e w1 ⟨rfl,hw1⟩
 replace hw1:=hw1.symm
 subst hw1
 go_wp2_with fail
 refine(hnum _).mono ?_
 rintro e w1 ⟨rfl,hw1⟩
 replace hw1:=hw1.symm
 subst hw1
 by_cases hbad:K=3\/1024<M
 ·have hw:Hid (RD.block f l=.err 4):=aA (hno.out hbad)
  have hpost:qF p g c v l fr text f w (.returned (.tuple #[.bool false,.int .i64 4])) W1:=⟨aF,.inr (.inl ⟨hw.out,rfl,hF1.stub,_,hR1⟩)⟩
  replace hpost:=aA hpost
  by_cases h3:K=3
  ·subst h3
   replace hbad:=aA hbad
   go_wp2_with fail
   go_ret2
   exact hpost.out
  ·have h3':((K:Int)==3)=false:=by simp;omega
   have h4:1024<M:=by omega
   replace hbad:=aA hbad
   go_wp2_with fail
   go_ret2
   exact hpost.out
 have h3':((K:Int)==3)=false:=by simp;omega
 have hM1:M<=1024:=by omega
 rcases(by omega:K=0\/K=1\/K=2)with rfl|rfl|rfl
 ·have hlen2:(l.drop 2).length=l.length-2:=List.length_drop
  have iR:=take_any p _ _ _ _ _ (l.drop 2) M W1 hR1 (by omega) (by omega)
  have iD:Hid (RD.block f l=if l.length<2+M then .wants else pI f H (l.drop (2+M)) (RD.inner f 0 M ((l.drop 2).take M))):=hat.out M (by omega) (by simp)
  clear htk hnum
  replace hlen2:=aA hlen2
  by_cases hsh:l.length<2+M
  ·have hw:Hid (RD.block f l=.wants):=by unfold Hid;rw[iD.out,if_pos hsh]
   go_wp2_with fail
   refine iR.mono ?_
   rintro e w1 (⟨_,rfl,hw1⟩|⟨h,_⟩)
   ·replace hw1:=hw1.symm
    subst hw1
    go_wp2_with fail
    go_ret2
    exact⟨aF,.inl ⟨hw.out,rfl,hF1.stub,_,hR1⟩⟩
   ·have:=hlen2.out;omega
  have iR:Calls prog 69 #[.pointer (some ⟨p,0,none⟩),.int .i64 M] W1 fun e w'=>e=.returned (.tuple #[.string (ah ((l.drop 2).take M)),.bool true])/\w'=W1.setCell ⟨p,2,none⟩ (.string (ah (l.drop (2+M)))):=by
   refine iR.mono ?_
   rintro e w1 (⟨h,_⟩|⟨_,h⟩)
   ·have:=hlen2.out;omega
   ·rw[List.drop_drop]at h
    exact h
  rw[if_neg hsh]at iD
  obtain⟨s,hs⟩:∃s,s=(l.drop 2).take M:=⟨_,rfl⟩
  have hsl:s.length=M:=by rw[hs,List.length_take];have:=hlen2.out;omega
  have hzs:(ah s).size=M:=by rw[aQ];exact hsl
  obtain⟨W2,hW2⟩:∃W,W=W1.setCell ⟨p,2,none⟩ (.string (ah (l.drop (2+M)))):=⟨_,rfl⟩
  have ho2:=(Only.refl (fun b=>b=p) W1).setCell ⟨p,2,none⟩ (.string (ah (l.drop (2+M)))) (fun _=>rfl)
  have hR2:=hR1.take (l.drop (2+M))
  rw[<- hW2]at iR ho2 hR2
  rw[<- hs]at iR iD
  have hF2:=hF1.away ho2 (fun e=>hne e.symm) (fun b e=>by rw[e];exact hF1.yJ hla hR1 hv)
  have hO2:Only (fun b=>b=p\/b=g) w W2:=aF.trans (ho2.weaken (fun k _ e=>.inl e))
  clear hW2 ho2
  replace hs:=aA hs
  replace hF1:=aA hF1
  replace hR1:=aA hR1
  replace aF:=aA aF
  replace hsh:=aA hsh
  go_wp2_with fail
  refine iR.mono ?_
  rintro e w1 ⟨rfl,hw1⟩
  replace hw1:=hw1.symm
  subst hw1
  clear iR
  obtain⟨T,hTe⟩:∃T,T=s:=⟨_,rfl⟩
  subst hTe
  obtain⟨n,hn⟩:∃n,n=M:=⟨_,rfl⟩
  rw[<- hn]at hR2 iD
  replace hn:=aA hn
  have hTl:T.length<=1024:=by omega
  replace hsl:=aA hsl
  replace hzs:=aA hzs
  obtain⟨W,J6⟩:∃W,W=W2:=⟨_,rfl⟩
  subst J6
  have jf:=hF2
  have fF:=hR2
  have sS:=aA hO2
  have qG:=aA hla
  have hsame:=RD.Same.refl f
  have hblk:Hid (RD.block f l=pI f H (l.drop (2+n)) (some (T,f))):=iD
  obtain⟨sQ,Fj,d1,d2,d4,d16⟩:=jf.nums
  rw[hsame.2.1]at d1
  rw[hsame.2.2.2.2.1]at d4
  rw[hsame.2.2.2.2.2]at d16
  have Sz:=aB.cell fF (j:=4) rfl
  have SA:=aB.free fF
  have CG:=aB.lt fF
  have hsz:=hF.1.size
  obtain⟨S,hS⟩:∃S,f.size=S:=⟨_,rfl⟩
  rw[hS]at d1 hsz
  have yG:=aQ f.text
  have SC:=aQ text
  obtain⟨TL,hTL⟩:∃x,T.length=x:=⟨_,rfl⟩
  have hzT:(ah T).size=TL:=by rw[aQ];exact hTL
  rw[hTL]at hTl
  obtain⟨al,hal⟩:∃x:Nat,(f.text.length:Int)+(TL:Int)=(x:Int):=⟨f.text.length+TL,by omega⟩
  obtain⟨nb,hnb⟩:∃x:Nat,(f.blocks:Int)+1=(x:Int):=⟨f.blocks+1,by omega⟩
  obtain⟨FT,jT⟩:∃x,x=f.text++T:=⟨_,rfl⟩
  obtain⟨TT,jU⟩:∃x,x=text++T:=⟨_,rfl⟩
  have SE:ah f.text++ah T=ah FT:=by rw[jT,kL]
  have SG:ah text++ah T=ah TT:=by rw[jU,kL]
  have hgr:=J5 jf qG fF hv FT TT nb (by rw[jT,List.length_append];omega) (by omega)
  obtain⟨lb,hlb⟩:∃b,decide (H%2=1)=b:=⟨_,rfl⟩
  have hlq:((Q:Int)==1)=lb:=by
   rw[<- hlb,<- hQ.out]
   by_cases h:H%2=1
   ·rw[h];rfl
   ·rw[decide_eq_false h];simp;omega
  have hend:Hid (RD.block f l=if 0<=S/\(S<(al:Int)\/(lb=true/\(al:Int)≠S))then .err 4 else .ok (lb,{ f with text:=FT,blocks:=nb },l.drop (2+n),T)):=by
   unfold Hid
   have e1:((f.text.length+T.length:Nat):Int)=(al:Int):=by rw[hTL];omega
   have e2:f.blocks+1=nb:=by omega
   have e3:H%2=1↔lb=true:=by rw[<- hlb];simp
   rw[hblk.out,pI,e1,hS,<- jT,e2,hlb]
   by_cases hq:0<=S/\(S<(al:Int)\/(lb=true/\(al:Int)≠S))
   ·rw[if_pos (.inr ⟨hq.1,hq.2.imp id (fun e=>⟨e3.2 e.1,e.2⟩)⟩),if_pos hq]
   ·rw[if_neg (by
            rintro(e|e)
            ·omega
            ·exact hq ⟨e.1,e.2.imp id (fun e=>⟨e3.1 e.1,e.2⟩)⟩),if_neg hq]
  replace hTL:=aA hTL
  replace jT:=aA jT
  replace jU:=aA jU
  replace hlb:=aA hlb
  replace hgr:=aA hgr
  replace jf:=aA jf
  replace fF:=aA fF
  replace hblk:=aA hblk
  replace hsame:=aA hsame
  replace hS:=aA hS
  have SH:al<=549755814912:=by omega
  have hgood:∀(hc:RD.block f l=.ok (lb,{ f with text:=FT,blocks:=nb },l.drop (2+n),T)),qF p g c v l fr text f w (.returned (.tuple #[.bool lb,.int .i64 (-1)])) (((W.setCell ⟨g,4,none⟩ (.string (ah FT))).setCell ⟨p,4,none⟩ (.string (ah TT))).setCell ⟨g,16,none⟩ (.int .i64 (nb:Int))):=fun hc =>
   ⟨sS.out.trans hgr.out.2.2,.inr (.inr ⟨lb,_,_,T,hc,rfl,hgr.out.1,qG.out,by rw[<- jU.out];exact hgr.out.2.1⟩)⟩
  have jH:∀(hc:RD.block f l=.err 4),qF p g c v l fr text f w (.returned (.tuple #[.bool false,.int .i64 4])) W:=fun hc =>
   ⟨sS.out,.inr (.inl ⟨hc,rfl,jf.out.stub.same hsame.out,_,fF.out⟩)⟩
  replace hgood:=aA hgood
  replace jH:=aA jH
  by_cases s0:0<=S
  ·by_cases s1:S<(al:Int)
   ·have hc:Hid (RD.block f l=.err 4):=by unfold Hid;rw[hend.out,if_pos ⟨s0,.inl s1⟩]
    go_wp2_with fail
    go_ret2
    exact jH.out hc.out
   ·cases lb with
    | true =>
     by_cases s2:(al:Int)=S
     ·have hc:Hid (RD.block f l=.ok (true,{ f with text:=FT,blocks:=nb },l.drop (2+n),T)):=by unfold Hid;rw[hend.out,if_neg (by omega)]
      have s2':((al:Int) != S)=false:=by simp[s2]
      replace s2:=aA s2
      go_wp2_with fail
      go_ret2
      exact hgood.out hc.out
     ·have hc:Hid (RD.block f l=.err 4):=by unfold Hid;rw[hend.out,if_pos ⟨s0,.inr ⟨rfl,s2⟩⟩]
      have s2':((al:Int) != S)=true:=by simp[s2]
      go_wp2_with fail
      go_ret2
      exact jH.out hc.out
    | false =>
     have hc:Hid (RD.block f l=.ok (false,{ f with text:=FT,blocks:=nb },l.drop (2+n),T)):=by unfold Hid;rw[hend.out,if_neg (by rintro⟨_,e|⟨e,_⟩⟩;exact s1 e;cases e)]
     go_wp2_with fail
     go_ret2
     exact hgood.out hc.out
  ·have hc:Hid (RD.block f l=.ok (lb,{ f with text:=FT,blocks:=nb },l.drop (2+n),T)):=by unfold Hid;rw[hend.out,if_neg (fun e=>s0 e.1)]
   go_wp2_with fail
   go_ret2
   exact hgood.out hc.out
 ·have hlen2:(l.drop 2).length=l.length-2:=List.length_drop
  have iR:=take_any p _ _ _ _ _ (l.drop 2) 1 W1 hR1 (by omega) (by omega)
  have iD:Hid (RD.block f l=if l.length<2+1 then .wants else pI f H (l.drop (2+1)) (RD.inner f 1 M ((l.drop 2).take 1))):=hat.out 1 (by omega) (by simp)
  clear htk hnum
  replace hlen2:=aA hlen2
  by_cases hsh:l.length<2+1
  ·have hw:Hid (RD.block f l=.wants):=by unfold Hid;rw[iD.out,if_pos hsh]
   go_wp2_with fail
   refine iR.mono ?_
   rintro e w1 (⟨_,rfl,hw1⟩|⟨h,_⟩)
   ·replace hw1:=hw1.symm
    subst hw1
    go_wp2_with fail
    go_ret2
    exact⟨aF,.inl ⟨hw.out,rfl,hF1.stub,_,hR1⟩⟩
   ·have:=hlen2.out;omega
  have iR:Calls prog 69 #[.pointer (some ⟨p,0,none⟩),.int .i64 1] W1 fun e w'=>e=.returned (.tuple #[.string (ah ((l.drop 2).take 1)),.bool true])/\w'=W1.setCell ⟨p,2,none⟩ (.string (ah (l.drop (2+1)))):=by
   refine iR.mono ?_
   rintro e w1 (⟨h,_⟩|⟨_,h⟩)
   ·have:=hlen2.out;omega
   ·rw[List.drop_drop]at h
    exact h
  rw[if_neg hsh]at iD
  obtain⟨s,hs⟩:∃s,s=(l.drop 2).take 1:=⟨_,rfl⟩
  have hsl:s.length=1:=by rw[hs,List.length_take];have:=hlen2.out;omega
  have hzs:(ah s).size=1:=by rw[aQ];exact hsl
  obtain⟨W2,hW2⟩:∃W,W=W1.setCell ⟨p,2,none⟩ (.string (ah (l.drop (2+1)))):=⟨_,rfl⟩
  have ho2:=(Only.refl (fun b=>b=p) W1).setCell ⟨p,2,none⟩ (.string (ah (l.drop (2+1)))) (fun _=>rfl)
  have hR2:=hR1.take (l.drop (2+1))
  rw[<- hW2]at iR ho2 hR2
  rw[<- hs]at iR iD
  have hF2:=hF1.away ho2 (fun e=>hne e.symm) (fun b e=>by rw[e];exact hF1.yJ hla hR1 hv)
  have hO2:Only (fun b=>b=p\/b=g) w W2:=aF.trans (ho2.weaken (fun k _ e=>.inl e))
  clear hW2 ho2
  replace hs:=aA hs
  replace hF1:=aA hF1
  replace hR1:=aA hR1
  replace aF:=aA aF
  replace hsh:=aA hsh
  go_wp2_with fail
  refine iR.mono ?_
  rintro e w1 ⟨rfl,hw1⟩
  replace hw1:=hw1.symm
  subst hw1
  clear iR
  have hb1:s=[s.getD 0 0]:=by
   cases s with
   | nil=>simp at hsl
   | cons b r=>cases r with
    | nil=>rfl
    | cons _ _=>simp at hsl
  have qH:Hid (RD.block f l=pI f H (l.drop (2+1)) (some (List.replicate M (s.getD 0 0),f))):=iD
  obtain⟨b,hb⟩:∃b,s.getD 0 0=b:=⟨_,rfl⟩
  rw[hb]at hb1 qH
  subst hb1
  replace hb:=aA hb
  replace hs:=aA hs
  go_wp2_with fail
  go_loopg[12,13] (M+1) (fun gh tv iv wr=>∃k:Nat,gh=M+1-k/\k<=M/\tv=.string (ah (List.replicate k b))/\iv=.int .i64 (k:Int)/\wr=W2)
  case atStart=>exact⟨0,by omega,by omega,rfl,rfl,rfl⟩
  case round =>
   obtain⟨k,rfl,hk,rfl,rfl,hwr⟩:=hrel
   subst hwr
   have J7:(ah (List.replicate k b)).size=k:=by rw[aQ,List.length_replicate]
   by_cases hlt:k<M
   ·have hlt':(k:Int)<(M:Int):=by omega
    have AZ:ah (List.replicate k b)++ah [b]=ah (List.replicate (k+1) b):=by rw[kL,List.replicate_succ']
    go_wp2_with fail
    go_roundg(M+1-(k+1))
    case rel=>exact⟨k+1,by omega,by omega,rfl,by go_num,rfl⟩
    case measure=>omega
   ·obtain rfl:k=M:=by omega
    have hlt':¬(k:Int)<(k:Int):=by omega
    obtain⟨T,hTe⟩:∃T,T=List.replicate k b:=⟨_,rfl⟩
    have hTl:T.length<=1024:=by rw[hTe,List.length_replicate];omega
    rw[<- hTe]at qH J7
    rw[<- hTe]
    replace hTe:=aA hTe
    obtain⟨n,hn⟩:∃n,n=1:=⟨_,rfl⟩
    rw[<- hn]at hR2 qH
    replace hn:=aA hn
    replace J7:=aA J7
    obtain⟨W,J6⟩:∃W,W=wr:=⟨_,rfl⟩
    subst J6
    have jf:=hF2
    have fF:=hR2
    have sS:=aA hO2
    have qG:=aA hla
    have hsame:=RD.Same.refl f
    have hblk:=qH
    obtain⟨sQ,Fj,d1,d2,d4,d16⟩:=jf.nums
    rw[hsame.2.1]at d1
    rw[hsame.2.2.2.2.1]at d4
    rw[hsame.2.2.2.2.2]at d16
    have Sz:=aB.cell fF (j:=4) rfl
    have SA:=aB.free fF
    have CG:=aB.lt fF
    have hsz:=hF.1.size
    obtain⟨S,hS⟩:∃S,f.size=S:=⟨_,rfl⟩
    rw[hS]at d1 hsz
    have yG:=aQ f.text
    have SC:=aQ text
    obtain⟨TL,hTL⟩:∃x,T.length=x:=⟨_,rfl⟩
    have hzT:(ah T).size=TL:=by rw[aQ];exact hTL
    rw[hTL]at hTl
    obtain⟨al,hal⟩:∃x:Nat,(f.text.length:Int)+(TL:Int)=(x:Int):=⟨f.text.length+TL,by omega⟩
    obtain⟨nb,hnb⟩:∃x:Nat,(f.blocks:Int)+1=(x:Int):=⟨f.blocks+1,by omega⟩
    obtain⟨FT,jT⟩:∃x,x=f.text++T:=⟨_,rfl⟩
    obtain⟨TT,jU⟩:∃x,x=text++T:=⟨_,rfl⟩
    have SE:ah f.text++ah T=ah FT:=by rw[jT,kL]
    have SG:ah text++ah T=ah TT:=by rw[jU,kL]
    have hgr:=J5 jf qG fF hv FT TT nb (by rw[jT,List.length_append];omega) (by omega)
    obtain⟨lb,hlb⟩:∃b,decide (H%2=1)=b:=⟨_,rfl⟩
    have hlq:((Q:Int)==1)=lb:=by
     rw[<- hlb,<- hQ.out]
     by_cases h:H%2=1
     ·rw[h];rfl
     ·rw[decide_eq_false h];simp;omega
    have hend:Hid (RD.block f l=if 0<=S/\(S<(al:Int)\/(lb=true/\(al:Int)≠S))then .err 4 else .ok (lb,{ f with text:=FT,blocks:=nb },l.drop (2+n),T)):=by
     unfold Hid
     have e1:((f.text.length+T.length:Nat):Int)=(al:Int):=by rw[hTL];omega
     have e2:f.blocks+1=nb:=by omega
     have e3:H%2=1↔lb=true:=by rw[<- hlb];simp
     rw[hblk.out,pI,e1,hS,<- jT,e2,hlb]
     by_cases hq:0<=S/\(S<(al:Int)\/(lb=true/\(al:Int)≠S))
     ·rw[if_pos (.inr ⟨hq.1,hq.2.imp id (fun e=>⟨e3.2 e.1,e.2⟩)⟩),if_pos hq]
     ·rw[if_neg (by
              rintro(e|e)
              ·omega
              ·exact hq ⟨e.1,e.2.imp id (fun e=>⟨e3.1 e.1,e.2⟩)⟩),if_neg hq]
    replace hTL:=aA hTL
    replace jT:=aA jT
    replace jU:=aA jU
    replace hlb:=aA hlb
    replace hgr:=aA hgr
    replace jf:=aA jf
    replace fF:=aA fF
    replace hblk:=aA hblk
    replace hsame:=aA hsame
    replace hS:=aA hS
    have SH:al<=549755814912:=by omega
    have hgood:∀(hc:RD.block f l=.ok (lb,{ f with text:=FT,blocks:=nb },l.drop (2+n),T)),qF p g c v l fr text f w (.returned (.tuple #[.bool lb,.int .i64 (-1)])) (((W.setCell ⟨g,4,none⟩ (.string (ah FT))).setCell ⟨p,4,none⟩ (.string (ah TT))).setCell ⟨g,16,none⟩ (.int .i64 (nb:Int))):=fun hc =>
     ⟨sS.out.trans hgr.out.2.2,.inr (.inr ⟨lb,_,_,T,hc,rfl,hgr.out.1,qG.out,by rw[<- jU.out];exact hgr.out.2.1⟩)⟩
    have jH:∀(hc:RD.block f l=.err 4),qF p g c v l fr text f w (.returned (.tuple #[.bool false,.int .i64 4])) W:=fun hc =>
     ⟨sS.out,.inr (.inl ⟨hc,rfl,jf.out.stub.same hsame.out,_,fF.out⟩)⟩
    replace hgood:=aA hgood
    replace jH:=aA jH
    by_cases s0:0<=S
    ·by_cases s1:S<(al:Int)
     ·have hc:Hid (RD.block f l=.err 4):=by unfold Hid;rw[hend.out,if_pos ⟨s0,.inl s1⟩]
      go_wp2_with fail
      go_ret2
      exact jH.out hc.out
     ·cases lb with
      | true =>
       by_cases s2:(al:Int)=S
       ·have hc:Hid (RD.block f l=.ok (true,{ f with text:=FT,blocks:=nb },l.drop (2+n),T)):=by unfold Hid;rw[hend.out,if_neg (by omega)]
        have s2':((al:Int) != S)=false:=by simp[s2]
        replace s2:=aA s2
        go_wp2_with fail
        go_ret2
        exact hgood.out hc.out
       ·have hc:Hid (RD.block f l=.err 4):=by unfold Hid;rw[hend.out,if_pos ⟨s0,.inr ⟨rfl,s2⟩⟩]
        have s2':((al:Int) != S)=true:=by simp[s2]
        go_wp2_with fail
        go_ret2
        exact jH.out hc.out
      | false =>
       have hc:Hid (RD.block f l=.ok (false,{ f with text:=FT,blocks:=nb },l.drop (2+n),T)):=by unfold Hid;rw[hend.out,if_neg (by rintro⟨_,e|⟨e,_⟩⟩;exact s1 e;cases e)]
       go_wp2_with fail
       go_ret2
       exact hgood.out hc.out
    ·have hc:Hid (RD.block f l=.ok (lb,{ f with text:=FT,blocks:=nb },l.drop (2+n),T)):=by unfold Hid;rw[hend.out,if_neg (fun e=>s0 e.1)]
     go_wp2_with fail
     go_ret2
     exact hgood.out hc.out
 ·have hlen2:(l.drop 2).length=l.length-2:=List.length_drop
  have iR:=take_any p _ _ _ _ _ (l.drop 2) M W1 hR1 (by omega) (by omega)
  have iD:Hid (RD.block f l=if l.length<2+M then .wants else pI f H (l.drop (2+M)) (RD.inner f 2 M ((l.drop 2).take M))):=hat.out M (by omega) (by simp)
  clear htk hnum
  replace hlen2:=aA hlen2
  by_cases hsh:l.length<2+M
  ·have hw:Hid (RD.block f l=.wants):=by unfold Hid;rw[iD.out,if_pos hsh]
   go_wp2_with fail
   refine iR.mono ?_
   rintro e w1 (⟨_,rfl,hw1⟩|⟨h,_⟩)
   ·replace hw1:=hw1.symm
    subst hw1
    go_wp2_with fail
    go_ret2
    exact⟨aF,.inl ⟨hw.out,rfl,hF1.stub,_,hR1⟩⟩
   ·have:=hlen2.out;omega
  have iR:Calls prog 69 #[.pointer (some ⟨p,0,none⟩),.int .i64 M] W1 fun e w'=>e=.returned (.tuple #[.string (ah ((l.drop 2).take M)),.bool true])/\w'=W1.setCell ⟨p,2,none⟩ (.string (ah (l.drop (2+M)))):=by
   refine iR.mono ?_
   rintro e w1 (⟨h,_⟩|⟨_,h⟩)
   ·have:=hlen2.out;omega
   ·rw[List.drop_drop]at h
    exact h
  rw[if_neg hsh]at iD
  obtain⟨s,hs⟩:∃s,s=(l.drop 2).take M:=⟨_,rfl⟩
  have hsl:s.length=M:=by rw[hs,List.length_take];have:=hlen2.out;omega
  have hzs:(ah s).size=M:=by rw[aQ];exact hsl
  obtain⟨W2,hW2⟩:∃W,W=W1.setCell ⟨p,2,none⟩ (.string (ah (l.drop (2+M)))):=⟨_,rfl⟩
  have ho2:=(Only.refl (fun b=>b=p) W1).setCell ⟨p,2,none⟩ (.string (ah (l.drop (2+M)))) (fun _=>rfl)
  have hR2:=hR1.take (l.drop (2+M))
  rw[<- hW2]at iR ho2 hR2
  rw[<- hs]at iR iD
  have hF2:=hF1.away ho2 (fun e=>hne e.symm) (fun b e=>by rw[e];exact hF1.yJ hla hR1 hv)
  have hO2:Only (fun b=>b=p\/b=g) w W2:=aF.trans (ho2.weaken (fun k _ e=>.inl e))
  clear hW2 ho2
  replace hs:=aA hs
  replace hF1:=aA hF1
  replace hR1:=aA hR1
  replace aF:=aA aF
  replace hsh:=aA hsh
  go_wp2_with fail
  refine iR.mono ?_
  rintro e w1 ⟨rfl,hw1⟩
  replace hw1:=hw1.symm
  subst hw1
  clear iR
  have hpk:=afB RC RS g f s W2 hF2 hla (by omega)
  have qH:Hid (RD.block f l=pI f H (l.drop (2+M)) (RD.packed f s)):=iD
  replace hsl:=aA hsl
  replace hzs:=aA hzs
  replace hF2:=aA hF2
  go_wp2_with fail
  refine hpk.mono ?_
  rintro e W ⟨Fp,⟨hc,⟨x,hx,rfl⟩,hst⟩|⟨T,F',hc,rfl,jf,qG,hTb⟩⟩
  ·have hw:Hid (RD.block f l=.err 4):=by
    unfold Hid
    rw[qH.out,hc]
    rfl
   have fF:bU W p c v (l.drop (2+M)) fr text:=aB.only hR2 Fp hne
   have hpost:qF p g c v l fr text f w (.returned (.tuple #[.bool false,.int .i64 4])) W:=⟨hO2.trans (Fp.weaken (fun k _ e=>.inr e)),.inr (.inl ⟨hw.out,rfl,hst,_,fF⟩)⟩
   replace hpost:=aA hpost
   obtain⟨cs,hBs,_,_,_,h4s⟩:=hst
   have d4:W.cell? ⟨g,4,none⟩=some (.string (ah f.text)):=hBs.cell h4s
   have yG:=aQ f.text
   replace hc:=aA hc
   go_wp2_with fail
   go_ret2
   exact hpost.out
  ·have hsame:=Sj hc
   rw[hc]at qH
   have fF:bU W p c v (l.drop (2+M)) fr text:=aB.only hR2 Fp hne
   have sS:=aA (hO2.trans (Fp.weaken (fun k _ e=>.inr e)))
   replace qG:=aA qG
   replace hc:=aA hc
   obtain⟨n,hn⟩:∃n,n=M:=⟨_,rfl⟩
   rw[<- hn]at fF qH
   replace hn:=aA hn
   have hblk:=qH
   by_cases hTl:T.length<=1024
   ·obtain⟨sQ,Fj,d1,d2,d4,d16⟩:=jf.nums
    rw[hsame.2.1]at d1
    rw[hsame.2.2.2.2.1]at d4
    rw[hsame.2.2.2.2.2]at d16
    have Sz:=aB.cell fF (j:=4) rfl
    have SA:=aB.free fF
    have CG:=aB.lt fF
    have hsz:=hF.1.size
    obtain⟨S,hS⟩:∃S,f.size=S:=⟨_,rfl⟩
    rw[hS]at d1 hsz
    have yG:=aQ f.text
    have SC:=aQ text
    obtain⟨TL,hTL⟩:∃x,T.length=x:=⟨_,rfl⟩
    have hzT:(ah T).size=TL:=by rw[aQ];exact hTL
    rw[hTL]at hTl
    obtain⟨al,hal⟩:∃x:Nat,(f.text.length:Int)+(TL:Int)=(x:Int):=⟨f.text.length+TL,by omega⟩
    obtain⟨nb,hnb⟩:∃x:Nat,(f.blocks:Int)+1=(x:Int):=⟨f.blocks+1,by omega⟩
    obtain⟨FT,jT⟩:∃x,x=f.text++T:=⟨_,rfl⟩
    obtain⟨TT,jU⟩:∃x,x=text++T:=⟨_,rfl⟩
    have SE:ah f.text++ah T=ah FT:=by rw[jT,kL]
    have SG:ah text++ah T=ah TT:=by rw[jU,kL]
    have hgr:=J5 jf qG.out fF hv FT TT nb (by rw[jT,List.length_append];omega) (by omega)
    obtain⟨lb,hlb⟩:∃b,decide (H%2=1)=b:=⟨_,rfl⟩
    have hlq:((Q:Int)==1)=lb:=by
     rw[<- hlb,<- hQ.out]
     by_cases h:H%2=1
     ·rw[h];rfl
     ·rw[decide_eq_false h];simp;omega
    have hend:Hid (RD.block f l=if 0<=S/\(S<(al:Int)\/(lb=true/\(al:Int)≠S))then .err 4 else .ok (lb,{ F' with text:=FT,blocks:=nb },l.drop (2+n),T)):=by
     unfold Hid
     have e1:((f.text.length+T.length:Nat):Int)=(al:Int):=by rw[hTL];omega
     have e2:f.blocks+1=nb:=by omega
     have e3:H%2=1↔lb=true:=by rw[<- hlb];simp
     rw[hblk.out,pI,e1,hS,<- jT,e2,hlb]
     by_cases hq:0<=S/\(S<(al:Int)\/(lb=true/\(al:Int)≠S))
     ·rw[if_pos (.inr ⟨hq.1,hq.2.imp id (fun e=>⟨e3.2 e.1,e.2⟩)⟩),if_pos hq]
     ·rw[if_neg (by
              rintro(e|e)
              ·omega
              ·exact hq ⟨e.1,e.2.imp id (fun e=>⟨e3.1 e.1,e.2⟩)⟩),if_neg hq]
    replace hTL:=aA hTL
    replace jT:=aA jT
    replace jU:=aA jU
    replace hlb:=aA hlb
    replace hgr:=aA hgr
    replace jf:=aA jf
    replace fF:=aA fF
    replace hblk:=aA hblk
    replace hsame:=aA hsame
    replace hS:=aA hS
    have SH:al<=549755814912:=by omega
    have hgood:∀(hc:RD.block f l=.ok (lb,{ F' with text:=FT,blocks:=nb },l.drop (2+n),T)),qF p g c v l fr text f w (.returned (.tuple #[.bool lb,.int .i64 (-1)])) (((W.setCell ⟨g,4,none⟩ (.string (ah FT))).setCell ⟨p,4,none⟩ (.string (ah TT))).setCell ⟨g,16,none⟩ (.int .i64 (nb:Int))):=fun hc =>
     ⟨sS.out.trans hgr.out.2.2,.inr (.inr ⟨lb,_,_,T,hc,rfl,hgr.out.1,qG.out,by rw[<- jU.out];exact hgr.out.2.1⟩)⟩
    have jH:∀(hc:RD.block f l=.err 4),qF p g c v l fr text f w (.returned (.tuple #[.bool false,.int .i64 4])) W:=fun hc =>
     ⟨sS.out,.inr (.inl ⟨hc,rfl,jf.out.stub.same hsame.out,_,fF.out⟩)⟩
    replace hgood:=aA hgood
    replace jH:=aA jH
    by_cases s0:0<=S
    ·by_cases s1:S<(al:Int)
     ·have hc:Hid (RD.block f l=.err 4):=by unfold Hid;rw[hend.out,if_pos ⟨s0,.inl s1⟩]
      go_wp2_with fail
      go_ret2
      exact jH.out hc.out
     ·cases lb with
      | true =>
       by_cases s2:(al:Int)=S
       ·have hc:Hid (RD.block f l=.ok (true,{ F' with text:=FT,blocks:=nb },l.drop (2+n),T)):=by unfold Hid;rw[hend.out,if_neg (by omega)]
        have s2':((al:Int) != S)=false:=by simp[s2]
        replace s2:=aA s2
        go_wp2_with fail
        go_ret2
        exact hgood.out hc.out
       ·have hc:Hid (RD.block f l=.err 4):=by unfold Hid;rw[hend.out,if_pos ⟨s0,.inr ⟨rfl,s2⟩⟩]
        have s2':((al:Int) != S)=true:=by simp[s2]
        go_wp2_with fail
        go_ret2
        exact jH.out hc.out
      | false =>
       have hc:Hid (RD.block f l=.ok (false,{ F' with text:=FT,blocks:=nb },l.drop (2+n),T)):=by unfold Hid;rw[hend.out,if_neg (by rintro⟨_,e|⟨e,_⟩⟩;exact s1 e;cases e)]
       go_wp2_with fail
       go_ret2
       exact hgood.out hc.out
    ·have hc:Hid (RD.block f l=.ok (lb,{ F' with text:=FT,blocks:=nb },l.drop (2+n),T)):=by unfold Hid;rw[hend.out,if_neg (fun e=>s0 e.1)]
     go_wp2_with fail
     go_ret2
     exact hgood.out hc.out
   ·have jH:qF p g c v l fr text f w (.returned (.tuple #[.bool false,.int .i64 4])) W:=⟨sS.out,.inr (.inl ⟨by rw[hblk.out,pI,if_pos (.inl (by omega))],rfl,jf.stub.same hsame,_,fF⟩)⟩
    obtain⟨sQ,Fj,d1,d2,d4,d16⟩:=jf.nums
    rw[hsame.2.2.2.2.1]at d4
    have yG:=aQ f.text
    obtain⟨TL,hTL⟩:∃x,T.length=x:=⟨_,rfl⟩
    have hzT:(ah T).size=TL:=by rw[aQ];exact hTL
    rw[hTL]at hTl hTb
    have Qd:1024<TL:=by omega
    replace hTL:=aA hTL
    replace jH:=aA jH
    replace jf:=aA jf
    replace fF:=aA fF
    replace hblk:=aA hblk
    replace hsame:=aA hsame
    go_wp2_with fail
    go_ret2
    exact jH.out
end Go.Proofs.YtbhemchnjpajiaaGreatDoor
