/- Several texts in one: PartMath, TabWalks, TabNum, PrMap. -/
import Derived.Test.YtbhemchnjpajiaaGreatDoorJA
import Derived.Test.YtbhemchnjpajiaaGreatDoorJE
import Derived.Deep.RegionHeld3
import Derived.Test.YtbhemchnjpajiaaGreatDoorKO
import Derived.DeepKeys4
import Derived.Maps.OwnSet
set_option linter.unusedVariables false
set_option maxRecDepth 100000
set_option maxHeartbeats 1000000
namespace Go.Proofs.YtbhemchnjpajiaaGreatDoor.TM
open Go
def num(g:Nat->Bool):Nat->Nat
 | 0=>0
 | k+1=>num g k+if g k=true then 1 else 0
theorem OX(g:Nat->Bool)(n:Nat):num g n=(List.range n).countP g:=by
 induction n with
 | zero=>rfl
 | succ n ih =>
  rw[List.range_succ,List.countP_append,<- ih]
  simp only[num,List.countP_cons,List.countP_nil,Nat.zero_add]
theorem OY(g g':Nat->Bool)(n:Nat)(h:∀p,p<n->g p=g' p):num g n=num g' n:=by
 induction n with
 | zero=>rfl
 | succ n ih =>
  simp only[num]
  rw[ih fun p hp=>h p (by omega),h n (by omega)]
theorem ZR:((List.range 32).map (P 32)).isPerm (List.range 32)=true:=by decide +kernel
theorem ZT:((List.range 64).map (P 64)).isPerm (List.range 64)=true:=by decide +kernel
theorem ZU{S:Nat}(hS:Size S)(g:Nat->Bool):num (fun k=>g (P S k)) S=num g S:=by
 rw[OX,OX]
 have h:((List.range S).map (P S)).Perm (List.range S):=by
  rcases hS with rfl|rfl
  ·exact List.isPerm_iff.1 ZR
  ·exact List.isPerm_iff.1 ZT
 rw[<- h.countP_eq g,List.countP_map]
 rfl
theorem ZV(f:Nat->Int)(v:Int)(n:Nat):iG f v n=num (fun p=>decide (f p=v)) n:=by
 induction n with
 | zero=>rfl
 | succ n ih=>simp only[iG,num,ih,decide_eq_true_eq]
theorem num_add(g a b:Nat->Bool)(n:Nat)(h:∀p,p<n->(if g p=true then 1 else 0)=(if a p=true then 1 else 0)+(if b p=true then 1 else 0)):num g n=num a n+num b n:=by
 induction n with
 | zero=>rfl
 | succ n ih =>
  simp only[num]
  have:=h n (by omega)
  have:=ih fun p hp=>h p (by omega)
  omega
theorem vJ(g g':Nat->Bool)(n q:Nat)(hq:q<n)(h:∀p,p<n->p≠q->g p=g' p)(h':g' q=false):num g n=num g' n+if g q=true then 1 else 0:=by
 induction n with
 | zero=>omega
 | succ n ih =>
  simp only[num]
  by_cases e:q=n
  ·subst e
   rw[OY g g' q (fun p hp=>h p (by omega) (by omega)),h']
   simp
  ·rw[ih (by omega) (fun p hp hn=>h p (by omega) hn),h n (by omega) (by omega)]
   omega
theorem ZW(g:Nat->Bool)(n:Nat)(h:∀p,p<n->g p=false):num g n=0:=by
 induction n with
 | zero=>rfl
 | succ n ih=>simp only[num];rw[ih fun p hp=>h p (by omega),h n (by omega)];rfl
theorem ZX(z:List Int)(S:Nat)(h:Fits z S)(hS:1<=S)(s:Nat)(k:Nat)(hk:sum z k<=S) :
  num (fun p=>decide ((tb z S k).2<=p)&&decide ((tb z S k).1 p=(s:Int))) S=if s<k/\z.getD s 0=-1 then 1 else 0:=by
 induction k with
 | zero =>
  rw[if_neg (by omega)]
  apply ZW
  intro p hp
  have:decide ((tb z S 0).2<=p)=false:=decide_eq_false (show ¬S<=p by omega)
  simp only[this,Bool.false_and]
 | succ k ih =>
  have hb:=qM _ (S:Int) (by omega) (iY z S (by omega) h k)
  simp only[sum]at hk
  have ih:=ih (by omega)
  have hfr:=og z S h hS k (by omega)
  by_cases hm:z.getD k 0=-1
  ·have e:tb z S (k+1)=(upd (tb z S k).1 ((tb z S k).2-1) (k:Int),(tb z S k).2-1):=by simp only[tb];rw[if_pos hm]
   rw[e]
   have h1:pl (-1)=1:=rfl
   rw[hm,h1]at hk
   have hf1:1<=(tb z S k).2:=by omega
   rw[vJ _ (fun p=>decide ((tb z S k).2<=p)&&decide ((tb z S k).1 p=(s:Int))) S ((tb z S k).2-1) (by omega),ih]
   ·simp only[upd,if_pos,Nat.le_refl,decide_true,Bool.true_and]
    by_cases e2:s=k
    ·subst e2
     rw[if_neg (show ¬(s<s/\z.getD s 0=-1) by omega),if_pos (by simp),if_pos ⟨by omega,hm⟩]
    ·rw[if_neg (show ¬(decide ((k:Int)=(s:Int))=true) by simp;omega)]
     by_cases e3:s<k/\z.getD s 0=-1
     ·rw[if_pos e3,if_pos ⟨by omega,e3.2⟩]
     ·rw[if_neg e3,if_neg (fun h=>e3 ⟨by omega,h.2⟩)]
   ·intro p hp hne
    simp only[upd,if_neg hne]
    congr 1
    simp
    omega
   ·simp
    omega
  ·have e:tb z S (k+1)=tb z S k:=by simp only[tb];rw[if_neg hm]
   rw[e,ih]
   by_cases e2:s=k
   ·subst e2
    rw[if_neg (by omega),if_neg (fun h=>hm h.2)]
   ·by_cases e3:s<k/\z.getD s 0=-1
    ·rw[if_pos e3,if_pos ⟨by omega,e3.2⟩]
    ·rw[if_neg e3,if_neg (fun h=>e3 ⟨by omega,h.2⟩)]
theorem ZY(S free:Nat)(g:Nat->Bool)(K:Nat):num (fun k=>decide (P S k<free)&&g (cf S free k)) K=num g (cf S free K):=by
 induction K with
 | zero=>rfl
 | succ K ih =>
  simp only[num,cf]
  rw[ih]
  by_cases e:P S K<free
  ·have hd:decide (P S K<free)=true:=decide_eq_true e
   simp only[if_pos e,hd,Bool.true_and]
   rfl
  ·have hd:decide (P S K<free)=false:=decide_eq_false e
   simp only[if_neg e,hd,Bool.false_and]
   rfl
theorem Ec(z:List Int)(n j s:Nat)(hs:s<n)(hj:j<base z n):item z j n=s↔base z s<=j/\j<base z (s+1):=by
 constructor
 ·intro h
  obtain⟨t,a,b,c⟩:=LM z n j hj
  rw[zn z j t n a b c]at h
  subst h
  exact⟨b,c⟩
 ·rintro⟨a,b⟩
  exact zn z j s n hs a b
theorem Z4(z:List Int)(n s:Nat)(hs:s<n)(m:Nat)(hm:m<=base z n):num (fun j=>decide ((item z j n:Int)=(s:Int))) m=min m (base z (s+1))-min m (base z s):=by
 have hb:base z (s+1)=base z s+(z.getD s 0).toNat:=rfl
 induction m with
 | zero=>simp[num]
 | succ m ih =>
  simp only[num]
  rw[ih (by omega)]
  have:=Ec z n m s hs (by omega)
  by_cases e:base z s<=m/\m<base z (s+1)
  ·rw[if_pos (by simp;rw[this.2 e])]
   omega
  ·rw[if_neg (by simp only[decide_eq_true_eq];intro h;exact e (this.1 (by omega)))]
   omega
theorem places(z:List Int)(S n s:Nat)(hS:Size S)(h:Fits z S)(hs:sum z n=S)(hsn:s<n):(iG (F z S n) (s:Int) S:Int)=pl (z.getD s 0):=by
 have hS1:1<=S:=by rcases hS with rfl|rfl<;>omega
 have hfr:=og z S h hS1 n (by omega)
 have hfb:=vg z S n hS1 h hs
 have hf:=iY z S (by omega) h s
 rw[ZV,num_add _ (fun p=>decide ((tb z S n).2<=p)&&decide ((tb z S n).1 p=(s:Int))) (fun p=>decide (p<(tb z S n).2)&&decide ((item z (cf S (tb z S n).2 (idx S p)) n:Int)=(s:Int)))]
 ·rw[ZX z S h hS1 s n (by omega),<- ZU hS (fun p=>decide (p<(tb z S n).2)&&decide ((item z (cf S (tb z S n).2 (idx S p)) n:Int)=(s:Int)))]
  rw[OY _ (fun k=>decide (P S k<(tb z S n).2)&&decide ((item z (cf S (tb z S n).2 k) n:Int)=(s:Int))) S (fun k hk=>by rw[Gq hS k hk])]
  rw[show num (fun k=>decide (P S k<(tb z S n).2)&&decide ((item z (cf S (tb z S n).2 k) n:Int)=(s:Int))) S=num (fun j=>decide ((item z j n:Int)=(s:Int))) (cf S (tb z S n).2 S)from ZY S (tb z S n).2 (fun j=>decide ((item z j n:Int)=(s:Int))) S,CW hS _ hfr.2,<- hfb,Z4 z n s hsn _ (Nat.le_refl _)]
  have h1:=zl z (s+1) n hsn
  have h2:base z (s+1)=base z s+(z.getD s 0).toNat:=rfl
  unfold pl
  by_cases e:z.getD s 0=-1
  ·rw[if_pos e,if_pos ⟨hsn,e⟩]
   omega
  ·rw[if_neg e,if_neg (fun h=>e h.2)]
   omega
 ·intro p hp
  unfold F fK
  by_cases e:(tb z S n).2<=p
  ·rw[if_pos e,decide_eq_true e,decide_eq_false (show ¬p<(tb z S n).2 by omega)]
   simp
  ·rw[if_neg e,if_pos (tN hS p),decide_eq_false e,decide_eq_true (show p<(tb z S n).2 by omega)]
   simp
def wide(log:Nat)(x:Int):Int:=2^(bt log x).toNat
def Z5(log:Nat)(S x:Int)(k:Nat):Bool:=decide (bs log S x<=(k:Int))&&decide ((k:Int)<bs log S x+wide log x)
def SN(log:Nat)(S c:Int):Nat->Nat->Bool
 | 0,_=>false
 | m+1,k=>SN log S c m k || Z5 log S (c+m) k
def T(log:Nat)(c:Int):Nat->Int
 | 0=>0
 | m+1=>T log c m+wide log (c+m)
end Go.Proofs.YtbhemchnjpajiaaGreatDoor.TM
namespace Go.Proofs.YtbhemchnjpajiaaGreatDoor
open Go.RowKit Go.Proofs.Tryz
theorem OZ(c:Int)(w:World) :
  Calls prog 181 #[.int .i64 c] w fun e w'=>e=.returned (.int .i64 (TM.pl c))/\w=w':=by
 by_cases h:c=-1
 ·subst h
  go_enter func181,ntmps181
  go_wp2
  go_ret
  exact⟨rfl,rfl⟩
 ·have hb:(c==-1)=false:=by simpa using h
  have hp:Hid (TM.pl c=c):=by rw[Hid,TM.pl,if_neg h]
  clear h
  go_enter func181,ntmps181
  go_wp2
  go_ret
  exact⟨xk hp.out.symm,rfl⟩
theorem Ed(a:Option Addr)(n cap:Nat)(z:List Int)(S:Int)(w:World)(hI:Ints w a n z)(hS:1<=S/\S<=64) :
  Calls prog 177 #[.slice a n cap,.int .i64 S] w fun e w'=>e=.returned (.bool (TM.dZ z S))/\w=w':=by
 obtain⟨hl,hbig,hc⟩:=hI
 by_cases hn:n=0
 ·have hf:Hid (TM.dZ z S=false):=by rw[Hid];simp[TM.dZ,hl,hn]
  subst hn
  go_enter func177,ntmps177
  go_wp2
  go_ret
  exact⟨lH hf.out.symm,rfl⟩
 have hn0:((n:Int)==0)=false:=by simp;omega
 by_cases h16:16<n
 ·have hf:Hid (TM.dZ z S=false):=by rw[Hid];simp[TM.dZ,hl];omega
  go_enter func177,ntmps177
  go_wp2
  go_ret
  exact⟨lH hf.out.symm,rfl⟩
 obtain⟨b,off,rfl,hlt,hc'⟩:=hc.resolve_left hn
 have HC:Hid _:=hc'
 clear hc hc'
 have hin:Hid (TM.dZ z S=(TM.dW z S&&(TM.sum z n==S))):=by
  rw[Hid]
  have h1:1<=n:=by omega
  have h2:n<=16:=by omega
  simp[TM.dZ,hl,h1,h2]
 go_enter func177,ntmps177
 go_wp2
 go_loopg[5,18] n (fun g sv kv wr=>∃k:Nat,g=n-k/\k<=n/\kv=.int .i64 (k:Int)/\sv=.int .i64 (TM.sum z k)/\(0<=TM.sum z k/\TM.sum z k<=64*k)/\Hid (TM.dW (z.take k) S=true)/\wr=w)
 case atStart=>exact⟨0,by omega,by omega,rfl,rfl,by simp[TM.sum],rfl,rfl⟩
 case round =>
  obtain⟨k,rfl,hk,rfl,rfl,hsb,hfit,hwr⟩:=hrel
  subst hwr
  by_cases hkn:k<n
  ·have hck:=HC.out k hkn
   have hts:Hid _:=TM.yY z S k (by omega)
   have hpre:Hid _:=TM.CS z S (k+1)
   have hsu:Hid (TM.sum z (k+1)=TM.sum z k+TM.pl (z.getD k 0)):=rfl
   generalize z.getD k 0=x at *
   by_cases hx:-1<=x/\x<=S
   ·obtain⟨hx1,hx2⟩:=hx
    have hpb:=TM.qM x S hS.1 ⟨hx1,hx2⟩
    go_wp2_with(go_at_call 181;refine(OZ _ _).mono ?_;rintro e w' ⟨rfl,rfl⟩)
    go_roundg(n-(k+1))
    case rel=>exact⟨k+1,rfl,by omega,by go_num,jY hsu.out.symm,by rw[hsu.out];omega,by rw[Hid,hts.out,hfit.out];simp[hx1,hx2],rfl⟩
    case measure=>omega
   ·by_cases hx0:x < -1
    all_goals
     go_wp2
     go_ret
     refine⟨lH ?_,rfl⟩
     rw[hin.out,hpre.out (by rw[hts.out,hfit.out];simp;omega)]
     rfl
  ·obtain rfl:k=n:=by omega
   go_wp2
   go_ret
   refine⟨lH ?_,rfl⟩
   have hf:=hfit.out
   rw[List.take_of_length_le (by omega)]at hf
   rw[hin.out,hf]
   rfl
def dO(S:Nat)(f:Nat->Int):List Value:=CM.cellsOf (TM.tab S fun p=>(f p,0,0))
theorem O4(S:Nat)(f:Nat->Int)(p:Nat)(s:Int)(hp:p<S):(dO S f).set (p*3) (.int .i64 s)=dO S (TM.upd f p s):=by
 unfold dO
 rw[show p*3=p*3+0 by omega,TM.Gl _ p 0 (s,0,0) _ (by rw[TM.mW];exact hp) (by omega) (by rw[TM.zi _ _ _ hp];rfl),TM.Gm]
 congr 1
 apply TM.tK
 intro q hq
 unfold TM.upd
 split<;>rfl
theorem O5(S:Nat)(f:Nat->Int)(p:Nat)(hp:p<S):(dO S f)[p*3]?=some (.int .i64 (f p))/\(dO S f)[p*3+1]?=some (.int .i64 0)/\(dO S f)[p*3+2]?=some (.int .i64 0):=by
 have:=CM.cellsOf_at (TM.tab S fun p=>(f p,0,0)) p (by rw[TM.mW];exact hp)
 rw[TM.zi _ _ _ hp]at this
 exact this
theorem Z7(a:Option Addr)(n cap:Nat)(z:List Int)(S:Nat)(w0 w:World)(hI:Ints w0 a n z)(hn:1<=n/\n<=16)(hS:TM.Size S)(hf:TM.Fits z S)(hsum:TM.sum z n=S)(hb:Below w0.heap.size w0 w)(hg:aB w w0.heap.size 226 (dO S fun _=>0)) :
  Calls prog 178 #[.slice (some ⟨w0.heap.size,0,none⟩) S S,.slice a n cap] w fun e w'=>e=.returned (.int .i64 ((TM.tb z S n).2:Int))/\aB w' w0.heap.size 226 (dO S (TM.tb z S n).1)/\Below w0.heap.size w0 w':=by
 have Ee:32<=S/\S<=64:=by rcases hS with rfl|rfl<;>omega
 obtain⟨hl,hbig,hc⟩:=hI
 obtain⟨b,off,rfl,hlt,hc'⟩:=hc.resolve_left (by omega)
 have HC:Hid _:=hc'
 have HF:Hid (TM.Fits z S):=hf
 have HS:Hid (TM.sum z n=S):=hsum
 clear hc hc' hf hsum
 generalize hgg:w0.heap.size=G at *
 have O6:Hid _:=hgg
 clear hgg
 go_enter func178,ntmps178
 go_wp2_with fail
 go_loopg[5,12] n (fun g fv kv wr=>∃k:Nat,g=n-k/\k<=n/\kv=.int .i64 (k:Int)/\fv=.int .i64 ((TM.tb z S k).2:Int)/\aB wr G 226 (dO S (TM.tb z S k).1)/\Below G w0 wr)
 case atStart=>exact⟨0,by omega,by omega,rfl,rfl,hg,hb⟩
 case round =>
  clear hg hb
  obtain⟨k,rfl,hk,rfl,rfl,hg,hb⟩:=hrel
  by_cases hkn:k<n
  ·have hck:wr.cell? ⟨b,off+k,none⟩=some (.int .i64 (z.getD k 0)):=(hb.cell (p:=⟨b,off+k,none⟩) hlt).trans (HC.out k hkn)
   have hm:=TM.Gj z S (by omega) HF.out k n hk
   have hm1:=TM.Gj z S (by omega) HF.out (k+1) n hkn
   have hfr:=TM.og z S HF.out (by omega) k (by have:=HS.out;omega)
   have hsu:Hid (TM.sum z (k+1)=TM.sum z k+TM.pl (z.getD k 0)):=rfl
   have htb:Hid (TM.tb z S (k+1)=if z.getD k 0=-1 then(TM.upd (TM.tb z S k).1 ((TM.tb z S k).2-1) (k:Int),(TM.tb z S k).2-1)else TM.tb z S k):=rfl
   generalize z.getD k 0=x at *
   by_cases hx:x=-1
   ·subst hx
    obtain⟨f',hf'⟩:∃f',(TM.tb z S k).2=f'+1:=by
     have h1:=hsu.out
     have h2:=HS.out
     have h3:TM.pl (-1)=1:=rfl
     exact⟨(TM.tb z S k).2-1,by omega⟩
    have htb':=htb.out
    rw[if_pos rfl,hf',show f'+1-1=f' by omega]at htb'
    have HT:=htb'
    rw[hf']at hfr⊢
    have hft:f'<S:=by omega
    obtain⟨c0,-,-⟩:=O5 S (TM.tb z S k).1 f' hft
    have d0:=hg.cell c0
    have d1:=hg.free (f'*3)
    have oP:Hid _:=HT
    clear htb' HT hf' htb c0
    have hi1:(f':Int)<(S:Int):=by omega
    go_wp2
    go_roundg(n-(k+1))
    case rel =>
     refine⟨k+1,rfl,by omega,by go_num,?_,?_,hb.setCell (Nat.le_refl _) _⟩
     ·rw[oP.out]
     ·rw[oP.out]
      simp only
      rw[<- O4 S _ f' _ hft]
      exact hg.put _ _
    case measure=>omega
   ·have hxb:(x==-1)=false:=by simpa using hx
    have htb':=htb.out
    rw[if_neg hx]at htb'
    have oP:Hid _:=htb'
    clear htb' htb
    go_wp2
    go_roundg(n-(k+1))
    case rel=>exact⟨k+1,rfl,by omega,by go_num,by rw[oP.out],by rw[oP.out];exact hg,hb⟩
    case measure=>omega
  ·obtain rfl:k=n:=by omega
   go_wp2
   go_ret
   exact⟨rfl,hg,hb⟩
theorem Z8(a:Option Addr)(n cap:Nat)(z:List Int)(S free:Nat)(f0:Nat->Int)(w0 w:World)(hI:Ints w0 a n z)(hn:1<=n/\n<=16)(hS:TM.Size S)(hf:TM.Fits z S)(hfree:free<=S)(hbase:TM.base z n=free)(hb:Below w0.heap.size w0 w)(hg:aB w w0.heap.size 226 (dO S f0)) :
  Calls prog 179 #[.slice (some ⟨w0.heap.size,0,none⟩) S S,.slice a n cap,.int .i64 (free:Int)] w fun e w'=>e=.returned (.tuple #[])/\aB w' w0.heap.size 226 (dO S (TM.fK z S free n f0 S))/\Below w0.heap.size w0 w':=by
 have Ee:32<=S/\S<=64:=by rcases hS with rfl|rfl<;>omega
 obtain⟨hl,hbig,hc⟩:=hI
 obtain⟨b,off,rfl,hlt,hc'⟩:=hc.resolve_left (by omega)
 have HC:Hid _:=hc'
 have HF:Hid (TM.Fits z S):=hf
 have HS:Hid (TM.Size S):=hS
 have HB:Hid (TM.base z n=free):=hbase
 clear hc hc' hf hS hbase
 generalize hgg:w0.heap.size=G at *
 have O6:Hid _:=hgg
 clear hgg
 have hst:(S:Int)/2+(S:Int)/8+3=(TM.step S:Int):=by unfold TM.step;omega
 have O7:TM.step S<=64:=by unfold TM.step;omega
 have HST:Hid _:=hst
 go_enter func179,ntmps179
 go_wp2_with fail
 clear hst
 go_loopg[8,21] n (fun g pv kv wr=>∃s K:Nat,g=n-s/\s<=n/\K<=S/\kv=.int .i64 (s:Int)/\pv=.int .i64 (TM.P S K:Int)/\Hid (TM.cf S free K=TM.base z s)/\aB wr G 226 (dO S (TM.fK z S free n f0 K))/\Below G w0 wr)
 case atStart=>exact⟨0,0,by omega,by omega,by omega,rfl,by simp[TM.P],rfl,by rw[show dO S (TM.fK z S free n f0 0)=dO S f0 from congrArg CM.cellsOf (TM.tK S _ _ fun p hp=>by rw[TM.Vp])];exact hg,hb⟩
 case round =>
  clear hg hb
  obtain⟨s,K,rfl,hs,hK,rfl,rfl,hcf,hg,hb⟩:=hrel
  by_cases hsn:s<n
  ·have hcs:wr.cell? ⟨b,off+s,none⟩=some (.int .i64 (z.getD s 0)):=(hb.cell (p:=⟨b,off+s,none⟩) hlt).trans (HC.out s hsn)
   have hx:=TM.iY z S (by omega) HF.out s
   have hbs:Hid (TM.base z (s+1)=TM.base z s+(z.getD s 0).toNat):=rfl
   have hbm:Hid (TM.base z (s+1)<=free):=by rw[Hid,<- HB.out];exact TM.zl z (s+1) n hsn
   generalize z.getD s 0=x at *
   go_wp2_with fail
   go_loopg[8,27] x.toNat (fun g pv cv wr=>∃c K:Nat,g=x.toNat-c/\c<=x.toNat/\K<=S/\cv=.int .i64 (c:Int)/\pv=.int .i64 (TM.P S K:Int)/\Hid (TM.cf S free K=TM.base z s+c)/\aB wr G 226 (dO S (TM.fK z S free n f0 K))/\Below G w0 wr)
   case atStart=>exact⟨0,K,by omega,by omega,hK,rfl,rfl,hcf,hg,hb⟩
   case round =>
    clear hg hb hcf hK hcs
    obtain⟨c,K,rfl,hc,hK,rfl,rfl,hcf,hg,hb⟩:=hrel
    by_cases hcx:(c:Int)<x
    ·have hcd:decide ((c:Int)<x)=true:=decide_eq_true hcx
     go_wp2_with fail
     obtain⟨wo,rfl⟩:∃wo:World,wo=wr:=⟨_,rfl⟩
     go_loopg[8] (S-K) (fun g pv wr=>∃K:Nat,g=S-K/\K<=S/\pv=.int .i64 (TM.P S K:Int)/\Hid (TM.cf S free K=TM.base z s+c)/\aB wo G 226 (dO S (TM.fK z S free n f0 K))/\wr=wo)
     case atStart=>exact⟨K,rfl,hK,rfl,hcf,hg,rfl⟩
     case round =>
      clear hg hcf hK
      obtain⟨K,rfl,hK,rfl,hcf,hg,hwr⟩:=hrel
      subst hwr
      have hKS:K<S:=TM.LH HS.out hfree K hK (by have:=hcf.out;have:=hbs.out;have:=hbm.out;omega)
      have um:=TM.Vo S K
      have hPl:=TM.LG HS.out K
      have hcs:Hid (TM.cf S free (K+1)=TM.cf S free K+if TM.P S K<free then 1 else 0):=rfl
      by_cases hp:free<=TM.P S K
      ·go_wp2
       go_roundg(S-(K+1))
       case rel =>
        refine⟨K+1,rfl,by omega,jY um,?_,?_,rfl⟩
        ·rw[Hid,hcs.out,if_neg (by omega),hcf.out,Nat.add_zero]
        ·rw[<- show dO S (TM.fK z S free n f0 K)=dO S (TM.fK z S free n f0 (K+1))from congrArg CM.cellsOf (TM.tK S _ _ fun p hp'=>by rw[TM.Vk HS.out K hp p hp'])]
         exact hg
       case measure=>omega
      ·have O8:TM.item z (TM.cf S free K) n=s:=TM.zn z _ s n hsn (by have:=hcf.out;omega) (by have:=hcf.out;have:=hbs.out;omega)
       obtain⟨c0,-,-⟩:=O5 S (TM.fK z S free n f0 K) (TM.P S K) hPl
       have d0:=hg.cell c0
       have d1:=hg.free (TM.P S K*3)
       have HIT:Hid _:=O8
       clear O8 c0
       have hi1:(TM.P S K:Int)<(S:Int):=by omega
       go_wp2
       go_roundg(x.toNat-(c+1))
       case rel =>
        refine⟨c+1,K+1,rfl,by omega,by omega,by go_num,jY um,?_,?_,hb.setCell (Nat.le_refl _) _⟩
        ·rw[Hid,hcs.out,if_pos (by omega),hcf.out];omega
        ·rw[<- show dO S (TM.upd (TM.fK z S free n f0 K) (TM.P S K) (s:Int))=dO S (TM.fK z S free n f0 (K+1))from congrArg CM.cellsOf (TM.tK S _ _ fun p hp'=>by rw[TM.Vl HS.out K hKS (by omega) s HIT.out p hp']),<- O4 S _ _ _ hPl]
         exact hg.put _ _
       case measure=>omega
    ·have hcd:decide ((c:Int)<x)=false:=decide_eq_false hcx
     go_wp2
     go_roundg(n-(s+1))
     case rel=>exact⟨s+1,K,rfl,by omega,hK,by go_num,rfl,by rw[Hid,hbs.out,hcf.out];omega,hg,hb⟩
     case measure=>omega
  ·obtain rfl:s=n:=by omega
   go_wp2
   go_end0
   refine⟨rfl,?_,hb⟩
   rw[<- show dO S (TM.fK z S free s f0 K)=dO S (TM.fK z S free s f0 S)from congrArg CM.cellsOf (TM.tK S _ _ fun p hp'=>by rw[TM.Vm HS.out hfree K hK (by rw[hcf.out,HB.out]) p hp'])]
   exact hg
def kX(z:List Int)(f:Nat->Int)(k p:Nat):List Value:=(List.range 16).map fun s=>.int .i64 ((if s<k then TM.pl (z.getD s 0)else 0)+TM.iG f (s:Int) p)
theorem O9(z:List Int)(f:Nat->Int)(k p s:Nat)(h:s<16):(kX z f k p)[s]?=some (.int .i64 ((if s<k then TM.pl (z.getD s 0)else 0)+TM.iG f (s:Int) p)):=by simp[kX,h]
theorem Z9(z:List Int)(f:Nat->Int)(k:Nat)(h:k<16):(kX z f k 0).set k (.int .i64 (TM.pl (z.getD k 0)))=kX z f (k+1) 0:=by
 apply List.ext_getElem
 ·simp[kX]
 ·intro i h1 h2
  simp only[kX,List.getElem_set,List.getElem_map,List.getElem_range]
  by_cases e:k=i
  ·subst e;simp[TM.iG]
  ·rw[if_neg e]
   by_cases e2:i<k
   ·rw[if_pos e2,if_pos (by omega)]
   ·rw[if_neg e2,if_neg (by omega)]
theorem Z_(z:List Int)(f:Nat->Int)(n p s:Nat)(hs:s<16)(hsn:s<n)(hf:f p=(s:Int))(x:Int)(hx:x=TM.pl (z.getD s 0)+TM.iG f (s:Int) p+1):(kX z f n p).set s (.int .i64 x)=kX z f n (p+1):=by
 apply List.ext_getElem
 ·simp[kX]
 ·intro i h1 h2
  simp only[kX,List.getElem_set,List.getElem_map,List.getElem_range,TM.iG,hf]
  by_cases e:s=i
  ·subst e
   rw[if_pos rfl,if_pos hsn,if_pos rfl,hx]
   congr 1
   omega
  ·rw[if_neg e,if_neg (show ¬(s:Int)=(i:Int) by omega)]
   rfl
def kD(z:List Int)(log S:Int)(f:Nat->Int)(p:Nat):Nat->CM.aG:=fun q=>if q<p then TM.st z log S f q else(f q,0,0)
theorem aac(z:List Int)(log S:Int)(f:Nat->Int)(SS:Nat):CM.cellsOf (TM.tab SS (kD z log S f 0))=dO SS f:=by
 unfold dO
 congr 1
theorem aad(z:List Int)(log S:Int)(f:Nat->Int)(SS p:Nat)(h:p<SS) :
  (CM.cellsOf (TM.tab SS (kD z log S f p)))[p*3]?=some (.int .i64 (f p))/\(CM.cellsOf (TM.tab SS (kD z log S f p)))[p*3+1]?=some (.int .i64 0)/\(CM.cellsOf (TM.tab SS (kD z log S f p)))[p*3+2]?=some (.int .i64 0):=by
 have:=CM.cellsOf_at (TM.tab SS (kD z log S f p)) p (by rw[TM.mW];exact h)
 rw[TM.zi _ _ _ h]at this
 simpa[kD]using this
theorem aae(z:List Int)(log S:Int)(f:Nat->Int)(SS p:Nat)(h:p<SS) :
  ((CM.cellsOf (TM.tab SS (kD z log S f p))).set (p*3+1) (.int .i64 (TM.bt log (TM.X z f p)))).set (p*3+2) (.int .i64 (TM.bs log S (TM.X z f p)))=CM.cellsOf (TM.tab SS (kD z log S f (p+1))):=by
 rw[TM.Gl _ p 1 (f p,TM.bt log (TM.X z f p),0) _ (by rw[TM.mW];exact h) (by omega) (by rw[TM.zi _ _ _ h];simp[kD]),TM.Gm]
 rw[TM.Gl _ p 2 (TM.st z log S f p) _ (by rw[TM.mW];exact h) (by omega) (by rw[TM.zi _ _ _ h];simp[TM.upd,TM.st]),TM.Gm]
 congr 1
 apply TM.tK
 intro q hq
 unfold TM.upd kD
 by_cases e:q=p
 ·subst e;simp
 ·rw[if_neg e,if_neg e]
  by_cases e2:q<p
  ·rw[if_pos e2,if_pos (by omega)]
  ·rw[if_neg e2,if_neg (by omega)]
theorem aaf(z:List Int)(log S:Int)(f:Nat->Int)(SS:Nat):CM.cellsOf (TM.tab SS (kD z log S f SS))=CM.cellsOf (TM.tab SS (TM.st z log S f)):=by
 congr 1
 apply TM.tK
 intro q hq
 unfold kD
 rw[if_pos hq]
theorem aag(a:Option Addr)(n cap:Nat)(z:List Int)(log:Nat)(f:Nat->Int)(w0 w:World)(hI:Ints w0 a n z)(hn:1<=n/\n<=16)(kY:log=5\/log=6)(hf:TM.Fits z (2^log:Nat))(hsy:TM.LJ z (2^log) n f)(hb:Below w0.heap.size w0 w)(hg:aB w w0.heap.size 226 (dO (2^log) f)) :
  Calls prog 180 #[.slice (some ⟨w0.heap.size,0,none⟩) (2^log) (2^log),.slice a n cap,.int .i64 (log:Int)] w fun e w'=>e=.returned (.tuple #[])/\aB w' w0.heap.size 226 (CM.cellsOf (TM.tab (2^log) (TM.st z log (2^log:Nat) f)))/\Below w0.heap.size w0 w':=by
 obtain⟨hl,hbig,hc⟩:=hI
 obtain⟨b,off,rfl,hlt,hc'⟩:=hc.resolve_left (by omega)
 have HC:Hid _:=hc'
 have HF:=aA hf
 have O_:=aA hsy
 clear hc hc' hf hsy
 generalize hgg:w0.heap.size=G at *
 have O6:Hid _:=hgg
 clear hgg
 obtain⟨SS,hSS⟩:∃SS:Nat,SS=2^log:=⟨_,rfl⟩
 have Ee:32<=SS/\SS<=64:=by rw[hSS];rcases kY with rfl|rfl<;>decide
 rw[<- hSS]at HF O_ hg⊢
 have Pe:Hid _:=hSS
 clear hSS
 have iw:5<=log/\log<=6:=by omega
 have HLG:Hid (log=5\/log=6):=kY
 clear kY
 go_enter func180,ntmps180
 go_wp2_with fail
 have hGl:=hg.lt
 have hn0:aB (w.alloc (.cells (kX z f 0 0).toArray 292)) w.heap.size 292 (kX z f 0 0):=aB.new w _ _
 generalize hgn:w.heap.size=GN at *
 have II:Hid _:=hgn
 clear hgn
 go_loopg[14] n (fun g kv wr=>∃k:Nat,g=n-k/\k<=n/\kv=.int .i64 (k:Int)/\aB wr GN 292 (kX z f k 0)/\aB wr G 226 (dO SS f)/\Below G w0 wr)
 case atStart=>exact⟨0,by omega,by omega,rfl,hn0,hg.alloc _,hb.alloc (by have:=II.out;omega) _⟩
 case round =>
  clear hn0 hg hb
  obtain⟨k,rfl,hk,rfl,hnx,hg,hb⟩:=hrel
  by_cases hkn:k<n
  ·have hck:wr.cell? ⟨b,off+k,none⟩=some (.int .i64 (z.getD k 0)):=(hb.cell (p:=⟨b,off+k,none⟩) hlt).trans (HC.out k hkn)
   have hst:=Z9 z f k (by omega)
   have d0:=hnx.cell (O9 z f k 0 k (by omega))
   have d1:=hnx.free k
   have HST:Hid _:=hst
   clear hst
   generalize z.getD k 0=x at *
   have i1:(k:Int)<16:=by omega
   go_wp2_with(go_at_call 181;refine(OZ _ _).mono ?_;rintro e w' ⟨rfl,rfl⟩)
   go_roundg(n-(k+1))
   case rel =>
    refine⟨k+1,rfl,by omega,by go_num,?_,hg.other _ _ (by simp only;omega),hb.setCell (by simp only;omega) _⟩
    rw[<- HST.out]
    exact hnx.put _ _
   case measure=>omega
  ·obtain rfl:k=n:=by omega
   rw[<- aac z log SS f SS]at hg
   go_wp2_with fail
   go_loopg[26] SS (fun g pv wr=>∃p:Nat,g=SS-p/\p<=SS/\pv=.int .i64 (p:Int)/\aB wr GN 292 (kX z f k p)/\aB wr G 226 (CM.cellsOf (TM.tab SS (kD z log SS f p)))/\Below G w0 wr)
   case atStart=>exact⟨0,by omega,by omega,rfl,hnx,hg,hb⟩
   case round =>
    clear hnx hg hb
    obtain⟨p,rfl,hp,rfl,hnx,hg,hb⟩:=hrel
    by_cases fP:p<SS
    ·obtain⟨s,hfs,hsn,hpl⟩:=O_.out p fP
     have hX:=TM.CX z SS (by omega) HF.out f p fP ⟨s,hfs,hpl⟩
     obtain⟨c0,c1,c2⟩:=aad z log SS f SS p fP
     rw[hfs]at c0
     have d0:=hg.cell c0
     have d1:=hg.cell c1
     have d2:=hg.cell c2
     have f1:=hg.free (p*3+1)
     have f2:=hg.free (p*3+2)
     have e0:=hnx.cell (O9 z f k p s (by omega))
     rw[if_pos hsn]at e0
     have ex:TM.pl (z.getD s 0)+(TM.iG f (s:Int) p:Int)=TM.X z f p:=by unfold TM.X;rw[hfs,Int.toNat_natCast]
     have hnn:=Z_ z f k p s (by omega) hsn hfs (TM.X z f p+1) (by rw[<- ex])
     rw[ex]at e0
     have e1:=hnx.free s
     have hstp:=aae z log SS f SS p fP
     have hbs:=TM.zo log (by omega) (TM.X z f p) hX.1 (by
      have:=Pe.out
      have c:((2^(log+1):Nat):Int)=(2:Int)^(log+1):=by simp
      rw[<- c,Nat.pow_succ,<- this]
      omega)
     have hlen:=CM.CV (TM.X z f p) (by omega) (by omega)
     have hbt:(log:Int)+1-CM.len (TM.X z f p)=TM.bt log (TM.X z f p):=rfl
     have Az:TM.X z f p*2^(TM.bt log (TM.X z f p)).toNat-(SS:Int)=TM.bs log SS (TM.X z f p):=rfl
     have MC:((2:Int)^log)=(SS:Int):=by have:=Pe.out;rw[this];simp
     generalize TM.X z f p=x at *
     have HNN:Hid _:=hnn
     have aai:Hid _:=hstp
     have aaj:Hid _:=Az
     have Pg:Hid _:=hfs
     clear hnn hstp Az hfs ex c0 c1 c2
     have i1:(s:Int)<16:=by omega
     have i2:(p:Int)<(SS:Int):=by omega
     have hGN:G≠GN:=by omega
     have ail:GN≠G:=by omega
     go_wp2_with(go_at_call 155;refine(len_any x _ (by omega) (by omega)).mono ?_;rintro e w' ⟨rfl,rfl⟩)
     generalize L_:TM.bt log x=Bt at *
     have hYb:x*2^Bt.toNat<=128:=by
      have:=hbs.2.2.2
      have h2:=CM.pow_pos Bt.toNat
      rw[Int.add_mul]at this
      have h3:=CM.iF (log+1) 7 (by omega)
      omega
     have hY0:0<=x*2^Bt.toNat:=by have:=hbs.2.2.1;have:=CM.pow_pos log;omega
     have hB0:=hbs.1
     have hB1:=hbs.2.1
     have hw1:IntKind.i64.wrap (x*2^Bt.toNat)=x*2^Bt.toNat:=by rw[IntWalk.i64_left,IntWalk.wrap64_in _ (by omega)]
     have hw2:IntKind.i64.wrap (x*2^Bt.toNat-(SS:Int))=x*2^Bt.toNat-(SS:Int):=by rw[IntWalk.i64_left,IntWalk.wrap64_in _ (by omega)]
     have hw3:IntKind.i64.wrap (2^log)=(SS:Int):=by rw[IntWalk.i64_left,MC,IntWalk.wrap64_in _ (by omega)]
     have hcl:(CM.cellsOf (TM.tab SS (kD z log SS f p))).length=SS*3:=by rw[CM.cellsOf_length,TM.mW]
     have hgW:aB ((wr.setCell ⟨GN,s,none⟩ (.int .i64 (x+1))).setCell ⟨G,p*3+1,none⟩ (.int .i64 Bt)) G 226 ((CM.cellsOf (TM.tab SS (kD z log SS f p))).set (p*3+1) (.int .i64 Bt)):=(hg.other _ _ (by simp only;omega)).put _ _
     have Hu:aB ((wr.setCell ⟨GN,s,none⟩ (.int .i64 (x+1))).setCell ⟨G,p*3+1,none⟩ (.int .i64 Bt)) GN 292 (kX z f k (p+1)):=by
      rw[<- HNN.out]
      exact(hnx.put _ _).other _ _ (by simp only;omega)
     have hbW:Below G w0 ((wr.setCell ⟨GN,s,none⟩ (.int .i64 (x+1))).setCell ⟨G,p*3+1,none⟩ (.int .i64 Bt)):=(hb.setCell (by simp only;omega) _).setCell (Nat.le_refl _) _
     clear hbs e0 e1 d0 d1 d2 f1 f2 hg hnx hb
     generalize(wr.setCell ⟨GN,s,none⟩ (.int .i64 (x+1))).setCell ⟨G,p*3+1,none⟩ (.int .i64 Bt)=W1 at *
     have d1:W1.cell? ⟨G,p*3+1,none⟩=some (.int .i64 Bt):=hgW.cell (by rw[List.getElem?_set_self (by omega)])
     obtain⟨u2,hu2⟩:∃u,((CM.cellsOf (TM.tab SS (kD z log SS f p))).set (p*3+1) (.int .i64 Bt))[p*3+2]?=some u:=⟨_,List.getElem?_eq_getElem (by simp;omega)⟩
     have d2:=hgW.cell hu2
     have f2:=hgW.free (p*3+2)
     clear hu2
     have hk2:∀v,(W1.setCell ⟨G,p*3+2,none⟩ v).cell? ⟨G,p*3+1,none⟩=some (.int .i64 Bt):=by
      intro v
      rw[World.cell?_setCell_other _ _ _ _ (fun e=>by have:=congrArg Addr.off e;simp at this)]
      exact d1
     have hw4:IntKind.i64.wrap (SS:Int)=(SS:Int):=by rw[IntWalk.i64_left,IntWalk.wrap64_in _ (by omega)]
     go_region_held3(fun w'=>w'.cell? ⟨G,p*3+1,none⟩=some (.int .i64 Bt)) (go_keep) (fail)
     go_wp2
     go_roundg(SS-(p+1))
     case rel =>
      refine⟨p+1,rfl,by omega,by go_num,?_,?_,?_⟩
      ·exact(Hu.other _ _ (by simp only;omega)).drew
      ·rw[<- aai.out,<- aaj.out]
       exact(hgW.put _ _).drew
      ·exact(hbW.setCell (Nat.le_refl _) _).drew
     case measure=>omega
    ·obtain rfl:p=SS:=by omega
     go_wp2
     go_end0
     refine⟨rfl,?_,hb⟩
     rw[<- aaf]
     exact hg
theorem infoState:(prog.info? 226).map (fun i=>(i.zero,i.size,i.bytes))=some (some (.agg #[.int .i64 0,.int .i64 0,.int .i64 0]),3,24):=by kernel_rfl
theorem aak(S:Nat):dO S (fun _=>0)=List.replicate (S*3) (.int .i64 0):=by
 unfold dO TM.tab CM.cellsOf
 induction S with
 | zero=>rfl
 | succ S ih=>rw[List.range_succ,List.map_append,List.flatMap_append,ih,Nat.succ_mul,<- List.replicate_append_replicate];rfl
theorem aal(S:Nat):madeCells #[.int .i64 0,.int .i64 0,.int .i64 0] (S*3)=(dO S fun _=>0).toArray:=by
 rw[aak]
 apply Array.ext
 ·simp[madeCells]
 ·intro i h1 h2
  simp only[madeCells,List.getElem_toArray,List.getElem_replicate]
  have h3:i%3<3:=Nat.mod_lt _ (by omega)
  rcases(by omega:i%3=0\/i%3=1\/i%3=2)with e|e|e<;>simp[e]
theorem aam(w:World)(S:Nat)(hS:TM.Size S) :
  (Instr.makeSlice 117 (.int .i64 (S:Int)) (.int .i64 (S:Int))).run prog w =
   .ok (.slice (some ⟨w.heap.size,0,none⟩) S S) (w.alloc (.cells (dO S fun _=>0).toArray 226)):=by
 have Ee:S<=64:=by rcases hS with rfl|rfl<;>omega
 obtain⟨i0,hi,hz0,hz1,hz2⟩:=info_parts infoState
 have h:=run_make (P:=prog) w 117 226 i0 _ underlying117 hi hz0 .i64 .i64 (S:Int) (S:Int) (by omega) (Int.le_refl _) (by rw[hz2];omega) (by omega)
 rw[h,Int.toNat_natCast,hz1]
 have e:madeCells (Value.cells (.agg #[.int .i64 0,.int .i64 0,.int .i64 0])) (S*3)=(dO S fun _=>0).toArray:=by
  exact aal S
 rw[e]
theorem aan(log:Int)(a:Option Addr)(n cap:Nat)(z:List Int)(w:World)(hI:Ints w a n z)(hg:dI log z=false) :
  Calls prog 172 #[.int .i64 log,.slice a n cap] w fun e w'=>e=.returned (.tuple #[.slice none 0 0,.int .i64 4])/\w=w':=by
 by_cases h5:log<5
 ·go_enter func172,ntmps172
  go_wp2
  go_ret2
  exact⟨rfl,rfl⟩
 by_cases h6:6<log
 ·go_enter func172,ntmps172
  go_wp2
  go_ret2
  exact⟨rfl,rfl⟩
 rcases(by omega:log=5\/log=6)with rfl|rfl
 ·have hf:TM.dZ z 32=false:=by simpa[dI]using hg
  go_enter func172,ntmps172
  go_wp2_with(go_at_call 177;refine(Ed _ _ _ z _ _ hI (by omega)).mono ?_;rintro e w' ⟨rfl,rfl⟩)
  go_ret2
  exact⟨rfl,rfl⟩
 ·have hf:TM.dZ z 64=false:=by simpa[dI]using hg
  go_enter func172,ntmps172
  go_wp2_with(go_at_call 177;refine(Ed _ _ _ z _ _ hI (by omega)).mono ?_;rintro e w' ⟨rfl,rfl⟩)
  go_ret2
  exact⟨rfl,rfl⟩
theorem aao(log:Nat)(a:Option Addr)(n cap:Nat)(z:List Int)(w:World)(hI:Ints w a n z)(kY:log=5\/log=6)(hf:TM.dZ z (2^log:Nat)=true) :
  Calls prog 172 #[.int .i64 (log:Int),.slice a n cap] w fun e w'=>e=.returned (.tuple #[.slice (some ⟨w.heap.size,0,none⟩) (2^log) (2^log),.int .i64 0])/\aB w' w.heap.size 226 (CM.cellsOf (table log z))/\Below w.heap.size w w':=by
 have hl:=hI.1
 obtain⟨f1,f2,f3,f4⟩:=TM.CY hf
 rw[hl]at f2 f3 f4
 have hS:TM.Size (2^log):=by rcases kY with rfl|rfl;exact .inl rfl;exact .inr rfl
 have hsy:=TM.syms z (2^log) n hS f1 f4
 have hfr:=TM.og z (2^log) f1 (by rcases kY with rfl|rfl<;>decide) n (by rw[f4];exact Int.le_refl _)
 have hfb:=TM.vg z (2^log) n (by rcases kY with rfl|rfl<;>decide) f1 f4
 have hA:Below w.heap.size w (w.alloc (.cells (dO (2^log) fun _=>0).toArray 226)):=(Below.refl _ _).alloc (Nat.le_refl _) _
 have hB:=aB.new w 226 (dO (2^log) fun _=>0)
 have C1:=aA fun w' hb hg=>Z7 a n cap z (2^log) w w' hI ⟨f2,f3⟩ hS f1 f4 hb hg
 have C2:=aA fun w' hb hg=>Z8 a n cap z (2^log) (TM.tb z (2^log) n).2 (TM.tb z (2^log) n).1 w w' hI ⟨f2,f3⟩ hS f1 hfr.2 hfb hb hg
 have C3:=aA fun w' hb hg=>aag a n cap z log (TM.F z (2^log) n) w w' hI ⟨f2,f3⟩ kY f1 hsy hb hg
 have C4:=aA fun u=>aam u (2^log) hS
 have C5:=aA (show table log z=TM.tab (2^log) (TM.st z log (2^log:Nat) (TM.F z (2^log) n)) by unfold table;rw[hl])
 rw[<- C5.out]at C3
 have HA:=aA hA
 have HB:=aA hB
 have HF:=aA hf
 clear f1 f4 hsy hfr hfb hA hB hf C5 hS
 rcases kY with rfl|rfl
 ·have IJ:TM.dZ z 32=true:=HF.out
  have D4:(Instr.makeSlice 117 (.int .i64 32) (.int .i64 32)).run prog w=.ok (.slice (some ⟨w.heap.size,0,none⟩) 32 32) (w.alloc (.cells (dO 32 fun _=>0).toArray 226)):=C4.out w
  clear C4 HF
  have e5:((5:Nat):Int)=5:=rfl
  have e32:2^5=32:=rfl
  simp only[e5,e32]at *
  clear e5 e32
  go_enter func172,ntmps172
  go_wp2_with fail
  go_at_call 177
  refine(Ed _ _ _ z _ _ hI (by omega)).mono ?_
  rintro e w' ⟨rfl,rfl⟩
  rw[IJ]
  go_wp2_with fail
  go_at_call 178
  refine(C1.out _ HA.out HB.out).mono ?_
  rintro e w1 ⟨rfl,hg1,hb1⟩
  go_wp2_with fail
  go_at_call 179
  refine(C2.out _ hb1 hg1).mono ?_
  rintro e w2 ⟨rfl,hg2,hb2⟩
  go_wp2_with fail
  go_at_call 180
  refine(C3.out _ hb2 hg2).mono ?_
  rintro e w3 ⟨rfl,hg3,hb3⟩
  go_wp2
  go_ret2
  exact⟨rfl,hg3,hb3⟩
 ·have IJ:TM.dZ z 64=true:=HF.out
  have D4:(Instr.makeSlice 117 (.int .i64 64) (.int .i64 64)).run prog w=.ok (.slice (some ⟨w.heap.size,0,none⟩) 64 64) (w.alloc (.cells (dO 64 fun _=>0).toArray 226)):=C4.out w
  clear C4 HF
  have e5:((6:Nat):Int)=6:=rfl
  have e32:2^6=64:=rfl
  simp only[e5,e32]at *
  clear e5 e32
  go_enter func172,ntmps172
  go_wp2_with fail
  go_at_call 177
  refine(Ed _ _ _ z _ _ hI (by omega)).mono ?_
  rintro e w' ⟨rfl,rfl⟩
  rw[IJ]
  go_wp2_with fail
  go_at_call 178
  refine(C1.out _ HA.out HB.out).mono ?_
  rintro e w1 ⟨rfl,hg1,hb1⟩
  go_wp2_with fail
  go_at_call 179
  refine(C2.out _ hb1 hg1).mono ?_
  rintro e w2 ⟨rfl,hg2,hb2⟩
  go_wp2_with fail
  go_at_call 180
  refine(C3.out _ hb2 hg2).mono ?_
  rintro e w3 ⟨rfl,hg3,hb3⟩
  go_wp2
  go_ret2
  exact⟨rfl,hg3,hb3⟩
end Go.Proofs.YtbhemchnjpajiaaGreatDoor
namespace Go.Proofs.YtbhemchnjpajiaaGreatDoor
open Go.RowKit Go.Proofs.Tryz
open Go.Maps (Keyed fit_look fit_store)
open Go.WideElems (Fit)
theorem aap:laidOutB prog=true:=by kernel_rfl
theorem mrow:(294:TypeId)<prog.types.size:=of_decide_eq_true (by kernel_rfl)
theorem aaq:(match prog.underlying 294 with|some (.array _ _)|some (.struct _)=>true|_=>false)=true:=by kernel_rfl
theorem aar:prog.keyTypeAt 3 294=true:=by kernel_rfl
theorem Pj:Keyed prog 294:=Keyed.of_law (deep_law_laid aap (m:=3) (by omega) mrow aar aaq)
def jm(lg:Int)(z:List Int):Value:=.agg (.int .i64 lg::intCells z).toArray
theorem aas{lg vW:Int}{z z':List Int}(h:jm lg z=jm vW z'):lg=vW/\z=z':=by
 unfold jm at h
 injection h with h
 have h:=congrArg Array.toList h
 simp only[]at h
 injection h with h1 h2
 injection h1 with _ h1
 refine⟨h1,?_⟩
 unfold intCells at h2
 exact List.map_inj_right (fun a b e=>by injection e) |>.1 h2
theorem mapM_some{α β:Type}(f:α->Option β):∀(l:List α),(∀a∈l,∃b,f a=some b)->∃bs,l.mapM f=some bs
 | [],_=>⟨[],rfl⟩
 | a::l,h=>by
  obtain⟨b,hb⟩:=h a (by simp)
  obtain⟨bs,hbs⟩:=mapM_some f l (fun x hx=>h x (by simp[hx]))
  exact⟨b::bs,by simp[List.mapM_cons,hb,hbs]⟩
def Wf(n:Int):Prop:=-9223372036854775808<=n/\n<=9223372036854775807
theorem aat{n:Int}(h:Wf n):(Lit.int .i64 n).wf=true:=by
 obtain⟨h1,h2⟩:=h
 show(decide (_<=n)&&decide (n<=_))=true
 rw[Bool.and_eq_true,decide_eq_true_eq,decide_eq_true_eq]
 exact⟨h1,h2⟩
theorem aau:prog.types.size=prog.types.size-3+3:=by
 have h:3<=prog.types.size:=of_decide_eq_true (by kernel_rfl)
 omega
theorem Pm:prog.cellsOf 294=17:=by kernel_rfl
theorem Pn:prog.cellsOf 292=16:=by kernel_rfl
theorem Po:prog.cellsOf 3=1:=by kernel_rfl
theorem aav:prog.keyType 294=true:=by kernel_rfl
theorem Pq(d:Nat){n:Int}(h:Wf n):prog.keyLits (d+1) 3 [.int .i64 n]=some [.int .i64 n]:=by
 unfold Program.keyLits
 rw[underlying3]
 simp only[]
 rw[if_pos ⟨trivial,aat h⟩]
theorem aaw(d:Nat){z:List Int}(hz:z.length=16)(h:∀x∈z,Wf x):∃ls,prog.keyLits (d+2) 292 (intCells z)=some ls:=by
 unfold Program.keyLits
 rw[show prog.underlying 292=some (.array 16 3)from underlying292]
 simp only[]
 rw[if_pos (by rw[Pn];simp[intCells,hz])]
 obtain⟨bs,hbs⟩:=mapM_some (fun i=>prog.keyLits (d+1) 3 (((intCells z).drop (i*prog.cellsOf 3)).take (prog.cellsOf 3))) (List.range 16) (fun i hi=>by
  have hi:i<16:=List.mem_range.1 hi
  have hl:i<z.length:=by omega
  rw[Po,Nat.mul_one]
  have e:((intCells z).drop i).take 1=[.int .i64 z[i]]:=by
   unfold intCells
   rw[List.drop_eq_getElem_cons (by simpa using hl)]
   simp
  rw[e]
  exact⟨_,Pq d (h _ (List.getElem_mem hl))⟩)
 rw[hbs]
 exact⟨_,rfl⟩
theorem Pv{lg:Int}{z:List Int}(hz:z.length=16)(h0:Wf lg)(h:∀x∈z,Wf x):∃kl,keyOf prog 294 (jm lg z)=some kl:=by
 unfold keyOf
 rw[underlying294]
 simp only[]
 have hf:(jm lg z).formed prog 294=true:=by
  unfold jm Value.formed
  rw[underlying294]
  simp[Pm,intCells,hz]
 rw[if_pos (by rw[aav,hf];rfl)]
 have hcs:(jm lg z).cells.toList=.int .i64 lg::intCells z:=by simp[jm,Value.cells]
 rw[hcs,aau]
 unfold Program.keyLits
 rw[underlying294]
 simp only[]
 rw[if_pos ⟨by rw[Pm];simp[intCells,hz],by kernel_rfl⟩]
 obtain⟨ls,hls⟩:=aaw (prog.types.size-3+1) hz h
 have e0:((Value.int .i64 lg::intCells z).drop 0).take (prog.cellsOf 3)=[.int .i64 lg]:=by rw[Po];rfl
 have e1:((Value.int .i64 lg::intCells z).drop 1).take (prog.cellsOf 292)=intCells z:=by
  rw[Pn]
  simp only[List.drop_succ_cons,List.drop_zero]
  exact List.take_of_length_le (by simp[intCells,hz])
 simp only[List.mapM_cons,List.mapM_nil]
 rw[e0,e1,Pq (prog.types.size-3+2) h0,hls]
 exact⟨_,rfl⟩
end Go.Proofs.YtbhemchnjpajiaaGreatDoor
