/- Several texts in one: RefPkM, RefPk. -/
import Derived.Test.YtbhemchnjpajiaaGreatDoorJC
import Derived.Test.YtbhemchnjpajiaaGreatDoorMI
import Derived.Test.YtbhemchnjpajiaaGreatDoorMA
set_option linter.unusedVariables false
set_option maxRecDepth 100000
set_option maxHeartbeats 4000000
namespace Go.Proofs.YtbhemchnjpajiaaGreatDoor.RD
open Go
def kJ(md:Nat)(s:aj)(f:Fr)(i:Nat):Nat->Option (Fr×Nat)
 | 0=>some (f,i)
 | k+1 =>
  match kJ md s f i k with
  | none=>none
  | some (f',j) =>
   match aZ k (md/2^(2*k)%4) (f'.tab k) (s.drop j)with
   | none=>none
   | some (t,m)=>some (f'.put k t,j+m)
theorem Fb{md:Nat}{s:aj}{f:Fr}{i k:Nat}(h:kJ md s f i k=none):∀n,kJ md s f i (k+n)=none
 | 0=>h
 | n+1=>by
  show kJ md s f i (k+n+1)=none
  rw[kJ,Fb h n]
def uN(lits s:aj)(n:Nat):Option (Fr×Nat)->Option (aj×Fr)
 | none=>none
 | some (f3,j) =>
  match content f3 lits (s.drop j) n with
  | none=>none
  | some (out,last)=>some (out,{ f3 with last:=last })
def wO(f:Fr)(s lits:aj)(i:Nat):Option (aj×Fr) :=
 if s.length<=i then none
 else if ak s i=0 then(if i+1=s.length then some (lits,f)else none)
 else if s.length<=i+1\/64<=ak s (i+1)then none
 else
  uN lits s (ak s i) (kJ (ak s (i+1)) s f (i+2) 3)
theorem Si{f:Fr}{s lits:aj}{i:Nat}{cs:List CM.aG}(h:literals f.codes s=some (lits,i,cs)):packed f s=wO { f with codes:=cs } s lits i:=by
 unfold packed wO
 rw[h]
 simp only[]
 by_cases h1:s.length<=i
 ·rw[if_pos h1,if_pos h1]
 rw[if_neg h1,if_neg h1]
 by_cases h2:ak s i=0
 ·rw[if_pos h2,if_pos h2]
 rw[if_neg h2,if_neg h2]
 by_cases h3:s.length<=i+1\/64<=ak s (i+1)
 ·rw[if_pos h3,if_pos h3]
 rw[if_neg h3,if_neg h3]
 simp only[uN,kJ,Fr.tab,Fr.put,Nat.mul_zero,Nat.pow_zero,Nat.div_one,Nat.mul_one,show 2^(2*2)=16 from rfl,show 2^2=4 from rfl]
 cases e0:aZ 0 (ak s (i+1)%4) f.t0 (s.drop (i+2))with
 | none=>rfl
 | some r0 =>
  obtain⟨t0,k0⟩:=r0
  simp only[]
  cases e1:aZ 1 (ak s (i+1)/4%4) f.t1 (s.drop (i+2+k0))with
  | none=>rfl
  | some r1 =>
   obtain⟨t1,k1⟩:=r1
   simp only[]
   cases e2:aZ 2 (ak s (i+1)/16%4) f.t2 (s.drop (i+2+k0+k1))with
   | none=>rfl
   | some r2=>rfl
theorem Fe{k mode:Nat}{old t:Tab}{s:aj}{n:Nat}(h:aZ k mode old s=some (t,n)):t.there=true/\n<=s.length:=by
 unfold aZ at h
 split at h
 ·cases h
  exact⟨rfl,Nat.zero_le _⟩
 ·split at h
  ·split at h
   ·cases h
   ·cases h
    exact⟨rfl,by omega⟩
  ·split at h
   ·split at h
    ·cases h
    ·simp only[]at h
     split at h
     ·cases h
      exact⟨rfl,by omega⟩
     ·cases h
   ·split at h
    ·rename_i ho
     cases h
     exact⟨ho,Nat.zero_le _⟩
    ·cases h
def Same(f f':Fr):Prop:=f'.window=f.window/\f'.size=f.size/\f'.summed=f.summed/\f'.dict=f.dict/\f'.text=f.text/\f'.blocks=f.blocks
theorem Same.refl(f:Fr):Same f f:=⟨rfl,rfl,rfl,rfl,rfl,rfl⟩
theorem Same.put{f f':Fr}(h:Same f f')(k:Nat)(t:Tab):Same f (f'.put k t):=by
 unfold Fr.put
 split<;>exact h
theorem afx(f:Fr)(k:Nat)(t:Tab):(f.put k t).last=f.last:=by
 unfold Fr.put
 split<;>rfl
theorem afy(f:Fr)(k:Nat)(t:Tab)(hk:k<3):(f.put k t).tab k=t:=by
 rcases(by omega:k=0\/k=1\/k=2)with rfl|rfl|rfl<;>rfl
theorem aI(f:Fr)(k j:Nat)(t:Tab)(hk:k<3)(hj:j<3)(h:j≠k):(f.put k t).tab j=f.tab j:=by
 rcases(by omega:k=0\/k=1\/k=2)with rfl|rfl|rfl<;>rcases(by omega:j=0\/j=1\/j=2)with rfl|rfl|rfl<;>first|rfl|exact absurd rfl h
theorem JZ{md:Nat}{s:aj}{f:Fr}{i:Nat}(hi:i<=s.length):∀(k:Nat),k<=3->∀{f':Fr}{j:Nat},kJ md s f i k=some (f',j)->Same f f'/\f'.last=f.last/\j<=s.length/\∀m,m<k->(f'.tab m).there=true
 | 0,_,f',j,h=>by
  cases h
  exact⟨Same.refl _,rfl,hi,fun m hm=>absurd hm (by omega)⟩
 | k+1,hk,f',j,h=>by
  rw[kJ]at h
  cases e:kJ md s f i k with
  | none=>rw[e]at h;cases h
  | some r =>
   obtain⟨g,q⟩:=r
   rw[e]at h
   simp only[]at h
   obtain⟨h1,h2,h3,h4⟩:=JZ hi k (by omega) e
   cases e2:aZ k (md/2^(2*k)%4) (g.tab k) (s.drop q)with
   | none=>rw[e2]at h;cases h
   | some r2 =>
    obtain⟨t,n⟩:=r2
    rw[e2]at h
    simp only[Option.some.injEq,Prod.mk.injEq]at h
    obtain⟨rfl,rfl⟩:=h
    obtain⟨h5,h6⟩:=Fe e2
    rw[List.length_drop]at h6
    refine⟨h1.put k t,by rw[afx];exact h2,by omega,fun m hm=>?_⟩
    by_cases hmk:m=k
    ·rw[hmk,afy g k t (by omega)]
     exact h5
    ·rw[aI g k m t (by omega) (by omega) hmk]
     exact h4 m (by omega)
theorem Sj{f f':Fr}{s out:aj}(h:packed f s=some (out,f')):Same f f':=by
 cases e:literals f.codes s with
 | none=>unfold packed at h;rw[e]at h;cases h
 | some r =>
  obtain⟨lits,i,cs⟩:=r
  rw[Si e]at h
  unfold wO at h
  by_cases h1:s.length<=i
  ·rw[if_pos h1]at h;cases h
  rw[if_neg h1]at h
  split at h
  ·split at h
   ·cases h;exact Same.refl _
   ·cases h
  ·by_cases h3:s.length<=i+1\/64<=ak s (i+1)
   ·rw[if_pos h3]at h;cases h
   rw[if_neg h3]at h
   cases e1:kJ (ak s (i+1)) s { f with codes:=cs } (i+2) 3 with
   | none=>rw[e1]at h;cases h
   | some r =>
    obtain⟨f3,j⟩:=r
    rw[e1]at h
    simp only[uN]at h
    obtain⟨h5,_⟩:=JZ (by omega) 3 (by omega) e1
    cases e2:content f3 lits (s.drop j) (ak s i)with
    | none=>rw[e2]at h;cases h
    | some r =>
     obtain⟨o,la⟩:=r
     rw[e2]at h
     cases h
     exact h5
end Go.Proofs.YtbhemchnjpajiaaGreatDoor.RD
namespace Go.Proofs.YtbhemchnjpajiaaGreatDoor
open Go.RowKit Go.Proofs.Tryz RD
theorem Stub.same{w:World}{g:Nat}{f f':RD.Fr}(h:Stub w g f')(hs:RD.Same f f'):Stub w g f:=by
 obtain⟨cs,h1,h2,h3,h4,h5⟩:=h
 exact⟨cs,h1,h2,by rw[<- hs.1];exact h3,by rw[<- hs.2.2.2.2.2];exact h4,by rw[<- hs.2.2.2.2.1];exact h5⟩
theorem Sl{l:List Int}{cs:List CM.aG}:∀{m i:Nat}{r:aj×Nat},dR l cs m i=some r->r.1.length=m
 | 0,i,r,h=>by cases h;rfl
 | m+1,i,r,h=>by
  rw[dR]at h
  split at h
  ·cases h
  ·rename_i c hc
   cases e:dR l cs m (i+c.2.1.toNat)with
   | none=>rw[e]at h;cases h
   | some q =>
    rw[e]at h
    cases h
    simp[Sl e]
theorem Sm{s:aj}{cs:List CM.aG}{m i:Nat}{r:aj×Nat}(h:lY s cs m i=some r):r.1.length=m:=by
 unfold lY at h
 split at h
 ·cases h
 ·simp only[]at h
  split at h
  ·cases h
  ·split at h
   ·cases h
   ·rename_i out ho
    cases h
    unfold RD.coded at ho
    split at ho
    ·cases ho
    ·rename_i q k hq
     split at ho
     ·cases ho
      have:=Sl hq
      exact this
     ·cases ho
theorem afz{cs:List CM.aG}{s:aj}{r:aj×Nat×List CM.aG}(h:RD.literals cs s=some r):r.1.length<=1024:=by
 unfold RD.literals at h
 split at h
 ·cases h
 ·simp only[]at h
  split at h
  ·cases h
  ·rename_i hm
   split at h
   ·split at h
    ·cases h
    ·cases h
     simp only[List.length_take]
     omega
   ·split at h
    ·split at h
     ·cases h
     ·cases h
      simp only[List.length_replicate]
      omega
    ·split at h
     ·split at h
      ·cases h
      ·split at h
       ·cases h
       ·split at h
        ·split at h
         ·cases h
         ·rename_i hb
          cases h
          have:=Sm hb
          simp only[]at this⊢
          omega
        ·cases h
     ·split at h
      ·cases h
      ·rename_i hb
       cases h
       have:=Sm hb
       simp only[]at this⊢
       omega
def afA(g:Nat)(f:RD.Fr)(s:aj)(w:World)(e:Ending)(w':World):Prop :=
 Only (·=g) w w'/\((RD.packed f s=none/\(∃x:ByteArray,x.size<=4194304/\e=.returned (.tuple #[.string x,.bool false]))/\Stub w' g f) \/
  ∃out f',RD.packed f s=some (out,f')/\e=.returned (.tuple #[.string (ah out),.bool true])/\aJ w' g f'/\dG f'.last/\out.length<=4194304)
theorem afB(RC:lU)(RS:je)(g:Nat)(f:RD.Fr)(s:aj)(w:World)(hF:aJ w g f)(hla:dG f.last)(hs:s.length<=1024) :
  Calls prog 89 #[.pointer (some ⟨g,0,none⟩),.string (ah s)] w (afA g f s w):=by
 have hz:=aQ s
 go_enter func89,ntmps89
 go_wp2_with fail
 refine(aef RC g f s w hF (by omega)).mono ?_
 rintro e w1 ⟨ho1,⟨hl,⟨x,y,rfl⟩,cs,hF1⟩|⟨lits,i,cs,hl,rfl,hF1⟩⟩
 ·replace hl:=aA hl
  replace hF1:=aA hF1
  go_wp2_with fail
  go_ret2
  exact⟨ho1,.inl ⟨by unfold RD.packed;rw[hl.out],⟨⟨#[]⟩,by decide,rfl⟩,hF1.out.stub⟩⟩
 ·have hpk:=Si hl
  have hlb:=afz hl
  simp only[]at hlb
  have hzl:=aQ lits
  obtain⟨f1,hf1⟩:∃f1:RD.Fr,f1={ f with codes:=cs }:=⟨_,rfl⟩
  rw[<- hf1]at hpk hF1
  have hsm:Hid (RD.Same f f1):=by rw[hf1];exact⟨rfl,rfl,rfl,rfl,rfl,rfl⟩
  have Sr:Hid (dG f1.last):=by rw[hf1];exact hla
  replace hf1:=aA hf1
  replace hl:=aA hl
  replace hpk:=aA hpk
  replace hF1:=aA hF1
  by_cases h1:s.length<=i
  ·have hnone:Hid (RD.packed f s=none):=by
    unfold Hid
    rw[hpk.out,wO,if_pos h1]
   have h1':(s.length:Int)<=(i:Int):=by omega
   go_wp2_with fail
   go_ret2
   exact⟨ho1,.inl ⟨hnone.out,⟨⟨#[]⟩,by decide,rfl⟩,hF1.out.stub.same hsm.out⟩⟩
  have h1':¬(s.length:Int)<=(i:Int):=by omega
  have hib:i<1024:=by omega
  have hi0:(i:Int)<(s.length:Int):=by omega
  have hg0:=gq s i (by omega)
  have hb0:=dQ s i
  obtain⟨n,hn⟩:∃n,ak s i=n:=⟨_,rfl⟩
  rw[hn]at hg0 hb0
  obtain⟨i1,hi1⟩:∃k:Nat,(i:Int)+1=(k:Int):=⟨i+1,by omega⟩
  have wP:Hid (i1=i+1):=aA (by omega)
  have ajw:i1<=1024:=by omega
  by_cases h2:n=0
  ·subst h2
   by_cases h3:i1=s.length
   ·have hsome:Hid (RD.packed f s=some (lits,f1)):=by
     unfold Hid
     rw[hpk.out,wO,if_neg h1,if_pos hn,if_pos (by have:=wP.out;omega)]
    have h3':((i1:Int)==(s.length:Int))=true:=by rw[h3];simp
    replace hn:=aA hn
    replace h3:=aA h3
    go_wp2_with fail
    go_ret2
    exact⟨ho1,.inr ⟨lits,f1,hsome.out,rfl,hF1.out,Sr.out,by omega⟩⟩
   ·have hnone:Hid (RD.packed f s=none):=by
     unfold Hid
     rw[hpk.out,wO,if_neg h1,if_pos hn,if_neg (by have:=wP.out;omega)]
    have h3':((i1:Int)==(s.length:Int))=false:=by simp;omega
    replace hn:=aA hn
    replace h3:=aA h3
    go_wp2_with fail
    go_ret2
    exact⟨ho1,.inl ⟨hnone.out,⟨ah lits,by omega,rfl⟩,hF1.out.stub.same hsm.out⟩⟩
  have h2':((n:Int)==0)=false:=by simpa using h2
  have hpk2:Hid (RD.packed f s=if s.length<=i+1\/64<=ak s (i+1)then none else uN lits s n (kJ (ak s (i+1)) s f1 (i+2) 3)):=by
   unfold Hid
   rw[hpk.out,wO,if_neg h1,if_neg (by rw[hn];exact h2),hn]
  replace hn:=aA hn
  clear hpk
  by_cases h3:s.length<=i1
  ·have hnone:Hid (RD.packed f s=none):=by
    unfold Hid
    rw[hpk2.out,if_pos (.inl (by have:=wP.out;omega))]
   have h3':(s.length:Int)<=(i1:Int):=by omega
   go_wp2_with fail
   go_ret2
   exact⟨ho1,.inl ⟨hnone.out,⟨⟨#[]⟩,by decide,rfl⟩,hF1.out.stub.same hsm.out⟩⟩
  have h3':¬(s.length:Int)<=(i1:Int):=by omega
  have hi2:(i1:Int)<(s.length:Int):=by omega
  have hg1:=gq s i1 (by omega)
  have hb1:=dQ s i1
  obtain⟨md,hmd⟩:∃n,ak s i1=n:=⟨_,rfl⟩
  rw[hmd]at hg1 hb1
  by_cases h4:64<=md
  ·have hnone:Hid (RD.packed f s=none):=by
    unfold Hid
    rw[hpk2.out,if_pos (.inr (by rw[<- wP.out,hmd];exact h4))]
   replace hmd:=aA hmd
   go_wp2_with fail
   go_ret2
   exact⟨ho1,.inl ⟨hnone.out,⟨⟨#[]⟩,by decide,rfl⟩,hF1.out.stub.same hsm.out⟩⟩
  obtain⟨i2,ajx⟩:∃k:Nat,(i1:Int)+1=(k:Int):=⟨i1+1,by omega⟩
  have afC:Hid (i2=i+2):=aA (by have:=wP.out;omega)
  have afD:i2<=s.length:=by omega
  have Fg:Hid (RD.packed f s=uN lits s n (kJ md s f1 i2 3)):=by
   unfold Hid
   rw[hpk2.out,if_neg (by rw[<- wP.out,hmd];omega),<- wP.out,hmd,afC.out]
  replace hmd:=aA hmd
  clear hpk2
  go_wp2_with fail
  go_loopg[7,11,12,13] 4 (fun gh av kv mv fv wr=>∃(k j:Nat)(f':RD.Fr),gh=4-k/\k<=3/\av=.int .i64 (j:Int)/\kv=.int .i64 (k:Int)/\Hid (kJ md s f1 i2 k=some (f',j))/\aJ wr g f'/\Only (·=g) w wr)
  case atStart=>exact⟨0,i2,f1,by omega,by omega,rfl,rfl,rfl,hF1.out,ho1⟩
  case round =>
   obtain⟨k,j,f',rfl,hk,rfl,rfl,ht,hFr,hor⟩:=hrel
   obtain⟨wQ,J3,hjl,hth⟩:=JZ afD k hk ht.out
   have hjb:j<=1024:=by omega
   have hjs:(j:Int)<=(s.length:Int):=by omega
   have ajy:(ah s).extract j s.length=ah (s.drop j):=mQ _ _
   have Fh:Hid (RD.Same f f'):=by
    obtain⟨a1,a2,a3,a4,a5,a6⟩:=hsm.out
    obtain⟨b1,b2,b3,b4,b5,b6⟩:=wQ
    exact⟨b1.trans a1,b2.trans a2,b3.trans a3,b4.trans a4,b5.trans a5,b6.trans a6⟩
   replace wQ:=aA wQ
   replace J3:=aA J3
   replace hth:=aA hth
   replace hFr:=aA hFr
   replace hor:=aA hor
   by_cases hlt:k<3
   ·have hlt':(k:Int)<3:=by omega
    have hnx:∀mo,md/2^(2*k)%4=mo->Hid (kJ md s f1 i2 (k+1)=match aZ k mo (f'.tab k) (s.drop j)with
     | none=>none
     | some (t,m)=>some (f'.put k t,j+m)):=fun mo hmo=>by
     unfold Hid
     rw[kJ,ht.out]
     simp only[]
     rw[hmo]
     first|done|rfl
    have hlen:(s.drop j).length<=1048576:=by rw[List.length_drop];omega
    rcases(by omega:k=0\/k=1\/k=2)with rfl|rfl|rfl
    ·have hpw:∀W:World,Calls prog 88 #[.int .i64 0] W fun e w'=>e=.returned (.int .i64 1)/\w'=W:=fun W=>pW 0 W (by omega) (by omega)
     obtain⟨mo,hmo⟩:∃m,md/2^(2*0)%4=m:=⟨_,rfl⟩
     have hm4:mo<4:=by omega
     have hq:(IntKind.i64.wrap (md:Int)).tmod 4=(mo:Int):=by
      have e:IntKind.i64.wrap (md:Int)=(md:Int):=by rw[IntKind.wrap_i64];omega
      have hm':md/1%4=mo:=hmo
      rw[e,Int.tmod_eq_emod_of_nonneg (by omega)]
      omega
     have hnx:=hnx mo hmo
     have htb:=fun W hW=>table_any RS g f' 0 mo (s.drop j) W hW hlen (by omega) hm4
     replace hmo:=aA hmo
     cases htt:aZ 0 mo (f'.tab 0) (s.drop j)with
     | none =>
      rw[htt]at hnx
      have hnone:Hid (RD.packed f s=none):=by
       unfold Hid
       have:=Fb hnx.out 2
       rw[Fg.out,show(3:Nat)=0+1+2 from rfl,this]
       rfl
      have htb:∀W,aJ W g f'->Calls prog 101 #[.pointer (some ⟨g,0,none⟩),.int .i64 0,.int .i64 (mo:Nat),.string (ah (s.drop j))] W fun e w'=>Only (·=g) W w'/\(∃x,e=.returned (.tuple #[x,.bool false]))/\Stub w' g f':=fun W hW=>by
       refine(htb W hW).mono ?_
       rintro e w' ⟨h1,⟨_,h2,h3⟩|⟨t,n,h2,_⟩⟩
       ·exact⟨h1,h2,h3⟩
       ·rw[htt]at h2;cases h2
      replace htt:=aA htt
      go_wp2_with fail
      go_region_held3(fun w'=>True) (trivial) (first
       | (go_at_call 88;refine(hpw _).mono ?_;rintro e w' ⟨rfl,rfl⟩)
       | (go_at_call 101;refine(htb _ ?_).mono ?_;exact hFr.out.below ⟨rfl,rfl,rfl,Nat.le_refl _,fun _ _=>rfl⟩;rintro e w2 ⟨ho2,⟨x,rfl⟩,hst2⟩))
      go_wp2_with fail
      go_ret2
      exact⟨hor.out.trans (((Only.refl (·=g) wr).drew).trans ho2),.inl ⟨hnone.out,⟨⟨#[]⟩,by decide,rfl⟩,hst2.same Fh.out⟩⟩
     | some r =>
      obtain⟨t,m⟩:=r
      rw[htt]at hnx
      simp only[]at hnx
      have hml:=(Fe htt).2
      rw[List.length_drop]at hml
      have hmb:m<=1024:=by omega
      have htb:∀W,aJ W g f'->Calls prog 101 #[.pointer (some ⟨g,0,none⟩),.int .i64 0,.int .i64 (mo:Nat),.string (ah (s.drop j))] W fun e w'=>Only (·=g) W w'/\e=.returned (.tuple #[.int .i64 (m:Nat),.bool true])/\aJ w' g (f'.put 0 t):=fun W hW=>by
       refine(htb W hW).mono ?_
       rintro e w' ⟨h1,⟨h2,_⟩|⟨t,n,h2,h3,h4⟩⟩
       ·rw[htt]at h2;cases h2
       ·rw[htt]at h2
        cases h2
        exact⟨h1,h3,h4⟩
      replace htt:=aA htt
      replace hml:=aA hml
      go_wp2_with fail
      go_region_held3(fun w'=>True) (trivial) (first
       | (go_at_call 88;refine(hpw _).mono ?_;rintro e w' ⟨rfl,rfl⟩)
       | (go_at_call 101;refine(htb _ ?_).mono ?_;exact hFr.out.below ⟨rfl,rfl,rfl,Nat.le_refl _,fun _ _=>rfl⟩;rintro e w2 ⟨ho2,rfl,hF2⟩))
      replace hF2:=aA hF2
      go_wp2_with fail
      go_roundg(4-1)
      case rel=>exact⟨1,j+m,f'.put 0 t,by omega,by omega,by go_num,by go_num,hnx,hF2.out,hor.out.trans (((Only.refl (·=g) wr).drew).trans ho2)⟩
      case measure=>omega
    ·have hpw:∀W:World,Calls prog 88 #[.int .i64 2] W fun e w'=>e=.returned (.int .i64 4)/\w'=W:=fun W=>pW 2 W (by omega) (by omega)
     obtain⟨mo,hmo⟩:∃m,md/2^(2*1)%4=m:=⟨_,rfl⟩
     have hm4:mo<4:=by omega
     have hq:(IntKind.i64.wrap ((md:Int)/4)).tmod 4=(mo:Int):=by
      have e:IntKind.i64.wrap ((md:Int)/4)=((md:Int)/4):=by rw[IntKind.wrap_i64];omega
      have hm':md/4%4=mo:=hmo
      rw[e,Int.tmod_eq_emod_of_nonneg (by omega)]
      omega
     have hnx:=hnx mo hmo
     have htb:=fun W hW=>table_any RS g f' 1 mo (s.drop j) W hW hlen (by omega) hm4
     replace hmo:=aA hmo
     cases htt:aZ 1 mo (f'.tab 1) (s.drop j)with
     | none =>
      rw[htt]at hnx
      have hnone:Hid (RD.packed f s=none):=by
       unfold Hid
       have:=Fb hnx.out 1
       rw[Fg.out,show(3:Nat)=1+1+1 from rfl,this]
       rfl
      have htb:∀W,aJ W g f'->Calls prog 101 #[.pointer (some ⟨g,0,none⟩),.int .i64 1,.int .i64 (mo:Nat),.string (ah (s.drop j))] W fun e w'=>Only (·=g) W w'/\(∃x,e=.returned (.tuple #[x,.bool false]))/\Stub w' g f':=fun W hW=>by
       refine(htb W hW).mono ?_
       rintro e w' ⟨h1,⟨_,h2,h3⟩|⟨t,n,h2,_⟩⟩
       ·exact⟨h1,h2,h3⟩
       ·rw[htt]at h2;cases h2
      replace htt:=aA htt
      go_wp2_with fail
      go_region_held3(fun w'=>True) (trivial) (first
       | (go_at_call 88;refine(hpw _).mono ?_;rintro e w' ⟨rfl,rfl⟩)
       | (go_at_call 101;refine(htb _ ?_).mono ?_;exact hFr.out.below ⟨rfl,rfl,rfl,Nat.le_refl _,fun _ _=>rfl⟩;rintro e w2 ⟨ho2,⟨x,rfl⟩,hst2⟩))
      go_wp2_with fail
      go_ret2
      exact⟨hor.out.trans (((Only.refl (·=g) wr).drew).trans ho2),.inl ⟨hnone.out,⟨⟨#[]⟩,by decide,rfl⟩,hst2.same Fh.out⟩⟩
     | some r =>
      obtain⟨t,m⟩:=r
      rw[htt]at hnx
      simp only[]at hnx
      have hml:=(Fe htt).2
      rw[List.length_drop]at hml
      have hmb:m<=1024:=by omega
      have htb:∀W,aJ W g f'->Calls prog 101 #[.pointer (some ⟨g,0,none⟩),.int .i64 1,.int .i64 (mo:Nat),.string (ah (s.drop j))] W fun e w'=>Only (·=g) W w'/\e=.returned (.tuple #[.int .i64 (m:Nat),.bool true])/\aJ w' g (f'.put 1 t):=fun W hW=>by
       refine(htb W hW).mono ?_
       rintro e w' ⟨h1,⟨h2,_⟩|⟨t,n,h2,h3,h4⟩⟩
       ·rw[htt]at h2;cases h2
       ·rw[htt]at h2
        cases h2
        exact⟨h1,h3,h4⟩
      replace htt:=aA htt
      replace hml:=aA hml
      go_wp2_with fail
      go_region_held3(fun w'=>True) (trivial) (first
       | (go_at_call 88;refine(hpw _).mono ?_;rintro e w' ⟨rfl,rfl⟩)
       | (go_at_call 101;refine(htb _ ?_).mono ?_;exact hFr.out.below ⟨rfl,rfl,rfl,Nat.le_refl _,fun _ _=>rfl⟩;rintro e w2 ⟨ho2,rfl,hF2⟩))
      replace hF2:=aA hF2
      go_wp2_with fail
      go_roundg(4-2)
      case rel=>exact⟨2,j+m,f'.put 1 t,by omega,by omega,by go_num,by go_num,hnx,hF2.out,hor.out.trans (((Only.refl (·=g) wr).drew).trans ho2)⟩
      case measure=>omega
    ·have hpw:∀W:World,Calls prog 88 #[.int .i64 4] W fun e w'=>e=.returned (.int .i64 16)/\w'=W:=fun W=>pW 4 W (by omega) (by omega)
     obtain⟨mo,hmo⟩:∃m,md/2^(2*2)%4=m:=⟨_,rfl⟩
     have hm4:mo<4:=by omega
     have hq:(IntKind.i64.wrap ((md:Int)/16)).tmod 4=(mo:Int):=by
      have e:IntKind.i64.wrap ((md:Int)/16)=((md:Int)/16):=by rw[IntKind.wrap_i64];omega
      have hm':md/16%4=mo:=hmo
      rw[e,Int.tmod_eq_emod_of_nonneg (by omega)]
      omega
     have hnx:=hnx mo hmo
     have htb:=fun W hW=>table_any RS g f' 2 mo (s.drop j) W hW hlen (by omega) hm4
     replace hmo:=aA hmo
     cases htt:aZ 2 mo (f'.tab 2) (s.drop j)with
     | none =>
      rw[htt]at hnx
      have hnone:Hid (RD.packed f s=none):=by
       unfold Hid
       have:=Fb hnx.out 0
       rw[Fg.out,show(3:Nat)=2+1+0 from rfl,this]
       rfl
      have htb:∀W,aJ W g f'->Calls prog 101 #[.pointer (some ⟨g,0,none⟩),.int .i64 2,.int .i64 (mo:Nat),.string (ah (s.drop j))] W fun e w'=>Only (·=g) W w'/\(∃x,e=.returned (.tuple #[x,.bool false]))/\Stub w' g f':=fun W hW=>by
       refine(htb W hW).mono ?_
       rintro e w' ⟨h1,⟨_,h2,h3⟩|⟨t,n,h2,_⟩⟩
       ·exact⟨h1,h2,h3⟩
       ·rw[htt]at h2;cases h2
      replace htt:=aA htt
      go_wp2_with fail
      go_region_held3(fun w'=>True) (trivial) (first
       | (go_at_call 88;refine(hpw _).mono ?_;rintro e w' ⟨rfl,rfl⟩)
       | (go_at_call 101;refine(htb _ ?_).mono ?_;exact hFr.out.below ⟨rfl,rfl,rfl,Nat.le_refl _,fun _ _=>rfl⟩;rintro e w2 ⟨ho2,⟨x,rfl⟩,hst2⟩))
      go_wp2_with fail
      go_ret2
      exact⟨hor.out.trans (((Only.refl (·=g) wr).drew).trans ho2),.inl ⟨hnone.out,⟨⟨#[]⟩,by decide,rfl⟩,hst2.same Fh.out⟩⟩
     | some r =>
      obtain⟨t,m⟩:=r
      rw[htt]at hnx
      simp only[]at hnx
      have hml:=(Fe htt).2
      rw[List.length_drop]at hml
      have hmb:m<=1024:=by omega
      have htb:∀W,aJ W g f'->Calls prog 101 #[.pointer (some ⟨g,0,none⟩),.int .i64 2,.int .i64 (mo:Nat),.string (ah (s.drop j))] W fun e w'=>Only (·=g) W w'/\e=.returned (.tuple #[.int .i64 (m:Nat),.bool true])/\aJ w' g (f'.put 2 t):=fun W hW=>by
       refine(htb W hW).mono ?_
       rintro e w' ⟨h1,⟨h2,_⟩|⟨t,n,h2,h3,h4⟩⟩
       ·rw[htt]at h2;cases h2
       ·rw[htt]at h2
        cases h2
        exact⟨h1,h3,h4⟩
      replace htt:=aA htt
      replace hml:=aA hml
      go_wp2_with fail
      go_region_held3(fun w'=>True) (trivial) (first
       | (go_at_call 88;refine(hpw _).mono ?_;rintro e w' ⟨rfl,rfl⟩)
       | (go_at_call 101;refine(htb _ ?_).mono ?_;exact hFr.out.below ⟨rfl,rfl,rfl,Nat.le_refl _,fun _ _=>rfl⟩;rintro e w2 ⟨ho2,rfl,hF2⟩))
      replace hF2:=aA hF2
      go_wp2_with fail
      go_roundg(4-3)
      case rel=>exact⟨3,j+m,f'.put 2 t,by omega,by omega,by go_num,by go_num,hnx,hF2.out,hor.out.trans (((Only.refl (·=g) wr).drew).trans ho2)⟩
      case measure=>omega
   ·have hk3:k=3:=by omega
    subst hk3
    have ht0:=hth.out 0 (by omega)
    have ht1:=hth.out 1 (by omega)
    have ht2:=hth.out 2 (by omega)
    have J4:dG f'.last:=by rw[J3.out];exact Sr.out
    have hct:=aeO g f' lits (s.drop j) n wr hFr.out J4 ht0 ht1 ht2 (by rw[List.length_drop];omega) (by omega) (by omega)
    have hfin:Hid (RD.packed f s=uN lits s n (some (f',j))):=by
     unfold Hid
     rw[Fg.out,ht.out]
    replace J4:=aA J4
    replace ht0:=aA ht0
    replace ht1:=aA ht1
    replace ht2:=aA ht2
    go_wp2_with fail
    refine hct.mono ?_
    rintro e w2 ⟨ho2,⟨hc,⟨x,hx,rfl⟩,hst2⟩|⟨out,last,hc,rfl,hF2,hl2,hol⟩⟩
    ·replace hc:=aA hc
     go_wp2_with fail
     go_ret2
     exact⟨hor.out.trans ho2,.inl ⟨by rw[hfin.out,uN,hc.out],⟨x,hx,rfl⟩,hst2.same Fh.out⟩⟩
    ·replace hc:=aA hc
     replace hF2:=aA hF2
     go_wp2_with fail
     go_ret2
     exact⟨hor.out.trans ho2,.inr ⟨out,_,by rw[hfin.out,uN,hc.out],rfl,hF2.out,hl2,hol⟩⟩
end Go.Proofs.YtbhemchnjpajiaaGreatDoor
