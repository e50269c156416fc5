/- Several texts in one: SumMath, BsMath, CodeMath, TabMath, RefMath. -/
import Derived.Laws.BitsAllLaws
import Derived.Laws.BitsLemmas
import Derived.Lib.BitFns
set_option linter.unusedVariables false
namespace Go.Proofs.YtbhemchnjpajiaaGreatDoor.SM
open Go
def rl(x k:Int):Int:=x*2^k.toNat%4294967296+x*2^k.toNat/4294967296
def Turns(k:Int):Prop:=k=1\/k=7\/k=11\/k=12\/k=13\/k=17\/k=18
theorem wraps_u32(n:Int)(h₀:0<=n)(h₁:n<2^32):IntKind.u32.wrap n=n:=by rw[IntKind.wrap_u32];omega
theorem pU(i:Nat)(x y:Int)(hx₀:0<=x)(hx:x%2^i=0)(hx₁:x<2^32)(hy₀:0<=y)(hy:y<2^i)(hy₁:y<2^32):bits .or .u32 x y=x+y :=
 bits_join .u32 32 (by decide) (fun n h0 h1=>wraps_u32 n h0 h1) i x y hx₀ hx hx₁ hy₀ hy hy₁
theorem qK(x k:Int)(hk:Turns k)(h0:0<=x)(h1:x<=4294967295):0<=rl x k/\rl x k<=4294967295:=by
 unfold rl
 rcases hk with rfl|rfl|rfl|rfl|rfl|rfl|rfl<;>simp<;>omega
theorem UF(x k:Int)(hk:Turns k)(h0:0<=x)(h1:x<=4294967295) :
  bits .or .u32 (x*2^k.toNat%4294967296) (x/2^(32-k).toNat)=rl x k:=by
 unfold rl
 rcases hk with rfl|rfl|rfl|rfl|rfl|rfl|rfl
 ·rw[pU 1]<;>simp<;>omega
 ·rw[pU 7]<;>simp<;>omega
 ·rw[pU 11]<;>simp<;>omega
 ·rw[pU 12]<;>simp<;>omega
 ·rw[pU 13]<;>simp<;>omega
 ·rw[pU 17]<;>simp<;>omega
 ·rw[pU 18]<;>simp<;>omega
def xr(a b:Int):Int:=((a.toNat ^^^ b.toNat:Nat):Int)
theorem yT(a b:Int)(ha:a<=4294967295)(hb:b<=4294967295):0<=xr a b/\xr a b<=4294967295:=by
 unfold xr
 have h:=Nat.xor_lt_two_pow (x:=a.toNat) (y:=b.toNat) (n:=32) (by omega) (by omega)
 omega
theorem FZ(a b:Int)(ha0:0<=a)(ha:a<=4294967295)(hb0:0<=b)(hb:b<=4294967295):bits .xor .u32 a b=xr a b:=by
 have h:=Nat.xor_lt_two_pow (x:=a.toNat) (y:=b.toNat) (n:=32) (by omega) (by omega)
 obtain⟨m,rfl⟩:=Int.eq_ofNat_of_zero_le ha0
 obtain⟨n,rfl⟩:=Int.eq_ofNat_of_zero_le hb0
 simp only[Int.toNat_natCast]at h
 show IntKind.u32.wrap ((BitVec.ofInt 32 (m:Int) ^^^ BitVec.ofInt 32 (n:Int)).toNat:Int)=_
 rw[BitVec.ofInt_natCast,BitVec.ofInt_natCast,BitVec.toNat_xor,BitVec.toNat_ofNat,BitVec.toNat_ofNat,Nat.mod_eq_of_lt (by omega),Nat.mod_eq_of_lt (by omega),IntKind.wrap_u32]
 simp only[xr,Int.toNat_natCast]
 omega
theorem F5(a b:Int)(ha0:0<=a)(ha:a<=4294967295)(hb0:0<=b)(hb:b<=4294967295):bits .xor .i64 a b=xr a b:=by
 have h:=Nat.xor_lt_two_pow (x:=a.toNat) (y:=b.toNat) (n:=32) (by omega) (by omega)
 obtain⟨m,rfl⟩:=Int.eq_ofNat_of_zero_le ha0
 obtain⟨n,rfl⟩:=Int.eq_ofNat_of_zero_le hb0
 simp only[Int.toNat_natCast]at h
 show IntKind.i64.wrap ((BitVec.ofInt 64 (m:Int) ^^^ BitVec.ofInt 64 (n:Int)).toNat:Int)=_
 rw[BitVec.ofInt_natCast,BitVec.ofInt_natCast,BitVec.toNat_xor,BitVec.toNat_ofNat,BitVec.toNat_ofNat,Nat.mod_eq_of_lt (by omega),Nat.mod_eq_of_lt (by omega),IntKind.wrap_i64]
 simp only[xr,Int.toNat_natCast]
 omega
def tm(a b:Int):Int:=a*b%4294967296
theorem jX(a b:Int):0<=tm a b/\tm a b<=4294967295:=by unfold tm;omega
theorem F6(a b A B:Int)(h0:0<=a)(h1:a<=A)(h2:0<=b)(h3:b<=B):0<=a*b/\a*b<=A*B :=
 ⟨Int.mul_nonneg h0 h2,Int.mul_le_mul h1 h3 h2 (by omega)⟩
theorem UG(a b:Int):(a*(b/65536)%65536*65536+a*(b%65536))%4294967296=tm a b:=by
 unfold tm
 have e:a*b=a*(b/65536)*65536+a*(b%65536):=by
  have:b=b/65536*65536+b%65536:=by omega
  rw[Int.mul_assoc,<- Int.mul_add,<- this]
 rw[e]
 generalize a*(b/65536)=u
 generalize a*(b%65536)=v
 omega
def dV:List UInt8->Int
 | a::b::c::d::_=>a.toNat+256*b.toNat+65536*c.toNat+16777216*d.toNat
 | _=>0
theorem uY(l:List UInt8):0<=dV l/\dV l<=4294967295:=by
 unfold dV
 split
 ·rename_i a b c d _
  have:=a.toNat_lt;have:=b.toNat_lt;have:=c.toNat_lt;have:=d.toNat_lt
  omega
 ·omega
def yU(f:Nat->Int):Nat->Int
 | 0=>0
 | j+1=>256*yU f j+f (3-j)
def byteAt(s:ByteArray)(n:Nat):Int:=((s.data.toList.getD n 0).toNat:Int)
theorem mV(s:ByteArray)(n:Nat):0<=byteAt s n/\byteAt s n<=255:=by
 have:=(s.data.toList.getD n 0).toNat_lt
 unfold byteAt
 omega
theorem tC(s:ByteArray)(n:Nat)(h:n<s.size):(s[n].toNat:Int)=byteAt s n:=by
 unfold byteAt
 rw[List.getD_eq_getElem?_getD,List.getElem?_eq_getElem (by simpa using h)]
 rfl
def lv(s:ByteArray)(n j:Nat):Int:=yU (fun t=>byteAt s (n+t)) j
theorem UH(s:ByteArray)(n j:Nat)(hj:j<=3):0<=lv s n j/\lv s n j<=16777215:=by
 have f0:=mV s n
 have f1:=mV s (n+1)
 have f2:=mV s (n+2)
 have f3:=mV s (n+3)
 unfold lv
 rcases(by omega:j=0\/j=1\/j=2\/j=3)with rfl|rfl|rfl|rfl<;>simp[yU]<;>omega
theorem UJ(l:List UInt8)(n:Nat)(h:n+4<=l.length):l.drop n=l.getD n 0::l.getD (n+1) 0::l.getD (n+2) 0::l.getD (n+3) 0::l.drop (n+4):=by
 rw[List.drop_eq_getElem_cons (by omega),List.drop_eq_getElem_cons (i:=n+1) (by omega),List.drop_eq_getElem_cons (i:=n+1+1) (by omega),List.drop_eq_getElem_cons (i:=n+1+1+1) (by omega)]
 simp[show n<l.length by omega,show n+1<l.length by omega,show n+2<l.length by omega,show n+3<l.length by omega]
theorem KW(s:ByteArray)(n:Nat)(h:n+4<=s.size):dV (s.data.toList.drop n)=byteAt s n+256*byteAt s (n+1)+65536*byteAt s (n+2)+16777216*byteAt s (n+3):=by
 rw[UJ _ _ (by simpa using h)]
 simp[dV,byteAt]
theorem UK(s:ByteArray)(n:Nat)(h:n+4<=s.size):lv s n 4=dV (s.data.toList.drop n):=by
 rw[KW s n h]
 simp[lv,yU]
 omega
theorem UL(a b c d:Int)(ha:0<=a/\a<=255)(hb:0<=b/\b<=255)(hc:0<=c/\c<=255)(hd:0<=d/\d<=255) :
  bits .or .u32 (bits .or .u32 (bits .or .u32 a (b*256)) (c*65536)) (d*16777216)=a+256*b+65536*c+16777216*d:=by
 have comm:∀x y:Int,bits .or .u32 x y=bits .or .u32 y x:=fun x y=>by unfold bits;simp only[BitVec.or_comm]
 rw[comm a,pU 8 (b*256) a (by omega) (by simp) (by omega) (by omega) (by omega) (by omega)]
 rw[comm _ (c*65536),pU 16 (c*65536) _ (by omega) (by simp) (by omega) (by omega) (by omega) (by omega)]
 rw[comm _ (d*16777216),pU 24 (d*16777216) _ (by omega) (by simp) (by omega) (by omega) (by omega) (by omega)]
 omega
theorem UM(s:ByteArray)(h:4<=s.size) :
  bits .or .u32 (bits .or .u32 (bits .or .u32 (((s[0]'(by omega)).toNat:Int)%4294967296) (((s[1]'(by omega)).toNat:Int)%4294967296*256%4294967296))
   (((s[2]'(by omega)).toNat:Int)%4294967296*65536%4294967296)) (((s[3]'(by omega)).toNat:Int)%4294967296*16777216%4294967296)=dV s.data.toList:=by
 have f0:=mV s 0
 have f1:=mV s 1
 have f2:=mV s 2
 have f3:=mV s 3
 have e:=KW s 0 (by omega)
 simp only[List.drop_zero,Nat.zero_add]at e
 rw[tC s 0 (by omega),tC s 1 (by omega),tC s 2 (by omega),tC s 3 (by omega),e]
 rw[<- UL _ _ _ _ f0 f1 f2 f3]
 rw[show byteAt s 0%4294967296=byteAt s 0 by omega,show byteAt s 1%4294967296*256%4294967296=byteAt s 1*256 by omega,show byteAt s 2%4294967296*65536%4294967296=byteAt s 2*65536 by omega,show byteAt s 3%4294967296*16777216%4294967296=byteAt s 3*16777216 by omega]
theorem UN(h:Int)(h0:0<=h)(h1:h<=4294967295) :
  bits .xor .u32 (bits .xor .u32 (bits .xor .u32 h (h/32768)*2246822519%4294967296) (bits .xor .u32 h (h/32768)*2246822519%4294967296/8192)*3266489917%4294967296)
   (bits .xor .u32 (bits .xor .u32 h (h/32768)*2246822519%4294967296) (bits .xor .u32 h (h/32768)*2246822519%4294967296/8192)*3266489917%4294967296/65536) =
  (let a:=tm (xr h (h/32768)) 2246822519
   let b:=tm (xr a (a/8192)) 3266489917
   xr b (b/65536)):=by
 rw[FZ h (h/32768) h0 h1 (by omega) (by omega)]
 show bits .xor .u32 (bits .xor .u32 (tm (xr h (h/32768)) 2246822519) (tm (xr h (h/32768)) 2246822519/8192)*3266489917%4294967296)
   (bits .xor .u32 (tm (xr h (h/32768)) 2246822519) (tm (xr h (h/32768)) 2246822519/8192)*3266489917%4294967296/65536)=_
 have ha:=jX (xr h (h/32768)) 2246822519
 generalize tm (xr h (h/32768)) 2246822519=a at *
 rw[FZ a (a/8192) (by omega) (by omega) (by omega) (by omega)]
 show bits .xor .u32 (tm (xr a (a/8192)) 3266489917) (tm (xr a (a/8192)) 3266489917/65536)=_
 have hb:=jX (xr a (a/8192)) 3266489917
 dsimp only
 generalize tm (xr a (a/8192)) 3266489917=b at *
 exact FZ b (b/65536) (by omega) (by omega) (by omega) (by omega)
theorem UO(j:Nat)(h:j<=18):(1:Int)<=2^j/\(2:Int)^j<=262144:=by
 have a:2^j<=2^18:=Nat.pow_le_pow_right (by omega) h
 have b:1<=2^j:=Nat.one_le_two_pow
 have c:(2:Int)^j=((2^j:Nat):Int):=by simp
 rw[c]
 omega
def mx(w x:Int):Int:=tm (rl ((w+tm x 2246822519)%4294967296) 13) 2654435761
theorem UQ(w x:Int):rl ((w+x*2246822519)%4294967296) 13*2654435761%4294967296=mx w x:=by
 unfold mx tm
 rw[show(w+x*2246822519)%4294967296=(w+x*2246822519%4294967296)%4294967296 by omega]
theorem CO(w x:Int):0<=mx w x/\mx w x<=4294967295:=jX _ _
structure Four where
 a:Int
 b:Int
 c:Int
 d:Int
def Four.ok(f:Four):Prop:=(0<=f.a/\f.a<=4294967295)/\(0<=f.b/\f.b<=4294967295)/\(0<=f.c/\f.c<=4294967295)/\(0<=f.d/\f.d<=4294967295)
def Four.step(f:Four)(l:List UInt8):Four:=⟨mx f.a (dV l),mx f.b (dV (l.drop 4)),mx f.c (dV (l.drop 8)),mx f.d (dV (l.drop 12))⟩
def stripe(l:List UInt8):Nat->Four
 | 0=>⟨606290984,2246822519,0,1640531535⟩
 | i+1=>(stripe l i).step (l.drop (16*i))
theorem F7(l:List UInt8)(i:Nat):(stripe l i).ok:=by
 cases i with
 | zero=>simp[stripe,Four.ok]
 | succ i=>exact⟨CO _ _,CO _ _,CO _ _,CO _ _⟩
def Four.join(f:Four):Int:=(rl f.a 1+rl f.b 7+rl f.c 12+rl f.d 18)%4294967296
def cut(s:ByteArray)(k:Nat):ByteArray:=s.extract k s.size
theorem UR(s:ByteArray):cut s 0=s:=by simp[cut]
theorem w_(s:ByteArray)(k:Nat):(cut s k).size=s.size-k:=by simp[cut,ByteArray.size_extract]
theorem nZ(s:ByteArray)(k:Nat):(cut s k).data.toList=s.data.toList.drop k:=by
 have e:(cut s k).data=s.data.extract k s.size:=by simp[cut]
 rw[e,Array.toList_extract,List.extract_eq_take_drop,List.take_of_length_le (by simp)]
theorem F8{a b:ByteArray}(h:a.data.toList=b.data.toList):a=b:=by
 cases a;cases b;simp at h;simp[h]
theorem KX(s:ByteArray)(k j:Nat):cut (cut s k) j=cut s (k+j):=by
 apply F8
 rw[nZ,nZ,nZ,List.drop_drop]
theorem F9(s:ByteArray)(k j:Nat):(cut s k).extract j (s.size-k)=cut s (k+j):=by
 rw[<- KX,<- w_]
 rfl
theorem KY(a n p:Int):(a+n*p)%4294967296=(a+tm n p)%4294967296:=by unfold tm;omega
def fH(h:Int)(l:List UInt8):Nat->Int
 | 0=>h
 | i+1=>tm (rl ((fH h l i+tm (dV (l.drop (4*i))) 3266489917)%4294967296) 17) 668265263
def jh(h:Int)(l:List UInt8):Nat->Int
 | 0=>h
 | i+1=>tm (rl ((jh h l i+tm ((l.getD i 0).toNat:Int) 374761393)%4294967296) 11) 2654435761
theorem CP(h:Int)(l:List UInt8)(h0:0<=h/\h<=4294967295)(i:Nat):0<=fH h l i/\fH h l i<=4294967295:=by
 cases i with
 | zero=>exact h0
 | succ i=>exact jX _ _
theorem CQ(h:Int)(l:List UInt8)(h0:0<=h/\h<=4294967295)(i:Nat):0<=jh h l i/\jh h l i<=4294967295:=by
 cases i with
 | zero=>exact h0
 | succ i=>exact jX _ _
theorem UU(h:Int)(l:List UInt8)(i:Nat) :
  rl ((fH h l i+dV (l.drop (4*i))*3266489917)%4294967296) 17*668265263%4294967296=fH h l (i+1):=by
 rw[KY]
 rfl
theorem UW(g:Int)(s:ByteArray)(n k:Nat)(hk:k<(cut s n).size) :
  rl ((jh g (s.data.toList.drop n) k+((cut s n)[k].toNat:Int)%4294967296*374761393)%4294967296) 11*2654435761%4294967296=jh g (s.data.toList.drop n) (k+1):=by
 have e:=tC (cut s n) k hk
 have b:=mV (cut s n) k
 rw[e,show byteAt (cut s n) k%4294967296=byteAt (cut s n) k by omega,KY]
 unfold byteAt
 rw[nZ]
 rfl
def Four.get(f:Four):Nat->Int
 | 0=>f.a
 | 1=>f.b
 | 2=>f.c
 | _=>f.d
theorem UY(l:List UInt8)(i j:Nat)(hj:j<4):(stripe l (i+1)).get j=mx ((stripe l i).get j) (dV (l.drop (16*i+4*j))):=by
 rcases(by omega:j=0\/j=1\/j=2\/j=3)with rfl|rfl|rfl|rfl<;>simp[stripe,Four.step,Four.get,List.drop_drop]
theorem UZ(l:List UInt8)(i j:Nat):0<=(stripe l i).get j/\(stripe l i).get j<=4294967295:=by
 obtain⟨ha,hb,hc,hd⟩:=F7 l i
 unfold Four.get
 split<;>assumption
def half(l:List UInt8)(i j t:Nat):Int:=if t<j then(stripe l (i+1)).get t else(stripe l i).get t
theorem KZ(l:List UInt8)(i j t:Nat):0<=half l i j t/\half l i j t<=4294967295:=by
 unfold half
 split<;>exact UZ _ _ _
theorem K_(l:List UInt8)(i t:Nat):half l i 0 t=(stripe l i).get t:=by simp[half]
theorem La(l:List UInt8)(i t:Nat)(h:t<4):half l i 4 t=(stripe l (i+1)).get t:=by simp[half,h]
theorem Lc(l:List UInt8)(i j:Nat)(h:j<4):mx (half l i j j) (dV (l.drop (16*i+4*j)))=half l i (j+1) j:=by
 rw[half,if_neg (by omega),half,if_pos (by omega),UY l i j h]
theorem yV(l:List UInt8)(i j t:Nat)(h:t≠j):half l i (j+1) t=half l i j t:=by
 unfold half
 by_cases ht:t<j
 ·rw[if_pos ht,if_pos (by omega)]
 ·rw[if_neg ht,if_neg (by omega)]
theorem U0(f:Four):0<=f.join/\f.join<=4294967295:=by unfold Four.join;omega
theorem U1(f:Four):((rl f.a 1+rl f.b 7+rl f.c 12)%4294967296+rl f.d 18)%4294967296=f.join:=by
 unfold Four.join
 omega
def fin(h:Int):Int :=
 let a:=tm (xr h (h/32768)) 2246822519
 let b:=tm (xr a (a/8192)) 3266489917
 xr b (b/65536)
def tl(h:Int)(l:List UInt8):Int:=jh (fH h l (l.length/4)) (l.drop (4*(l.length/4))) (l.length%4)
theorem Ld(h:Int)(l:List UInt8)(h0:0<=h/\h<=4294967295):0<=tl h l/\tl h l<=4294967295:=CQ _ _ (CP h l h0 _) _
def sum(l:List UInt8):Int :=
 let h:=if 16<=l.length then(stripe l (l.length/16)).join else 374761393
 fin (tl ((h+l.length)%4294967296) (l.drop (16*(l.length/16))))
theorem U2(s:ByteArray)(a k:Nat):((s.data.toList.drop a).getD k 0).toNat=byteAt s (a+k):=by
 unfold byteAt
 rw[List.getD_eq_getElem?_getD,List.getElem?_drop,List.getD_eq_getElem?_getD]
theorem Le(g:Int)(s:ByteArray)(a k:Nat) :
  tm (rl ((jh g (s.data.toList.drop a) k+tm (byteAt s (a+k)) 374761393)%4294967296) 11) 2654435761=jh g (s.data.toList.drop a) (k+1):=by
 rw[<- U2]
 rfl
theorem Lj(X:Int)(s:ByteArray)(a k t:Nat)(h:a+4*k+t=s.size)(ht:t<4) :
  tl X (s.data.toList.drop a)=jh (fH X (s.data.toList.drop a) k) (s.data.toList.drop (a+4*k)) t:=by
 have e:(s.data.toList.drop a).length=s.size-a:=by simp
 unfold tl
 rw[e,show(s.size-a)/4=k by omega,show(s.size-a)%4=t by omega,List.drop_drop]
theorem Ll(h:Int)(l:List UInt8)(a k:Nat) :
  tm (rl ((fH h (l.drop a) k+tm (dV (l.drop (a+4*k))) 3266489917)%4294967296) 17) 668265263=fH h (l.drop a) (k+1):=by
 rw[<- List.drop_drop]
 rfl
theorem xg(h:Int)(h0:0<=h/\h<=4294967295):
  bits .xor .i64 h (h/32768)=xr h (h/32768)/\(0<=xr h (h/32768)/\xr h (h/32768)<=4294967295) /\
  bits .xor .i64 h (h/8192)=xr h (h/8192)/\(0<=xr h (h/8192)/\xr h (h/8192)<=4294967295) /\
  bits .xor .i64 h (h/65536)=xr h (h/65536)/\(0<=xr h (h/65536)/\xr h (h/65536)<=4294967295) :=
 ⟨F5 _ _ (by omega) (by omega) (by omega) (by omega),yT _ _ (by omega) (by omega),F5 _ _ (by omega) (by omega) (by omega) (by omega),yT _ _ (by omega) (by omega),F5 _ _ (by omega) (by omega) (by omega) (by omega),yT _ _ (by omega) (by omega)⟩
theorem U3(s:ByteArray)(h:16<=s.size) :
  sum s.data.toList=fin (tl (((stripe s.data.toList (s.size/16)).join+s.size)%4294967296) (cut s (16*(s.size/16))).data.toList):=by
 have e:s.data.toList.length=s.size:=by simp
 unfold sum
 rw[e,if_pos h,nZ]
theorem U4(s:ByteArray)(h:¬16<=s.size):sum s.data.toList=fin (tl (374761393+s.size) s.data.toList):=by
 have e:s.data.toList.length=s.size:=by simp
 unfold sum
 rw[e,if_neg h,show s.size/16=0 by omega]
 show fin (tl ((374761393+(s.size:Int))%4294967296) s.data.toList)=_
 rw[show(374761393+(s.size:Int))%4294967296=374761393+(s.size:Int) by omega]
end Go.Proofs.YtbhemchnjpajiaaGreatDoor.SM
namespace Go.Proofs.YtbhemchnjpajiaaGreatDoor.RD
open Go
abbrev aj:=List UInt8
def ah(l:aj):ByteArray:=⟨l.toArray⟩
theorem aQ(l:aj):(ah l).size=l.length:=by simp[ah,ByteArray.size]
theorem lX(l:aj):(ah l).data.toList=l:=by simp[ah]
theorem Lm(b:ByteArray):b=ah b.data.toList:=by simp[ah]
theorem Lp{a b:ByteArray}(h:a.data.toList=b.data.toList):a=b:=SM.F8 h
theorem pO:ah []=⟨#[]⟩:=rfl
theorem kL(a b:aj):ah a++ah b=ah (a++b):=by
 apply Lp
 have e:(ah a++ah b).data.toList=(ah a).data.toList++(ah b).data.toList:=by simp
 rw[e,lX,lX,lX]
theorem Gf(l:aj)(i j:Nat):(ah l).extract i j=ah ((l.take j).drop i):=by
 apply Lp
 rw[lX]
 have e:((ah l).extract i j).data=(ah l).data.extract i j:=by simp
 rw[e,Array.toList_extract,lX,List.extract_eq_take_drop,List.drop_take]
theorem yO(l:aj)(n:Nat):(ah l).extract 0 n=ah (l.take n):=by rw[Gf,List.drop_zero]
theorem mQ(l:aj)(n:Nat):(ah l).extract n l.length=ah (l.drop n):=by rw[Gf,List.take_length]
theorem yX(l:aj)(i n:Nat):(ah l).extract i (i+n)=ah ((l.drop i).take n):=by rw[Gf,List.drop_take,Nat.add_sub_cancel_left]
theorem Lr(l:aj)(i:Nat)(h:i<(ah l).size):(ah l)[i]=l.getD i 0:=by
 have hl:i<l.length:=by rwa[aQ]at h
 rw[List.getD_eq_getElem?_getD,List.getElem?_eq_getElem hl]
 rfl
def au:aj->Nat
 | []=>0
 | b::r=>b.toNat+256*au r
theorem pV(l:aj):au l<256^l.length:=by
 induction l with
 | nil=>simp[au]
 | cons b r ih =>
  have:=b.toNat_lt
  simp only[au,List.length_cons,Nat.pow_succ]
  omega
theorem Ls(a b:aj):au (a++b)=au a+256^a.length*au b:=by
 induction a with
 | nil=>simp[au]
 | cons x r ih =>
  simp only[List.cons_append,au,ih,List.length_cons,Nat.pow_succ]
  rw[Nat.mul_add,Nat.add_assoc,<- Nat.mul_assoc,Nat.mul_comm 256 (256^r.length)]
def ak(l:aj)(i:Nat):Nat:=(l.getD i 0).toNat
theorem dQ(l:aj)(i:Nat):ak l i<=255:=by
 have:=(l.getD i 0).toNat_lt
 unfold ak
 omega
theorem qL(l:aj)(i:Nat)(h:i<l.length):ak l i=l[i].toNat:=by
 unfold ak
 rw[List.getD_eq_getElem?_getD,List.getElem?_eq_getElem h]
 rfl
def bit(b:UInt8)(k:Nat):Int:=((b.toNat/2^k%2:Nat):Int)
def n_(b:UInt8):List Int:=[bit b 7,bit b 6,bit b 5,bit b 4,bit b 3,bit b 2,bit b 1,bit b 0]
def ay(s:aj):List Int:=s.flatMap n_
theorem tH(s:aj):(ay s).length=8*s.length:=by
 induction s with
 | nil=>rfl
 | cons b r ih =>
  simp only[ay,List.flatMap_cons,List.length_append,List.length_cons]at *
  rw[ih]
  simp[n_]
  omega
theorem U5(b:UInt8)(k:Nat):0<=bit b k/\bit b k<=1:=by unfold bit;omega
theorem kM(s:aj):∀x∈ay s,0<=x/\x<=1:=by
 intro x hx
 simp only[ay,List.mem_flatMap,n_,List.mem_cons,List.not_mem_nil,or_false]at hx
 obtain⟨b,-,hx⟩:=hx
 rcases hx with rfl|rfl|rfl|rfl|rfl|rfl|rfl|rfl<;>exact U5 _ _
def val(l:List Int):Int:=l.foldl (fun v b=>2*v+b) 0
theorem U6(l:List Int)(b:Int):val (l++[b])=2*val l+b:=by simp[val]
theorem U7(l:List Int)(h:∀x∈l,0<=x/\x<=1)(v:Int)(k:Nat)(hv:0<=v/\v<2^k):0<=l.foldl (fun v b=>2*v+b) v/\l.foldl (fun v b=>2*v+b) v<2^(k+l.length):=by
 induction l generalizing v k with
 | nil=>simpa using hv
 | cons b r ih =>
  have hb:=h b (by simp)
  have e:k+(b::r).length=(k+1)+r.length:=by simp;omega
  rw[List.foldl_cons,e]
  exact ih (fun x hx=>h x (by simp[hx])) _ _ (by rw[Int.pow_succ];omega)
theorem Lu(l:List Int)(h:∀x∈l,0<=x/\x<=1):0<=val l/\val l<2^l.length:=by
 have:=U7 l h 0 0 (by simp)
 simpa[val]using this
def worth(l:List Int)(i n:Nat):Option Int:=if l.length<i+n then none else some (val ((l.drop i).take n))
def rest(l:List Int)(i:Nat):Bool:=decide (l.length-i<8)&&(val (l.drop i)==0)
theorem LC(z:List Int)(i j:Nat)(h:i+j<z.length):val ((z.drop i).take (j+1))=2*val ((z.drop i).take j)+z.getD (i+j) 0:=by
 have hlt:j<(z.drop i).length:=by simp;omega
 rw[List.take_succ_eq_append_getElem hlt,U6]
 congr 1
 rw[List.getElem_drop,List.getD_eq_getElem?_getD,List.getElem?_eq_getElem h]
 rfl
theorem LD(z:List Int)(h:∀x∈z,0<=x/\x<=1)(i j:Nat)(hj:j<=16):0<=val ((z.drop i).take j)/\val ((z.drop i).take j)<=65535:=by
 have a:=Lu ((z.drop i).take j) (fun x hx=>h x (List.mem_of_mem_drop (List.mem_of_mem_take hx)))
 have b:((z.drop i).take j).length<=16:=by simp;omega
 have c:(2:Int)^((z.drop i).take j).length<=2^16:=by
  have:2^((z.drop i).take j).length<=2^16:=Nat.pow_le_pow_right (by omega) b
  exact_mod_cast this
 omega
theorem U9(b:UInt8)(j:Nat)(h:j<8):(n_ b).take (j+1)=(n_ b).take j++[bit b (7-j)]:=by
 rcases(by omega:j=0\/j=1\/j=2\/j=3\/j=4\/j=5\/j=6\/j=7)with rfl|rfl|rfl|rfl|rfl|rfl|rfl|rfl<;>rfl
theorem U_(s:aj)(i:Nat)(h:i<s.length):ay (s.take (i+1))=ay (s.take i)++n_ (s.getD i 0):=by
 rw[List.take_succ_eq_append_getElem h,List.getD_eq_getElem?_getD,List.getElem?_eq_getElem h]
 unfold ay
 rw[List.flatMap_append,List.flatMap_cons,List.flatMap_nil,List.append_nil]
 rfl
end Go.Proofs.YtbhemchnjpajiaaGreatDoor.RD
namespace Go.Proofs.YtbhemchnjpajiaaGreatDoor.CM
open Go
def sp(w:Int):Int:=if w=0 then 0 else 2^(w-1).toNat
def Fits(z:List Int):Prop:=∀x∈z,0<=x/\x<=8
def dW(z:List Int):Bool:=z.all fun x=>decide (0<=x)&&decide (x<=8)
def inB(z:List Int):Bool:=decide (1<=z.length)&&decide (z.length<=128)&&dW z
theorem tJ(z:List Int):dW z=true↔Fits z:=by
 simp[dW,Fits]
theorem iY(z:List Int)(h:Fits z)(k:Nat):0<=z.getD k 0/\z.getD k 0<=8:=by
 rw[List.getD_eq_getElem?_getD]
 by_cases hk:k<z.length
 ·rw[List.getElem?_eq_getElem hk];exact h _ (List.getElem_mem hk)
 ·rw[List.getElem?_eq_none (by omega)];simp
theorem yY(z:List Int)(k:Nat)(hk:k<z.length):dW (z.take (k+1))=(dW (z.take k)&&(decide (0<=z.getD k 0)&&decide (z.getD k 0<=8))):=by
 unfold dW
 rw[List.take_succ_eq_append_getElem hk,List.all_append,List.getD_eq_getElem?_getD,List.getElem?_eq_getElem hk]
 simp only[List.all_cons,List.all_nil,Bool.and_true,Option.getD_some]
theorem CS(z:List Int)(k:Nat)(h:dW (z.take k)=false):dW z=false:=by
 cases e:dW z with
 | false=>rfl
 | true =>
  have f:=(tJ z).1 e
  have:dW (z.take k)=true:=(tJ _).2 fun x hx=>f x (List.mem_of_mem_take hx)
  rw[this]at h;cases h
theorem yZ(w:Int)(h:0<=w/\w<=8):0<=sp w/\sp w<=128:=by
 unfold sp
 rcases(by omega:w=0\/w=1\/w=2\/w=3\/w=4\/w=5\/w=6\/w=7\/w=8)with rfl|rfl|rfl|rfl|rfl|rfl|rfl|rfl|rfl<;>decide
def tot(z:List Int):Nat->Int
 | 0=>0
 | k+1=>tot z k+sp (z.getD k 0)
theorem CU(z:List Int)(h:Fits z)(k:Nat):0<=tot z k/\tot z k<=128*k:=by
 induction k with
 | zero=>simp[tot]
 | succ k ih=>have:=yZ _ (iY z h k);simp only[tot];omega
abbrev aG:=Int×Int×Int
def cellsOf(l:List aG):List Value:=l.flatMap fun c=>[.int .i64 c.1,.int .i64 c.2.1,.int .i64 c.2.2]
theorem cellsOf_length(l:List aG):(cellsOf l).length=l.length*3:=by
 induction l with
 | nil=>rfl
 | cons a l ih=>simp only[cellsOf,List.flatMap_cons,List.length_append,List.length_cons,List.length_nil]at *;omega
theorem Gg(l:List aG)(c:aG):cellsOf (l++[c])=cellsOf l++[.int .i64 c.1,.int .i64 c.2.1,.int .i64 c.2.2]:=by simp[cellsOf]
theorem cellsOf_at(l:List aG)(i:Nat)(hi:i<l.length) :
  (cellsOf l)[i*3]?=some (.int .i64 (l.getD i (0,0,0)).1)/\(cellsOf l)[i*3+1]?=some (.int .i64 (l.getD i (0,0,0)).2.1)/\(cellsOf l)[i*3+2]?=some (.int .i64 (l.getD i (0,0,0)).2.2):=by
 induction l generalizing i with
 | nil=>simp at hi
 | cons a l ih =>
  cases i with
  | zero=>simp[cellsOf]
  | succ i =>
   have:=ih i (by simpa using hi)
   have e:cellsOf (a::l)=.int .i64 a.1::.int .i64 a.2.1::.int .i64 a.2.2::cellsOf l:=by simp[cellsOf]
   rw[e,show(i+1)*3=i*3+1+1+1 by omega]
   simpa using this
def gk(ws:List Int)(b wt:Int)(c:List aG×Int):Nat->List aG×Int
 | 0=>c
 | k+1=>if ws.getD k 0=wt then((gk ws b wt c k).1++[((k:Int),b+1-wt,(gk ws b wt c k).2/2^(wt-1).toNat)],(gk ws b wt c k).2+sp wt)else gk ws b wt c k
def gs(ws:List Int)(b:Int):Nat->List aG×Int
 | 0=>([],0)
 | n+1=>gk ws b ((n:Int)+1) (gs ws b n) ws.length
theorem Gh(ws:List Int)(b wt:Int)(c:List aG×Int)(hw:1<=wt/\wt<=8)(k:Nat) :
  (gk ws b wt c k).1.length<=c.1.length+k/\c.2<=(gk ws b wt c k).2/\(gk ws b wt c k).2<=c.2+128*k:=by
 have hs:=yZ wt (by omega)
 induction k with
 | zero=>simp[gk]
 | succ k ih =>
  simp only[gk]
  split
  ·simp only[List.length_append,List.length_singleton];omega
  ·omega
theorem Gi(ws:List Int)(b:Int)(n:Nat)(hn:n<=8) :
  (gs ws b n).1.length<=n*ws.length/\0<=(gs ws b n).2/\(gs ws b n).2<=128*(n*ws.length:Nat):=by
 induction n with
 | zero=>simp[gs]
 | succ n ih =>
  have h:=Gh ws b ((n:Int)+1) (gs ws b n) (by omega) ws.length
  have i:=ih (by omega)
  simp only[gs]
  rw[Nat.succ_mul]
  omega
def len(x:Int):Int:=(Lib.bitLen x.toNat:Int)
theorem bitLen_spec(x:Nat):x<2^64->x<2^Lib.bitLen x/\(x≠0->2^(Lib.bitLen x-1)<=x/\1<=Lib.bitLen x):=by
 induction x using Nat.strongRecOn with
 | _ x ih =>
  intro hx
  by_cases h0:x=0
  ·subst h0;simp[Lib.bitLen,Lib.bitLenAux]
  ·have e:=Lib.bitLen_half x h0 hx
   obtain⟨a,b⟩:=ih (x/2) (by omega) (by omega)
   generalize hL:Lib.bitLen (x/2)=L at *
   rw[e]
   refine⟨by rw[Nat.add_comm,Nat.pow_succ];omega,fun _=>⟨?_,by omega⟩⟩
   by_cases h1:x/2=0
   ·have:L=0:=by rw[<- hL,h1];rfl
    subst this;simp;omega
   ·obtain⟨c,d⟩:=b h1
    rw[show 1+L-1=(L-1)+1 by omega,Nat.pow_succ]
    omega
theorem CV(x:Int)(h0:0<=x)(h1:x<=65535):0<=len x/\len x<=16:=by
 unfold len
 refine⟨by omega,?_⟩
 by_cases hz:x.toNat=0
 ·rw[hz];decide
 ·obtain⟨a,b⟩:=bitLen_spec x.toNat (by omega)
  obtain⟨c,d⟩:=b hz
  rcases Nat.lt_or_ge (Lib.bitLen x.toNat) 17 with h|h
  ·omega
  ·have:=Nat.pow_le_pow_right (n:=2) (by omega) (show 16<=Lib.bitLen x.toNat-1 by omega);omega
def total(z:List Int):Int:=tot z z.length
def rest(z:List Int):Int:=2^(len (total z)).toNat-total z
def pw(r:Int):Bool:=bits .and .i64 r (r-1)==0
def good(z:List Int):Bool:=inB z&&(total z != 0)&&decide (len (total z)<=8)&&pw (rest z)
def all(z:List Int):List Int:=z++[len (rest z)]
def codes(z:List Int):List aG:=(gs (all z) (len (total z)) (len (total z)).toNat).1
theorem uZ{z:List Int}(h:inB z=true):Fits z/\1<=z.length/\z.length<=128:=by
 simp[inB]at h
 exact⟨(tJ z).1 h.2,by omega,by omega⟩
theorem zf{z:List Int}(h:inB z=true):0<=total z/\total z<=16384:=by
 obtain⟨f,a,b⟩:=uZ h
 have:=CU z f z.length
 unfold total
 omega
theorem iF(a b:Nat)(h:a<=b):(2:Int)^a<=2^b:=by
 have:=Nat.pow_le_pow_right (n:=2) (by omega) h
 exact_mod_cast this
theorem pow_pos(a:Nat):(1:Int)<=2^a:=by
 have:=Nat.one_le_two_pow (n:=a)
 exact_mod_cast this
theorem zh{z:List Int}(h:inB z=true):1<=rest z/\(total z≠0->rest z<=total z)/\rest z<=32768/\(1<=len (total z)\/total z=0)/\len (total z)<=15:=by
 have ht:=zf h
 obtain⟨a,b⟩:=bitLen_spec (total z).toNat (by omega)
 unfold rest len
 rw[Int.toNat_natCast]
 generalize hL:Lib.bitLen (total z).toNat=L at *
 have c:((2^L:Nat):Int)=(2:Int)^L:=by simp
 by_cases h0:total z=0
 ·have:L=0:=by rw[<- hL,h0];rfl
  subst this
  simp[h0]
 ·obtain⟨d,e⟩:=b (by omega)
  have f:2^L=2*2^(L-1):=by rw[<- Nat.pow_succ'];congr 1;omega
  have g:L<=15:=by
   rcases Nat.lt_or_ge L 16 with g|g
   ·omega
   ·have:=Nat.pow_le_pow_right (n:=2) (by omega) (show 15<=L-1 by omega);omega
  have k:=Nat.pow_le_pow_right (n:=2) (by omega) g
  omega
end Go.Proofs.YtbhemchnjpajiaaGreatDoor.CM
namespace Go.Proofs.YtbhemchnjpajiaaGreatDoor.TM
open Go
def pl(c:Int):Int:=if c=-1 then 1 else c
def cnt(z:List Int)(s:Nat):Int:=z.getD s 0
def Fits(z:List Int)(S:Int):Prop:=∀x∈z,-1<=x/\x<=S
def dW(z:List Int)(S:Int):Bool:=z.all fun x=>decide (-1<=x)&&decide (x<=S)
def sum(z:List Int):Nat->Int
 | 0=>0
 | k+1=>sum z k+pl (z.getD k 0)
def dZ(z:List Int)(S:Int):Bool:=decide (1<=z.length)&&decide (z.length<=16)&&dW z S&&(sum z z.length==S)
theorem tJ(z:List Int)(S:Int):dW z S=true↔Fits z S:=by simp[dW,Fits]
theorem iY(z:List Int)(S:Int)(hS:0<=S)(h:Fits z S)(k:Nat):-1<=z.getD k 0/\z.getD k 0<=S:=by
 rw[List.getD_eq_getElem?_getD]
 by_cases hk:k<z.length
 ·rw[List.getElem?_eq_getElem hk];exact h _ (List.getElem_mem hk)
 ·rw[List.getElem?_eq_none (by omega)];simp;omega
theorem yY(z:List Int)(S:Int)(k:Nat)(hk:k<z.length):dW (z.take (k+1)) S=(dW (z.take k) S&&(decide (-1<=z.getD k 0)&&decide (z.getD k 0<=S))):=by
 unfold dW
 rw[List.take_succ_eq_append_getElem hk,List.all_append,List.getD_eq_getElem?_getD,List.getElem?_eq_getElem hk]
 simp only[List.all_cons,List.all_nil,Bool.and_true,Option.getD_some]
theorem CS(z:List Int)(S:Int)(k:Nat)(h:dW (z.take k) S=false):dW z S=false:=by
 cases e:dW z S with
 | false=>rfl
 | true =>
  have f:=(tJ z S).1 e
  have:dW (z.take k) S=true:=(tJ _ S).2 fun x hx=>f x (List.mem_of_mem_take hx)
  rw[this]at h;cases h
theorem qM(c S:Int)(hS:1<=S)(h:-1<=c/\c<=S):0<=pl c/\pl c<=S:=by unfold pl;split<;>omega
theorem Gj(z:List Int)(S:Int)(hS:1<=S)(h:Fits z S)(a b:Nat)(hab:a<=b):sum z a<=sum z b:=by
 induction b with
 | zero =>
      obtain rfl:a=0:=by omega
      exact Int.le_refl _
 | succ b ih =>
  by_cases e:a=b+1
  ·subst e;exact Int.le_refl _
  ·have:=ih (by omega)
   have:=qM _ S hS (iY z S (by omega) h b)
   simp only[sum]
   omega
def tab(S:Nat)(f:Nat->CM.aG):List CM.aG:=(List.range S).map f
theorem mW(S:Nat)(f:Nat->CM.aG):(tab S f).length=S:=by simp[tab]
theorem zi(S:Nat)(f:Nat->CM.aG)(p:Nat)(h:p<S):(tab S f).getD p (0,0,0)=f p:=by
 simp[tab,h]
theorem tK(S:Nat)(f f':Nat->CM.aG)(h:∀p,p<S->f p=f' p):tab S f=tab S f':=by
 unfold tab
 apply List.map_congr_left
 intro p hp
 exact h p (by simpa using hp)
def upd{α:Type}(f:Nat->α)(p:Nat)(x:α):Nat->α:=fun q=>if q=p then x else f q
theorem Gl(L:List CM.aG)(p j:Nat)(t:CM.aG)(v:Value)(hp:p<L.length)(hj:j<3)
  (hv:[.int .i64 t.1,.int .i64 t.2.1,.int .i64 t.2.2]=([.int .i64 (L.getD p (0,0,0)).1,.int .i64 (L.getD p (0,0,0)).2.1,.int .i64 (L.getD p (0,0,0)).2.2]:List Value).set j v) :
  (CM.cellsOf L).set (p*3+j) v=CM.cellsOf (L.set p t):=by
 induction L generalizing p with
 | nil=>simp at hp
 | cons a L ih =>
  have e:∀(a:CM.aG)(L:List CM.aG),CM.cellsOf (a::L)=[.int .i64 a.1,.int .i64 a.2.1,.int .i64 a.2.2]++CM.cellsOf L:=by intro a L;simp[CM.cellsOf]
  cases p with
  | zero =>
   rw[e]
   simp only[List.set_cons_zero]
   rw[e,List.set_append_left _ _ (by simp;omega)]
   congr 1
   simp at hv
   rw[Nat.zero_mul,Nat.zero_add]
   exact hv.symm
  | succ p =>
   rw[e]
   simp only[List.set_cons_succ]
   rw[e,List.set_append_right _ _ (by simp;omega)]
   congr 1
   rw[show(p+1)*3+j-[Value.int .i64 a.1,.int .i64 a.2.1,.int .i64 a.2.2].length=p*3+j by simp;omega]
   exact ih p (by simpa using hp) (by simpa using hv)
theorem Gm(S:Nat)(f:Nat->CM.aG)(p:Nat)(t:CM.aG):(tab S f).set p t=tab S (upd f p t):=by
 unfold tab upd
 apply List.ext_getElem
 ·simp
 ·intro i h1 h2
  simp only[List.getElem_set,List.getElem_map,List.getElem_range]
  by_cases e:p=i
  ·subst e;simp
  ·rw[if_neg e,if_neg (by omega)]
def tb(z:List Int)(S:Nat):Nat->(Nat->Int)×Nat
 | 0=>(fun _=>0,S)
 | k+1=>if z.getD k 0=-1 then(upd (tb z S k).1 ((tb z S k).2-1) (k:Int),(tb z S k).2-1)else tb z S k
theorem og(z:List Int)(S:Nat)(h:Fits z S)(hS:1<=S)(k:Nat)(hk:sum z k<=S):((tb z S k).2:Int)≥S-sum z k/\(tb z S k).2<=S:=by
 induction k with
 | zero=>simp[tb,sum]
 | succ k ih =>
  have hb:=qM _ (S:Int) (by omega) (iY z S (by omega) h k)
  simp only[sum]at hk
  have:=ih (by omega)
  simp only[tb,sum]
  unfold pl at *
  split<;>simp_all<;>omega
def step(S:Nat):Nat:=S/2+S/8+3
def P(S k:Nat):Nat:=k*step S%S
theorem Va(S k:Nat):(P S k+step S)%S=P S (k+1):=by
 unfold P
 rw[Nat.add_mul,Nat.one_mul,Nat.mod_add_mod]
def cf(S free:Nat):Nat->Nat
 | 0=>0
 | K+1=>cf S free K+if P S K<free then 1 else 0
theorem zk(S free a b:Nat)(h:a<=b):cf S free a<=cf S free b:=by
 induction b with
 | zero =>
      obtain rfl:a=0:=by omega
      exact Nat.le_refl _
 | succ b ih =>
  by_cases e:a=b+1
  ·subst e;exact Nat.le_refl _
  ·have:=ih (by omega)
   simp only[cf]
   omega
theorem Vb:∀f:Fin 33,cf 32 f.val 32=f.val:=by decide +kernel
theorem Vd:∀f:Fin 65,cf 64 f.val 64=f.val:=by decide +kernel
def inv(S:Nat):Nat:=if S=32 then 7 else 3
def idx(S p:Nat):Nat:=p*inv S%S
theorem Ve:∀k:Fin 32,idx 32 (P 32 k.val)=k.val:=by decide +kernel
theorem Vf:∀k:Fin 64,idx 64 (P 64 k.val)=k.val:=by decide +kernel
theorem Vg:∀p:Fin 32,P 32 (idx 32 p.val)=p.val:=by decide +kernel
theorem Vh:∀p:Fin 64,P 64 (idx 64 p.val)=p.val:=by decide +kernel
def Size(S:Nat):Prop:=S=32\/S=64
theorem CW{S:Nat}(hS:Size S)(free:Nat)(h:free<=S):cf S free S=free:=by
 rcases hS with rfl|rfl
 ·exact Vb ⟨free,by omega⟩
 ·exact Vd ⟨free,by omega⟩
theorem Gq{S:Nat}(hS:Size S)(k:Nat)(h:k<S):idx S (P S k)=k:=by
 rcases hS with rfl|rfl
 ·exact Ve ⟨k,h⟩
 ·exact Vf ⟨k,h⟩
theorem u_{S:Nat}(hS:Size S)(p:Nat)(h:p<S):P S (idx S p)=p:=by
 rcases hS with rfl|rfl
 ·exact Vg ⟨p,h⟩
 ·exact Vh ⟨p,h⟩
theorem LG{S:Nat}(hS:Size S)(k:Nat):P S k<S:=by
 unfold P
 rcases hS with rfl|rfl<;>omega
theorem tN{S:Nat}(hS:Size S)(p:Nat):idx S p<S:=by
 unfold idx
 rcases hS with rfl|rfl<;>omega
def base(z:List Int):Nat->Nat
 | 0=>0
 | s+1=>base z s+(z.getD s 0).toNat
theorem zl(z:List Int)(a b:Nat)(h:a<=b):base z a<=base z b:=by
 induction b with
 | zero =>
      obtain rfl:a=0:=by omega
      exact Nat.le_refl _
 | succ b ih =>
  by_cases e:a=b+1
  ·subst e;exact Nat.le_refl _
  ·have:=ih (by omega)
   simp only[base]
   omega
def item(z:List Int)(j:Nat):Nat->Nat
 | 0=>0
 | n+1=>item z j n+if base z (n+1)<=j then 1 else 0
theorem zn(z:List Int)(j s n:Nat)(hs:s<n)(h0:base z s<=j)(h1:j<base z (s+1)):item z j n=s:=by
 have key:∀m,m<=n->item z j m=if m<=s then m else s:=by
  intro m
  induction m with
  | zero=>intro _;simp[item]
  | succ m ih =>
   intro hm
   have:=ih (by omega)
   simp only[item]
   rw[this]
   by_cases e:m+1<=s
   ·have:=zl z (m+1) s e
    rw[if_pos (by omega),if_pos (by omega),if_pos e]
   ·have:=zl z (s+1) (m+1) (by omega)
    rw[if_neg (show ¬base z (m+1)<=j by omega),if_neg e]
    split<;>omega
 rw[key n (Nat.le_refl _),if_neg (by omega)]
theorem Vj(z:List Int)(S:Nat)(h:Fits z S)(hS:1<=S)(k:Nat)(hk:sum z k<=S):((tb z S k).2:Int)=S-(sum z k-base z k):=by
 induction k with
 | zero=>simp[tb,sum,base]
 | succ k ih =>
  have hf:=iY z S (by omega) h k
  have hb:=qM _ (S:Int) (by omega) hf
  have hk':=hk
  simp only[sum]at hk
  have e:=ih (by omega)
  have hfr:=og z S h hS k (by omega)
  simp only[tb,sum,base]
  by_cases hm:z.getD k 0=-1
  ·rw[if_pos hm,hm]
   unfold pl at *
   rw[hm]at hk hb
   simp at hk
   simp
   omega
  ·rw[if_neg hm]
   unfold pl
   rw[if_neg hm]
   omega
def fK(z:List Int)(S free n:Nat)(f0:Nat->Int)(K:Nat):Nat->Int:=fun p =>
 if free<=p then f0 p else if idx S p<K then(item z (cf S free (idx S p)) n:Int)else f0 p
theorem Vk{z:List Int}{S free n:Nat}{f0:Nat->Int}(hS:Size S)(K:Nat)(h:free<=P S K)(p:Nat)(hp:p<S):fK z S free n f0 K p=fK z S free n f0 (K+1) p:=by
 unfold fK
 by_cases e:free<=p
 ·rw[if_pos e,if_pos e]
 ·rw[if_neg e,if_neg e]
  have:idx S p≠K:=by
   intro h'
   have:=u_ hS p hp
   rw[h']at this
   omega
  by_cases h1:idx S p<K
  ·rw[if_pos h1,if_pos (by omega)]
  ·rw[if_neg h1,if_neg (by omega)]
theorem Vl{z:List Int}{S free n:Nat}{f0:Nat->Int}(hS:Size S)(K:Nat)(hK:K<S)(h:P S K<free)(s:Nat)(hs:item z (cf S free K) n=s)(p:Nat)(hp:p<S) :
  upd (fK z S free n f0 K) (P S K) (s:Int) p=fK z S free n f0 (K+1) p:=by
 unfold fK upd
 by_cases e:p=P S K
 ·subst e
  rw[if_pos rfl,if_neg (by omega),Gq hS K hK,if_pos (by omega),hs]
 ·rw[if_neg e]
  dsimp only
  have hne:idx S p≠K:=by
   intro h'
   have:=u_ hS p hp
   rw[h']at this
   exact e this.symm
  by_cases e1:free<=p
  ·rw[if_pos e1,if_pos e1]
  ·rw[if_neg e1,if_neg e1]
   by_cases h1:idx S p<K
   ·rw[if_pos h1,if_pos (by omega)]
   ·rw[if_neg h1,if_neg (by omega)]
theorem Vm{z:List Int}{S free n:Nat}{f0:Nat->Int}(hS:Size S)(hf:free<=S)(K:Nat)(hK:K<=S)(h:cf S free K=free)(p:Nat)(hp:p<S):fK z S free n f0 K p=fK z S free n f0 S p:=by
 unfold fK
 by_cases e:free<=p
 ·rw[if_pos e,if_pos e]
 ·rw[if_neg e,if_neg e,if_pos (tN hS p)]
  by_cases h1:idx S p<K
  ·rw[if_pos h1]
  ·exfalso
   have h2:=zk S free K (idx S p) (by omega)
   have h3:=zk S free (idx S p+1) S (by have:=tN hS p;omega)
   have h4:cf S free (idx S p+1)=cf S free (idx S p)+if P S (idx S p)<free then 1 else 0:=rfl
   rw[u_ hS p hp,if_pos (by omega)]at h4
   have h5:=CW hS free hf
   omega
theorem Vo(S K:Nat):((P S K:Int)+(step S:Int))%(S:Int)=(P S (K+1):Int):=by
 rw[<- Va]
 simp
theorem LH{S free:Nat}(hS:Size S)(hf:free<=S)(K:Nat)(hK:K<=S)(h:cf S free K<free):K<S:=by
 rcases Nat.lt_or_ge K S with h1|h1
 ·exact h1
 ·obtain rfl:K=S:=by omega
  have:=CW hS free hf
  omega
theorem Vp(z:List Int)(S free n:Nat)(f0:Nat->Int)(p:Nat):fK z S free n f0 0 p=f0 p:=by
 unfold fK
 split<;>simp
def iG(f:Nat->Int)(v:Int):Nat->Nat
 | 0=>0
 | p+1=>iG f v p+if f p=v then 1 else 0
theorem Vq(f:Nat->Int)(v:Int)(p:Nat):iG f v p<=p:=by
 induction p with
 | zero=>exact Nat.le_refl _
 | succ p ih=>simp only[iG];split<;>omega
def X(z:List Int)(f:Nat->Int)(p:Nat):Int:=pl (z.getD (f p).toNat 0)+iG f (f p) p
def bt(log:Int)(x:Int):Int:=log+1-CM.len x
def bs(log S x:Int):Int:=x*2^(bt log x).toNat-S
def st(z:List Int)(log S:Int)(f:Nat->Int)(p:Nat):CM.aG:=(f p,bt log (X z f p),bs log S (X z f p))
theorem Vr(x:Int)(b:Nat)(h0:1<=x)(h1:x<2^b)(hb:b<=16):1<=CM.len x/\CM.len x<=b:=by
 have hp:=CM.iF b 16 hb
 obtain⟨a,c⟩:=CM.bitLen_spec x.toNat (by omega)
 obtain⟨d,e⟩:=c (by omega)
 unfold CM.len
 refine⟨by omega,?_⟩
 rcases Nat.lt_or_ge b (Lib.bitLen x.toNat)with g|g
 ·exfalso
  have:=Nat.pow_le_pow_right (n:=2) (by omega) (show b<=Lib.bitLen x.toNat-1 by omega)
  have c1:((2^b:Nat):Int)=(2:Int)^b:=by simp
  omega
 ·omega
theorem zo(log:Nat)(hl:log<=6)(x:Int)(h0:1<=x)(h1:x<2^(log+1)):0<=bt log x/\bt log x<=log/\2^log<=x*2^(bt log x).toNat/\(x+1)*2^(bt log x).toNat<=2^(log+1):=by
 have hp:=CM.iF (log+1) 16 (by omega)
 obtain⟨l1,l2⟩:=Vr x (log+1) h0 h1 (by omega)
 obtain⟨a,c⟩:=CM.bitLen_spec x.toNat (by omega)
 obtain⟨d,e⟩:=c (by omega)
 have hL:CM.len x=(Lib.bitLen x.toNat:Int):=rfl
 unfold bt
 refine⟨by omega,by omega,?_,?_⟩
 ·have e1:(2:Int)^log=2^(Lib.bitLen x.toNat-1)*2^((log:Int)+1-CM.len x).toNat:=by
   rw[<- Int.pow_add];congr 1;omega
  rw[e1]
  have c1:((2^(Lib.bitLen x.toNat-1):Nat):Int)=(2:Int)^(Lib.bitLen x.toNat-1):=by simp
  exact Int.mul_le_mul_of_nonneg_right (by omega) (by have:=CM.pow_pos ((log:Int)+1-CM.len x).toNat;omega)
 ·have e1:(2:Int)^(log+1)=2^Lib.bitLen x.toNat*2^((log:Int)+1-CM.len x).toNat:=by
   rw[<- Int.pow_add];congr 1;omega
  rw[e1]
  have c1:((2^Lib.bitLen x.toNat:Nat):Int)=(2:Int)^Lib.bitLen x.toNat:=by simp
  exact Int.mul_le_mul_of_nonneg_right (by omega) (by have:=CM.pow_pos ((log:Int)+1-CM.len x).toNat;omega)
def LJ(z:List Int)(S n:Nat)(f:Nat->Int):Prop:=∀p,p<S->∃s:Nat,f p=(s:Int)/\s<n/\1<=pl (z.getD s 0)
theorem CX(z:List Int)(S:Nat)(hS:1<=S)(h:Fits z S)(f:Nat->Int)(p:Nat)(hp:p<S)(hs:∃s:Nat,f p=(s:Int)/\1<=pl (z.getD s 0)):1<=X z f p/\X z f p<=2*S-1:=by
 obtain⟨s,a,b⟩:=hs
 have:=qM _ (S:Int) (by omega) (iY z S (by omega) h s)
 have:=Vq f (f p) p
 unfold X
 rw[show(f p).toNat=s by omega]
 omega
theorem Gs(z:List Int)(S:Nat)(h:Fits z S)(hS:1<=S)(k:Nat)(hk:sum z k<=S):∀p,(tb z S k).2<=p->p<S->∃s:Nat,(tb z S k).1 p=(s:Int)/\s<k/\z.getD s 0=-1:=by
 induction k with
 | zero=>intro p h1 h2;simp[tb]at h1;omega
 | succ k ih =>
  have hb:=qM _ (S:Int) (by omega) (iY z S (by omega) h k)
  simp only[sum]at hk
  have ih:=ih (by omega)
  intro p h1 h2
  simp only[tb]at h1⊢
  by_cases hm:z.getD k 0=-1
  ·rw[if_pos hm]at h1⊢
   simp only at h1⊢
   unfold upd
   by_cases e:p=(tb z S k).2-1
   ·rw[if_pos e]
    exact⟨k,rfl,by omega,hm⟩
   ·rw[if_neg e]
    obtain⟨s,a,b,c⟩:=ih p (by omega) h2
    exact⟨s,a,by omega,c⟩
  ·rw[if_neg hm]at h1⊢
   obtain⟨s,a,b,c⟩:=ih p h1 h2
   exact⟨s,a,by omega,c⟩
theorem LM(z:List Int)(n j:Nat)(h:j<base z n):∃s,s<n/\base z s<=j/\j<base z (s+1):=by
 induction n with
 | zero=>simp[base]at h
 | succ n ih =>
  by_cases e:j<base z n
  ·obtain⟨s,a,b,c⟩:=ih e
   exact⟨s,by omega,b,c⟩
  ·exact⟨n,by omega,by omega,h⟩
def F(z:List Int)(S n:Nat):Nat->Int:=fK z S (tb z S n).2 n (tb z S n).1 S
theorem vg(z:List Int)(S n:Nat)(hS:1<=S)(h:Fits z S)(hs:sum z n=S):base z n=(tb z S n).2:=by
 have:=Vj z S h hS n (by omega)
 omega
theorem zq{S free:Nat}(hS:Size S)(hf:free<=S)(p:Nat)(hp:p<S)(h:p<free):cf S free (idx S p)<free:=by
 have h3:=zk S free (idx S p+1) S (by have:=tN hS p;omega)
 have h4:cf S free (idx S p+1)=cf S free (idx S p)+if P S (idx S p)<free then 1 else 0:=rfl
 rw[u_ hS p hp,if_pos h]at h4
 have h5:=CW hS free hf
 omega
theorem syms(z:List Int)(S n:Nat)(hS:Size S)(h:Fits z S)(hs:sum z n=S):LJ z S n (F z S n):=by
 have hS1:1<=S:=by rcases hS with rfl|rfl<;>omega
 have hfr:=og z S h hS1 n (by omega)
 have hfb:=vg z S n hS1 h hs
 intro p hp
 unfold F fK
 by_cases e:(tb z S n).2<=p
 ·rw[if_pos e]
  obtain⟨s,a,b,c⟩:=Gs z S h hS1 n (by omega) p e hp
  exact⟨s,a,b,by rw[c];decide⟩
 ·rw[if_neg e,if_pos (tN hS p)]
  have hc:=zq hS hfr.2 p hp (by omega)
  obtain⟨s,a,b,c⟩:=LM z n (cf S (tb z S n).2 (idx S p)) (by omega)
  refine⟨s,?_,a,?_⟩
  ·rw[zn z _ s n a b c]
  ·have:base z (s+1)=base z s+(z.getD s 0).toNat:=rfl
   unfold pl
   split<;>omega
theorem CY{z:List Int}{S:Int}(h:dZ z S=true):Fits z S/\1<=z.length/\z.length<=16/\sum z z.length=S:=by
 simp[dZ]at h
 exact⟨(tJ z S).1 h.1.2,by omega,by omega,h.2⟩
end Go.Proofs.YtbhemchnjpajiaaGreatDoor.TM
namespace Go.Proofs.YtbhemchnjpajiaaGreatDoor
open Go
def dI(log:Int)(z:List Int):Bool:=(decide (log=5)&&TM.dZ z 32) || (decide (log=6)&&TM.dZ z 64)
def table(log:Nat)(z:List Int):List CM.aG:=TM.tab (2^log) (TM.st z log (2^log:Nat) (TM.F z (2^log) z.length))
end Go.Proofs.YtbhemchnjpajiaaGreatDoor
namespace Go.Proofs.YtbhemchnjpajiaaGreatDoor.RD
open Go
structure Tab where
 there:Bool
 log:Nat
 l:List CM.aG
def zu:Tab:=⟨false,0,[]⟩
structure Fr where
 window:Nat
 size:Int
 summed:Bool
 dict:aj
 text:aj
 codes:List CM.aG
 t0:Tab
 t1:Tab
 t2:Tab
 last:List Int
 blocks:Nat
def Fr.new:Fr:=⟨0,0,false,[],[],[],zu,zu,zu,[],0⟩
def Fr.tab(f:Fr):Nat->Tab
 | 0=>f.t0
 | 1=>f.t1
 | _=>f.t2
def Fr.put(f:Fr)(k:Nat)(t:Tab):Fr :=
 match k with
 | 0=>{ f with t0:=t }
 | 1=>{ f with t1:=t }
 | _=>{ f with t2:=t }
def qN(l:List Int)(i:Nat)(cs:List CM.aG):Option CM.aG:=cs.find? fun c=>worth l i c.2.1.toNat==some c.2.2
def byteOf(v:Int):UInt8:=UInt8.ofNat (v%256).toNat
def dR(l:List Int)(cs:List CM.aG):Nat->Nat->Option (aj×Nat)
 | 0,i=>some ([],i)
 | m+1,i =>
  match qN l i cs with
  | none=>none
  | some c=>(dR l cs m (i+c.2.1.toNat)).map fun r=>(byteOf c.1::r.1,r.2)
def coded(s:aj)(cs:List CM.aG)(m:Nat):Option aj :=
 match dR (ay s) cs m 0 with
 | none=>none
 | some (out,i)=>if rest (ay s) i then some out else none
def halves(s:aj):List Int:=s.flatMap fun b=>[((b.toNat%16:Nat):Int),((b.toNat/16:Nat):Int)]
def weights(s:aj)(n:Nat):Option (List Int) :=
 if s.length<(n+1)/2 then none
 else
  let l:=halves (s.take ((n+1)/2))
  if n<l.length/\l.getD n 0≠0 then none else some (l.take n)
def lY(s:aj)(cs:List CM.aG)(m i:Nat):Option (aj×Nat) :=
 if cs.length=0\/s.length<i+2 then none
 else
  let z:=au ((s.drop i).take 2)
  if s.length<i+2+z then none
  else
   match coded ((s.drop (i+2)).take z) cs m with
   | none=>none
   | some out=>some (out,i+2+z)
def literals(cs:List CM.aG)(s:aj):Option (aj×Nat×List CM.aG) :=
 if s.length<2 then none
 else
  let h:=au (s.take 2)
  let m:=h/4%2048
  if 8192<=h\/1024<m then none
  else if h%4=0 then
   if s.length<2+m then none else some ((s.drop 2).take m,2+m,cs)
  else if h%4=1 then
   if s.length<3 then none else some (List.replicate m (s.getD 2 0),3,cs)
  else if h%4=2 then
   if s.length<3 then none
   else
    match weights (s.drop 3) (ak s 2)with
    | none=>none
    | some z =>
     if CM.good z then
      match lY s (CM.codes z) m (3+(ak s 2+1)/2)with
      | none=>none
      | some (out,i)=>some (out,i,CM.codes z)
     else none
  else
   match lY s cs m 2 with
   | none=>none
   | some (out,i)=>some (out,i,cs)
def plain(k:Nat):List Int:=if k=1 then[3,3,3,3,3,3,3,2,2,2,2,2,1]else[5,3,3,2,2,2,2,2,2,2,2,1,1,1,1,1]
def most(k:Nat):Nat:=if k=1 then 13 else 16
def countOf(b:UInt8):Int:=if b.toNat=255 then -1 else(b.toNat:Int)
def aZ(k mode:Nat)(old:Tab)(s:aj):Option (Tab×Nat) :=
 if mode=0 then some (⟨true,5,table 5 (plain k)⟩,0)
 else if mode=1 then
  if s.length=0\/most k<=ak s 0 then none else some (⟨true,0,[((ak s 0:Nat),0,0)]⟩,1)
 else if mode=2 then
  if s.length=0\/s.length<2+ak s 0/16\/most k<1+ak s 0/16 then none
  else
   let z:=((s.drop 1).take (1+ak s 0/16)).map countOf
   if dI ((ak s 0%16:Nat):Int) z then some (⟨true,ak s 0%16,table (ak s 0%16) z⟩,2+ak s 0/16)else none
 else if old.there then some (old,0)else none
structure B where
 i:Nat
 short:Bool
def rd(l:List Int)(b:B)(n:Nat):Int×B :=
 match worth l b.i n with
 | none=>(0,⟨b.i,true⟩)
 | some v=>(v,⟨b.i+n,b.short⟩)
def sz(l:List Int)(b:B)(c:Nat):Int×B :=
 if c<=7 then(c,b)else(2^(c-7)+6+(rd l b (c-7)).1,(rd l b (c-7)).2)
def bG(last:List Int)(v length:Int):Int×List Int :=
 if 3<v then(v-3,[v-3,last.getD 0 0,last.getD 1 0])
 else
  let i:=if length=0 then v+1 else v
  if i=4 then(last.getD 0 0-1,[last.getD 0 0-1,last.getD 0 0,last.getD 1 0])
  else if i=1 then(last.getD 0 0,[last.getD 0 0,last.getD 1 0,last.getD 2 0])
  else if i=2 then(last.getD 1 0,[last.getD 1 0,last.getD 0 0,last.getD 2 0])
  else(last.getD 2 0,[last.getD 2 0,last.getD 0 0,last.getD 1 0])
def copyN(past:aj)(k:Nat):Nat->aj
 | 0=>past
 | m+1=>copyN past k m++[(copyN past k m).getD ((copyN past k m).length-k) 0]
structure Sq where
 b:B
 s0:Int
 s1:Int
 s2:Int
 past:aj
 lits:aj
 last:List Int
def aS(l:List CM.aG)(i:Int):CM.aG:=l.getD i.toNat (0,0,0)
def seq1(f:Fr)(l:List Int)(from':Nat)(more:Bool)(q:Sq):Option Sq :=
 let a0:=aS f.t0.l q.s0
 let a1:=aS f.t1.l q.s1
 let a2:=aS f.t2.l q.s2
 let r1:=rd l q.b a1.1.toNat
 let v:=2^a1.1.toNat+r1.1
 let r2:=sz l r1.2 a2.1.toNat
 let r0:=sz l r2.2 a0.1.toNat
 let n0:=rd l r0.2 a0.2.1.toNat
 let n2:=rd l n0.2 a2.2.1.toNat
 let n1:=rd l n2.2 a1.2.1.toNat
 let b:=if more then n1.2 else r0.2
 if b.short=true\/(q.lits.length:Int)<r0.1 then none
 else
  let past:=q.past++q.lits.take r0.1.toNat
  let bk:=bG q.last v r0.1
  if bk.1<1\/(f.window:Int)<bk.1\/(past.length:Int)<bk.1\/1024<(past.length:Int)+(3+r2.1)-from' then none
  else some ⟨b,if more then a0.2.2+n0.1 else q.s0,if more then a1.2.2+n1.1 else q.s1,if more then a2.2.2+n2.1 else q.s2,
   copyN past bk.1.toNat (3+r2.1).toNat,q.lits.drop r0.1.toNat,bk.2⟩
def eH(f:Fr)(l:List Int)(from' n:Nat)(q:Sq):Nat->Option Sq
 | 0=>some q
 | i+1 =>
  match eH f l from' n q i with
  | none=>none
  | some r=>seq1 f l from' (decide (i+1<n)) r
def eP(f:Fr)(l:List Int)(lits:aj):Sq :=
 let r0:=rd l ⟨0,false⟩ f.t0.log
 let r1:=rd l r0.2 f.t1.log
 let r2:=rd l r1.2 f.t2.log
 ⟨r2.2,r0.1,r1.1,r2.1,f.dict++f.text,lits,f.last⟩
def content(f:Fr)(lits s:aj)(n:Nat):Option (aj×List Int) :=
 match eH f (ay s) (f.dict++f.text).length n (eP f (ay s) lits) n with
 | none=>none
 | some q=>if rest (ay s) q.b.i then some (q.past.drop (f.dict++f.text).length++q.lits,q.last)else none
def packed(f:Fr)(s:aj):Option (aj×Fr) :=
 match literals f.codes s with
 | none=>none
 | some (lits,i,cs) =>
  let f:={ f with codes:=cs }
  if s.length<=i then none
  else if ak s i=0 then(if i+1=s.length then some (lits,f)else none)
  else if s.length<=i+1\/64<=ak s (i+1)then none
  else
   let md:=ak s (i+1)
   match aZ 0 (md%4) f.t0 (s.drop (i+2))with
   | none=>none
   | some (t0,k0) =>
    match aZ 1 (md/4%4) f.t1 (s.drop (i+2+k0))with
    | none=>none
    | some (t1,k1) =>
     match aZ 2 (md/16%4) f.t2 (s.drop (i+2+k0+k1))with
     | none=>none
     | some (t2,k2) =>
      let f:={ f with t0:=t0,t1:=t1,t2:=t2 }
      match content f lits (s.drop (i+2+k0+k1+k2)) (ak s i)with
      | none=>none
      | some (out,last)=>some (out,{ f with last:=last })
inductive mX (α:Type) where
 | wants
 | err (e:Nat)
 | ok (a:α)
structure aC where
 limit:Int
 aP:List (Int×aj)
def aC.find(c:aC)(id:Int):aj:=c.aP.foldl (fun d x=>if x.1=id then x.2 else d) []
inductive Phase where
 | letters
 | skip
 | header
 | blocks
 | sum
 deriving DecidableEq
structure St where
 frames:Nat
 ph:Phase
 f:Fr
 left:aj
 text:aj
def St.start(l:aj):St:=⟨0,.letters,Fr.new,l,[]⟩
def fJ:aj:=[83,75,73,80]
def iH:aj:=[83,75,78,49]
def header(c:aC)(l:aj):mX (Fr×aj) :=
 if l.length=0 then .wants
 else
  let h:=ak l 0
  let n:=1+h/32%2+3*(h/16%2)
  if l.length<n then .wants
  else if 64<=h then .err 4
  else if c.limit<((64*2^(h%8):Nat):Int)then .err 5
  else if h/32%2=1/\c.find (ak l 1)=[]then .err 6
  else .ok ({ Fr.new with window:=64*2^(h%8),size:=if h/16%2=1 then(au ((l.drop (n-3)).take 3):Nat)else -1,summed:=decide (h/8%2=1),dict:=if h/32%2=1 then c.find (ak l 1)else[],last:=[1,4,8] },l.drop n)
def inner(f:Fr)(kind m:Nat)(s:aj):Option (aj×Fr) :=
 if kind=0 then some (s,f)else if kind=1 then some (List.replicate m (s.getD 0 0),f)else packed f s
def block(f:Fr)(l:aj):mX (Bool×Fr×aj×aj) :=
 if l.length<2 then .wants
 else
  let h:=au (l.take 2)
  let kind:=h/2%4
  let m:=h/8
  if kind=3\/1024<m then .err 4
  else
   let n:=if kind=1 then 1 else m
   if l.length<2+n then .wants
   else
    match inner f kind m ((l.drop 2).take n)with
    | none=>.err 4
    | some (text,f') =>
     let all:Int:=((f.text.length+text.length:Nat):Int)
     if 1024<text.length\/(0<=f.size/\(f.size<all\/(h%2=1/\all≠f.size)))then .err 4
     else .ok (decide (h%2=1),{ f' with text:=f.text++text,blocks:=f.blocks+1 },l.drop (2+n),text)
def step(c:aC)(s:St):mX St :=
 match s.ph with
 | .letters =>
  if s.left.length<4 then .wants
  else if s.left.take 4=fJ then .ok { s with ph:=.skip,left:=s.left.drop 4 }
  else if s.left.take 4=iH then .ok { s with ph:=.header,left:=s.left.drop 4 }
  else .err 4
 | .skip =>
  if s.left.length<3\/s.left.length<3+au (s.left.take 3)then .wants
  else .ok ⟨s.frames+1,.letters,Fr.new,s.left.drop (3+au (s.left.take 3)),s.text⟩
 | .header =>
  match header c s.left with
  | .wants=>.wants
  | .err e=>.err e
  | .ok (f,l)=>.ok ⟨s.frames,.blocks,f,l,s.text⟩
 | .blocks =>
  match block s.f s.left with
  | .wants=>.wants
  | .err e=>.err e
  | .ok (last,f,l,t) =>
   if last=false then .ok ⟨s.frames,.blocks,f,l,s.text++t⟩
   else if f.summed then .ok ⟨s.frames,.sum,f,l,s.text++t⟩
   else .ok ⟨s.frames+1,.letters,Fr.new,l,s.text++t⟩
 | .sum =>
  if s.left.length<4 then .wants
  else if(au (s.left.take 4):Int)≠SM.sum s.f.text then .err 8
  else .ok ⟨s.frames+1,.letters,Fr.new,s.left.drop 4,s.text⟩
inductive Reach (c:aC):St->St->Prop where
 | refl (s:St):Reach c s s
 | tail {s t u:St}:Reach c s t->step c t=.ok u->Reach c s u
def run(c:aC):Nat->St->St×Option Nat
 | 0,s=>(s,none)
 | n+1,s =>
  match step c s with
  | .wants=>(s,none)
  | .err e=>(s,some e)
  | .ok t=>run c n t
def told(c:aC)(fed:aj)(closed:Bool):aj×Nat×(Nat×Nat) :=
 let r:=run c (fed.length+1) (St.start fed)
 (r.1.text,match r.2 with
  | some e=>e
  | none=>if closed then(if r.1.ph=.letters/\r.1.left=[]then 2 else 7)else 1,(r.1.frames,r.1.f.blocks))
end Go.Proofs.YtbhemchnjpajiaaGreatDoor.RD
