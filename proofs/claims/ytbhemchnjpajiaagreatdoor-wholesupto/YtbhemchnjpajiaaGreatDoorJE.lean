/- Several texts in one: CodeLeaves, CodeWalks, PrTab. -/
import Derived.Test.YtbhemchnjpajiaaGreatDoorJB
import Derived.Test.YtbhemchnjpajiaaGreatDoorJA
import Derived.Test.YtbhemchnjpajiaaGreatDoorJD
set_option linter.unusedVariables false
set_option maxRecDepth 100000
set_option maxHeartbeats 1000000
namespace Go.Proofs.YtbhemchnjpajiaaGreatDoor
open Go.RowKit Go.Proofs.Tryz RD
theorem GL:Lib.len8tab.size=256:=by decide +kernel
theorem Wx:∀n:Fin 256,(Lib.len8tab[n.val]'(by rw[GL];exact n.isLt)).toNat=Lib.bitLen n.val:=by decide +kernel
theorem MR(n:Nat)(h:n<Lib.len8tab.size):(Lib.len8tab[n].toNat:Int)=(Lib.bitLen n:Int):=by
 have:=Wx ⟨n,by rw[GL]at h;exact h⟩
 exact_mod_cast this
theorem Wy(x:Int)(w:World)(h0:0<=x)(h1:x<=65535) :
  Calls prog 171 #[.int .u64 x] w fun e w'=>e=.returned (.int .i64 (CM.len x))/\w'=w:=by
 unfold CM.len
 have hts:=GL
 by_cases h8:256<=x
 ·go_enter func171,ntmps171
  go_wp2
  go_ret
  refine⟨xk ?_,rfl⟩
  have e:(x/256).toNat=x.toNat/256:=by omega
  have l:=Lib.bitLen_le8 ⟨x.toNat/256,by omega⟩
  simp only at l
  have s:=Lib.bitLen_shift8 x.toNat (by omega) (by omega)
  rw[MR,e,IntWalk.wrap64_in (Lib.bitLen (x.toNat/256):Int) (by omega),IntWalk.wrap64_in _ (by omega)]
  omega
 ·go_enter func171,ntmps171
  go_wp2
  go_ret
  refine⟨xk ?_,rfl⟩
  have l:=Lib.bitLen_le8 ⟨x.toNat,by omega⟩
  simp only at l
  rw[MR,IntWalk.wrap64_in (Lib.bitLen x.toNat:Int) (by omega),IntWalk.wrap64_in _ (by omega)]
theorem len_any(x:Int)(w:World)(h0:0<=x)(h1:x<=65535) :
  Calls prog 155 #[.int .u64 x] w fun e w'=>e=.returned (.int .i64 (CM.len x))/\w'=w:=by
 go_enter func155,ntmps155
 go_wp2_with(go_at_call 171;refine(Wy x _ h0 h1).mono ?_;rintro e w' ⟨rfl,rfl⟩)
 go_ret
 exact⟨rfl,rfl⟩
theorem MV(x:Int)(w:World)(h:0<=x/\x<=8) :
  Calls prog 169 #[.int .i64 x] w fun e w'=>e=.returned (.int .i64 (CM.sp x))/\w'=w:=by
 rcases(by omega:x=0\/x=1\/x=2\/x=3\/x=4\/x=5\/x=6\/x=7\/x=8)with rfl|rfl|rfl|rfl|rfl|rfl|rfl|rfl|rfl
 all_goals
  go_enter func169,ntmps169
  go_wp2
  go_ret
  exact⟨rfl,rfl⟩
theorem zH(a:Option Addr)(n cap:Nat)(z:List Int)(w:World)(hI:Ints w a n z) :
  Calls prog 153 #[.slice a n cap] w fun e w'=>e=.returned (.bool (CM.inB z))/\w'=w:=by
 obtain⟨hl,hbig,hc⟩:=hI
 by_cases hn:n=0
 ·have hf:Hid (CM.inB z=false):=by rw[Hid];simp[CM.inB,hl,hn]
  subst hn
  go_enter func153,ntmps153
  go_wp2
  go_ret
  exact⟨lH hf.out.symm,rfl⟩
 have hn0:((n:Int)==0)=false:=by simp;omega
 by_cases h128:128<n
 ·have hf:Hid (CM.inB z=false):=by rw[Hid];simp[CM.inB,hl];omega
  go_enter func153,ntmps153
  go_wp2
  go_ret
  exact⟨lH hf.out.symm,rfl⟩
 obtain⟨b,off,rfl,hlt,hc⟩:=hc.resolve_left hn
 have hin:Hid (CM.inB z=CM.dW z):=by rw[Hid];simp[CM.inB,hl];omega
 have HC:Hid _:=hc
 clear hc
 go_enter func153,ntmps153
 go_wp2
 go_loopg[15] n (fun g kv wr=>∃k:Nat,g=n-k/\k<=n/\kv=.int .i64 (k:Int)/\Hid (CM.dW (z.take k)=true)/\wr=w)
 case atStart=>exact⟨0,by omega,by omega,rfl,rfl,rfl⟩
 case round =>
  obtain⟨k,rfl,hk,rfl,hfit,hwr⟩:=hrel
  subst hwr
  by_cases hkn:k<n
  ·have hck:=HC.out k hkn
   have hts:Hid _:=CM.yY z k (by omega)
   have hpre:Hid _:=CM.CS z (k+1)
   generalize hx:z.getD k 0=x at *
   clear hx
   by_cases hx:0<=x/\x<=8
   ·go_wp2
    go_roundg(n-(k+1))
    case rel=>exact⟨k+1,rfl,by omega,by go_num,by rw[Hid,hts.out,hfit.out];simp[hx],rfl⟩
    case measure=>omega
   ·by_cases hx0:x<0
    all_goals
     go_wp2
     go_ret
     refine⟨lH ?_,rfl⟩
     rw[hin.out,hpre.out (by rw[hts.out,hfit.out];simp;omega)]
  ·go_wp2
   go_ret
   refine⟨lH ?_,rfl⟩
   have hf:=hfit.out
   rw[List.take_of_length_le (by omega)]at hf
   rw[hin.out,hf]
theorem Dt(a:Option Addr)(n cap:Nat)(z:List Int)(w:World)(hI:Ints w a n z)(hf:CM.Fits z)(hn:1<=n/\n<=128) :
  Calls prog 154 #[.slice a n cap] w fun e w'=>e=.returned (.int .i64 (CM.tot z n))/\w'=w:=by
 obtain⟨hl,hbig,hc⟩:=hI
 obtain⟨b,off,rfl,hlt,hc⟩:=hc.resolve_left (by omega)
 have hF:Hid _:=hf
 have HC:Hid _:=hc
 clear hf hc
 go_enter func154,ntmps154
 go_wp2
 go_loopg[3,8] n (fun g tv kv wr=>∃k:Nat,g=n-k/\k<=n/\kv=.int .i64 (k:Int)/\tv=.int .i64 (CM.tot z k)/\wr=w)
 case atStart=>exact⟨0,by omega,by omega,rfl,rfl,rfl⟩
 case round =>
  obtain⟨k,rfl,hk,rfl,rfl,hwr⟩:=hrel
  subst hwr
  have ht:=CM.CU z hF.out k
  by_cases hkn:k<n
  ·have hck:=HC.out k hkn
   have hx:=CM.iY z hF.out k
   have hsp:=CM.yZ _ hx
   have hts:Hid (CM.tot z (k+1)=CM.tot z k+CM.sp (z.getD k 0)):=rfl
   generalize z.getD k 0=x at *
   go_wp2_with(go_at_call 169;refine(MV _ _ hx).mono ?_;rintro e w' ⟨rfl,rfl⟩)
   go_roundg(n-(k+1))
   case rel=>exact⟨k+1,rfl,by omega,by go_num,jY hts.out.symm,rfl⟩
   case measure=>omega
  ·obtain rfl:k=n:=by omega
   go_wp2
   go_ret
   exact⟨rfl,rfl⟩
theorem GR:(prog.info? 3).map (fun i=>(i.zero,i.size,i.bytes))=some (some (.int .i64 0),1,8):=by kernel_rfl
theorem MW:(prog.info? 3).map (·.size)=some 1:=by kernel_rfl
def gJ(n:Nat):List Value:=List.replicate n (.int .i64 0)
theorem WA(n:Nat):(gJ n).length=n:=by simp[gJ]
theorem WC(n:Nat):madeCells #[.int .i64 0] n=(gJ n).toArray:=by
 apply Array.ext
 ·simp[madeCells,gJ]
 ·intro i h1 h2
  simp[madeCells,gJ,Nat.mod_one]
theorem MX(w:World)(n:Nat)(hn:n*8<=281474976710656) :
  (Instr.makeSlice 27 (.int .i64 (n:Int)) (.int .i64 (n:Int))).run prog w =
   .ok (.slice (some ⟨w.heap.size,0,none⟩) n n) (w.alloc (.cells (gJ n).toArray 3)):=by
 obtain⟨i0,hi,hz0,hz1,hz2⟩:=info_parts GR
 have h:=run_make (P:=prog) w 27 3 i0 (.int .i64 0) underlying27 hi hz0 .i64 .i64 (n:Int) (n:Int) (by omega) (Int.le_refl _) (by rw[hz2];omega) (by omega)
 rw[h,Int.toNat_natCast,hz1,Nat.mul_one,<- WC n]
 rfl
theorem WE(W:World)(a:Option Addr)(n cap g m dc:Nat)(z:List Int)(hI:Ints W a n z)(hg:aB W g 3 (gJ m))(hnm:n<=m) :
  ∃W2,(Builtin.copy_ #[27,27] 3 #[.slice (some ⟨g,0,none⟩) m dc,.slice a n cap]).run prog W=.ok (.int .i64 (n:Int)) W2 /\
   Hid (aB W2 g 3 (intCells z++gJ (m-n)))/\Below g W W2/\W2.heap.size=W.heap.size:=by
 obtain⟨hl,hbig,hc⟩:=hI
 by_cases h0:n=0
 ·subst h0
  obtain rfl:z=[]:=List.eq_nil_of_length_eq_zero hl
  refine⟨W,?_,hg,Below.refl _ _,rfl⟩
  exact run_copy_none (P:=prog) W 27 27 3 3 _ _ m dc 0 cap underlying27 MW (by show min 0 m=0;omega)
 ·obtain⟨b,off,rfl,hlt,hc⟩:=hc.resolve_left h0
  have hlc:(intCells z).length=n:=by simp[intCells,hl]
  have hrun:=run_copy_row (P:=prog) W 27 27 3 3 g 0 m dc ⟨b,off,none⟩ n cap (gJ m).toArray 3 (intCells z) underlying27 MW hg (by rw[hlc];show n=min n m;omega)
   (by
    intro j v hj
    have hjn:j<n:=by
     rcases Nat.lt_or_ge j n with h|h
     ·exact h
     ·rw[List.getElem?_eq_none (by omega)]at hj;cases hj
    rw[zx z j (by omega)]at hj
    cases hj
    rw[addr_add]
    exact hc j hjn)
   (by simp[WA];omega) (by intro v hv;simp[intCells]at hv;obtain⟨x,-,rfl⟩:=hv;rfl)
  rw[hlc]at hrun
  refine⟨_,hrun,?_,below_setRow (Below.refl _ _) (Nat.le_refl _) _,by simp[World.setRow]⟩
  have e:(intCells z++gJ (m-n)).toArray=(List.take 0 (gJ m).toArray.toList++(intCells z++List.drop (0+n) (gJ m).toArray.toList)).toArray:=by
   simp[gJ]
  show(W.setRow g _).heap[g]?=_
  rw[e]
  rw[setRow_heap _ _ _ _ _ _ hg]
  simp
theorem WG(a:Option Addr)(n cap:Nat)(z:List Int)(last:Int)(w:World)(hI:Ints w a n z)(hn:1<=n/\n<=128) :
  Calls prog 157 #[.slice a n cap,.int .i64 last] w fun e w'=>e=.returned (.slice (some ⟨w.heap.size,0,none⟩) (n+1) (n+1))/\aB w' w.heap.size 3 (intCells (z++[last]))/\Below w.heap.size w w':=by
 have hmk:=fun u=>MX u (n+1) (by omega)
 have ec:((n+1:Nat):Int)=(n:Int)+1:=by omega
 rw[ec]at hmk
 clear ec
 have hA:Below w.heap.size w (w.alloc (.cells (gJ (n+1)).toArray 3)):=(Below.refl _ _).alloc (Nat.le_refl _) _
 obtain⟨W2,hrun,hB2,hbel,hsz⟩:=WE (w.alloc (.cells (gJ (n+1)).toArray 3)) a n cap w.heap.size (n+1) (n+1) z (hI.below hA) (aB.new w 3 (gJ (n+1))) (by omega)
 have hl:(intCells z).length=n:=by simp[intCells,hI.1]
 have hcn:W2.cell? ⟨w.heap.size,n,none⟩=some (.int .i64 0):=hB2.out.cell (by
  rw[List.getElem?_append_right (by omega),hl]
  simp[gJ])
 have hfn:=hB2.out.free n
 have qQ:Hid _:=hA.trans hbel
 clear hbel hA
 go_enter func157,ntmps157
 go_wp2
 go_ret
 refine⟨rfl,?_,?_⟩
 ·have:=hB2.out.put n (.int .i64 last)
  have e:(intCells z++gJ (n+1-n)).set n (.int .i64 last)=intCells (z++[last]):=by
   rw[List.set_append_right _ _ (by omega),hl]
   simp[gJ,intCells]
  rw[e]at this
  exact this
 ·exact qQ.out.setCell (Nat.le_refl _) _
theorem MZ:(prog.info? 245).map (fun i=>(i.zero,i.size,i.bytes))=some (some (.agg #[.int .i64 0,.int .i64 0,.int .i64 0]),3,24):=by kernel_rfl
theorem WH(a:Option Addr)(n cap:Nat)(ws:List Int)(b:Nat)(w:World)(hI:Ints w a n ws)(hn:1<=n/\n<=129)(hb:1<=b/\b<=8) :
  Calls prog 156 #[.slice a n cap,.int .i64 (b:Int)] w fun e w'=>∃v,e=.returned v/\w'.ownsRow w.heap.size 245 3 v (CM.gs ws b b).1.length (CM.cellsOf (CM.gs ws b b).1)/\Below w.heap.size w w':=by
 obtain⟨hl,hbig,hc⟩:=hI
 obtain⟨bk,off,rfl,hlt,hc'⟩:=hc.resolve_left (by omega)
 have HC:Hid _:=hc'
 clear hc hc'
 obtain⟨i0,hi,hz0,hz1,hz2⟩:=info_parts MZ
 go_enter func156,ntmps156
 go_wp2
 go_loopg[5,6,7] b (fun g v sv wv wr=>∃t:Nat,g=b-t/\t<=b/\wv=.int .i64 ((t:Int)+1)/\sv=.int .i64 (CM.gs ws b t).2/\wr.ownsRow w.heap.size 245 3 v (CM.gs ws b t).1.length (CM.cellsOf (CM.gs ws b t).1)/\Below w.heap.size w wr)
 case atStart=>exact⟨0,by omega,by omega,rfl,rfl,World.ownsRow_nil _ _ _ _,Below.refl _ _⟩
 case round =>
  obtain⟨t,rfl,ht,rfl,rfl,hown,hbel⟩:=hrel
  by_cases htb:t<b
  ·have htd:decide ((t:Int)+1<=(b:Int))=true:=by simp;omega
   have hgs:=CM.Gi ws b t (by omega)
   go_wp2_with fail
   obtain⟨wo,rfl⟩:∃wo:World,wo=wr:=⟨_,rfl⟩
   go_loopg[5,6,17] n (fun g v sv kv wr=>∃k:Nat,g=n-k/\k<=n/\kv=.int .i64 (k:Int)/\sv=.int .i64 (CM.gk ws b ((t:Int)+1) (CM.gs ws b t) k).2/\wr.ownsRow w.heap.size 245 3 v (CM.gk ws b ((t:Int)+1) (CM.gs ws b t) k).1.length (CM.cellsOf (CM.gk ws b ((t:Int)+1) (CM.gs ws b t) k).1)/\Below w.heap.size w wr)
   case atStart=>exact⟨0,by omega,by omega,rfl,rfl,hown,hbel⟩
   case round =>
    clear hown hbel
    obtain⟨k,rfl,hk,rfl,rfl,hown,hbel⟩:=hrel
    have hgk:=CM.Gh ws b ((t:Int)+1) (CM.gs ws b t) (by omega) k
    have zI:Hid (CM.gk ws b ((t:Int)+1) (CM.gs ws b t) (k+1)=if ws.getD k 0=(t:Int)+1 then((CM.gk ws b ((t:Int)+1) (CM.gs ws b t) k).1++[((k:Int),(b:Int)+1-((t:Int)+1),(CM.gk ws b ((t:Int)+1) (CM.gs ws b t) k).2/2^((t:Int)+1-1).toNat)],(CM.gk ws b ((t:Int)+1) (CM.gs ws b t) k).2+CM.sp ((t:Int)+1))else CM.gk ws b ((t:Int)+1) (CM.gs ws b t) k):=rfl
    have hfull:Hid (k=n->CM.gk ws b ((t:Int)+1) (CM.gs ws b t) k=CM.gs ws b (t+1)):=by
     rintro rfl;rw[<- hl];rfl
    have hm:t*ws.length<=8*129:=Nat.mul_le_mul (by omega) (by omega)
    generalize CM.gk ws b ((t:Int)+1) (CM.gs ws b t) k=G at *
    obtain⟨L,st⟩:=G
    simp only at hgk hown
    by_cases hkn:k<n
    ·have hck:wr.cell? ⟨bk,off+k,none⟩=some (.int .i64 (ws.getD k 0)):=(hbel.cell (p:=⟨bk,off+k,none⟩) hlt).trans (HC.out k hkn)
     generalize ws.getD k 0=x at *
     by_cases hx:x=(t:Int)+1
     ·subst hx
      have htn:((t:Int)+1-1).toNat=t:=by omega
      go_wp2_with(first|(at_builtin;refine wpList_append_own _ rfl _ _ 116 rfl w.heap.size 245 i0 _ 3 24 underlying116 hi hz0 hz1 hz2 rfl (by decide) _ _ _ rfl (hown.alloc _) ⟨wr.heap.size,0,none⟩ 1 1 [.int .i64 (k:Int),.int .i64 ((b:Int)+1-((t:Int)+1)),.int .i64 (st/2^t)] rfl rfl (CZ _ _ _ _ _) (C9 _ _ _) (by unfold maxLen;omega) (by omega) (by have:=hbel.size;simp;omega) ?_))
      intro v' w1 hown' hgrow _
      have hb1:Below w.heap.size w w1:=(hbel.alloc hbel.size _).grown hgrow (by have:=hbel.size;simp;omega) (fun j hj=>(hown.lt j hj).1)
      have hsp:=CM.yZ ((t:Int)+1) (by omega)
      clear hgrow hown hck
      go_wp2_with(go_at_call 169;refine(MV _ _ (by omega)).mono ?_;rintro e w' ⟨rfl,rfl⟩)
      go_roundg(n-(k+1))
      case rel =>
       have e:=zI.out
       rw[if_pos trivial,htn]at e
       refine⟨k+1,rfl,by omega,by go_num,by rw[e],?_,hb1⟩
       rw[e,CM.Gg]
       simpa using hown'
      case measure=>omega
     ·have hxb:(x != (t:Int)+1)=true:=by simp;omega
      go_wp2
      go_roundg(n-(k+1))
      case rel =>
       have e:=zI.out
       rw[if_neg hx]at e
       exact⟨k+1,rfl,by omega,by go_num,by rw[e],by rw[e];exact hown,hbel⟩
      case measure=>omega
    ·have hkn':k=n:=by omega
     have e:=hfull.out hkn'
     have E:Hid _:=e
     clear e
     go_wp2
     go_roundg(b-(t+1))
     case rel=>exact⟨t+1,rfl,by omega,by go_num,by rw[<- E.out],by rw[<- E.out];exact hown,hbel⟩
     case measure=>omega
  ·obtain rfl:t=b:=by omega
   go_wp2
   go_ret
   exact⟨_,rfl,hown,hbel⟩
theorem WI(a:Option Addr)(n cap:Nat)(z:List Int)(w:World)(hI:Ints w a n z)(hg:CM.good z=false) :
  Calls prog 144 #[.slice a n cap] w fun e w'=>e=.returned (.tuple #[.slice none 0 0,.int .i64 4])/\w'=w:=by
 have hl:=hI.1
 cases hin:CM.inB z with
 | false =>
  go_enter func144,ntmps144
  go_wp2_with fail
  refine(zH _ _ _ z _ hI).mono ?_
  rintro e w1 ⟨rfl,rfl⟩
  go_wp2
  go_ret2
  exact⟨rfl,rfl⟩
 | true =>
  obtain⟨hf,h1,h2⟩:=CM.uZ hin
  have ht:=CM.zf hin
  obtain⟨r1,r2,r3,r4,r5⟩:=CM.zh hin
  have hL:=CM.CV (CM.total z) ht.1 (by omega)
  have hT:Hid (CM.tot z n=CM.total z):=by rw[Hid,<- hl];rfl
  have hR:Hid (2^(CM.len (CM.total z)).toNat-CM.total z=CM.rest z):=rfl
  have hp2:=CM.iF (CM.len (CM.total z)).toNat 15 (by omega)
  have hp1:=CM.pow_pos (CM.len (CM.total z)).toNat
  have hr1:1<=2^(CM.len (CM.total z)).toNat-CM.total z:=r1
  clear r2 r3 r1
  cases hb0:(CM.total z==0)with
  | true =>
   clear hg
   go_enter func144,ntmps144
   go_wp2_with fail
   refine(zH _ _ _ z _ hI).mono ?_
   rintro e w1 ⟨rfl,rfl⟩
   rw[hin]
   go_wp2_with fail
   refine(Dt _ _ _ z _ hI hf (by omega)).mono ?_
   rintro e w1 ⟨rfl,rfl⟩
   rw[hT.out]
   go_wp2_with fail
   refine(len_any _ _ (by omega) (by omega)).mono ?_
   rintro e w1 ⟨rfl,rfl⟩
   go_wp2_with fail
   go_ret2
   exact⟨rfl,rfl⟩
  | false =>
   by_cases hb8:8<CM.len (CM.total z)
   ·have hd8:decide (8<CM.len (CM.total z))=true:=by simpa using hb8
    clear hg
    go_enter func144,ntmps144
    go_wp2_with fail
    refine(zH _ _ _ z _ hI).mono ?_
    rintro e w1 ⟨rfl,rfl⟩
    rw[hin]
    go_wp2_with fail
    refine(Dt _ _ _ z _ hI hf (by omega)).mono ?_
    rintro e w1 ⟨rfl,rfl⟩
    rw[hT.out]
    go_wp2_with fail
    refine(len_any _ _ (by omega) (by omega)).mono ?_
    rintro e w1 ⟨rfl,rfl⟩
    go_wp2_with fail
    go_ret2
    exact⟨rfl,rfl⟩
   ·have hd8:decide (8<CM.len (CM.total z))=false:=by simpa using hb8
    have hpw:(bits BinOp.and IntKind.i64 (2^(CM.len (CM.total z)).toNat-CM.total z) (2^(CM.len (CM.total z)).toNat-CM.total z-1) != 0)=true:=by
     have hne:CM.total z≠0:=by simpa using hb0
     have:CM.pw (CM.rest z)=false:=by
      simpa[CM.good,hin,hne,show CM.len (CM.total z)<=8 by omega]using hg
     rw[bne,show(bits BinOp.and IntKind.i64 (2^(CM.len (CM.total z)).toNat-CM.total z) (2^(CM.len (CM.total z)).toNat-CM.total z-1)==0)=CM.pw (CM.rest z)from rfl,this]
     rfl
    clear hg
    go_enter func144,ntmps144
    go_wp2_with fail
    refine(zH _ _ _ z _ hI).mono ?_
    rintro e w1 ⟨rfl,rfl⟩
    rw[hin]
    go_wp2_with fail
    refine(Dt _ _ _ z _ hI hf (by omega)).mono ?_
    rintro e w1 ⟨rfl,rfl⟩
    rw[hT.out]
    go_wp2_with fail
    refine(len_any _ _ (by omega) (by omega)).mono ?_
    rintro e w1 ⟨rfl,rfl⟩
    go_wp2_with fail
    go_ret2
    exact⟨rfl,rfl⟩
theorem M_{z:List Int}(hg:CM.good z=true):CM.inB z=true/\(CM.total z==0)=false/\CM.len (CM.total z)<=8/\CM.pw (CM.rest z)=true:=by
 simp[CM.good]at hg
 exact⟨hg.1.1.1,by simp[hg.1.1.2],hg.1.2,hg.2⟩
theorem WJ(a:Option Addr)(n cap:Nat)(z:List Int)(w:World)(hI:Ints w a n z)(hg:CM.good z=true) :
  Calls prog 144 #[.slice a n cap] w fun e w'=>∃v,e=.returned (.tuple #[v,.int .i64 0])/\w'.ownsRow w.heap.size 245 3 v (CM.codes z).length (CM.cellsOf (CM.codes z))/\Below w.heap.size w w':=by
 have hl:=hI.1
 obtain⟨hin,hb0,hb8,Na⟩:=M_ hg
 obtain⟨hf,h1,h2⟩:=CM.uZ hin
 have ht:=CM.zf hin
 obtain⟨r1,r2,r3,r4,r5⟩:=CM.zh hin
 have hL:=CM.CV (CM.total z) ht.1 (by omega)
 have hT:Hid (CM.tot z n=CM.total z):=by rw[Hid,<- hl];rfl
 have hR:Hid (2^(CM.len (CM.total z)).toNat-CM.total z=CM.rest z):=rfl
 have hp2:=CM.iF (CM.len (CM.total z)).toNat 15 (by omega)
 have hp1:=CM.pow_pos (CM.len (CM.total z)).toNat
 have hr1:1<=2^(CM.len (CM.total z)).toNat-CM.total z:=r1
 clear r2 r3 r1
 have hd8:decide (8<CM.len (CM.total z))=false:=by simpa using hb8
 have hpw:(bits BinOp.and IntKind.i64 (2^(CM.len (CM.total z)).toNat-CM.total z) (2^(CM.len (CM.total z)).toNat-CM.total z-1) != 0)=false:=by
  rw[bne,show(bits BinOp.and IntKind.i64 (2^(CM.len (CM.total z)).toNat-CM.total z) (2^(CM.len (CM.total z)).toNat-CM.total z-1)==0)=CM.pw (CM.rest z)from rfl,Na]
  rfl
 clear hg Na
 go_enter func144,ntmps144
 go_wp2_with fail
 refine(zH _ _ _ z _ hI).mono ?_
 rintro e w1 ⟨rfl,rfl⟩
 rw[hin]
 go_wp2_with fail
 refine(Dt _ _ _ z _ hI hf (by omega)).mono ?_
 rintro e w1 ⟨rfl,rfl⟩
 rw[hT.out]
 go_wp2_with fail
 refine(len_any _ _ (by omega) (by omega)).mono ?_
 rintro e w1 ⟨rfl,rfl⟩
 go_wp2_with fail
 refine(len_any _ _ (by omega) (by omega)).mono ?_
 rintro e w2 ⟨rfl,rfl⟩
 rw[hR.out]
 go_wp2_with fail
 refine(WG _ _ _ z _ _ hI (by omega)).mono ?_
 rintro e w3 ⟨rfl,hblk,hbel⟩
 have WL:Ints w3 (some ⟨w2.heap.size,0,none⟩) (n+1) (CM.all z):=by
  have e:(CM.all z).length=n+1:=by simp[CM.all,hl]
  have:=Ints.jg (rest:=[]) (z:=CM.all z) (by rw[List.append_nil];exact hblk) (by omega)
  rw[e]at this
  exact this
 obtain⟨bn,hbn⟩:∃bn:Nat,CM.len (CM.total z)=(bn:Int):=⟨_,rfl⟩
 have hb1:1<=bn/\bn<=8:=by
  have:CM.total z≠0:=by simpa using hb0
  omega
 go_wp2_with fail
 refine(WH _ _ _ (CM.all z) bn _ WL (by omega) hb1).mono ?_
 rintro e w4 ⟨v,rfl,hown,zJ⟩
 have hown':Hid _:=hown
 clear hown
 go_wp2
 go_ret2
 refine⟨v,rfl,?_,hbel.trans (zJ.mono hbel.size)⟩
 have e:CM.codes z=(CM.gs (CM.all z) (bn:Int) bn).1:=by unfold CM.codes;rw[hbn,Int.toNat_natCast]
 rw[e]
 exact ownsRow_base hown'.out hbel.size
theorem WM(a:Option Addr)(n cap:Nat)(z:List Int)(w:World)(hI:Ints w a n z)(hg:CM.good z=true)(hpos:0<(CM.codes z).length) :
  Calls prog 144 #[.slice a n cap] w fun e w'=>∃g c rest,e=.returned (.tuple #[.slice (some ⟨g,0,none⟩) (CM.codes z).length c,.int .i64 0])/\w.heap.size<=g/\aB w' g 245 (CM.cellsOf (CM.codes z)++rest) /\
   (CM.codes z).length<=c/\c<=maxLen/\(CM.cellsOf (CM.codes z)++rest).length=c*3/\Below w.heap.size w w':=by
 refine(WJ a n cap z w hI hg).mono ?_
 rintro e w' ⟨v,rfl,⟨h1,h2⟩,hb⟩
 rcases h2 with⟨-,h2⟩|⟨g,c,cur,rfl,hg1,hh,hn,hm,hs,ht⟩
 ·omega
 ·have e:CM.cellsOf (CM.codes z)++cur.toList.drop ((CM.codes z).length*3)=cur.toList:=by
   rw[<- ht,List.take_append_drop]
  refine⟨g,c,cur.toList.drop ((CM.codes z).length*3),rfl,hg1,?_,hn,hm,?_,hb⟩
  ·unfold aB
   rw[e]
   simpa using hh
  ·rw[e]
   simpa using hs
def h_(l:List (Int×Int)):List Value:=l.flatMap fun e=>[.int .u8 e.1,.int .u8 e.2]
theorem Nb(a b:List (Int×Int)):h_ (a++b)=h_ a++h_ b:=by simp[h_]
theorem Nc(l:List (Int×Int)):(h_ l).length=l.length*2:=by
 induction l with
 | nil=>rfl
 | cons a l ih=>simp only[h_,List.flatMap_cons,List.length_append,List.length_cons,List.length_nil]at *;omega
theorem WO(l:List (Int×Int))(i:Nat)(h:i<l.length):(h_ l)[i*2]?=some (.int .u8 (l.getD i (0,0)).1)/\(h_ l)[i*2+1]?=some (.int .u8 (l.getD i (0,0)).2):=by
 induction l generalizing i with
 | nil=>simp at h
 | cons a l ih =>
  cases i with
  | zero=>simp[h_]
  | succ i =>
   have:=ih i (by simpa using h)
   have e:h_ (a::l)=.int .u8 a.1::.int .u8 a.2::h_ l:=by simp[h_]
   rw[e,show(i+1)*2=i*2+1+1 by omega]
   simpa using this
def j_(l:List (Int×Int)):List (Int×Int):=l++List.replicate (256-l.length) (0,0)
theorem WQ(l:List (Int×Int))(h:l.length=256):j_ l=l:=by simp[j_,h]
theorem WR(l:List (Int×Int))(h:l.length<=256):(j_ l).length=256:=by simp[j_];omega
theorem WS(l:List (Int×Int))(h:l.length<256)(e:Int×Int):((h_ (j_ l)).set (l.length*2) (.int .u8 e.1)).set (l.length*2+1) (.int .u8 e.2)=h_ (j_ (l++[e])):=by
 have e1:j_ l=l++(0,0)::List.replicate (256-(l++[e]).length) (0,0):=by
  unfold j_
  rw[show 256-l.length=(256-(l++[e]).length)+1 by simp;omega,List.replicate_succ]
 have e2:j_ (l++[e])=l++e::List.replicate (256-(l++[e]).length) (0,0):=by unfold j_;simp
 rw[e1,e2,Nb,Nb]
 have c:∀(x:Int×Int) r,h_ (x::r)=.int .u8 x.1::.int .u8 x.2::h_ r:=fun x r=>by simp[h_]
 rw[c,c]
 have hl:=Nc l
 rw[List.set_append_right _ _ (by omega),List.set_append_right _ _ (by omega)]
 simp[hl]
theorem WT:zeroCells288=(h_ (j_ [])).toArray:=by kernel_rfl
theorem WU(gl c:Nat)(cs:List CM.aG)(rest:List Value)(w:World)(hc:zC cs)(hB:aB w gl 245 (CM.cellsOf cs++rest))(hcap:cs.length<=c) :
  Calls prog 145 #[.slice (some ⟨gl,0,none⟩) cs.length c] w fun e w'=>e=.returned (.pointer (some ⟨w.heap.size,0,none⟩))/\aB w' w.heap.size 288 (h_ (RD.entries cs))/\Below w.heap.size w w':=by
 have few:=hc.few
 have hgl:=hB.lt
 have hT0:aB (w.alloc (.cells zeroCells288 288)) w.heap.size 288 (h_ (j_ (RD.entries (cs.take 0)))):=by
  rw[WT]
  exact aB.new w _ _
 have hb0:Below w.heap.size w (w.alloc (.cells zeroCells288 288)):=(Below.refl _ w).alloc (Nat.le_refl _) _
 go_enter func145,ntmps145
 go_wp2
 generalize w.alloc (.cells zeroCells288 288)=w0 at *
 generalize hT:w.heap.size=T at *
 go_loopg[10] (cs.length+1) (fun gh kv wr=>∃k:Nat,gh=cs.length+1-k/\k<=cs.length/\kv=.int .i64 (k:Int)/\aB wr T 288 (h_ (j_ (RD.entries (cs.take k))))/\Below T w wr)
 case atStart=>exact⟨0,rfl,by omega,rfl,hT0,hb0⟩
 case round =>
  obtain⟨k,rfl,hk,rfl,hb,hbel⟩:=hrel
  by_cases hlt:k<cs.length
  ·have yP:=hB.below hbel (by omega)
   obtain⟨q0,q1,q2⟩:=CM.cellsOf_at cs k hlt
   have hcl:=CM.cellsOf_length cs
   have d0:=yP.cell (j:=k*3) (by rw[List.getElem?_append_left (by omega)];exact q0)
   have d1:=yP.cell (j:=k*3+1) (by rw[List.getElem?_append_left (by omega)];exact q1)
   have d2:=yP.cell (j:=k*3+2) (by rw[List.getElem?_append_left (by omega)];exact q2)
   obtain⟨a1,a2,a3,a4,a5,a6⟩:=hc.each k hlt
   have hge:cs.getD k (0,0,0)=cs[k]:=by rw[List.getD_eq_getElem?_getD,List.getElem?_eq_getElem hlt];rfl
   rw[hge]at d0 d1 d2
   have hE:=Gz cs (show k+1<=cs.length by omega)
   have hEs:RD.entries (cs.take (k+1))=RD.entries (cs.take k)++List.replicate (2^(8-(cs[k]).2.1.toNat)) ((cs[k]).1,(cs[k]).2.1):=by
    rw[List.take_succ_eq_append_getElem hlt,zB,Dl]
   rw[List.take_length,hc.all,hEs,List.length_append,List.length_replicate]at hE
   replace hEs:=aA hEs
   clear hge q0 q1 q2 hcl
   generalize cs[k]=tri at *
   obtain⟨V,B,N⟩:=tri
   simp only[]at a1 a2 a3 a4 a5 a6 d0 d1 d2 hE hEs
   obtain⟨V,rfl⟩:=Int.eq_ofNat_of_zero_le a1
   obtain⟨N,rfl⟩:=Int.eq_ofNat_of_zero_le a5
   obtain⟨R,hR⟩:∃R:Nat,B=8-(R:Int):=⟨(8-B).toNat,by omega⟩
   subst hR
   rw[show 8-(8-(R:Int)).toNat=R by omega]at hE a6 hEs
   obtain⟨P,hP⟩:∃P:Nat,P=2^R:=⟨_,rfl⟩
   obtain⟨D,hD⟩:∃D:Nat,D=(RD.entries (cs.take k)).length:=⟨_,rfl⟩
   rw[<- hP]at hE hEs
   rw[<- hD]at hE a6
   have hP':(2:Int)^R=(P:Int):=by rw[hP];simp
   replace hP:=aA hP
   replace hD:=aA hD
   rw[hP']at a6
   have hPb:(P:Int)<=256/\(D:Int)<=256:=by clear hP' a6 hEs;omega
   have hPw:wrap64 ((2:Int)^R)=(P:Int):=by rw[hP'];exact IntWalk.wrap64_in _ ⟨by clear hP';omega,by clear hP';omega⟩
   have ou:wrap64 ((N:Int)*2^R)=(D:Int):=by rw[hP',a6];exact IntWalk.wrap64_in _ ⟨by clear hP' a6 hPw;omega,by clear hP' a6 hPw;omega⟩
   have GU:IntKind.i64.wrap ((N:Int)*2^R)=(D:Int):=by rw[hP',a6,IntKind.wrap_i64];clear hP' a6 hPw ou;omega
   have WV:=aA GU
   have hRn:(8-(8-(R:Int)))=(R:Int):=by clear hP' a6 hPw ou GU;omega
   have WX:=aA hPw
   have HDw:=aA ou
   have HB:=aA hB
   have WY:=aA hbel
   have HT:=aA hb
   have hwr:wr.heap.size≥T:=by have:=hbel.size;omega
   clear hP' hPw ou GU yP hb0 hT0 a6 hB hb hbel
   go_wp2_with fail
   rw[WX.out]
   have hcd:aB (wr.alloc (.cells #[.int .i64 (V:Int),.int .i64 (8-(R:Int)),.int .i64 (N:Int)] 245)) wr.heap.size 245 [.int .i64 V,.int .i64 (8-(R:Int)),.int .i64 N]:=aB.new _ _ _
   have WZ:Hid (Below T w (wr.alloc (.cells #[.int .i64 (V:Int),.int .i64 (8-(R:Int)),.int .i64 (N:Int)] 245))):=WY.out.alloc hwr _
   have HT1:Hid (aB (wr.alloc (.cells #[.int .i64 (V:Int),.int .i64 (8-(R:Int)),.int .i64 (N:Int)] 245)) T 288 (h_ (j_ (RD.entries (cs.take k))))):=HT.out.alloc _
   have Nh:T≠wr.heap.size:=fun e=>by have:=HT.out.lt;omega
   generalize wr.alloc (.cells #[.int .i64 (V:Int),.int .i64 (8-(R:Int)),.int .i64 (N:Int)] 245)=w2 at *
   generalize wr.heap.size=S at *
   go_loopg[19] (P+1) (fun gh jv wr'=>∃j:Nat,gh=P+1-j/\j<=P/\jv=.int .i64 (j:Int)/\aB wr' T 288 (h_ (j_ (RD.entries (cs.take k)++List.replicate j ((V:Int),8-(R:Int)))))/\Below T w wr'/\aB wr' S 245 [.int .i64 V,.int .i64 (8-(R:Int)),.int .i64 N])
   case atStart=>exact⟨0,rfl,by omega,rfl,by simpa using HT1.out,WZ.out,hcd⟩
   case round =>
    obtain⟨j,rfl,hj,rfl,hbj,GV,hcj⟩:=hrel
    have e0:=hcj.cell (j:=0) rfl
    have e1:=hcj.cell (j:=1) rfl
    have e2:=hcj.cell (j:=2) rfl
    by_cases hlj:j<P
    ·have iU:(RD.entries (cs.take k)++List.replicate j ((V:Int),8-(R:Int))).length=D+j:=by rw[List.length_append,List.length_replicate,<- hD.out]
     have hTl:=Nc (j_ (RD.entries (cs.take k)++List.replicate j ((V:Int),8-(R:Int))))
     rw[WR _ (by omega)]at hTl
     have g0:∃v,wr.cell? ⟨T,(D+j)*2,none⟩=some v:=⟨_,hbj.cell (List.getElem?_eq_getElem (by omega))⟩
     have g1:∃v,wr.cell? ⟨T,(D+j)*2+1,none⟩=some v:=⟨_,hbj.cell (List.getElem?_eq_getElem (by omega))⟩
     obtain⟨y0,g0⟩:=g0
     obtain⟨y1,g1⟩:=g1
     have fz:=hbj.free
     have HB:=aA hbj
     have HC:=aA hcj
     have HL:=aA GV
     clear hbj hcj GV
     have aDj:IntKind.i64.wrap ((D:Int)+(j:Int))=(D:Int)+(j:Int):=by rw[IntKind.wrap_i64];omega
     have b1:(0:Int)<=(D:Int)+(j:Int):=by omega
     have b2:(D:Int)+(j:Int)<256:=by omega
     have b3:((D:Int)+(j:Int)).toNat=D+j:=by omega
     have b4:¬(D:Int)+(j:Int)<0:=by omega
     have b5:¬(256:Int)<=(D:Int)+(j:Int):=by omega
     have b6:D+j<256:=by omega
     have u1:IntKind.u8.wrap (V:Int)=(V:Int):=by rw[IntKind.wrap_u8];omega
     have u2:IntKind.u8.wrap (8-(R:Int))=8-(R:Int):=by rw[IntKind.wrap_u8];omega
     have aD:=WV.out
     go_wp2_with fail
     have hput:=HB.out.put ((D+j)*2) (.int .u8 (V:Int))
     replace hput:=hput.put ((D+j)*2+1) (.int .u8 (8-(R:Int)))
     rw[<- iU,WS _ (by omega) ((V:Int),8-(R:Int)),iU,List.append_assoc,<- List.replicate_succ']at hput
     have hoth:=(HC.out.other ⟨T,(D+j)*2,none⟩ (.int .u8 (V:Int)) (fun e=>Nh e.symm)).other ⟨T,(D+j)*2+1,none⟩ (.int .u8 (8-(R:Int))) (fun e=>Nh e.symm)
     have dh:=(HL.out.setCell (Nat.le_refl T) (p:=⟨T,(D+j)*2,none⟩) (.int .u8 (V:Int))).setCell (Nat.le_refl T) (p:=⟨T,(D+j)*2+1,none⟩) (.int .u8 (8-(R:Int)))
     replace hput:=aA hput
     replace hoth:=aA hoth
     replace dh:=aA dh
     go_region_with fail
     all_goals(go_wp2_with fail;go_roundg(P+1-(j+1)))
     all_goals first
      | omega
      | exact⟨j+1,rfl,by omega,by go_num,hput.out,⟨dh.out.os,dh.out.tape,dh.out.output,dh.out.size,dh.out.block⟩,hoth.out⟩
    ·obtain rfl:j=P:=by omega
     go_wp2_with fail
     go_roundg(cs.length+1-(k+1))
     case rel=>exact⟨k+1,rfl,by omega,by go_num,by rw[hEs.out];exact hbj,GV⟩
     case measure=>omega
  ·obtain rfl:k=cs.length:=by omega
   rw[List.take_length,WQ _ hc.all]at hb
   go_wp2_with fail
   go_ret
   subst hT
   exact⟨rfl,hb,hbel⟩
end Go.Proofs.YtbhemchnjpajiaaGreatDoor
