/- Several texts in one: QWhs. -/
import Derived.Test.YtbhemchnjpajiaaGreatDoorMN
import Derived.Test.YtbhemchnjpajiaaGreatDoorMO
import Derived.Test.YtbhemchnjpajiaaGreatDoorMP
import Derived.Test.YtbhemchnjpajiaaGreatDoorMQ
set_option linter.unusedVariables false
set_option maxRecDepth 100000
set_option maxHeartbeats 4000000
namespace Go.Proofs.YtbhemchnjpajiaaGreatDoor
open Go.RowKit Go.Proofs.Tryz RD
theorem ahn:lU:=fun a n cap z w h=>agB a n cap z w h
theorem aho:je:=fun log a n cap z w h=>ag_ log a n cap z w h
theorem aj0(x:Fx)(lim:Int)(ds:List (Int×aj))(v:Value)(s:aj)(w:World)(lW:-9223372036854775808<=lim/\lim<=9223372036854775807)(hD:iE w v ds)(hn:ds.length<=140737488355328)(ht:∀d∈ds,d.2.length<=140737488355328)(hs:s.length<=268435456)(hV:bI x w)(hE:jE x w) :
  Calls prog 6 #[.agg #[.int .i64 lim,v],.string (ah s)] w fun e w'=>e=.returned (.bool true)/\Below w.heap.size w w':=by
 obtain⟨a,cc,rfl,hcc,-⟩:=id hD
 have hb0:Below w.heap.size w (w.alloc (.cells #[.int .i64 lim,.slice a ds.length cc] 24)):=(Below.refl _ w).alloc (Nat.le_refl _) _
 have hB0:=aB.new w 24 [.int .i64 lim,.slice a ds.length cc]
 obtain⟨W0,hW0⟩:∃W,w.alloc (.cells #[.int .i64 lim,.slice a ds.length cc] 24)=W:=⟨_,rfl⟩
 rw[hW0]at hb0 hB0
 replace hW0:=aA hW0
 have hD0:=hD.below hb0
 obtain⟨T,E,hT,hwh⟩:∃T E,(∀W,Below W0.heap.size W0 W->Calls prog 18 #[.agg #[.int .i64 lim,.slice a ds.length cc],.string (ah s)] W fun e w'=>e=.returned (.tuple #[.string T,.int .i64 E])/\Below W.heap.size W w')/\Calls prog 17 #[.agg #[.int .i64 lim,.slice a ds.length cc],.string (ah s)] W0 fun e w'=>e=.returned (.tuple #[.string T,.int .i64 E])/\Below W0.heap.size W0 w':=by
  by_cases hg:dK lim ds=true
  ·refine⟨ah (RD.told ⟨lim,ds⟩ s true).1,(errOf (RD.told ⟨lim,ds⟩ s true).2.1:Nat),fun W hW=>?_,?_⟩
   ·refine(agc ahn aho lim ds _ s W lW (hD0.below hW) hn ht hs).mono ?_
    rintro e w' ⟨h1,⟨h2,_⟩|⟨_,h2⟩⟩
    ·rw[hg]at h2;cases h2
    ·exact⟨h2,h1⟩
   ·exact ahl x ⟨lim,ds⟩ hg s _ W0 hD0 (hV.below hb0) (hE.below hV hb0) hs
  ·have hg:dK lim ds=false:=by simpa using hg
   refine⟨⟨#[]⟩,3,fun W hW=>?_,?_⟩
   ·refine(agc ahn aho lim ds _ s W lW (hD0.below hW) hn ht hs).mono ?_
    rintro e w' ⟨h1,⟨_,h2⟩|⟨h2,_⟩⟩
    ·exact⟨h2,h1⟩
    ·rw[hg]at h2;cases h2
   ·exact ahm lim ds s _ W0 lW hD0 hn ht hg
 go_enter func6,ntmps6
 go_wp2_with fail
 rw[hW0.out]
 refine hwh.mono ?_
 rintro e w1 ⟨rfl,hb1⟩
 have hB1:=hB0.below hb1 hB0.lt
 have k0:=hB1.cell (j:=0) rfl
 have k1:=hB1.cell (j:=1) rfl
 have Xk:=hT w1 hb1
 have heq:(T.toList==T.toList)=true:=by simp
 have heE:(E==E)=true:=by simp
 have hbw:Below w.heap.size w w1:=hb0.trans ⟨hb1.os,hb1.tape,hb1.output,hb1.size,fun k hk=>hb1.block k (Nat.lt_of_lt_of_le hk hb0.size)⟩
 go_wp2_with fail
 refine Xk.mono ?_
 rintro e w2 ⟨rfl,hb2⟩
 have hbw2:Below w.heap.size w w2:=hbw.trans ⟨hb2.os,hb2.tape,hb2.output,hb2.size,fun k hk=>hb2.block k (Nat.lt_of_lt_of_le hk hbw.size)⟩
 go_wp2_with fail
 go_ret
 exact⟨rfl,hbw2⟩
end Go.Proofs.YtbhemchnjpajiaaGreatDoor
