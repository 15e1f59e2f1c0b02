/-
  Texts of this claim that are laid as one: EnSml, EnSmV.
-/
import Derived.Test.YtakafmejllilnaaGreatF7
import Derived.Test.YtakafmejllilnaaGreatF2
import Derived.Test.YtakafmejllilnaaGreatF8
import Derived.Deep.RegionHeld3
/-
 small: has a request few and small parts?
-/
namespace Go.Proofs.YtakafmejllilnaaGreat
open Go.RowKit
def SmQ (r:Rq):Prop:=r.c.length≤200∧r.n.length≤1000∧r.f.length≤1000∧r.p.length≤1000∧∀ y∈r.c,y.p.length≤1000
def SmP (w:World) (P:Prop) (e:Ending) (w':World):Prop:=∃ b:Bool,e=.returned (.bool b)∧(b=true→P)∧Kept [] w w'
def SqJ (x:Rm) (jv:Value):Prop:=∃ j:Nat,jv=.int .i64 (j:Int)∧j≤x.r.c.length∧Hid (∀ q (h:q < x.r.c.length),q < j→x.r.c[q].p.length≤1000)
set_option maxHeartbeats 8000000 in
set_option maxRecDepth 100000 in
theorem small_call (w:World) (x:Rm) (hS:SlC w x.mo x.m x.mc x.r.c) :
 Calls Tryz.prog 66 #[rqV x] w (SmP w (SmQ x.r)):=by
 have hml:=hS.1
 have hmc:=hS.2.1
 have hmm:=hS.2.2.1
 unfold maxLen at hmm
 obtain ⟨W,hW⟩:∃ W,W=w.alloc (.cells #[.int .i64 x.r.k,.string (str x.r.n),.int .i64 x.r.s,.int .i64 x.r.q,.int .i64 x.r.b,.string (str x.r.f),.slice x.mo x.m x.mc,.string (str x.r.p),.int .i64 x.r.fr,.int .i64 x.r.mn,.int .i64 x.r.mb] 29):=⟨_,rfl⟩
 have HW:=hide hW
 have HK:Hid (Kept [] w W):=by rw [hW];exact (Kept.refl _ _).alloc _
 have hB:Bx W w.heap.size 29 (rqC x):=by rw [hW];exact Bx.new w _ (rqC x)
 have c1:W.cell? ⟨w.heap.size,1,none⟩=some (.string (str x.r.n)):=hB.cell 1 rfl
 have c5:W.cell? ⟨w.heap.size,5,none⟩=some (.string (str x.r.f)):=hB.cell 5 rfl
 have c6:W.cell? ⟨w.heap.size,6,none⟩=some (.slice x.mo x.m x.mc):=hB.cell 6 rfl
 have c7:W.cell? ⟨w.heap.size,7,none⟩=some (.string (str x.r.p)):=hB.cell 7 rfl
 have HL:=hide (hS.kept HK.out (by simp))
 have HNO:Hid (SmP w (SmQ x.r) (.returned (.bool false)) W):=⟨false,rfl,by simp,HK.out⟩
 clear hB hW
 have hsn:(str x.r.n).size=x.r.n.length:=str_size _
 have hsf:(str x.r.f).size=x.r.f.length:=str_size _
 have hsp:(str x.r.p).size=x.r.p.length:=str_size _
 clear hS
 unfold rqV
 by_cases hl4:200 < x.m
 ·have hl4':(200:Int) < x.m:=by omega
  go_enter Tryz.func66,Tryz.ntmps66
  go_upto_region 1 with fail
  rw [← HW.out]
  go_wp2_with fail
  go_ret
  exact HNO.out
 have hl4':¬ (200:Int) < x.m:=by omega
 by_cases hn3:1000 < x.r.n.length
 ·have hn3':(1000:Int) < x.r.n.length:=by omega
  go_enter Tryz.func66,Tryz.ntmps66
  go_upto_region 1 with fail
  rw [← HW.out]
  go_wp2_with fail
  go_ret
  exact HNO.out
 have hn3':¬ (1000:Int) < x.r.n.length:=by omega
 by_cases hf3:1000 < x.r.f.length
 ·have hf3':(1000:Int) < x.r.f.length:=by omega
  go_enter Tryz.func66,Tryz.ntmps66
  go_upto_region 1 with fail
  rw [← HW.out]
  go_wp2_with fail
  go_ret
  exact HNO.out
 have hf3':¬ (1000:Int) < x.r.f.length:=by omega
 by_cases hp3:1000 < x.r.p.length
 ·have hp3':(1000:Int) < x.r.p.length:=by omega
  go_enter Tryz.func66,Tryz.ntmps66
  go_upto_region 1 with fail
  rw [← HW.out]
  go_wp2_with fail
  go_ret
  exact HNO.out
 have hp3':¬ (1000:Int) < x.r.p.length:=by omega
 go_enter Tryz.func66,Tryz.ntmps66
 go_upto_region 1 with fail
 rw [← HW.out]
 go_wp2_with fail
 go_loop [3] (fun jv=>SqJ x jv) (fun jv=>x.m - (intOf jv).toNat)
 case atStart=>exact ⟨0,rfl,Nat.zero_le _,fun j h h2=>by omega⟩
 case round =>
  obtain ⟨j,rfl,hj,HJ⟩:=hrel
  by_cases hjl:j < x.m
  ·have hjl':(j:Int) < x.m:=by omega
   have hjc:j≤x.mc:=by omega
   obtain ⟨g2,o2,hmo,hy⟩:=HL.out.2.2.2 j (by omega)
   obtain ⟨y,hye⟩:∃ y,y=x.r.c[j]'(by omega):=⟨_,rfl⟩
   rw [← hye] at hy
   have HY:Hid (y=x.r.c[j]'(by omega)):=hye
   obtain ⟨d0,d1,d2⟩:=hy
   have hsy:(str y.p).size=y.p.length:=str_size _
   rw [hmo] at c6
   clear hye d1 d2 hmo
   by_cases hy3:1000 < y.p.length
   ·have hy3':(1000:Int) < y.p.length:=by omega
    go_wp2_with fail
    go_ret
    exact HNO.out
   ·have hy3':¬ (1000:Int) < y.p.length:=by omega
    have HJ2:Hid (∀ q (h:q < x.r.c.length),q < j+1→x.r.c[q].p.length≤1000):=fun q h h2=>by
     by_cases e:q=j
     ·subst e;rw [← HY.out];omega
     ·exact HJ.out q h (by omega)
    go_wp2_with fail
    go_round
    case rel=>exact ⟨j+1,by go_num,by omega,HJ2⟩
    case measure=>simp [intOf];omega
  ·have hjl':¬ (j:Int) < x.m:=by omega
   have HY:Hid (SmQ x.r):=⟨by omega,by omega,by omega,by omega,fun y hy=>by
    obtain ⟨q,hq,rfl⟩:=List.getElem_of_mem hy
    exact HJ.out q hq (by omega)⟩
   go_wp2_with fail
   go_ret
   exact ⟨true,rfl,fun _=>HY.out,HK.out⟩
def SaB (w:World) (e:Ending) (w':World):Prop:=∃ b:Bool,e=.returned (.bool b)∧Kept [] w w'
def SvI (W:World) (n:Nat) (iv:Value) (wr:World):Prop:=∃ i:Nat,iv=.int .i64 (i:Int)∧i≤n∧Hid (Kept [] W wr)
set_option maxHeartbeats 8000000 in
set_option maxRecDepth 100000 in
theorem smallV_call (w:World) (x:Vt) (u:Value) (h:KoV w u x.k) :
 Calls Tryz.prog 25 #[vtV x u] w (SaB w):=by
 obtain ⟨ao,n,c,K,rfl,hK,_,_⟩:=h
 obtain ⟨W,hW⟩:∃ W,W=w.alloc (.cells #[.int .i64 x.c,.int .i64 x.s,.int .i64 x.r,.string (str x.p),.int .u64 x.d,.slice ao n c,.int .i64 x.m] 34):=⟨_,rfl⟩
 have HW:=hide hW
 have HK0:Hid (Kept [] w W):=by rw [hW];exact (Kept.refl _ _).alloc _
 have hB:Bx W w.heap.size 34 (vtLE x (.slice ao n c)):=by rw [hW];exact Bx.new w _ (vtLE x (.slice ao n c))
 have HBx:=hide hB
 have c3:W.cell? ⟨w.heap.size,3,none⟩=some (.string (str x.p)):=hB.cell 3 rfl
 have c5:W.cell? ⟨w.heap.size,5,none⟩=some (.slice ao n c):=hB.cell 5 rfl
 have hl:=hK.1
 have hc:=hK.2.1
 have hm:=hK.2.2.1
 unfold maxLen at hm
 have HL:Hid (K.length=n):=hl
 have HK:Hid (SlK W ao n c K):=hK.kept HK0.out
 have hsp:(str x.p).size=x.p.length:=str_size _
 clear hB hW hK hl
 unfold vtV
 by_cases hn:100 < n
 ·have hn':(100:Int) < n:=by omega
  go_enter Tryz.func25,Tryz.ntmps25
  go_upto_region 1 with fail
  rw [← HW.out]
  go_wp2_with fail
  go_ret
  exact ⟨false,rfl,HK0.out⟩
 have hn':¬ (100:Int) < n:=by omega
 by_cases hp:1000 < x.p.length
 ·have hp':(1000:Int) < x.p.length:=by omega
  go_enter Tryz.func25,Tryz.ntmps25
  go_upto_region 1 with fail
  rw [← HW.out]
  go_wp2_with fail
  go_ret
  exact ⟨false,rfl,HK0.out⟩
 have hp':¬ (1000:Int) < x.p.length:=by omega
 go_enter Tryz.func25,Tryz.ntmps25
 go_upto_region 1 with fail
 rw [← HW.out]
 go_wp2_with fail
 clear c5 c3
 go_loopw [3] (fun iv wr=>SvI W n iv wr) (fun iv _=>n - (intOf iv).toNat)
 case atStart=>exact ⟨0,rfl,Nat.zero_le _,Kept.refl _ _⟩
 case round =>
  obtain ⟨i,rfl,hi,HR⟩:=hrel
  have c5:wr.cell? ⟨w.heap.size,5,none⟩=some (.slice ao n c):=(HBx.out.kept HR.out (by simp)).cell 5 rfl
  by_cases hlt:i < n
  ·have hlt':(i:Int) < n:=by omega
   have hic:i≤c:=by omega
   have hiK:i < K.length:=by rw [HL.out];exact hlt
   obtain ⟨g,o,rfl,hx⟩:=HK.out.2.2.2.1 i hiK
   obtain ⟨mo,mm,mc,e1,hs1,_⟩:=HK.out.2.2.2.2 _ (List.getElem_mem hiK)
   obtain ⟨_,_,x2,x3⟩:=hx.kept HR.out (by simp)
   rw [e1] at x3
   have cS:=fun W2 (hk:Kept [] wr W2)=>small_call W2 ⟨⟨0,[],0,0,0,K[i].1.n,K[i].1.c,[],0,0,0⟩,mo,mm,mc⟩ ((hs1.kept HR.out (by simp)).kept hk (by simp))
   generalize K[i].1=y at *
   clear hx hs1 e1
   go_wp2_with fail
   go_region_held3 (fun w'=>w'.cell? ⟨w.heap.size,5,none⟩=some (.slice (some ⟨g,o,none⟩) n c)∧w'.cell? ⟨g,o+i*4+2,none⟩=some (.string (str y.n))∧w'.cell? ⟨g,o+i*4+3,none⟩=some (.slice mo mm mc))
    (first | go_keep | exact ⟨hK3.cell c5 (by simp),hK3.cell x2 (by simp),hK3.cell x3 (by simp)⟩)
    (first
      | (go_at_call 66;refine (cS _ ?_).mono ?_;exact (Kept.refl [] _).drew;rintro e w3 ⟨b3,rfl,hb3,hK3⟩;clear hb3;replace hK3:=(Kept.refl [] wr).drew.trans hK3 (by simp)))
   cases b3
   ·have HW3:Hid (Kept [] w w3):=(HK0.out.trans HR.out (by simp)).trans hK3 (by simp)
    clear cS hK3
    go_wp2_with fail
    go_ret
    exact ⟨false,rfl,HW3.out⟩
   ·have HW3:Hid (Kept [] W w3):=HR.out.trans hK3 (by simp)
    clear cS hK3
    go_wp2_with fail
    go_roundw
    case rel=>exact ⟨i+1,by go_num,by omega,HW3⟩
    case measure=>simp [intOf];omega
  ·have hlt':¬ (i:Int) < n:=by omega
   go_wp2_with fail
   go_ret
   exact ⟨true,rfl,HK0.out.trans HR.out (by simp)⟩
end Go.Proofs.YtakafmejllilnaaGreat
