/-
  Texts of this claim that are laid as one: EnSmC, EnSmD, EnSmE.
-/
import Derived.Test.YtakafmejllilnaaGreatF9
import Derived.Test.YtakafmejllilnaaGreatF7
/-
 sameCommit. (Written by mk/mksame.py.)
-/
namespace Go.Proofs.YtakafmejllilnaaGreat
open Go.RowKit
set_option maxHeartbeats 4000000 in
set_option maxRecDepth 100000 in
theorem cosame_r (w:World) (xr:Int) (yr:Int) (xb:Int) (yb:Int) (xn:List UInt8) (yn:List UInt8) (ao bo:Option Addr) (n m c d:Nat) (hne:xr≠yr) :
 Calls Tryz.prog 100 #[.agg #[.int .i64 xr,.int .i64 xb,.string (str xn),.slice ao n c],.agg #[.int .i64 yr,.int .i64 yb,.string (str yn),.slice bo m d]] w fun e w'=>e=.returned (.bool false)∧Kept [] w w':=by
 have hKa:Kept [] w ((w.alloc (.cells #[.int .i64 xr,.int .i64 xb,.string (str xn),.slice ao n c] 108)).alloc (.cells #[.int .i64 yr,.int .i64 yb,.string (str yn),.slice bo m d] 108)):=((Kept.refl [] w).alloc _).alloc _
 have hb:(xr==yr)=false:=by simpa using hne
 clear hne
 go_enter Tryz.func100,Tryz.ntmps100
 go_wp2_with fail
 go_ret
 exact ⟨rfl,hKa⟩
set_option maxHeartbeats 4000000 in
set_option maxRecDepth 100000 in
theorem cosame_b (w:World) (xr:Int) (xb:Int) (yb:Int) (xn:List UInt8) (yn:List UInt8) (ao bo:Option Addr) (n m c d:Nat) (hne:xb≠yb) :
 Calls Tryz.prog 100 #[.agg #[.int .i64 xr,.int .i64 xb,.string (str xn),.slice ao n c],.agg #[.int .i64 xr,.int .i64 yb,.string (str yn),.slice bo m d]] w fun e w'=>e=.returned (.bool false)∧Kept [] w w':=by
 have hKa:Kept [] w ((w.alloc (.cells #[.int .i64 xr,.int .i64 xb,.string (str xn),.slice ao n c] 108)).alloc (.cells #[.int .i64 xr,.int .i64 yb,.string (str yn),.slice bo m d] 108)):=((Kept.refl [] w).alloc _).alloc _
 have hb:(xb==yb)=false:=by simpa using hne
 clear hne
 go_enter Tryz.func100,Tryz.ntmps100
 go_wp2_with fail
 go_ret
 exact ⟨rfl,hKa⟩
set_option maxHeartbeats 4000000 in
set_option maxRecDepth 100000 in
theorem cosame_n (w:World) (xr:Int) (xb:Int) (xn:List UInt8) (yn:List UInt8) (ao bo:Option Addr) (n m c d:Nat) (hne:xn≠yn) :
 Calls Tryz.prog 100 #[.agg #[.int .i64 xr,.int .i64 xb,.string (str xn),.slice ao n c],.agg #[.int .i64 xr,.int .i64 xb,.string (str yn),.slice bo m d]] w fun e w'=>e=.returned (.bool false)∧Kept [] w w':=by
 have hKa:Kept [] w ((w.alloc (.cells #[.int .i64 xr,.int .i64 xb,.string (str xn),.slice ao n c] 108)).alloc (.cells #[.int .i64 xr,.int .i64 xb,.string (str yn),.slice bo m d] 108)):=((Kept.refl [] w).alloc _).alloc _
 have hb:¬ (str xn).toList=(str yn).toList:=fun h=>hne (by rw [Go.ByteArray.toList_eq,Go.ByteArray.toList_eq,str_data,str_data] at h;exact h)
 clear hne
 go_enter Tryz.func100,Tryz.ntmps100
 go_wp2_with fail
 go_ret
 exact ⟨rfl,hKa⟩
set_option maxHeartbeats 4000000 in
set_option maxRecDepth 100000 in
theorem cosame_c (w:World) (xr:Int) (xb:Int) (xn:List UInt8) (ao bo:Option Addr) (n m c d:Nat) (L M:List Ch) (hL:SlC w ao n c L) (hM:SlC w bo m d M) (hl:¬ L=M) :
 Calls Tryz.prog 100 #[.agg #[.int .i64 xr,.int .i64 xb,.string (str xn),.slice ao n c],.agg #[.int .i64 xr,.int .i64 xb,.string (str xn),.slice bo m d]] w fun e w'=>e=.returned (.bool false)∧Kept [] w w':=by
 have hKa:Kept [] w ((w.alloc (.cells #[.int .i64 xr,.int .i64 xb,.string (str xn),.slice ao n c] 108)).alloc (.cells #[.int .i64 xr,.int .i64 xb,.string (str xn),.slice bo m d] 108)):=((Kept.refl [] w).alloc _).alloc _
 have cS:=equal_kept _ ao bo n m c d L M (hL.kept hKa (by simp)) (hM.kept hKa (by simp))
 rw [decide_eq_false hl] at cS
 clear hl hL hM
 go_enter Tryz.func100,Tryz.ntmps100
 go_wp2_with fail
 refine cS.mono ?_
 rintro _ w1 ⟨rfl,hK⟩
 go_wp2_with fail
 go_ret
 exact ⟨rfl,hKa.trans hK (by simp)⟩
set_option maxHeartbeats 4000000 in
set_option maxRecDepth 100000 in
theorem cosame_all (w:World) (xr:Int) (xb:Int) (xn:List UInt8) (ao bo:Option Addr) (n m c d:Nat) (L M:List Ch) (hL:SlC w ao n c L) (hM:SlC w bo m d M) (hl:L=M) :
 Calls Tryz.prog 100 #[.agg #[.int .i64 xr,.int .i64 xb,.string (str xn),.slice ao n c],.agg #[.int .i64 xr,.int .i64 xb,.string (str xn),.slice bo m d]] w fun e w'=>e=.returned (.bool true)∧Kept [] w w':=by
 have hKa:Kept [] w ((w.alloc (.cells #[.int .i64 xr,.int .i64 xb,.string (str xn),.slice ao n c] 108)).alloc (.cells #[.int .i64 xr,.int .i64 xb,.string (str xn),.slice bo m d] 108)):=((Kept.refl [] w).alloc _).alloc _
 have cS:=equal_kept _ ao bo n m c d L M (hL.kept hKa (by simp)) (hM.kept hKa (by simp))
 rw [decide_eq_true hl] at cS
 clear hl hL hM
 go_enter Tryz.func100,Tryz.ntmps100
 go_wp2_with fail
 refine cS.mono ?_
 rintro _ w1 ⟨rfl,hK⟩
 go_wp2_with fail
 go_ret
 exact ⟨rfl,hKa.trans hK (by simp)⟩
theorem cosame_call (w:World) (x y:Com) (ao bo:Option Addr) (n m c d:Nat) (hL:SlC w ao n c x.c) (hM:SlC w bo m d y.c) :
 Calls Tryz.prog 100 #[.agg #[.int .i64 x.r,.int .i64 x.b,.string (str x.n),.slice ao n c],.agg #[.int .i64 y.r,.int .i64 y.b,.string (str y.n),.slice bo m d]] w fun e w'=>e=.returned (.bool (decide (x=y)))∧Kept [] w w':=by
 obtain ⟨xr,xb,xn,xc⟩:=x
 obtain ⟨yr,yb,yn,yc⟩:=y
 simp only at *
 by_cases hr:xr=yr
 rotate_left
 ·rw [decide_eq_false (by intro h;injection h;contradiction)]
  exact cosame_r w xr yr xb yb xn yn ao bo n m c d hr
 subst hr
 by_cases hb:xb=yb
 rotate_left
 ·rw [decide_eq_false (by intro h;injection h;contradiction)]
  exact cosame_b w xr xb yb xn yn ao bo n m c d hb
 subst hb
 by_cases hn:xn=yn
 rotate_left
 ·rw [decide_eq_false (by intro h;injection h;contradiction)]
  exact cosame_n w xr xb xn yn ao bo n m c d hn
 subst hn
 by_cases hc:xc=yc
 rotate_left
 ·rw [decide_eq_false (by intro h;injection h;contradiction)]
  exact cosame_c w xr xb xn ao bo n m c d xc yc hL hM hc
 subst hc
 rw [decide_eq_true rfl]
 exact cosame_all w xr xb xn ao bo n m c d xc xc hL hM rfl
theorem take_sameK {α:Type}{L M:List α}{k:Nat}(h:L.take k=M.take k) (h1:k < L.length) (h2:k < M.length) (h3:L[k]=M[k]):L.take (k+1)=M.take (k+1):=by
 rw [List.take_succ_eq_append_getElem h1,List.take_succ_eq_append_getElem h2,h,h3]
def EfI (w:World) (n:Nat) (K M:List (Com × Value)) (iv:Value) (wr:World):Prop:=∃ i:Nat,iv=.int .i64 (i:Int)∧i≤n∧Hid (Kept [] w wr)∧Hid ((K.map Prod.fst).take i=(M.map Prod.fst).take i)
theorem co_range {w:World}{b o:Nat}{x:Com × Value}(h:CoAt w b o x):w.rangeAt b o (coC x):=fun j v hv=>by
 obtain ⟨c0,c1,c2,c3⟩:=h
 match j,hv with
 | 0,hv=>simp [coC] at hv;subst hv;exact c0
 | 1,hv=>simp [coC] at hv;subst hv;exact c1
 | 2,hv=>simp [coC] at hv;subst hv;exact c2
 | 3,hv=>simp [coC] at hv;subst hv;exact c3
 | j+4,hv=>simp [coC] at hv
theorem enter_sameCommit (a:Array Value) (w:World):Sem.run Tryz.prog (callFunc 100 a) w=.ok (.enter 100 a) w:=by kernel_rfl
theorem one_coW {w:World}{x:Com × Value}(h:ChV w x.2 x.1.c):∀ v∈coC x,v.oneCell'=true:=by
 obtain ⟨ao,n,c,e,_⟩:=h
 intro v hv
 simp [coC] at hv
 rcases hv with rfl | rfl | rfl | rfl
 all_goals first | rfl | (rw [e];rfl)
def zk4:List Value:=[.int .i64 0,.int .i64 0,.string ⟨#[]⟩,.slice none 0 0]
set_option maxHeartbeats 8000000 in
set_option maxRecDepth 100000 in
theorem eqf_call (w:World) (ao bo:Option Addr) (n m c d:Nat) (K M:List (Com × Value)) (hK:SlK w ao n c K) (hM:SlK w bo m d M) :
 Calls Tryz.prog 99 #[.slice ao n c,.slice bo m d,.func (.func 100) #[] #[]] w fun e w'=>e=.returned (.bool (decide (K.map Prod.fst=M.map Prod.fst)))∧Kept [] w w':=by
 have hl:=hK.1
 have hl2:=hM.1
 have hc:=hK.2.1
 have hm:=hK.2.2.1
 have hd:=hM.2.1
 have hm2:=hM.2.2.1
 unfold maxLen at hm hm2
 by_cases hnm:n=m
 rotate_left
 ·have hne:¬ K.map Prod.fst=M.map Prod.fst:=fun h=>by have:=congrArg List.length h;simp at this;omega
  rw [decide_eq_false hne]
  have hb:((n:Int) != (m:Int))=true:=by simp;omega
  clear hne hK hM hl hl2
  go_enter Tryz.func99,Tryz.ntmps99
  go_wp2_with fail
  go_ret
  exact ⟨rfl,Kept.refl _ _⟩
 ·subst hnm
  obtain ⟨R,hR⟩:∃ R,R=decide (K.map Prod.fst=M.map Prod.fst):=⟨_,rfl⟩
  rw [← hR]
  have HR:=hide hR
  have HLK:=hide hl
  have HLM:=hide hl2
  have HK:=hide hK
  have HM:=hide hM
  have hef:=enter_sameCommit
  clear hl hl2 hK hM hR
  go_enter Tryz.func99,Tryz.ntmps99
  go_wp2_with fail
  go_loopw [17] (fun iv wr=>EfI w n K M iv wr) (fun iv _=>n - (intOf iv).toNat)
  case atStart=>exact ⟨0,rfl,Nat.zero_le _,Kept.refl _ _,by show _=_;simp⟩
  case round =>
   obtain ⟨i,rfl,hi,HW,HE⟩:=hrel
   by_cases hlt:i < n
   ·have hlt':(i:Int) < n:=by omega
    have hic:i≤c:=by omega
    have hid:i≤d:=by omega
    have hiK:i < K.length:=by rw [HLK.out];exact hlt
    have hiM:i < M.length:=by rw [HLM.out];exact hlt
    have hKr:=HK.out.kept HW.out
    have hMr:=HM.out.kept HW.out
    obtain ⟨b,o,rfl,hcK⟩:=hKr.some (by omega)
    obtain ⟨b2,o2,rfl,hcM⟩:=hMr.some (by omega)
    obtain ⟨ko,kn,kc,hkv,hkS,hk0⟩:=hKr.2.2.2.2 K[i] (List.getElem_mem hiK)
    obtain ⟨mo,mn,mc,hmv,hmS,hm0⟩:=hMr.2.2.2.2 M[i] (List.getElem_mem hiM)
    have h1:=hide (co_range (hcK i hiK))
    have hoK:=hide (one_coW (hKr.2.2.2.2 K[i] (List.getElem_mem hiK)))
    have hoM:=hide (one_coW (hMr.2.2.2.2 M[i] (List.getElem_mem hiM)))
    have HT1:Hid (RowT Tryz.prog 108 (coC K[i]).length):=rowT_com
    have HT2:Hid (RowT Tryz.prog 108 (coC M[i]).length):=rowT_com
    have HZ1:Hid (Bx (wr.alloc (.cells #[.int .i64 0,.int .i64 0,.string ⟨#[]⟩,.slice none 0 0] 108)) wr.heap.size 108 zk4):=Bx.new wr _ zk4
    have HL1:Hid ((coC K[i]).length=zk4.length):=rfl
    have HL2:Hid ((coC M[i]).length=zk4.length):=rfl
    have HKM:=hide hcM
    have HkS:=hide hkS
    have HmS:=hide hmS
    have Hkv:=hide hkv
    have Hmv:=hide hmv
    clear hKr hMr hcK hcM hkS hmS hk0 hm0 hkv hmv
    go_upto_region 6 with (first | ((with_reducible refine wl_load_el h1.out HT1.out ?_ ?_);rfl) | ((with_reducible refine wl_store_bx HZ1.out HL1.out hoK.out HT1.out ?_ ?_ ?_);rfl;rfl;intro w3 HB3 HK3))
    have k3:Kept [] wr w3:=((Kept.refl [] wr).alloc _).trans HK3.out (by simp)
    have h2:=hide (co_range ((HKM.out i hiM).kept k3 (by simp)))
    have HZ2:Hid (Bx (w3.alloc (.cells #[.int .i64 0,.int .i64 0,.string ⟨#[]⟩,.slice none 0 0] 108)) w3.heap.size 108 zk4):=Bx.new w3 _ zk4
    have h3s:=HB3.out.lt
    have HK3':=hide k3
    clear k3
    go_upto_region 7 with (first | ((with_reducible refine wl_load_el h2.out HT2.out ?_ ?_);rfl) | ((with_reducible refine wl_store_bx HZ2.out HL2.out hoM.out HT2.out ?_ ?_ ?_);rfl;rfl;intro w4 HB4 HK4))
    have k4:Kept [] w3 w4:=((Kept.refl [] w3).alloc _).trans HK4.out (by simp)
    have hB34:Bx w4 wr.heap.size 108 (coC K[i]):=HB3.out.kept k4 (by simp)
    have HB34:=hide hB34
    have k04:=HK3'.out.trans k4 (by simp)
    have HK04:=hide k04
    have cS:=cosame_call w4 K[i].1 M[i].1 ko mo kn mn kc mc (HkS.out.kept k04 (by simp)) (HmS.out.kept k04 (by simp))
    have e1:(coC K[i]).toArray=#[.int .i64 K[i].1.r,.int .i64 K[i].1.b,.string (str K[i].1.n),.slice ko kn kc]:=by rw [← Hkv.out];rfl
    have e2:(coC M[i]).toArray=#[.int .i64 M[i].1.r,.int .i64 M[i].1.b,.string (str M[i].1.n),.slice mo mn mc]:=by rw [← Hmv.out];rfl
    rw [← e1,← e2] at cS
    have HC:=hide cS
    clear cS k4 hB34 k04 e1 e2
    by_cases hsame:K[i].1=M[i].1
    ·have cS:=HC.out
     rw [decide_eq_true hsame] at cS
     have HS:=hide hsame
     clear hsame HC
     go_wp2_with (first | ((with_reducible refine wl_load_bx HB34.out HT1.out ?_ ?_);rfl) | ((with_reducible refine wl_load_bx HB4.out HT2.out ?_ ?_);rfl) | (go_at_call 100;refine cS.mono ?_;clear cS;rintro _ w5 ⟨rfl,hK5⟩))
     have hres:EfI w n K M (.int .i64 ((i+1:Nat):Int)) w5:=⟨i+1,rfl,by omega,(HW.out.trans HK04.out (by simp)).trans hK5 (by simp),take_sameK HE.out (by simpa using hiK) (by simpa using hiM) (by simpa using HS.out)⟩
     go_roundw
     case rel=>exact hres
     case measure=>simp [intOf];omega
    ·have cS:=HC.out
     rw [decide_eq_false hsame] at cS
     have HS:=hide hsame
     clear hsame HC
     go_wp2_with (first | ((with_reducible refine wl_load_bx HB34.out HT1.out ?_ ?_);rfl) | ((with_reducible refine wl_load_bx HB4.out HT2.out ?_ ?_);rfl) | (go_at_call 100;refine cS.mono ?_;clear cS;rintro _ w5 ⟨rfl,hK5⟩))
     go_ret
     refine ⟨?_,(HW.out.trans HK04.out (by simp)).trans hK5 (by simp)⟩
     have hno:¬ K.map Prod.fst=M.map Prod.fst:=fun h=>by
      have h9:(K.map Prod.fst)[i]'(by simpa using hiK)=(M.map Prod.fst)[i]'(by simpa using hiM):=by simp only [h]
      exact HS.out (by simpa using h9)
     rw [HR.out,decide_eq_false hno]
     rfl
   ·have hiN:i=n:=by omega
    subst hiN
    have hdec:decide ((i:Int) < (i:Int))=false:=by simp
    go_wp2_with fail
    go_ret
    refine ⟨?_,HW.out⟩
    have h:=HE.out
    rw [List.take_of_length_le (by simp [HLK.out]),List.take_of_length_le (by simp [HLM.out])] at h
    rw [HR.out,decide_eq_true h]
    rfl
set_option maxHeartbeats 4000000 in
set_option maxRecDepth 100000 in
theorem vtsame_c (w:World) (xc:Int) (yc:Int) (xs:Int) (ys:Int) (xr:Int) (yr:Int) (xp:List UInt8) (yp:List UInt8) (xd:Int) (yd:Int) (xm:Int) (ym:Int) (ao bo:Option Addr) (n m c d:Nat) (hne:xc≠yc) :
 Calls Tryz.prog 72 #[.agg #[.int .i64 xc,.int .i64 xs,.int .i64 xr,.string (str xp),.int .u64 xd,.slice ao n c,.int .i64 xm],.agg #[.int .i64 yc,.int .i64 ys,.int .i64 yr,.string (str yp),.int .u64 yd,.slice bo m d,.int .i64 ym]] w fun e w'=>e=.returned (.bool false)∧Kept [] w w':=by
 have hKa:Kept [] w ((w.alloc (.cells #[.int .i64 xc,.int .i64 xs,.int .i64 xr,.string (str xp),.int .u64 xd,.slice ao n c,.int .i64 xm] 34)).alloc (.cells #[.int .i64 yc,.int .i64 ys,.int .i64 yr,.string (str yp),.int .u64 yd,.slice bo m d,.int .i64 ym] 34)):=((Kept.refl [] w).alloc _).alloc _
 have hb:(xc==yc)=false:=by simpa using hne
 clear hne
 go_enter Tryz.func72,Tryz.ntmps72
 go_wp2_with fail
 go_ret
 exact ⟨rfl,hKa⟩
set_option maxHeartbeats 4000000 in
set_option maxRecDepth 100000 in
theorem vtsame_s (w:World) (xc:Int) (xs:Int) (ys:Int) (xr:Int) (yr:Int) (xp:List UInt8) (yp:List UInt8) (xd:Int) (yd:Int) (xm:Int) (ym:Int) (ao bo:Option Addr) (n m c d:Nat) (hne:xs≠ys) :
 Calls Tryz.prog 72 #[.agg #[.int .i64 xc,.int .i64 xs,.int .i64 xr,.string (str xp),.int .u64 xd,.slice ao n c,.int .i64 xm],.agg #[.int .i64 xc,.int .i64 ys,.int .i64 yr,.string (str yp),.int .u64 yd,.slice bo m d,.int .i64 ym]] w fun e w'=>e=.returned (.bool false)∧Kept [] w w':=by
 have hKa:Kept [] w ((w.alloc (.cells #[.int .i64 xc,.int .i64 xs,.int .i64 xr,.string (str xp),.int .u64 xd,.slice ao n c,.int .i64 xm] 34)).alloc (.cells #[.int .i64 xc,.int .i64 ys,.int .i64 yr,.string (str yp),.int .u64 yd,.slice bo m d,.int .i64 ym] 34)):=((Kept.refl [] w).alloc _).alloc _
 have hb:(xs==ys)=false:=by simpa using hne
 clear hne
 go_enter Tryz.func72,Tryz.ntmps72
 go_wp2_with fail
 go_ret
 exact ⟨rfl,hKa⟩
set_option maxHeartbeats 4000000 in
set_option maxRecDepth 100000 in
theorem vtsame_r (w:World) (xc:Int) (xs:Int) (xr:Int) (yr:Int) (xp:List UInt8) (yp:List UInt8) (xd:Int) (yd:Int) (xm:Int) (ym:Int) (ao bo:Option Addr) (n m c d:Nat) (hne:xr≠yr) :
 Calls Tryz.prog 72 #[.agg #[.int .i64 xc,.int .i64 xs,.int .i64 xr,.string (str xp),.int .u64 xd,.slice ao n c,.int .i64 xm],.agg #[.int .i64 xc,.int .i64 xs,.int .i64 yr,.string (str yp),.int .u64 yd,.slice bo m d,.int .i64 ym]] w fun e w'=>e=.returned (.bool false)∧Kept [] w w':=by
 have hKa:Kept [] w ((w.alloc (.cells #[.int .i64 xc,.int .i64 xs,.int .i64 xr,.string (str xp),.int .u64 xd,.slice ao n c,.int .i64 xm] 34)).alloc (.cells #[.int .i64 xc,.int .i64 xs,.int .i64 yr,.string (str yp),.int .u64 yd,.slice bo m d,.int .i64 ym] 34)):=((Kept.refl [] w).alloc _).alloc _
 have hb:(xr==yr)=false:=by simpa using hne
 clear hne
 go_enter Tryz.func72,Tryz.ntmps72
 go_wp2_with fail
 go_ret
 exact ⟨rfl,hKa⟩
set_option maxHeartbeats 4000000 in
set_option maxRecDepth 100000 in
theorem vtsame_p (w:World) (xc:Int) (xs:Int) (xr:Int) (xp:List UInt8) (yp:List UInt8) (xd:Int) (yd:Int) (xm:Int) (ym:Int) (ao bo:Option Addr) (n m c d:Nat) (hne:xp≠yp) :
 Calls Tryz.prog 72 #[.agg #[.int .i64 xc,.int .i64 xs,.int .i64 xr,.string (str xp),.int .u64 xd,.slice ao n c,.int .i64 xm],.agg #[.int .i64 xc,.int .i64 xs,.int .i64 xr,.string (str yp),.int .u64 yd,.slice bo m d,.int .i64 ym]] w fun e w'=>e=.returned (.bool false)∧Kept [] w w':=by
 have hKa:Kept [] w ((w.alloc (.cells #[.int .i64 xc,.int .i64 xs,.int .i64 xr,.string (str xp),.int .u64 xd,.slice ao n c,.int .i64 xm] 34)).alloc (.cells #[.int .i64 xc,.int .i64 xs,.int .i64 xr,.string (str yp),.int .u64 yd,.slice bo m d,.int .i64 ym] 34)):=((Kept.refl [] w).alloc _).alloc _
 have hb:¬ (str xp).toList=(str yp).toList:=fun h=>hne (by rw [Go.ByteArray.toList_eq,Go.ByteArray.toList_eq,str_data,str_data] at h;exact h)
 clear hne
 go_enter Tryz.func72,Tryz.ntmps72
 go_wp2_with fail
 go_ret
 exact ⟨rfl,hKa⟩
set_option maxHeartbeats 4000000 in
set_option maxRecDepth 100000 in
theorem vtsame_d (w:World) (xc:Int) (xs:Int) (xr:Int) (xp:List UInt8) (xd:Int) (yd:Int) (xm:Int) (ym:Int) (ao bo:Option Addr) (n m c d:Nat) (hne:xd≠yd) :
 Calls Tryz.prog 72 #[.agg #[.int .i64 xc,.int .i64 xs,.int .i64 xr,.string (str xp),.int .u64 xd,.slice ao n c,.int .i64 xm],.agg #[.int .i64 xc,.int .i64 xs,.int .i64 xr,.string (str xp),.int .u64 yd,.slice bo m d,.int .i64 ym]] w fun e w'=>e=.returned (.bool false)∧Kept [] w w':=by
 have hKa:Kept [] w ((w.alloc (.cells #[.int .i64 xc,.int .i64 xs,.int .i64 xr,.string (str xp),.int .u64 xd,.slice ao n c,.int .i64 xm] 34)).alloc (.cells #[.int .i64 xc,.int .i64 xs,.int .i64 xr,.string (str xp),.int .u64 yd,.slice bo m d,.int .i64 ym] 34)):=((Kept.refl [] w).alloc _).alloc _
 have hb:(xd==yd)=false:=by simpa using hne
 clear hne
 go_enter Tryz.func72,Tryz.ntmps72
 go_wp2_with fail
 go_ret
 exact ⟨rfl,hKa⟩
set_option maxHeartbeats 4000000 in
set_option maxRecDepth 100000 in
theorem vtsame_m (w:World) (xc:Int) (xs:Int) (xr:Int) (xp:List UInt8) (xd:Int) (xm:Int) (ym:Int) (ao bo:Option Addr) (n m c d:Nat) (hne:xm≠ym) :
 Calls Tryz.prog 72 #[.agg #[.int .i64 xc,.int .i64 xs,.int .i64 xr,.string (str xp),.int .u64 xd,.slice ao n c,.int .i64 xm],.agg #[.int .i64 xc,.int .i64 xs,.int .i64 xr,.string (str xp),.int .u64 xd,.slice bo m d,.int .i64 ym]] w fun e w'=>e=.returned (.bool false)∧Kept [] w w':=by
 have hKa:Kept [] w ((w.alloc (.cells #[.int .i64 xc,.int .i64 xs,.int .i64 xr,.string (str xp),.int .u64 xd,.slice ao n c,.int .i64 xm] 34)).alloc (.cells #[.int .i64 xc,.int .i64 xs,.int .i64 xr,.string (str xp),.int .u64 xd,.slice bo m d,.int .i64 ym] 34)):=((Kept.refl [] w).alloc _).alloc _
 have hb:(xm==ym)=false:=by simpa using hne
 clear hne
 go_enter Tryz.func72,Tryz.ntmps72
 go_wp2_with fail
 go_ret
 exact ⟨rfl,hKa⟩
set_option maxHeartbeats 4000000 in
set_option maxRecDepth 100000 in
theorem vtsame_k (w:World) (xc:Int) (xs:Int) (xr:Int) (xp:List UInt8) (xd:Int) (xm:Int) (ao bo:Option Addr) (n m c d:Nat) (K M:List (Com × Value)) (hL:SlK w ao n c K) (hM:SlK w bo m d M) (hl:¬ K.map Prod.fst=M.map Prod.fst) :
 Calls Tryz.prog 72 #[.agg #[.int .i64 xc,.int .i64 xs,.int .i64 xr,.string (str xp),.int .u64 xd,.slice ao n c,.int .i64 xm],.agg #[.int .i64 xc,.int .i64 xs,.int .i64 xr,.string (str xp),.int .u64 xd,.slice bo m d,.int .i64 xm]] w fun e w'=>e=.returned (.bool false)∧Kept [] w w':=by
 have hKa:Kept [] w ((w.alloc (.cells #[.int .i64 xc,.int .i64 xs,.int .i64 xr,.string (str xp),.int .u64 xd,.slice ao n c,.int .i64 xm] 34)).alloc (.cells #[.int .i64 xc,.int .i64 xs,.int .i64 xr,.string (str xp),.int .u64 xd,.slice bo m d,.int .i64 xm] 34)):=((Kept.refl [] w).alloc _).alloc _
 have cS:=eqf_call _ ao bo n m c d K M (hL.kept hKa) (hM.kept hKa)
 rw [decide_eq_false hl] at cS
 clear hl hL hM
 go_enter Tryz.func72,Tryz.ntmps72
 go_wp2_with fail
 refine cS.mono ?_
 rintro _ w1 ⟨rfl,hK⟩
 go_wp2_with fail
 go_ret
 exact ⟨rfl,hKa.trans hK (by simp)⟩
set_option maxHeartbeats 4000000 in
set_option maxRecDepth 100000 in
theorem vtsame_all (w:World) (xc:Int) (xs:Int) (xr:Int) (xp:List UInt8) (xd:Int) (xm:Int) (ao bo:Option Addr) (n m c d:Nat) (K M:List (Com × Value)) (hL:SlK w ao n c K) (hM:SlK w bo m d M) (hl:K.map Prod.fst=M.map Prod.fst) :
 Calls Tryz.prog 72 #[.agg #[.int .i64 xc,.int .i64 xs,.int .i64 xr,.string (str xp),.int .u64 xd,.slice ao n c,.int .i64 xm],.agg #[.int .i64 xc,.int .i64 xs,.int .i64 xr,.string (str xp),.int .u64 xd,.slice bo m d,.int .i64 xm]] w fun e w'=>e=.returned (.bool true)∧Kept [] w w':=by
 have hKa:Kept [] w ((w.alloc (.cells #[.int .i64 xc,.int .i64 xs,.int .i64 xr,.string (str xp),.int .u64 xd,.slice ao n c,.int .i64 xm] 34)).alloc (.cells #[.int .i64 xc,.int .i64 xs,.int .i64 xr,.string (str xp),.int .u64 xd,.slice bo m d,.int .i64 xm] 34)):=((Kept.refl [] w).alloc _).alloc _
 have cS:=eqf_call _ ao bo n m c d K M (hL.kept hKa) (hM.kept hKa)
 rw [decide_eq_true hl] at cS
 clear hl hL hM
 go_enter Tryz.func72,Tryz.ntmps72
 go_wp2_with fail
 refine cS.mono ?_
 rintro _ w1 ⟨rfl,hK⟩
 go_wp2_with fail
 go_ret
 exact ⟨rfl,hKa.trans hK (by simp)⟩
end Go.Proofs.YtakafmejllilnaaGreat
