/-
  Texts laid as one.
-/
import Derived.Test.YtakafmejllilnaaGreatW2r
import Derived.Test.YtakafmejllilnaaGreatF7r
set_option maxHeartbeats 8000000
set_option maxRecDepth 100000
/-
 sameCommit. (Written by mk/mksame.py.)
-/
namespace Go.Proofs.YtakafmejllilnaaGreat
open Go.RowKit
theorem rO (w:World) (xr:Int) (yr:Int) (xb:Int) (yb:Int) (xn:List UInt8) (yn:List UInt8) (ao bo:Option Addr) (n m c d:Nat) (hne:xr≠yr) :
 Calls Tryz.prog 100 #[.agg #[.int .i64 xr,.int .i64 xb,.string (ae xn),.slice ao n c],.agg #[.int .i64 yr,.int .i64 yb,.string (ae yn),.slice bo m d]] w fun e w'=>e=.returned (.bool false)∧ab [] w w':=by
 have hKa:ab [] w ((w.alloc (.cells #[.int .i64 xr,.int .i64 xb,.string (ae xn),.slice ao n c] 108)).alloc (.cells #[.int .i64 yr,.int .i64 yb,.string (ae yn),.slice bo m d] 108)):=((ab.refl [] w).alloc _).alloc _;have hb:(xr==yr)=false:=by simpa using hne
 clear hne;go_enter Tryz.func100,Tryz.ntmps100;go_wp2_with fail
 go_ret
 exact ⟨rfl,hKa⟩
theorem q6 (w:World) (xr:Int) (xb:Int) (yb:Int) (xn:List UInt8) (yn:List UInt8) (ao bo:Option Addr) (n m c d:Nat) (hne:xb≠yb) :
 Calls Tryz.prog 100 #[.agg #[.int .i64 xr,.int .i64 xb,.string (ae xn),.slice ao n c],.agg #[.int .i64 xr,.int .i64 yb,.string (ae yn),.slice bo m d]] w fun e w'=>e=.returned (.bool false)∧ab [] w w':=by
 have hKa:ab [] w ((w.alloc (.cells #[.int .i64 xr,.int .i64 xb,.string (ae xn),.slice ao n c] 108)).alloc (.cells #[.int .i64 xr,.int .i64 yb,.string (ae yn),.slice bo m d] 108)):=((ab.refl [] w).alloc _).alloc _;have hb:(xb==yb)=false:=by simpa using hne
 clear hne;go_enter Tryz.func100,Tryz.ntmps100;go_wp2_with fail
 go_ret
 exact ⟨rfl,hKa⟩
theorem r5 (w:World) (xr:Int) (xb:Int) (xn:List UInt8) (yn:List UInt8) (ao bo:Option Addr) (n m c d:Nat) (hne:xn≠yn) :
 Calls Tryz.prog 100 #[.agg #[.int .i64 xr,.int .i64 xb,.string (ae xn),.slice ao n c],.agg #[.int .i64 xr,.int .i64 xb,.string (ae yn),.slice bo m d]] w fun e w'=>e=.returned (.bool false)∧ab [] w w':=by
 have hKa:ab [] w ((w.alloc (.cells #[.int .i64 xr,.int .i64 xb,.string (ae xn),.slice ao n c] 108)).alloc (.cells #[.int .i64 xr,.int .i64 xb,.string (ae yn),.slice bo m d] 108)):=((ab.refl [] w).alloc _).alloc _;have hb:¬ (ae xn).toList=(ae yn).toList:=fun h=>hne (by rw [Go.ByteArray.toList_eq,Go.ByteArray.toList_eq,aY,aY] at h;exact h);clear hne;go_enter Tryz.func100,Tryz.ntmps100;go_wp2_with fail
 go_ret
 exact ⟨rfl,hKa⟩
theorem sQ (w:World) (xr:Int) (xb:Int) (xn:List UInt8) (ao bo:Option Addr) (n m c d:Nat) (L M:List Ch) (hL:dz w ao n c L) (hM:dz w bo m d M) (hl:¬ L=M) :
 Calls Tryz.prog 100 #[.agg #[.int .i64 xr,.int .i64 xb,.string (ae xn),.slice ao n c],.agg #[.int .i64 xr,.int .i64 xb,.string (ae xn),.slice bo m d]] w fun e w'=>e=.returned (.bool false)∧ab [] w w':=by
 have hKa:ab [] w ((w.alloc (.cells #[.int .i64 xr,.int .i64 xb,.string (ae xn),.slice ao n c] 108)).alloc (.cells #[.int .i64 xr,.int .i64 xb,.string (ae xn),.slice bo m d] 108)):=((ab.refl [] w).alloc _).alloc _;have cS:=dw _ ao bo n m c d L M (hL.kept hKa (by simp)) (hM.kept hKa (by simp));rw [decide_eq_false hl] at cS;clear hl hL hM;go_enter Tryz.func100,Tryz.ntmps100;go_wp2_with fail
 refine cS.mono ?_;rintro _ w1 ⟨rfl,hK⟩;go_wp2_with fail
 go_ret
 exact ⟨rfl,hKa.trans hK (by simp)⟩
theorem oW (w:World) (xr:Int) (xb:Int) (xn:List UInt8) (ao bo:Option Addr) (n m c d:Nat) (L M:List Ch) (hL:dz w ao n c L) (hM:dz w bo m d M) (hl:L=M) :
 Calls Tryz.prog 100 #[.agg #[.int .i64 xr,.int .i64 xb,.string (ae xn),.slice ao n c],.agg #[.int .i64 xr,.int .i64 xb,.string (ae xn),.slice bo m d]] w fun e w'=>e=.returned (.bool true)∧ab [] w w':=by
 have hKa:ab [] w ((w.alloc (.cells #[.int .i64 xr,.int .i64 xb,.string (ae xn),.slice ao n c] 108)).alloc (.cells #[.int .i64 xr,.int .i64 xb,.string (ae xn),.slice bo m d] 108)):=((ab.refl [] w).alloc _).alloc _;have cS:=dw _ ao bo n m c d L M (hL.kept hKa (by simp)) (hM.kept hKa (by simp));rw [decide_eq_true hl] at cS;clear hl hL hM;go_enter Tryz.func100,Tryz.ntmps100;go_wp2_with fail
 refine cS.mono ?_;rintro _ w1 ⟨rfl,hK⟩;go_wp2_with fail
 go_ret
 exact ⟨rfl,hKa.trans hK (by simp)⟩
theorem nI (w:World) (x y:bW) (ao bo:Option Addr) (n m c d:Nat) (hL:dz w ao n c x.c) (hM:dz w bo m d y.c) :
 Calls Tryz.prog 100 #[.agg #[.int .i64 x.r,.int .i64 x.b,.string (ae x.n),.slice ao n c],.agg #[.int .i64 y.r,.int .i64 y.b,.string (ae y.n),.slice bo m d]] w fun e w'=>e=.returned (.bool (decide (x=y)))∧ab [] w w':=by
 obtain ⟨xr,xb,xn,xc⟩:=x;obtain ⟨yr,yb,yn,yc⟩:=y;simp only at *;by_cases hr:xr=yr
 rotate_left
 ·rw [decide_eq_false (by intro h;injection h;contradiction)];exact rO w xr yr xb yb xn yn ao bo n m c d hr
 subst hr;by_cases hb:xb=yb
 rotate_left
 ·rw [decide_eq_false (by intro h;injection h;contradiction)];exact q6 w xr xb yb xn yn ao bo n m c d hb
 subst hb;by_cases hn:xn=yn
 rotate_left
 ·rw [decide_eq_false (by intro h;injection h;contradiction)];exact r5 w xr xb xn yn ao bo n m c d hn
 subst hn;by_cases hc:xc=yc
 rotate_left
 ·rw [decide_eq_false (by intro h;injection h;contradiction)];exact sQ w xr xb xn ao bo n m c d xc yc hL hM hc
 subst hc;rw [decide_eq_true rfl];exact oW w xr xb xn ao bo n m c d xc xc hL hM rfl
theorem j6 {α:Type}{L M:List α}{k:Nat}(h:L.take k=M.take k) (h1:k < L.length) (h2:k < M.length) (h3:L[k]=M[k]):L.take (k+1)=M.take (k+1):=by
 rw [List.take_succ_eq_append_getElem h1,List.take_succ_eq_append_getElem h2,h,h3]
def xC (w:World) (n:Nat) (K M:List (bW × Value)) (iv:Value) (wr:World):Prop:=∃ i:Nat,iv=.int .i64 (i:Int)∧i≤n∧Hid (ab [] w wr)∧Hid ((K.map Prod.fst).take i=(M.map Prod.fst).take i)
theorem kD {w:World}{b o:Nat}{x:bW × Value}(h:mM w b o x):w.rangeAt b o (dk x):=fun j v hv=>by
 obtain ⟨c0,c1,c2,c3⟩:=h;match j,hv with
 | 0,hv=>simp [dk] at hv;subst hv;exact c0
 | 1,hv=>simp [dk] at hv;subst hv;exact c1
 | 2,hv=>simp [dk] at hv;subst hv;exact c2
 | 3,hv=>simp [dk] at hv;subst hv;exact c3
 | j+4,hv=>simp [dk] at hv
theorem jj (a:Array Value) (w:World):Sem.run Tryz.prog (callFunc 100 a) w=.ok (.enter 100 a) w:=by kernel_rfl
theorem o8 {w:World}{x:bW × Value}(h:wd w x.2 x.1.c):∀ v∈dk x,v.oneCell'=true:=by
 obtain ⟨ao,n,c,e,_⟩:=h;intro v hv;simp [dk] at hv
 rcases hv with rfl | rfl | rfl | rfl
 all_goals first | rfl | (rw [e];rfl)
def qJ:List Value:=[.int .i64 0,.int .i64 0,.string ⟨#[]⟩,.slice none 0 0]
theorem nm (w:World) (ao bo:Option Addr) (n m c d:Nat) (K M:List (bW × Value)) (hK:kY w ao n c K) (hM:kY w bo m d M) :
 Calls Tryz.prog 99 #[.slice ao n c,.slice bo m d,.func (.func 100) #[] #[]] w fun e w'=>e=.returned (.bool (decide (K.map Prod.fst=M.map Prod.fst)))∧ab [] w w':=by
 have hl:=hK.1;have hl2:=hM.1;have hc:=hK.2.1;have hm:=hK.2.2.1;have hd:=hM.2.1;have hm2:=hM.2.2.1;unfold maxLen at hm hm2;by_cases hnm:n=m
 rotate_left
 ·have hne:¬ K.map Prod.fst=M.map Prod.fst:=fun h=>by have:=congrArg List.length h;simp at this;omega
  rw [decide_eq_false hne];have hb:((n:Int) != (m:Int))=true:=by simp;omega
  clear hne hK hM hl hl2;go_enter Tryz.func99,Tryz.ntmps99;(go_wp2_with fail);go_ret
  exact ⟨rfl,ab.refl _ _⟩
 ·subst hnm;obtain ⟨R,hR⟩:∃ R,R=decide (K.map Prod.fst=M.map Prod.fst):=⟨_,rfl⟩;rw [← hR];have HR:=aa hR;have HLK:=aa hl;have HLM:=aa hl2;have HK:=aa hK;have HM:=aa hM;have hef:=jj;clear hl hl2 hK hM hR;go_enter Tryz.func99,Tryz.ntmps99;(go_wp2_with fail);go_loopw [17] (fun iv wr=>xC w n K M iv wr) (fun iv _=>n - (intOf iv).toNat)
  case atStart=>exact ⟨0,rfl,Nat.zero_le _,ab.refl _ _,by show _=_;simp⟩
  case round =>
   obtain ⟨i,rfl,hi,HW,HE⟩:=hrel;by_cases hlt:i < n
   ·have hlt':(i:Int) < n:=by omega
    have hic:i≤c:=by omega
    have hid:i≤d:=by omega
    have hiK:i < K.length:=by rw [HLK.out];exact hlt
    have hiM:i < M.length:=by rw [HLM.out];exact hlt
    have hKr:=HK.out.kept HW.out;have hMr:=HM.out.kept HW.out;obtain ⟨b,o,rfl,hcK⟩:=hKr.some (by omega);obtain ⟨b2,o2,rfl,hcM⟩:=hMr.some (by omega);obtain ⟨ko,kn,kc,hkv,hkS,hk0⟩:=hKr.2.2.2.2 K[i] (List.getElem_mem hiK);obtain ⟨mo,mn,mc,hmv,hmS,hm0⟩:=hMr.2.2.2.2 M[i] (List.getElem_mem hiM);have h1:=aa (kD (hcK i hiK));have hoK:=aa (o8 (hKr.2.2.2.2 K[i] (List.getElem_mem hiK)));have hoM:=aa (o8 (hMr.2.2.2.2 M[i] (List.getElem_mem hiM)));have HT1:Hid (aq Tryz.prog 108 (dk K[i]).length):=eZ;have HT2:Hid (aq Tryz.prog 108 (dk M[i]).length):=eZ;have HZ1:Hid (Bx (wr.alloc (.cells #[.int .i64 0,.int .i64 0,.string ⟨#[]⟩,.slice none 0 0] 108)) wr.heap.size 108 qJ):=Bx.new wr _ qJ;have HL1:Hid ((dk K[i]).length=qJ.length):=rfl;have HL2:Hid ((dk M[i]).length=qJ.length):=rfl;have HKM:=aa hcM;have HkS:=aa hkS;have HmS:=aa hmS;have Hkv:=aa hkv;have Hmv:=aa hmv;clear hKr hMr hcK hcM hkS hmS hk0 hm0 hkv hmv;go_upto_region 6 with (first | ((with_reducible refine gb h1.out HT1.out ?_ ?_);rfl) | ((with_reducible refine ac HZ1.out HL1.out hoK.out HT1.out ?_ ?_ ?_);rfl;rfl;intro w3 HB3 HK3))
    have k3:ab [] wr w3:=((ab.refl [] wr).alloc _).trans HK3.out (by simp);have h2:=aa (kD ((HKM.out i hiM).kept k3 (by simp)));have HZ2:Hid (Bx (w3.alloc (.cells #[.int .i64 0,.int .i64 0,.string ⟨#[]⟩,.slice none 0 0] 108)) w3.heap.size 108 qJ):=Bx.new w3 _ qJ;have h3s:=HB3.out.lt;have HK3':=aa k3;clear k3;go_upto_region 7 with (first | ((with_reducible refine gb h2.out HT2.out ?_ ?_);rfl) | ((with_reducible refine ac HZ2.out HL2.out hoM.out HT2.out ?_ ?_ ?_);rfl;rfl;intro w4 HB4 HK4))
    have k4:ab [] w3 w4:=((ab.refl [] w3).alloc _).trans HK4.out (by simp);have hB34:Bx w4 wr.heap.size 108 (dk K[i]):=HB3.out.kept k4 (by simp);have HB34:=aa hB34;have k04:=HK3'.out.trans k4 (by simp);have HK04:=aa k04;have cS:=nI w4 K[i].1 M[i].1 ko mo kn mn kc mc (HkS.out.kept k04 (by simp)) (HmS.out.kept k04 (by simp));have e1:(dk K[i]).toArray=#[.int .i64 K[i].1.r,.int .i64 K[i].1.b,.string (ae K[i].1.n),.slice ko kn kc]:=by rw [← Hkv.out];rfl
    have e2:(dk M[i]).toArray=#[.int .i64 M[i].1.r,.int .i64 M[i].1.b,.string (ae M[i].1.n),.slice mo mn mc]:=by rw [← Hmv.out];rfl
    rw [← e1,← e2] at cS;have HC:=aa cS;clear cS k4 hB34 k04 e1 e2;by_cases hsame:K[i].1=M[i].1
    ·have cS:=HC.out;rw [decide_eq_true hsame] at cS;have HS:=aa hsame;clear hsame HC;(go_wp2_with (first | ((with_reducible refine ak HB34.out HT1.out ?_ ?_);rfl) | ((with_reducible refine ak HB4.out HT2.out ?_ ?_);rfl) | (go_at_call 100;refine cS.mono ?_;clear cS;rintro _ w5 ⟨rfl,hK5⟩)));have hres:xC w n K M (.int .i64 ((i+1:Nat):Int)) w5:=⟨i+1,rfl,by omega,(HW.out.trans HK04.out (by simp)).trans hK5 (by simp),j6 HE.out (by simpa using hiK) (by simpa using hiM) (by simpa using HS.out)⟩;go_roundw
     case rel=>exact hres
     case measure=>simp [intOf];omega
    ·have cS:=HC.out;rw [decide_eq_false hsame] at cS;have HS:=aa hsame;clear hsame HC;(go_wp2_with (first | ((with_reducible refine ak HB34.out HT1.out ?_ ?_);rfl) | ((with_reducible refine ak HB4.out HT2.out ?_ ?_);rfl) | (go_at_call 100;refine cS.mono ?_;clear cS;rintro _ w5 ⟨rfl,hK5⟩)));go_ret
     refine ⟨?_,(HW.out.trans HK04.out (by simp)).trans hK5 (by simp)⟩
     have hno:¬ K.map Prod.fst=M.map Prod.fst:=fun h=>by
      have h9:(K.map Prod.fst)[i]'(by simpa using hiK)=(M.map Prod.fst)[i]'(by simpa using hiM):=by simp only [h]
      exact HS.out (by simpa using h9)
     rw [HR.out,decide_eq_false hno];rfl
   ·have hiN:i=n:=by omega
    subst hiN;have hdec:decide ((i:Int) < (i:Int))=false:=by simp
    (go_wp2_with fail);go_ret
    refine ⟨?_,HW.out⟩;have h:=HE.out;rw [List.take_of_length_le (by simp [HLK.out]),List.take_of_length_le (by simp [HLM.out])] at h;rw [HR.out,decide_eq_true h];rfl
theorem sG (w:World) (xc:Int) (yc:Int) (xs:Int) (ys:Int) (xr:Int) (yr:Int) (xp:List UInt8) (yp:List UInt8) (xd:Int) (yd:Int) (xm:Int) (ym:Int) (ao bo:Option Addr) (n m c d:Nat) (hne:xc≠yc) :
 Calls Tryz.prog 72 #[.agg #[.int .i64 xc,.int .i64 xs,.int .i64 xr,.string (ae xp),.int .u64 xd,.slice ao n c,.int .i64 xm],.agg #[.int .i64 yc,.int .i64 ys,.int .i64 yr,.string (ae yp),.int .u64 yd,.slice bo m d,.int .i64 ym]] w fun e w'=>e=.returned (.bool false)∧ab [] w w':=by
 have hKa:ab [] w ((w.alloc (.cells #[.int .i64 xc,.int .i64 xs,.int .i64 xr,.string (ae xp),.int .u64 xd,.slice ao n c,.int .i64 xm] 34)).alloc (.cells #[.int .i64 yc,.int .i64 ys,.int .i64 yr,.string (ae yp),.int .u64 yd,.slice bo m d,.int .i64 ym] 34)):=((ab.refl [] w).alloc _).alloc _;have hb:(xc==yc)=false:=by simpa using hne
 clear hne;go_enter Tryz.func72,Tryz.ntmps72;go_wp2_with fail
 go_ret
 exact ⟨rfl,hKa⟩
theorem sh (w:World) (xc:Int) (xs:Int) (ys:Int) (xr:Int) (yr:Int) (xp:List UInt8) (yp:List UInt8) (xd:Int) (yd:Int) (xm:Int) (ym:Int) (ao bo:Option Addr) (n m c d:Nat) (hne:xs≠ys) :
 Calls Tryz.prog 72 #[.agg #[.int .i64 xc,.int .i64 xs,.int .i64 xr,.string (ae xp),.int .u64 xd,.slice ao n c,.int .i64 xm],.agg #[.int .i64 xc,.int .i64 ys,.int .i64 yr,.string (ae yp),.int .u64 yd,.slice bo m d,.int .i64 ym]] w fun e w'=>e=.returned (.bool false)∧ab [] w w':=by
 have hKa:ab [] w ((w.alloc (.cells #[.int .i64 xc,.int .i64 xs,.int .i64 xr,.string (ae xp),.int .u64 xd,.slice ao n c,.int .i64 xm] 34)).alloc (.cells #[.int .i64 xc,.int .i64 ys,.int .i64 yr,.string (ae yp),.int .u64 yd,.slice bo m d,.int .i64 ym] 34)):=((ab.refl [] w).alloc _).alloc _;have hb:(xs==ys)=false:=by simpa using hne
 clear hne;go_enter Tryz.func72,Tryz.ntmps72;go_wp2_with fail
 go_ret
 exact ⟨rfl,hKa⟩
theorem r9 (w:World) (xc:Int) (xs:Int) (xr:Int) (yr:Int) (xp:List UInt8) (yp:List UInt8) (xd:Int) (yd:Int) (xm:Int) (ym:Int) (ao bo:Option Addr) (n m c d:Nat) (hne:xr≠yr) :
 Calls Tryz.prog 72 #[.agg #[.int .i64 xc,.int .i64 xs,.int .i64 xr,.string (ae xp),.int .u64 xd,.slice ao n c,.int .i64 xm],.agg #[.int .i64 xc,.int .i64 xs,.int .i64 yr,.string (ae yp),.int .u64 yd,.slice bo m d,.int .i64 ym]] w fun e w'=>e=.returned (.bool false)∧ab [] w w':=by
 have hKa:ab [] w ((w.alloc (.cells #[.int .i64 xc,.int .i64 xs,.int .i64 xr,.string (ae xp),.int .u64 xd,.slice ao n c,.int .i64 xm] 34)).alloc (.cells #[.int .i64 xc,.int .i64 xs,.int .i64 yr,.string (ae yp),.int .u64 yd,.slice bo m d,.int .i64 ym] 34)):=((ab.refl [] w).alloc _).alloc _;have hb:(xr==yr)=false:=by simpa using hne
 clear hne;go_enter Tryz.func72,Tryz.ntmps72;go_wp2_with fail
 go_ret
 exact ⟨rfl,hKa⟩
theorem sv (w:World) (xc:Int) (xs:Int) (xr:Int) (xp:List UInt8) (yp:List UInt8) (xd:Int) (yd:Int) (xm:Int) (ym:Int) (ao bo:Option Addr) (n m c d:Nat) (hne:xp≠yp) :
 Calls Tryz.prog 72 #[.agg #[.int .i64 xc,.int .i64 xs,.int .i64 xr,.string (ae xp),.int .u64 xd,.slice ao n c,.int .i64 xm],.agg #[.int .i64 xc,.int .i64 xs,.int .i64 xr,.string (ae yp),.int .u64 yd,.slice bo m d,.int .i64 ym]] w fun e w'=>e=.returned (.bool false)∧ab [] w w':=by
 have hKa:ab [] w ((w.alloc (.cells #[.int .i64 xc,.int .i64 xs,.int .i64 xr,.string (ae xp),.int .u64 xd,.slice ao n c,.int .i64 xm] 34)).alloc (.cells #[.int .i64 xc,.int .i64 xs,.int .i64 xr,.string (ae yp),.int .u64 yd,.slice bo m d,.int .i64 ym] 34)):=((ab.refl [] w).alloc _).alloc _;have hb:¬ (ae xp).toList=(ae yp).toList:=fun h=>hne (by rw [Go.ByteArray.toList_eq,Go.ByteArray.toList_eq,aY,aY] at h;exact h);clear hne;go_enter Tryz.func72,Tryz.ntmps72;go_wp2_with fail
 go_ret
 exact ⟨rfl,hKa⟩
theorem rR (w:World) (xc:Int) (xs:Int) (xr:Int) (xp:List UInt8) (xd:Int) (yd:Int) (xm:Int) (ym:Int) (ao bo:Option Addr) (n m c d:Nat) (hne:xd≠yd) :
 Calls Tryz.prog 72 #[.agg #[.int .i64 xc,.int .i64 xs,.int .i64 xr,.string (ae xp),.int .u64 xd,.slice ao n c,.int .i64 xm],.agg #[.int .i64 xc,.int .i64 xs,.int .i64 xr,.string (ae xp),.int .u64 yd,.slice bo m d,.int .i64 ym]] w fun e w'=>e=.returned (.bool false)∧ab [] w w':=by
 have hKa:ab [] w ((w.alloc (.cells #[.int .i64 xc,.int .i64 xs,.int .i64 xr,.string (ae xp),.int .u64 xd,.slice ao n c,.int .i64 xm] 34)).alloc (.cells #[.int .i64 xc,.int .i64 xs,.int .i64 xr,.string (ae xp),.int .u64 yd,.slice bo m d,.int .i64 ym] 34)):=((ab.refl [] w).alloc _).alloc _;have hb:(xd==yd)=false:=by simpa using hne
 clear hne;go_enter Tryz.func72,Tryz.ntmps72;go_wp2_with fail
 go_ret
 exact ⟨rfl,hKa⟩
theorem ri (w:World) (xc:Int) (xs:Int) (xr:Int) (xp:List UInt8) (xd:Int) (xm:Int) (ym:Int) (ao bo:Option Addr) (n m c d:Nat) (hne:xm≠ym) :
 Calls Tryz.prog 72 #[.agg #[.int .i64 xc,.int .i64 xs,.int .i64 xr,.string (ae xp),.int .u64 xd,.slice ao n c,.int .i64 xm],.agg #[.int .i64 xc,.int .i64 xs,.int .i64 xr,.string (ae xp),.int .u64 xd,.slice bo m d,.int .i64 ym]] w fun e w'=>e=.returned (.bool false)∧ab [] w w':=by
 have hKa:ab [] w ((w.alloc (.cells #[.int .i64 xc,.int .i64 xs,.int .i64 xr,.string (ae xp),.int .u64 xd,.slice ao n c,.int .i64 xm] 34)).alloc (.cells #[.int .i64 xc,.int .i64 xs,.int .i64 xr,.string (ae xp),.int .u64 xd,.slice bo m d,.int .i64 ym] 34)):=((ab.refl [] w).alloc _).alloc _;have hb:(xm==ym)=false:=by simpa using hne
 clear hne;go_enter Tryz.func72,Tryz.ntmps72;go_wp2_with fail
 go_ret
 exact ⟨rfl,hKa⟩
theorem sB (w:World) (xc:Int) (xs:Int) (xr:Int) (xp:List UInt8) (xd:Int) (xm:Int) (ao bo:Option Addr) (n m c d:Nat) (K M:List (bW × Value)) (hL:kY w ao n c K) (hM:kY w bo m d M) (hl:¬ K.map Prod.fst=M.map Prod.fst) :
 Calls Tryz.prog 72 #[.agg #[.int .i64 xc,.int .i64 xs,.int .i64 xr,.string (ae xp),.int .u64 xd,.slice ao n c,.int .i64 xm],.agg #[.int .i64 xc,.int .i64 xs,.int .i64 xr,.string (ae xp),.int .u64 xd,.slice bo m d,.int .i64 xm]] w fun e w'=>e=.returned (.bool false)∧ab [] w w':=by
 have hKa:ab [] w ((w.alloc (.cells #[.int .i64 xc,.int .i64 xs,.int .i64 xr,.string (ae xp),.int .u64 xd,.slice ao n c,.int .i64 xm] 34)).alloc (.cells #[.int .i64 xc,.int .i64 xs,.int .i64 xr,.string (ae xp),.int .u64 xd,.slice bo m d,.int .i64 xm] 34)):=((ab.refl [] w).alloc _).alloc _;have cS:=nm _ ao bo n m c d K M (hL.kept hKa) (hM.kept hKa);rw [decide_eq_false hl] at cS;clear hl hL hM;go_enter Tryz.func72,Tryz.ntmps72;go_wp2_with fail
 refine cS.mono ?_;rintro _ w1 ⟨rfl,hK⟩;go_wp2_with fail
 go_ret
 exact ⟨rfl,hKa.trans hK (by simp)⟩
theorem oq (w:World) (xc:Int) (xs:Int) (xr:Int) (xp:List UInt8) (xd:Int) (xm:Int) (ao bo:Option Addr) (n m c d:Nat) (K M:List (bW × Value)) (hL:kY w ao n c K) (hM:kY w bo m d M) (hl:K.map Prod.fst=M.map Prod.fst) :
 Calls Tryz.prog 72 #[.agg #[.int .i64 xc,.int .i64 xs,.int .i64 xr,.string (ae xp),.int .u64 xd,.slice ao n c,.int .i64 xm],.agg #[.int .i64 xc,.int .i64 xs,.int .i64 xr,.string (ae xp),.int .u64 xd,.slice bo m d,.int .i64 xm]] w fun e w'=>e=.returned (.bool true)∧ab [] w w':=by
 have hKa:ab [] w ((w.alloc (.cells #[.int .i64 xc,.int .i64 xs,.int .i64 xr,.string (ae xp),.int .u64 xd,.slice ao n c,.int .i64 xm] 34)).alloc (.cells #[.int .i64 xc,.int .i64 xs,.int .i64 xr,.string (ae xp),.int .u64 xd,.slice bo m d,.int .i64 xm] 34)):=((ab.refl [] w).alloc _).alloc _;have cS:=nm _ ao bo n m c d K M (hL.kept hKa) (hM.kept hKa);rw [decide_eq_true hl] at cS;clear hl hL hM;go_enter Tryz.func72,Tryz.ntmps72;go_wp2_with fail
 refine cS.mono ?_;rintro _ w1 ⟨rfl,hK⟩;go_wp2_with fail
 go_ret
 exact ⟨rfl,hKa.trans hK (by simp)⟩
end Go.Proofs.YtakafmejllilnaaGreat
