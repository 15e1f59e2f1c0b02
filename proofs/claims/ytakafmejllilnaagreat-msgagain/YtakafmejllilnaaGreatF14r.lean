/-
  Texts laid as one.
-/
import Derived.Test.YtakafmejllilnaaGreatW2r
import Derived.Test.YtakafmejllilnaaGreatF10r
import Derived.Test.YtakafmejllilnaaGreatW0r
import Derived.Deep.RegionHeld3
set_option maxHeartbeats 4000000
set_option maxRecDepth 100000
/-
 The document's SameCommit,of any. (Written by mk/mksame.py.)
-/
namespace Go.Proofs.YtakafmejllilnaaGreat
open Go.RowKit
theorem pB (w:World) (xr:Int) (yr:Int) (xb:Int) (yb:Int) (xn:List UInt8) (yn:List UInt8) (ao bo:Option Addr) (n m c d:Nat) (hne:xr≠yr) :
 Calls Tryz.prog 102 #[.agg #[.int .i64 xr,.int .i64 xb,.string (ae xn),.slice ao n c],.agg #[.int .i64 yr,.int .i64 yb,.string (ae yn),.slice bo m d]] w fun e w'=>e=.returned (.bool false)∧ab [] w w':=by
 have hKa:ab [] w ((w.alloc (.cells #[.int .i64 xr,.int .i64 xb,.string (ae xn),.slice ao n c] 108)).alloc (.cells #[.int .i64 yr,.int .i64 yb,.string (ae yn),.slice bo m d] 108)):=((ab.refl [] w).alloc _).alloc _;have hb:(xr==yr)=false:=by simpa using hne
 clear hne;go_enter Tryz.func102,Tryz.ntmps102;go_wp2_with fail
 go_ret
 exact ⟨rfl,hKa⟩
theorem qg (w:World) (xr:Int) (xb:Int) (yb:Int) (xn:List UInt8) (yn:List UInt8) (ao bo:Option Addr) (n m c d:Nat) (hne:xb≠yb) :
 Calls Tryz.prog 102 #[.agg #[.int .i64 xr,.int .i64 xb,.string (ae xn),.slice ao n c],.agg #[.int .i64 xr,.int .i64 yb,.string (ae yn),.slice bo m d]] w fun e w'=>e=.returned (.bool false)∧ab [] w w':=by
 have hKa:ab [] w ((w.alloc (.cells #[.int .i64 xr,.int .i64 xb,.string (ae xn),.slice ao n c] 108)).alloc (.cells #[.int .i64 xr,.int .i64 yb,.string (ae yn),.slice bo m d] 108)):=((ab.refl [] w).alloc _).alloc _;have hb:(xb==yb)=false:=by simpa using hne
 clear hne;go_enter Tryz.func102,Tryz.ntmps102;go_wp2_with fail
 go_ret
 exact ⟨rfl,hKa⟩
theorem qa (w:World) (xr:Int) (xb:Int) (xn:List UInt8) (yn:List UInt8) (ao bo:Option Addr) (n m c d:Nat) (hne:xn≠yn) :
 Calls Tryz.prog 102 #[.agg #[.int .i64 xr,.int .i64 xb,.string (ae xn),.slice ao n c],.agg #[.int .i64 xr,.int .i64 xb,.string (ae yn),.slice bo m d]] w fun e w'=>e=.returned (.bool false)∧ab [] w w':=by
 have hKa:ab [] w ((w.alloc (.cells #[.int .i64 xr,.int .i64 xb,.string (ae xn),.slice ao n c] 108)).alloc (.cells #[.int .i64 xr,.int .i64 xb,.string (ae yn),.slice bo m d] 108)):=((ab.refl [] w).alloc _).alloc _;have hb:¬ (ae xn).toList=(ae yn).toList:=fun h=>hne (by rw [Go.ByteArray.toList_eq,Go.ByteArray.toList_eq,aY,aY] at h;exact h);clear hne;go_enter Tryz.func102,Tryz.ntmps102;go_wp2_with fail
 go_ret
 exact ⟨rfl,hKa⟩
theorem qx (w:World) (xr:Int) (xb:Int) (xn:List UInt8) (ao bo:Option Addr) (n m c d:Nat) (L M:List Ch) (hL:dz w ao n c L) (hM:dz w bo m d M) (hl:¬ L=M) :
 Calls Tryz.prog 102 #[.agg #[.int .i64 xr,.int .i64 xb,.string (ae xn),.slice ao n c],.agg #[.int .i64 xr,.int .i64 xb,.string (ae xn),.slice bo m d]] w fun e w'=>e=.returned (.bool false)∧ab [] w w':=by
 have hKa:ab [] w ((w.alloc (.cells #[.int .i64 xr,.int .i64 xb,.string (ae xn),.slice ao n c] 108)).alloc (.cells #[.int .i64 xr,.int .i64 xb,.string (ae xn),.slice bo m d] 108)):=((ab.refl [] w).alloc _).alloc _;have cS:=fQ _ ao bo n m c d L M (hL.kept hKa (by simp)) (hM.kept hKa (by simp));rw [decide_eq_false hl] at cS;clear hl hL hM;go_enter Tryz.func102,Tryz.ntmps102;go_wp2_with fail
 refine cS.mono ?_;rintro _ w1 ⟨rfl,hK⟩;go_wp2_with fail
 go_ret
 exact ⟨rfl,hKa.trans hK (by simp)⟩
theorem mW (w:World) (xr:Int) (xb:Int) (xn:List UInt8) (ao bo:Option Addr) (n m c d:Nat) (L M:List Ch) (hL:dz w ao n c L) (hM:dz w bo m d M) (hl:L=M) :
 Calls Tryz.prog 102 #[.agg #[.int .i64 xr,.int .i64 xb,.string (ae xn),.slice ao n c],.agg #[.int .i64 xr,.int .i64 xb,.string (ae xn),.slice bo m d]] w fun e w'=>e=.returned (.bool true)∧ab [] w w':=by
 have hKa:ab [] w ((w.alloc (.cells #[.int .i64 xr,.int .i64 xb,.string (ae xn),.slice ao n c] 108)).alloc (.cells #[.int .i64 xr,.int .i64 xb,.string (ae xn),.slice bo m d] 108)):=((ab.refl [] w).alloc _).alloc _;have cS:=fQ _ ao bo n m c d L M (hL.kept hKa (by simp)) (hM.kept hKa (by simp));rw [decide_eq_true hl] at cS;clear hl hL hM;go_enter Tryz.func102,Tryz.ntmps102;go_wp2_with fail
 refine cS.mono ?_;rintro _ w1 ⟨rfl,hK⟩;go_wp2_with fail
 go_ret
 exact ⟨rfl,hKa.trans hK (by simp)⟩
theorem l5 (w:World) (x y:bW) (ao bo:Option Addr) (n m c d:Nat) (hL:dz w ao n c x.c) (hM:dz w bo m d y.c) :
 Calls Tryz.prog 102 #[.agg #[.int .i64 x.r,.int .i64 x.b,.string (ae x.n),.slice ao n c],.agg #[.int .i64 y.r,.int .i64 y.b,.string (ae y.n),.slice bo m d]] w fun e w'=>e=.returned (.bool (decide (x=y)))∧ab [] w w':=by
 obtain ⟨xr,xb,xn,xc⟩:=x;obtain ⟨yr,yb,yn,yc⟩:=y;simp only at *;by_cases hr:xr=yr
 rotate_left
 ·rw [decide_eq_false (by intro h;injection h;contradiction)];exact pB w xr yr xb yb xn yn ao bo n m c d hr
 subst hr;by_cases hb:xb=yb
 rotate_left
 ·rw [decide_eq_false (by intro h;injection h;contradiction)];exact qg w xr xb yb xn yn ao bo n m c d hb
 subst hb;by_cases hn:xn=yn
 rotate_left
 ·rw [decide_eq_false (by intro h;injection h;contradiction)];exact qa w xr xb xn yn ao bo n m c d hn
 subst hn;by_cases hc:xc=yc
 rotate_left
 ·rw [decide_eq_false (by intro h;injection h;contradiction)];exact qx w xr xb xn ao bo n m c d xc yc hL hM hc
 subst hc;rw [decide_eq_true rfl];exact mW w xr xb xn ao bo n m c d xc xc hL hM rfl
theorem ip (w:World) (ao bo:Option Addr) (n m c d:Nat) (K M:List (bW × Value)) (hK:kY w ao n c K) (hM:kY w bo m d M) :
 Calls Tryz.prog 86 #[.slice ao n c,.slice bo m d] w fun e w'=>e=.returned (.bool (decide (K.map Prod.fst=M.map Prod.fst)))∧ab [] w w':=by
 have hl:=hK.1;have hl2:=hM.1;have hc:=hK.2.1;have hm:=hK.2.2.1;have hd:=hM.2.1;have hm2:=hM.2.2.1;unfold maxLen at hm hm2;by_cases hnm:n=m
 rotate_left
 ·have hne:¬ K.map Prod.fst=M.map Prod.fst:=fun h=>by have:=congrArg List.length h;simp at this;omega
  rw [decide_eq_false hne];have hb:((n:Int) != (m:Int))=true:=by simp;omega
  clear hne hK hM hl hl2;go_enter Tryz.func86,Tryz.ntmps86;(go_wp2_with fail);go_ret
  exact ⟨rfl,ab.refl _ _⟩
 subst hnm;obtain ⟨R,hR⟩:∃ R,R=decide (K.map Prod.fst=M.map Prod.fst):=⟨_,rfl⟩;rw [← hR];have HR:=aa hR;have HLK:Hid (K.length=n):=hl;have HLM:Hid (M.length=n):=hl2;have HK:Hid (kY w ao n c K):=hK;have HM:Hid (kY w bo n d M):=hM;clear hl hl2 hK hM hR;go_enter Tryz.func86,Tryz.ntmps86;go_wp2_with fail
 go_loopw [5] (fun iv wr=>xC w n K M iv wr) (fun iv _=>n - (intOf iv).toNat)
 case atStart=>exact ⟨0,rfl,Nat.zero_le _,ab.refl _ _,by show _=_;simp⟩
 case round =>
  obtain ⟨i,rfl,hi,HW,HE⟩:=hrel;by_cases hlt:i < n
  ·have hlt':(i:Int) < n:=by omega
   have hic:i≤c:=by omega
   have hid:i≤d:=by omega
   have hiK:i < K.length:=by rw [HLK.out];exact hlt
   have hiM:i < M.length:=by rw [HLM.out];exact hlt
   obtain ⟨g,o,rfl,hx⟩:=HK.out.2.2.2.1 i hiK;obtain ⟨g2,o2,rfl,hy⟩:=HM.out.2.2.2.1 i hiM;obtain ⟨mo,mm,mc,e1,hs1,_⟩:=HK.out.2.2.2.2 _ (List.getElem_mem hiK);obtain ⟨mo2,mm2,mc2,e2,hs2,_⟩:=HM.out.2.2.2.2 _ (List.getElem_mem hiM);obtain ⟨x0,x1,x2,x3⟩:=hx.kept HW.out (by simp);obtain ⟨y0,y1,y2,y3⟩:=hy.kept HW.out (by simp);rw [e1] at x3;rw [e2] at y3;have cS:=fun W (hk:ab [] wr W)=>l5 W K[i].1 M[i].1 mo mo2 mm mm2 mc mc2 ((hs1.kept HW.out (by simp)).kept hk (by simp)) ((hs2.kept HW.out (by simp)).kept hk (by simp));have hXY:Hid (K[i].1=M[i].1→(K.map Prod.fst).take (i+1)=(M.map Prod.fst).take (i+1)):=fun h=>j6 HE.out (by simpa using hiK) (by simpa using hiM) (by simpa using h)
   have hXN:Hid (K[i].1≠M[i].1→R=false):=fun h=>by
    rw [HR.out]
    exact decide_eq_false (fun h2=>h (by
     have h1:(K.map Prod.fst)[i]'(by simpa using hiK)=(M.map Prod.fst)[i]'(by simpa using hiM):=by simp only [h2]
     simpa using h1))
   generalize K[i].1=x at *;generalize M[i].1=y at *;clear hx hy hs1 hs2 e1 e2;by_cases hxy:x=y
   ·have HE2:=aa (hXY.out hxy);rw [decide_eq_true hxy] at cS;clear hxy hXY hXN;go_wp2_with fail
    go_region_held3 (fun w'=>(w'.cell? ⟨g,o+i*4,none⟩=some (.int .i64 x.r)∧w'.cell? ⟨g,o+i*4+1,none⟩=some (.int .i64 x.b)∧w'.cell? ⟨g,o+i*4+2,none⟩=some (.string (ae x.n))∧w'.cell? ⟨g,o+i*4+3,none⟩=some (.slice mo mm mc))∧w'.cell? ⟨g2,o2+i*4,none⟩=some (.int .i64 y.r)∧w'.cell? ⟨g2,o2+i*4+1,none⟩=some (.int .i64 y.b)∧w'.cell? ⟨g2,o2+i*4+2,none⟩=some (.string (ae y.n))∧w'.cell? ⟨g2,o2+i*4+3,none⟩=some (.slice mo2 mm2 mc2))
     (first | go_keep | exact ⟨⟨hK3.cell x0 (by simp),hK3.cell x1 (by simp),hK3.cell x2 (by simp),hK3.cell x3 (by simp)⟩,hK3.cell y0 (by simp),hK3.cell y1 (by simp),hK3.cell y2 (by simp),hK3.cell y3 (by simp)⟩)
     (first
       | (go_at_call 102;refine (cS _ ?_).mono ?_;exact (ab.refl [] _).drew;rintro e w3 ⟨rfl,hK3⟩;replace hK3:=(ab.refl [] wr).drew.trans hK3 (by simp)))
    have HW3:Hid (ab [] w w3):=HW.out.trans hK3 (by simp);clear cS hK3;(go_wp2_with fail);go_roundw
    case rel=>exact ⟨i+1,by go_num,by omega,HW3,HE2⟩
    case measure=>simp [intOf];omega
   ·have HRf:=aa (hXN.out hxy);rw [decide_eq_false hxy] at cS;clear hxy hXY hXN;go_wp2_with fail
    go_region_held3 (fun w'=>(w'.cell? ⟨g,o+i*4,none⟩=some (.int .i64 x.r)∧w'.cell? ⟨g,o+i*4+1,none⟩=some (.int .i64 x.b)∧w'.cell? ⟨g,o+i*4+2,none⟩=some (.string (ae x.n))∧w'.cell? ⟨g,o+i*4+3,none⟩=some (.slice mo mm mc))∧w'.cell? ⟨g2,o2+i*4,none⟩=some (.int .i64 y.r)∧w'.cell? ⟨g2,o2+i*4+1,none⟩=some (.int .i64 y.b)∧w'.cell? ⟨g2,o2+i*4+2,none⟩=some (.string (ae y.n))∧w'.cell? ⟨g2,o2+i*4+3,none⟩=some (.slice mo2 mm2 mc2))
     (first | go_keep | exact ⟨⟨hK3.cell x0 (by simp),hK3.cell x1 (by simp),hK3.cell x2 (by simp),hK3.cell x3 (by simp)⟩,hK3.cell y0 (by simp),hK3.cell y1 (by simp),hK3.cell y2 (by simp),hK3.cell y3 (by simp)⟩)
     (first
       | (go_at_call 102;refine (cS _ ?_).mono ?_;exact (ab.refl [] _).drew;rintro e w3 ⟨rfl,hK3⟩;replace hK3:=(ab.refl [] wr).drew.trans hK3 (by simp)))
    have HW3:Hid (ab [] w w3):=HW.out.trans hK3 (by simp);clear cS hK3;(go_wp2_with fail);go_ret
    rw [HRf.out];exact ⟨rfl,HW3.out⟩
  ·have hlt':¬ (i:Int) < n:=by omega
   have HRt:Hid (R=true):=by
    show _=_;rw [HR.out];have h1:=HE.out;rw [List.take_of_length_le (by simp;have:=HLK.out;omega),List.take_of_length_le (by simp;have:=HLM.out;omega)] at h1;exact decide_eq_true h1
   (go_wp2_with fail);go_ret
   rw [HRt.out];exact ⟨rfl,HW.out⟩
theorem tQ (w:World) (xc:Int) (yc:Int) (xs:Int) (ys:Int) (xr:Int) (yr:Int) (xp:List UInt8) (yp:List UInt8) (xd:Int) (yd:Int) (xm:Int) (ym:Int) (ao bo:Option Addr) (n m c d:Nat) (hne:xc≠yc) :
 Calls Tryz.prog 50 #[.agg #[.int .i64 xc,.int .i64 xs,.int .i64 xr,.string (ae xp),.int .u64 xd,.slice ao n c,.int .i64 xm],.agg #[.int .i64 yc,.int .i64 ys,.int .i64 yr,.string (ae yp),.int .u64 yd,.slice bo m d,.int .i64 ym]] w fun e w'=>e=.returned (.bool false)∧ab [] w w':=by
 have hKa:ab [] w ((w.alloc (.cells #[.int .i64 xc,.int .i64 xs,.int .i64 xr,.string (ae xp),.int .u64 xd,.slice ao n c,.int .i64 xm] 34)).alloc (.cells #[.int .i64 yc,.int .i64 ys,.int .i64 yr,.string (ae yp),.int .u64 yd,.slice bo m d,.int .i64 ym] 34)):=((ab.refl [] w).alloc _).alloc _;have hb:(xc==yc)=false:=by simpa using hne
 clear hne;go_enter Tryz.func50,Tryz.ntmps50;go_wp2_with fail
 go_ret
 exact ⟨rfl,hKa⟩
theorem tZ (w:World) (xc:Int) (xs:Int) (ys:Int) (xr:Int) (yr:Int) (xp:List UInt8) (yp:List UInt8) (xd:Int) (yd:Int) (xm:Int) (ym:Int) (ao bo:Option Addr) (n m c d:Nat) (hne:xs≠ys) :
 Calls Tryz.prog 50 #[.agg #[.int .i64 xc,.int .i64 xs,.int .i64 xr,.string (ae xp),.int .u64 xd,.slice ao n c,.int .i64 xm],.agg #[.int .i64 xc,.int .i64 ys,.int .i64 yr,.string (ae yp),.int .u64 yd,.slice bo m d,.int .i64 ym]] w fun e w'=>e=.returned (.bool false)∧ab [] w w':=by
 have hKa:ab [] w ((w.alloc (.cells #[.int .i64 xc,.int .i64 xs,.int .i64 xr,.string (ae xp),.int .u64 xd,.slice ao n c,.int .i64 xm] 34)).alloc (.cells #[.int .i64 xc,.int .i64 ys,.int .i64 yr,.string (ae yp),.int .u64 yd,.slice bo m d,.int .i64 ym] 34)):=((ab.refl [] w).alloc _).alloc _;have hb:(xs==ys)=false:=by simpa using hne
 clear hne;go_enter Tryz.func50,Tryz.ntmps50;go_wp2_with fail
 go_ret
 exact ⟨rfl,hKa⟩
theorem uI (w:World) (xc:Int) (xs:Int) (xr:Int) (yr:Int) (xp:List UInt8) (yp:List UInt8) (xd:Int) (yd:Int) (xm:Int) (ym:Int) (ao bo:Option Addr) (n m c d:Nat) (hne:xr≠yr) :
 Calls Tryz.prog 50 #[.agg #[.int .i64 xc,.int .i64 xs,.int .i64 xr,.string (ae xp),.int .u64 xd,.slice ao n c,.int .i64 xm],.agg #[.int .i64 xc,.int .i64 xs,.int .i64 yr,.string (ae yp),.int .u64 yd,.slice bo m d,.int .i64 ym]] w fun e w'=>e=.returned (.bool false)∧ab [] w w':=by
 have hKa:ab [] w ((w.alloc (.cells #[.int .i64 xc,.int .i64 xs,.int .i64 xr,.string (ae xp),.int .u64 xd,.slice ao n c,.int .i64 xm] 34)).alloc (.cells #[.int .i64 xc,.int .i64 xs,.int .i64 yr,.string (ae yp),.int .u64 yd,.slice bo m d,.int .i64 ym] 34)):=((ab.refl [] w).alloc _).alloc _;have hb:(xr==yr)=false:=by simpa using hne
 clear hne;go_enter Tryz.func50,Tryz.ntmps50;go_wp2_with fail
 go_ret
 exact ⟨rfl,hKa⟩
theorem ta (w:World) (xc:Int) (xs:Int) (xr:Int) (xp:List UInt8) (yp:List UInt8) (xd:Int) (yd:Int) (xm:Int) (ym:Int) (ao bo:Option Addr) (n m c d:Nat) (hne:xp≠yp) :
 Calls Tryz.prog 50 #[.agg #[.int .i64 xc,.int .i64 xs,.int .i64 xr,.string (ae xp),.int .u64 xd,.slice ao n c,.int .i64 xm],.agg #[.int .i64 xc,.int .i64 xs,.int .i64 xr,.string (ae yp),.int .u64 yd,.slice bo m d,.int .i64 ym]] w fun e w'=>e=.returned (.bool false)∧ab [] w w':=by
 have hKa:ab [] w ((w.alloc (.cells #[.int .i64 xc,.int .i64 xs,.int .i64 xr,.string (ae xp),.int .u64 xd,.slice ao n c,.int .i64 xm] 34)).alloc (.cells #[.int .i64 xc,.int .i64 xs,.int .i64 xr,.string (ae yp),.int .u64 yd,.slice bo m d,.int .i64 ym] 34)):=((ab.refl [] w).alloc _).alloc _;have hb:¬ (ae xp).toList=(ae yp).toList:=fun h=>hne (by rw [Go.ByteArray.toList_eq,Go.ByteArray.toList_eq,aY,aY] at h;exact h);clear hne;go_enter Tryz.func50,Tryz.ntmps50;go_wp2_with fail
 go_ret
 exact ⟨rfl,hKa⟩
theorem tA (w:World) (xc:Int) (xs:Int) (xr:Int) (xp:List UInt8) (xd:Int) (yd:Int) (xm:Int) (ym:Int) (ao bo:Option Addr) (n m c d:Nat) (hne:xd≠yd) :
 Calls Tryz.prog 50 #[.agg #[.int .i64 xc,.int .i64 xs,.int .i64 xr,.string (ae xp),.int .u64 xd,.slice ao n c,.int .i64 xm],.agg #[.int .i64 xc,.int .i64 xs,.int .i64 xr,.string (ae xp),.int .u64 yd,.slice bo m d,.int .i64 ym]] w fun e w'=>e=.returned (.bool false)∧ab [] w w':=by
 have hKa:ab [] w ((w.alloc (.cells #[.int .i64 xc,.int .i64 xs,.int .i64 xr,.string (ae xp),.int .u64 xd,.slice ao n c,.int .i64 xm] 34)).alloc (.cells #[.int .i64 xc,.int .i64 xs,.int .i64 xr,.string (ae xp),.int .u64 yd,.slice bo m d,.int .i64 ym] 34)):=((ab.refl [] w).alloc _).alloc _;have hb:(xd==yd)=false:=by simpa using hne
 clear hne;go_enter Tryz.func50,Tryz.ntmps50;go_wp2_with fail
 go_ret
 exact ⟨rfl,hKa⟩
theorem tB (w:World) (xc:Int) (xs:Int) (xr:Int) (xp:List UInt8) (xd:Int) (xm:Int) (ym:Int) (ao bo:Option Addr) (n m c d:Nat) (hne:xm≠ym) :
 Calls Tryz.prog 50 #[.agg #[.int .i64 xc,.int .i64 xs,.int .i64 xr,.string (ae xp),.int .u64 xd,.slice ao n c,.int .i64 xm],.agg #[.int .i64 xc,.int .i64 xs,.int .i64 xr,.string (ae xp),.int .u64 xd,.slice bo m d,.int .i64 ym]] w fun e w'=>e=.returned (.bool false)∧ab [] w w':=by
 have hKa:ab [] w ((w.alloc (.cells #[.int .i64 xc,.int .i64 xs,.int .i64 xr,.string (ae xp),.int .u64 xd,.slice ao n c,.int .i64 xm] 34)).alloc (.cells #[.int .i64 xc,.int .i64 xs,.int .i64 xr,.string (ae xp),.int .u64 xd,.slice bo m d,.int .i64 ym] 34)):=((ab.refl [] w).alloc _).alloc _;have hb:(xm==ym)=false:=by simpa using hne
 clear hne;go_enter Tryz.func50,Tryz.ntmps50;go_wp2_with fail
 go_ret
 exact ⟨rfl,hKa⟩
theorem ub (w:World) (xc:Int) (xs:Int) (xr:Int) (xp:List UInt8) (xd:Int) (xm:Int) (ao bo:Option Addr) (n m c d:Nat) (K M:List (bW × Value)) (hL:kY w ao n c K) (hM:kY w bo m d M) (hl:¬ K.map Prod.fst=M.map Prod.fst) :
 Calls Tryz.prog 50 #[.agg #[.int .i64 xc,.int .i64 xs,.int .i64 xr,.string (ae xp),.int .u64 xd,.slice ao n c,.int .i64 xm],.agg #[.int .i64 xc,.int .i64 xs,.int .i64 xr,.string (ae xp),.int .u64 xd,.slice bo m d,.int .i64 xm]] w fun e w'=>e=.returned (.bool false)∧ab [] w w':=by
 have hKa:ab [] w ((w.alloc (.cells #[.int .i64 xc,.int .i64 xs,.int .i64 xr,.string (ae xp),.int .u64 xd,.slice ao n c,.int .i64 xm] 34)).alloc (.cells #[.int .i64 xc,.int .i64 xs,.int .i64 xr,.string (ae xp),.int .u64 xd,.slice bo m d,.int .i64 xm] 34)):=((ab.refl [] w).alloc _).alloc _;have cS:=ip _ ao bo n m c d K M (hL.kept hKa) (hM.kept hKa);rw [decide_eq_false hl] at cS;clear hl hL hM;go_enter Tryz.func50,Tryz.ntmps50;go_wp2_with fail
 refine cS.mono ?_;rintro _ w1 ⟨rfl,hK⟩;go_wp2_with fail
 go_ret
 exact ⟨rfl,hKa.trans hK (by simp)⟩
theorem pE (w:World) (xc:Int) (xs:Int) (xr:Int) (xp:List UInt8) (xd:Int) (xm:Int) (ao bo:Option Addr) (n m c d:Nat) (K M:List (bW × Value)) (hL:kY w ao n c K) (hM:kY w bo m d M) (hl:K.map Prod.fst=M.map Prod.fst) :
 Calls Tryz.prog 50 #[.agg #[.int .i64 xc,.int .i64 xs,.int .i64 xr,.string (ae xp),.int .u64 xd,.slice ao n c,.int .i64 xm],.agg #[.int .i64 xc,.int .i64 xs,.int .i64 xr,.string (ae xp),.int .u64 xd,.slice bo m d,.int .i64 xm]] w fun e w'=>e=.returned (.bool true)∧ab [] w w':=by
 have hKa:ab [] w ((w.alloc (.cells #[.int .i64 xc,.int .i64 xs,.int .i64 xr,.string (ae xp),.int .u64 xd,.slice ao n c,.int .i64 xm] 34)).alloc (.cells #[.int .i64 xc,.int .i64 xs,.int .i64 xr,.string (ae xp),.int .u64 xd,.slice bo m d,.int .i64 xm] 34)):=((ab.refl [] w).alloc _).alloc _;have cS:=ip _ ao bo n m c d K M (hL.kept hKa) (hM.kept hKa);rw [decide_eq_true hl] at cS;clear hl hL hM;go_enter Tryz.func50,Tryz.ntmps50;go_wp2_with fail
 refine cS.mono ?_;rintro _ w1 ⟨rfl,hK⟩;go_wp2_with fail
 go_ret
 exact ⟨rfl,hKa.trans hK (by simp)⟩
theorem fZ (w:World) (x y:Vt) (u1 u2:Value) (h1:nH w u1 x.k) (h2:nH w u2 y.k) :
 Calls Tryz.prog 50 #[dx x u1,dx y u2] w fun e w'=>e=.returned (.bool (decide (x=y)))∧ab [] w w':=by
 obtain ⟨ao,n,c,K,rfl,hL,e1,_⟩:=h1;obtain ⟨bo,m,d,M,rfl,hM,e2,_⟩:=h2;obtain ⟨xc,xs,xr,xp,xd,xk,xm⟩:=x;obtain ⟨yc,ys,yr,yp,yd,yk,ym⟩:=y;simp only at e1 e2;subst e1;subst e2;unfold dx;simp only
 by_cases hc:xc=yc
 rotate_left
 ·rw [decide_eq_false (by intro h;injection h;contradiction)];exact tQ w xc yc xs ys xr yr xp yp xd yd xm ym ao bo n m c d hc
 subst hc;by_cases hs:xs=ys
 rotate_left
 ·rw [decide_eq_false (by intro h;injection h;contradiction)];exact tZ w xc xs ys xr yr xp yp xd yd xm ym ao bo n m c d hs
 subst hs;by_cases hr:xr=yr
 rotate_left
 ·rw [decide_eq_false (by intro h;injection h;contradiction)];exact uI w xc xs xr yr xp yp xd yd xm ym ao bo n m c d hr
 subst hr;by_cases hp:xp=yp
 rotate_left
 ·rw [decide_eq_false (by intro h;injection h;contradiction)];exact ta w xc xs xr xp yp xd yd xm ym ao bo n m c d hp
 subst hp;by_cases hd:xd=yd
 rotate_left
 ·rw [decide_eq_false (by intro h;injection h;contradiction)];exact tA w xc xs xr xp xd yd xm ym ao bo n m c d hd
 subst hd;by_cases hm:xm=ym
 rotate_left
 ·rw [decide_eq_false (by intro h;injection h;contradiction)];exact tB w xc xs xr xp xd xm ym ao bo n m c d hm
 subst hm;by_cases hk:K.map Prod.fst=M.map Prod.fst
 rotate_left
 ·rw [decide_eq_false (by intro h;injection h;contradiction)];exact ub w xc xs xr xp xd xm ao bo n m c d K M hL hM hk
 rw [decide_eq_true (by rw [hk])];exact pE w xc xs xr xp xd xm ao bo n m c d K M hL hM hk
end Go.Proofs.YtakafmejllilnaaGreat
