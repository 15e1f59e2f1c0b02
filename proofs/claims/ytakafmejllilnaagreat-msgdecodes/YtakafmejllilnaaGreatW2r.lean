/-
  Texts laid as one.
-/
import Derived.Test.YtakafmejllilnaaGreatW0r
import Derived.Test.YtakafmejllilnaaGreatF1r
import Derived.Deep.RegionHeld3
set_option maxHeartbeats 4000000
set_option maxRecDepth 100000
/-
 change.Same,the document's own Same;few and small.
-/
namespace Go.Proofs.YtakafmejllilnaaGreat
open Go.RowKit
theorem j2 {L M:List Ch}{k:Nat}(h:L.take k=M.take k) (h1:k < L.length) (h2:k < M.length) (h3:L[k]=M[k]):L.take (k+1)=M.take (k+1):=by
 rw [List.take_succ_eq_append_getElem h1,List.take_succ_eq_append_getElem h2,h,h3]
theorem lQ {L M:List Ch}{k:Nat}(h1:k < L.length) (h2:k < M.length) (h3:L[k]≠M[k]):decide (L=M)=false:=by
 rw [decide_eq_false_iff_not];intro e;subst e;exact h3 rfl
theorem mE (x y:Ch):(x=y∧(ae x.p).toList=(ae y.p).toList∧x.g=y.g∧x.d=y.d)∨(x≠y∧((¬ (ae x.p).toList=(ae y.p).toList)∨((ae x.p).toList=(ae y.p).toList∧¬ x.g=y.g) ∨
 ((ae x.p).toList=(ae y.p).toList∧x.g=y.g∧¬ x.d=y.d))):=by
 have e:∀ a b:List UInt8,((ae a).toList=(ae b).toList↔a=b):=fun a b=>by
  rw [Go.ByteArray.toList_eq,Go.ByteArray.toList_eq,aY,aY]
 rw [e];obtain ⟨p,g,d⟩:=x;obtain ⟨p',g',d'⟩:=y;simp only [Ch.mk.injEq];by_cases h1:p=p' <;> by_cases h2:g=g' <;> by_cases h3:d=d' <;> simp [h1,h2,h3]
theorem oF (w:World) (ao bo:Option Addr) (n m c d:Nat) (L M:List Ch) (hL:dz w ao n c L) (hM:dz w bo m d M) :
 Calls Tryz.prog 85 #[.slice ao n c,.slice bo m d] w fun r w'=>r=.returned (.bool (decide (L=M)))∧∃ q,w'=w.drewN q:=by
 have hn:=hL.1;subst hn;have hm:=hM.1;subst hm;have l1:=hL.2.1;have l2:=hL.2.2.1;have m1:=hM.2.1;have m2:=hM.2.2.1;unfold maxLen at l2 m2;by_cases hlen:L.length=M.length
 ·by_cases h0:L.length=0
  ·have e1:L=[]:=by simpa using h0
   have e2:M=[]:=by simpa [h0] using hlen.symm
   subst e1;subst e2;clear hL hM;go_enter Tryz.func85,Tryz.ntmps85;go_wp2
   refine wp_loop_rounds 1 ?_;rw [rounds_succ];go_wp2
   go_ret
   exact ⟨rfl,0,rfl⟩
  ·obtain ⟨b,o,rfl,hA⟩:=hL.some (by omega);obtain ⟨b2,o2,rfl,hB⟩:=hM.some (by omega);have hi:(L.length:Int)=M.length:=by omega
   obtain ⟨R,hR⟩:∃ R,R=decide (L=M):=⟨_,rfl⟩;rw [← hR];have HR:Hid (R=decide (L=M)):=hR;have HA:Hid (∀ i (hi:i < L.length),lk w b (o+i*3) L[i]):=hA;have HB:Hid (∀ i (hi:i < M.length),lk w b2 (o2+i*3) M[i]):=hB;clear hL hM hA hB hR;go_enter Tryz.func85,Tryz.ntmps85;(go_wp2_with fail);go_loopw [5] (fun i wr=>∃ (k q:Nat),k≤L.length∧i=.int .i64 k∧wr=w.drewN q∧Hid (L.take k=M.take k)) (fun i _=>L.length - (intOf i).toNat)
   case atStart=>exact ⟨0,0,Nat.zero_le _,rfl,rfl,rfl⟩
   case round =>
    obtain ⟨k,q,hk,rfl,rfl,hT⟩:=hrel;by_cases hlt:k < L.length
    ·obtain ⟨c0,c1,c2⟩:=HA.out k hlt;obtain ⟨d0,d1,d2⟩:=HB.out k (by omega);have hlt':(k:Int) < M.length:=by omega
     have hk2:k < M.length:=by omega
     rcases mE L[k] M[k] with ⟨he,e0,e1,e2⟩ | ⟨he,hne⟩
     ·have HE:Hid (L.take (k+1)=M.take (k+1)):=j2 hT.out hlt hk2 he;clear he;(go_wp2_with fail);go_region
      (go_wp2_with fail);go_roundw
      case rel=>exact ⟨k+1,q+1,by omega,by go_num,rfl,HE⟩
      case measure=>simp [intOf];omega
     ·have HE:Hid (decide (L=M)=false):=lQ hlt hk2 he;clear he;rcases hne with e0 | ⟨e0,e1⟩ | ⟨e0,e1,e2⟩
      all_goals
       (go_wp2_with fail);go_region
       (go_wp2_with fail);go_ret
       exact ⟨by rw [HR.out,HE.out];rfl,_,rfl⟩
    ·have HE:Hid (decide (L=M)=true):=by
      show decide (L=M)=true;have h1:=hT.out;rw [List.take_of_length_le (by omega),List.take_of_length_le (by omega)] at h1;simpa using h1
     (go_wp2_with fail);go_ret
     exact ⟨by rw [HR.out,HE.out];rfl,_,rfl⟩
 ·have hi:¬ (L.length:Int)=M.length:=by omega
  have HE:Hid (decide (L=M)=false):=by
   show decide (L=M)=false;rw [decide_eq_false_iff_not];intro e;exact hlen (by rw [e])
  obtain ⟨R,hR⟩:∃ R,R=decide (L=M):=⟨_,rfl⟩;rw [← hR];have HR:Hid (R=decide (L=M)):=hR;clear hL hM hR;go_enter Tryz.func85,Tryz.ntmps85;(go_wp2_with fail);go_ret
  exact ⟨by rw [HR.out,HE.out];rfl,0,rfl⟩
theorem oU (w:World) (ao bo:Option Addr) (n m c d:Nat) (L M:List Ch) (hL:dz w ao n c L) (hM:dz w bo m d M) :
 Calls Tryz.prog 98 #[.slice ao n c,.slice bo m d] w fun r w'=>r=.returned (.bool (decide (L=M)))∧∃ q,w'=w.drewN q:=by
 have hn:=hL.1;subst hn;have hm:=hM.1;subst hm;have l1:=hL.2.1;have l2:=hL.2.2.1;have m1:=hM.2.1;have m2:=hM.2.2.1;unfold maxLen at l2 m2;by_cases hlen:L.length=M.length
 ·by_cases h0:L.length=0
  ·have e1:L=[]:=by simpa using h0
   have e2:M=[]:=by simpa [h0] using hlen.symm
   subst e1;subst e2;clear hL hM;go_enter Tryz.func98,Tryz.ntmps98;go_wp2
   refine wp_loop_rounds 1 ?_;rw [rounds_succ];go_wp2
   go_ret
   exact ⟨rfl,0,rfl⟩
  ·obtain ⟨b,o,rfl,hA⟩:=hL.some (by omega);obtain ⟨b2,o2,rfl,hB⟩:=hM.some (by omega);have hi:(L.length:Int)=M.length:=by omega
   obtain ⟨R,hR⟩:∃ R,R=decide (L=M):=⟨_,rfl⟩;rw [← hR];have HR:Hid (R=decide (L=M)):=hR;have HA:Hid (∀ i (hi:i < L.length),lk w b (o+i*3) L[i]):=hA;have HB:Hid (∀ i (hi:i < M.length),lk w b2 (o2+i*3) M[i]):=hB;clear hL hM hA hB hR;go_enter Tryz.func98,Tryz.ntmps98;(go_wp2_with fail);go_loopw [13] (fun i wr=>∃ (k q:Nat),k≤L.length∧i=.int .i64 k∧wr=w.drewN q∧Hid (L.take k=M.take k)) (fun i _=>L.length - (intOf i).toNat)
   case atStart=>exact ⟨0,0,Nat.zero_le _,rfl,rfl,rfl⟩
   case round =>
    obtain ⟨k,q,hk,rfl,rfl,hT⟩:=hrel;by_cases hlt:k < L.length
    ·obtain ⟨c0,c1,c2⟩:=HA.out k hlt;obtain ⟨d0,d1,d2⟩:=HB.out k (by omega);have hlt':(k:Int) < M.length:=by omega
     have hk2:k < M.length:=by omega
     rcases mE L[k] M[k] with ⟨he,e0,e1,e2⟩ | ⟨he,hne⟩
     ·have HE:Hid (L.take (k+1)=M.take (k+1)):=j2 hT.out hlt hk2 he;clear he;(go_wp2_with fail);go_region
      (go_wp2_with fail);go_roundw
      case rel=>exact ⟨k+1,q+1,by omega,by go_num,rfl,HE⟩
      case measure=>simp [intOf];omega
     ·have HE:Hid (decide (L=M)=false):=lQ hlt hk2 he;clear he;rcases hne with e0 | ⟨e0,e1⟩ | ⟨e0,e1,e2⟩
      all_goals
       (go_wp2_with fail);go_region
       (go_wp2_with fail);go_ret
       exact ⟨by rw [HR.out,HE.out];rfl,_,rfl⟩
    ·have HE:Hid (decide (L=M)=true):=by
      show decide (L=M)=true;have h1:=hT.out;rw [List.take_of_length_le (by omega),List.take_of_length_le (by omega)] at h1;simpa using h1
     (go_wp2_with fail);go_ret
     exact ⟨by rw [HR.out,HE.out];rfl,_,rfl⟩
 ·have hi:¬ (L.length:Int)=M.length:=by omega
  have HE:Hid (decide (L=M)=false):=by
   show decide (L=M)=false;rw [decide_eq_false_iff_not];intro e;exact hlen (by rw [e])
  obtain ⟨R,hR⟩:∃ R,R=decide (L=M):=⟨_,rfl⟩;rw [← hR];have HR:Hid (R=decide (L=M)):=hR;clear hL hM hR;go_enter Tryz.func98,Tryz.ntmps98;(go_wp2_with fail);go_ret
  exact ⟨by rw [HR.out,HE.out];rfl,0,rfl⟩
theorem fQ (w:World) (ao bo:Option Addr) (n m c d:Nat) (L M:List Ch) (hL:dz w ao n c L) (hM:dz w bo m d M) :
 Calls Tryz.prog 85 #[.slice ao n c,.slice bo m d] w fun r w'=>r=.returned (.bool (decide (L=M)))∧ab [] w w' :=
 (oF w ao bo n m c d L M hL hM).mono fun _ _ ⟨h1,q,h2⟩=>⟨h1,by rw [h2];exact kB w q⟩
theorem dw (w:World) (ao bo:Option Addr) (n m c d:Nat) (L M:List Ch) (hL:dz w ao n c L) (hM:dz w bo m d M) :
 Calls Tryz.prog 98 #[.slice ao n c,.slice bo m d] w fun e w'=>e=.returned (.bool (decide (L=M)))∧ab [] w w':=by
 refine (oU w ao bo n m c d L M hL hM).mono ?_;rintro _ _ ⟨rfl,q,rfl⟩;exact ⟨rfl,kB w q⟩
theorem tc (w:World) (xk:Int) (yk:Int) (xn:List UInt8) (yn:List UInt8) (xs:Int) (ys:Int) (xq:Int) (yq:Int) (xb:Int) (yb:Int) (xf:List UInt8) (yf:List UInt8) (xp:List UInt8) (yp:List UInt8) (xfr:Int) (yfr:Int) (xmn:Int) (ymn:Int) (xmb:Int) (ymb:Int) (ao bo:Option Addr) (n m c d:Nat) (hne:xk≠yk) :
 Calls Tryz.prog 49 #[.agg #[.int .i64 xk,.string (ae xn),.int .i64 xs,.int .i64 xq,.int .i64 xb,.string (ae xf),.slice ao n c,.string (ae xp),.int .i64 xfr,.int .i64 xmn,.int .i64 xmb],.agg #[.int .i64 yk,.string (ae yn),.int .i64 ys,.int .i64 yq,.int .i64 yb,.string (ae yf),.slice bo m d,.string (ae yp),.int .i64 yfr,.int .i64 ymn,.int .i64 ymb]] w fun e w'=>e=.returned (.bool false)∧ab [] w w':=by
 have hKa:ab [] w ((w.alloc (.cells #[.int .i64 xk,.string (ae xn),.int .i64 xs,.int .i64 xq,.int .i64 xb,.string (ae xf),.slice ao n c,.string (ae xp),.int .i64 xfr,.int .i64 xmn,.int .i64 xmb] 29)).alloc (.cells #[.int .i64 yk,.string (ae yn),.int .i64 ys,.int .i64 yq,.int .i64 yb,.string (ae yf),.slice bo m d,.string (ae yp),.int .i64 yfr,.int .i64 ymn,.int .i64 ymb] 29)):=((ab.refl [] w).alloc _).alloc _;have hb:(xk==yk)=false:=by simpa using hne
 clear hne;go_enter Tryz.func49,Tryz.ntmps49;go_wp2_with fail
 go_ret
 exact ⟨rfl,hKa⟩
theorem uE (w:World) (xk:Int) (xn:List UInt8) (yn:List UInt8) (xs:Int) (ys:Int) (xq:Int) (yq:Int) (xb:Int) (yb:Int) (xf:List UInt8) (yf:List UInt8) (xp:List UInt8) (yp:List UInt8) (xfr:Int) (yfr:Int) (xmn:Int) (ymn:Int) (xmb:Int) (ymb:Int) (ao bo:Option Addr) (n m c d:Nat) (hne:xn≠yn) :
 Calls Tryz.prog 49 #[.agg #[.int .i64 xk,.string (ae xn),.int .i64 xs,.int .i64 xq,.int .i64 xb,.string (ae xf),.slice ao n c,.string (ae xp),.int .i64 xfr,.int .i64 xmn,.int .i64 xmb],.agg #[.int .i64 xk,.string (ae yn),.int .i64 ys,.int .i64 yq,.int .i64 yb,.string (ae yf),.slice bo m d,.string (ae yp),.int .i64 yfr,.int .i64 ymn,.int .i64 ymb]] w fun e w'=>e=.returned (.bool false)∧ab [] w w':=by
 have hKa:ab [] w ((w.alloc (.cells #[.int .i64 xk,.string (ae xn),.int .i64 xs,.int .i64 xq,.int .i64 xb,.string (ae xf),.slice ao n c,.string (ae xp),.int .i64 xfr,.int .i64 xmn,.int .i64 xmb] 29)).alloc (.cells #[.int .i64 xk,.string (ae yn),.int .i64 ys,.int .i64 yq,.int .i64 yb,.string (ae yf),.slice bo m d,.string (ae yp),.int .i64 yfr,.int .i64 ymn,.int .i64 ymb] 29)):=((ab.refl [] w).alloc _).alloc _;have hb:¬ (ae xn).toList=(ae yn).toList:=fun h=>hne (by rw [Go.ByteArray.toList_eq,Go.ByteArray.toList_eq,aY,aY] at h;exact h);clear hne;go_enter Tryz.func49,Tryz.ntmps49;go_wp2_with fail
 go_ret
 exact ⟨rfl,hKa⟩
theorem t8 (w:World) (xk:Int) (xn:List UInt8) (xs:Int) (ys:Int) (xq:Int) (yq:Int) (xb:Int) (yb:Int) (xf:List UInt8) (yf:List UInt8) (xp:List UInt8) (yp:List UInt8) (xfr:Int) (yfr:Int) (xmn:Int) (ymn:Int) (xmb:Int) (ymb:Int) (ao bo:Option Addr) (n m c d:Nat) (hne:xs≠ys) :
 Calls Tryz.prog 49 #[.agg #[.int .i64 xk,.string (ae xn),.int .i64 xs,.int .i64 xq,.int .i64 xb,.string (ae xf),.slice ao n c,.string (ae xp),.int .i64 xfr,.int .i64 xmn,.int .i64 xmb],.agg #[.int .i64 xk,.string (ae xn),.int .i64 ys,.int .i64 yq,.int .i64 yb,.string (ae yf),.slice bo m d,.string (ae yp),.int .i64 yfr,.int .i64 ymn,.int .i64 ymb]] w fun e w'=>e=.returned (.bool false)∧ab [] w w':=by
 have hKa:ab [] w ((w.alloc (.cells #[.int .i64 xk,.string (ae xn),.int .i64 xs,.int .i64 xq,.int .i64 xb,.string (ae xf),.slice ao n c,.string (ae xp),.int .i64 xfr,.int .i64 xmn,.int .i64 xmb] 29)).alloc (.cells #[.int .i64 xk,.string (ae xn),.int .i64 ys,.int .i64 yq,.int .i64 yb,.string (ae yf),.slice bo m d,.string (ae yp),.int .i64 yfr,.int .i64 ymn,.int .i64 ymb] 29)):=((ab.refl [] w).alloc _).alloc _;have hb:(xs==ys)=false:=by simpa using hne
 clear hne;go_enter Tryz.func49,Tryz.ntmps49;go_wp2_with fail
 go_ret
 exact ⟨rfl,hKa⟩
theorem qs (w:World) (xk:Int) (xn:List UInt8) (xs:Int) (xq:Int) (xb:Int) (xf:List UInt8) (xp:List UInt8) (xfr:Int) (xmn:Int) (ymn:Int) (xmb:Int) (ymb:Int) (ao bo:Option Addr) (n m c d:Nat) (L M:List Ch) (hL:dz w ao n c L) (hM:dz w bo m d M) (hl:L=M) (hne:xmn≠ymn) :
 Calls Tryz.prog 71 #[.agg #[.int .i64 xk,.string (ae xn),.int .i64 xs,.int .i64 xq,.int .i64 xb,.string (ae xf),.slice ao n c,.string (ae xp),.int .i64 xfr,.int .i64 xmn,.int .i64 xmb],.agg #[.int .i64 xk,.string (ae xn),.int .i64 xs,.int .i64 xq,.int .i64 xb,.string (ae xf),.slice bo m d,.string (ae xp),.int .i64 xfr,.int .i64 ymn,.int .i64 ymb]] w fun e w'=>e=.returned (.bool false)∧ab [] w w':=by
 have hKa:ab [] w ((w.alloc (.cells #[.int .i64 xk,.string (ae xn),.int .i64 xs,.int .i64 xq,.int .i64 xb,.string (ae xf),.slice ao n c,.string (ae xp),.int .i64 xfr,.int .i64 xmn,.int .i64 xmb] 29)).alloc (.cells #[.int .i64 xk,.string (ae xn),.int .i64 xs,.int .i64 xq,.int .i64 xb,.string (ae xf),.slice bo m d,.string (ae xp),.int .i64 xfr,.int .i64 ymn,.int .i64 ymb] 29)):=((ab.refl [] w).alloc _).alloc _;have cS:=dw _ ao bo n m c d L M (hL.kept hKa (by simp)) (hM.kept hKa (by simp));rw [decide_eq_true hl] at cS;clear hl hL hM;have hb:(xmn==ymn)=false:=by simpa using hne
 clear hne;go_enter Tryz.func71,Tryz.ntmps71;go_wp2_with fail
 refine cS.mono ?_;rintro _ w1 ⟨rfl,hK⟩;have B1:=((Bx.new w 29 [.int .i64 xk,.string (ae xn),.int .i64 xs,.int .i64 xq,.int .i64 xb,.string (ae xf),.slice ao n c,.string (ae xp),.int .i64 xfr,.int .i64 xmn,.int .i64 xmb]).kept (((ab.refl [] _).alloc (.cells #[.int .i64 xk,.string (ae xn),.int .i64 xs,.int .i64 xq,.int .i64 xb,.string (ae xf),.slice bo m d,.string (ae xp),.int .i64 xfr,.int .i64 ymn,.int .i64 ymb] 29))) (by simp)).kept hK (by simp);have B2:=(Bx.new (w.alloc (.cells #[.int .i64 xk,.string (ae xn),.int .i64 xs,.int .i64 xq,.int .i64 xb,.string (ae xf),.slice ao n c,.string (ae xp),.int .i64 xfr,.int .i64 xmn,.int .i64 xmb] 29)) 29 [.int .i64 xk,.string (ae xn),.int .i64 xs,.int .i64 xq,.int .i64 xb,.string (ae xf),.slice bo m d,.string (ae xp),.int .i64 xfr,.int .i64 ymn,.int .i64 ymb]).kept hK (by simp);have p7:w1.cell? ⟨w.heap.size,7,none⟩=some (.string (ae xp)):=B1.cell 7 rfl;have q7:w1.cell? ⟨w.heap.size+1,7,none⟩=some (.string (ae xp)):=by have h:=B2.cell 7 (v:=.string (ae xp)) rfl;simpa using h
 have p8:w1.cell? ⟨w.heap.size,8,none⟩=some (.int .i64 xfr):=B1.cell 8 rfl;have q8:w1.cell? ⟨w.heap.size+1,8,none⟩=some (.int .i64 xfr):=by have h:=B2.cell 8 (v:=.int .i64 xfr) rfl;simpa using h
 have p9:w1.cell? ⟨w.heap.size,9,none⟩=some (.int .i64 xmn):=B1.cell 9 rfl;have q9:w1.cell? ⟨w.heap.size+1,9,none⟩=some (.int .i64 ymn):=by have h:=B2.cell 9 (v:=.int .i64 ymn) rfl;simpa using h
 have p10:w1.cell? ⟨w.heap.size,10,none⟩=some (.int .i64 xmb):=B1.cell 10 rfl;have q10:w1.cell? ⟨w.heap.size+1,10,none⟩=some (.int .i64 ymb):=by have h:=B2.cell 10 (v:=.int .i64 ymb) rfl;simpa using h
 clear B1 B2;go_wp2_with fail
 go_ret
 exact ⟨rfl,hKa.trans hK (by simp)⟩
theorem qG (w:World) (xk:Int) (xn:List UInt8) (xs:Int) (xq:Int) (xb:Int) (xf:List UInt8) (xp:List UInt8) (xfr:Int) (xmn:Int) (xmb:Int) (ymb:Int) (ao bo:Option Addr) (n m c d:Nat) (L M:List Ch) (hL:dz w ao n c L) (hM:dz w bo m d M) (hl:L=M) (hne:xmb≠ymb) :
 Calls Tryz.prog 71 #[.agg #[.int .i64 xk,.string (ae xn),.int .i64 xs,.int .i64 xq,.int .i64 xb,.string (ae xf),.slice ao n c,.string (ae xp),.int .i64 xfr,.int .i64 xmn,.int .i64 xmb],.agg #[.int .i64 xk,.string (ae xn),.int .i64 xs,.int .i64 xq,.int .i64 xb,.string (ae xf),.slice bo m d,.string (ae xp),.int .i64 xfr,.int .i64 xmn,.int .i64 ymb]] w fun e w'=>e=.returned (.bool false)∧ab [] w w':=by
 have hKa:ab [] w ((w.alloc (.cells #[.int .i64 xk,.string (ae xn),.int .i64 xs,.int .i64 xq,.int .i64 xb,.string (ae xf),.slice ao n c,.string (ae xp),.int .i64 xfr,.int .i64 xmn,.int .i64 xmb] 29)).alloc (.cells #[.int .i64 xk,.string (ae xn),.int .i64 xs,.int .i64 xq,.int .i64 xb,.string (ae xf),.slice bo m d,.string (ae xp),.int .i64 xfr,.int .i64 xmn,.int .i64 ymb] 29)):=((ab.refl [] w).alloc _).alloc _;have cS:=dw _ ao bo n m c d L M (hL.kept hKa (by simp)) (hM.kept hKa (by simp));rw [decide_eq_true hl] at cS;clear hl hL hM;have hb:(xmb==ymb)=false:=by simpa using hne
 clear hne;go_enter Tryz.func71,Tryz.ntmps71;go_wp2_with fail
 refine cS.mono ?_;rintro _ w1 ⟨rfl,hK⟩;have B1:=((Bx.new w 29 [.int .i64 xk,.string (ae xn),.int .i64 xs,.int .i64 xq,.int .i64 xb,.string (ae xf),.slice ao n c,.string (ae xp),.int .i64 xfr,.int .i64 xmn,.int .i64 xmb]).kept (((ab.refl [] _).alloc (.cells #[.int .i64 xk,.string (ae xn),.int .i64 xs,.int .i64 xq,.int .i64 xb,.string (ae xf),.slice bo m d,.string (ae xp),.int .i64 xfr,.int .i64 xmn,.int .i64 ymb] 29))) (by simp)).kept hK (by simp);have B2:=(Bx.new (w.alloc (.cells #[.int .i64 xk,.string (ae xn),.int .i64 xs,.int .i64 xq,.int .i64 xb,.string (ae xf),.slice ao n c,.string (ae xp),.int .i64 xfr,.int .i64 xmn,.int .i64 xmb] 29)) 29 [.int .i64 xk,.string (ae xn),.int .i64 xs,.int .i64 xq,.int .i64 xb,.string (ae xf),.slice bo m d,.string (ae xp),.int .i64 xfr,.int .i64 xmn,.int .i64 ymb]).kept hK (by simp);have p7:w1.cell? ⟨w.heap.size,7,none⟩=some (.string (ae xp)):=B1.cell 7 rfl;have q7:w1.cell? ⟨w.heap.size+1,7,none⟩=some (.string (ae xp)):=by have h:=B2.cell 7 (v:=.string (ae xp)) rfl;simpa using h
 have p8:w1.cell? ⟨w.heap.size,8,none⟩=some (.int .i64 xfr):=B1.cell 8 rfl;have q8:w1.cell? ⟨w.heap.size+1,8,none⟩=some (.int .i64 xfr):=by have h:=B2.cell 8 (v:=.int .i64 xfr) rfl;simpa using h
 have p9:w1.cell? ⟨w.heap.size,9,none⟩=some (.int .i64 xmn):=B1.cell 9 rfl;have q9:w1.cell? ⟨w.heap.size+1,9,none⟩=some (.int .i64 xmn):=by have h:=B2.cell 9 (v:=.int .i64 xmn) rfl;simpa using h
 have p10:w1.cell? ⟨w.heap.size,10,none⟩=some (.int .i64 xmb):=B1.cell 10 rfl;have q10:w1.cell? ⟨w.heap.size+1,10,none⟩=some (.int .i64 ymb):=by have h:=B2.cell 10 (v:=.int .i64 ymb) rfl;simpa using h
 clear B1 B2;go_wp2_with fail
 go_ret
 exact ⟨rfl,hKa.trans hK (by simp)⟩
theorem oS (w:World) (xk:Int) (xn:List UInt8) (xs:Int) (xq:Int) (xb:Int) (xf:List UInt8) (xp:List UInt8) (xfr:Int) (xmn:Int) (xmb:Int) (ao bo:Option Addr) (n m c d:Nat) (L M:List Ch) (hL:dz w ao n c L) (hM:dz w bo m d M) (hl:L=M) :
 Calls Tryz.prog 71 #[.agg #[.int .i64 xk,.string (ae xn),.int .i64 xs,.int .i64 xq,.int .i64 xb,.string (ae xf),.slice ao n c,.string (ae xp),.int .i64 xfr,.int .i64 xmn,.int .i64 xmb],.agg #[.int .i64 xk,.string (ae xn),.int .i64 xs,.int .i64 xq,.int .i64 xb,.string (ae xf),.slice bo m d,.string (ae xp),.int .i64 xfr,.int .i64 xmn,.int .i64 xmb]] w fun e w'=>e=.returned (.bool true)∧ab [] w w':=by
 have hKa:ab [] w ((w.alloc (.cells #[.int .i64 xk,.string (ae xn),.int .i64 xs,.int .i64 xq,.int .i64 xb,.string (ae xf),.slice ao n c,.string (ae xp),.int .i64 xfr,.int .i64 xmn,.int .i64 xmb] 29)).alloc (.cells #[.int .i64 xk,.string (ae xn),.int .i64 xs,.int .i64 xq,.int .i64 xb,.string (ae xf),.slice bo m d,.string (ae xp),.int .i64 xfr,.int .i64 xmn,.int .i64 xmb] 29)):=((ab.refl [] w).alloc _).alloc _;have cS:=dw _ ao bo n m c d L M (hL.kept hKa (by simp)) (hM.kept hKa (by simp));rw [decide_eq_true hl] at cS;clear hl hL hM;go_enter Tryz.func71,Tryz.ntmps71;go_wp2_with fail
 refine cS.mono ?_;rintro _ w1 ⟨rfl,hK⟩;have B1:=((Bx.new w 29 [.int .i64 xk,.string (ae xn),.int .i64 xs,.int .i64 xq,.int .i64 xb,.string (ae xf),.slice ao n c,.string (ae xp),.int .i64 xfr,.int .i64 xmn,.int .i64 xmb]).kept (((ab.refl [] _).alloc (.cells #[.int .i64 xk,.string (ae xn),.int .i64 xs,.int .i64 xq,.int .i64 xb,.string (ae xf),.slice bo m d,.string (ae xp),.int .i64 xfr,.int .i64 xmn,.int .i64 xmb] 29))) (by simp)).kept hK (by simp);have B2:=(Bx.new (w.alloc (.cells #[.int .i64 xk,.string (ae xn),.int .i64 xs,.int .i64 xq,.int .i64 xb,.string (ae xf),.slice ao n c,.string (ae xp),.int .i64 xfr,.int .i64 xmn,.int .i64 xmb] 29)) 29 [.int .i64 xk,.string (ae xn),.int .i64 xs,.int .i64 xq,.int .i64 xb,.string (ae xf),.slice bo m d,.string (ae xp),.int .i64 xfr,.int .i64 xmn,.int .i64 xmb]).kept hK (by simp);have p7:w1.cell? ⟨w.heap.size,7,none⟩=some (.string (ae xp)):=B1.cell 7 rfl;have q7:w1.cell? ⟨w.heap.size+1,7,none⟩=some (.string (ae xp)):=by have h:=B2.cell 7 (v:=.string (ae xp)) rfl;simpa using h
 have p8:w1.cell? ⟨w.heap.size,8,none⟩=some (.int .i64 xfr):=B1.cell 8 rfl;have q8:w1.cell? ⟨w.heap.size+1,8,none⟩=some (.int .i64 xfr):=by have h:=B2.cell 8 (v:=.int .i64 xfr) rfl;simpa using h
 have p9:w1.cell? ⟨w.heap.size,9,none⟩=some (.int .i64 xmn):=B1.cell 9 rfl;have q9:w1.cell? ⟨w.heap.size+1,9,none⟩=some (.int .i64 xmn):=by have h:=B2.cell 9 (v:=.int .i64 xmn) rfl;simpa using h
 have p10:w1.cell? ⟨w.heap.size,10,none⟩=some (.int .i64 xmb):=B1.cell 10 rfl;have q10:w1.cell? ⟨w.heap.size+1,10,none⟩=some (.int .i64 xmb):=by have h:=B2.cell 10 (v:=.int .i64 xmb) rfl;simpa using h
 clear B1 B2;go_wp2_with fail
 go_ret
 exact ⟨rfl,hKa.trans hK (by simp)⟩
end Go.Proofs.YtakafmejllilnaaGreat
