/-
  Texts laid as one.
-/
import Derived.Test.YtakafmejllilnaaGreatW2r
import Derived.Test.YtakafmejllilnaaGreatW0r
set_option maxHeartbeats 4000000
set_option maxRecDepth 100000
/-
 Same. (Written by mk/mksame.py.)
-/
namespace Go.Proofs.YtakafmejllilnaaGreat
open Go.RowKit
theorem sH (w:World) (xk:Int) (xn:List UInt8) (xs:Int) (xq:Int) (xb:Int) (xf:List UInt8) (xp:List UInt8) (yp:List UInt8) (xfr:Int) (yfr:Int) (xmn:Int) (ymn:Int) (xmb:Int) (ymb:Int) (ao bo:Option Addr) (n m c d:Nat) (L M:List Ch) (hL:dz w ao n c L) (hM:dz w bo m d M) (hl:¬ L=M) :
 Calls Tryz.prog 71 #[.agg #[.int .i64 xk,.string (ae xn),.int .i64 xs,.int .i64 xq,.int .i64 xb,.string (ae xf),.slice ao n c,.string (ae xp),.int .i64 xfr,.int .i64 xmn,.int .i64 xmb],.agg #[.int .i64 xk,.string (ae xn),.int .i64 xs,.int .i64 xq,.int .i64 xb,.string (ae xf),.slice bo m d,.string (ae yp),.int .i64 yfr,.int .i64 ymn,.int .i64 ymb]] w fun e w'=>e=.returned (.bool false)∧ab [] w w':=by
 have hKa:ab [] w ((w.alloc (.cells #[.int .i64 xk,.string (ae xn),.int .i64 xs,.int .i64 xq,.int .i64 xb,.string (ae xf),.slice ao n c,.string (ae xp),.int .i64 xfr,.int .i64 xmn,.int .i64 xmb] 29)).alloc (.cells #[.int .i64 xk,.string (ae xn),.int .i64 xs,.int .i64 xq,.int .i64 xb,.string (ae xf),.slice bo m d,.string (ae yp),.int .i64 yfr,.int .i64 ymn,.int .i64 ymb] 29)):=((ab.refl [] w).alloc _).alloc _;have cS:=dw _ ao bo n m c d L M (hL.kept hKa (by simp)) (hM.kept hKa (by simp));rw [decide_eq_false hl] at cS;clear hl hL hM;go_enter Tryz.func71,Tryz.ntmps71;go_wp2_with fail
 refine cS.mono ?_;rintro _ w1 ⟨rfl,hK⟩;go_wp2_with fail
 go_ret
 exact ⟨rfl,hKa.trans hK (by simp)⟩
theorem rf (w:World) (xk:Int) (xn:List UInt8) (xs:Int) (xq:Int) (xb:Int) (xf:List UInt8) (xp:List UInt8) (yp:List UInt8) (xfr:Int) (yfr:Int) (xmn:Int) (ymn:Int) (xmb:Int) (ymb:Int) (ao bo:Option Addr) (n m c d:Nat) (L M:List Ch) (hL:dz w ao n c L) (hM:dz w bo m d M) (hl:L=M) (hne:xp≠yp) :
 Calls Tryz.prog 71 #[.agg #[.int .i64 xk,.string (ae xn),.int .i64 xs,.int .i64 xq,.int .i64 xb,.string (ae xf),.slice ao n c,.string (ae xp),.int .i64 xfr,.int .i64 xmn,.int .i64 xmb],.agg #[.int .i64 xk,.string (ae xn),.int .i64 xs,.int .i64 xq,.int .i64 xb,.string (ae xf),.slice bo m d,.string (ae yp),.int .i64 yfr,.int .i64 ymn,.int .i64 ymb]] w fun e w'=>e=.returned (.bool false)∧ab [] w w':=by
 have hKa:ab [] w ((w.alloc (.cells #[.int .i64 xk,.string (ae xn),.int .i64 xs,.int .i64 xq,.int .i64 xb,.string (ae xf),.slice ao n c,.string (ae xp),.int .i64 xfr,.int .i64 xmn,.int .i64 xmb] 29)).alloc (.cells #[.int .i64 xk,.string (ae xn),.int .i64 xs,.int .i64 xq,.int .i64 xb,.string (ae xf),.slice bo m d,.string (ae yp),.int .i64 yfr,.int .i64 ymn,.int .i64 ymb] 29)):=((ab.refl [] w).alloc _).alloc _;have cS:=dw _ ao bo n m c d L M (hL.kept hKa (by simp)) (hM.kept hKa (by simp));rw [decide_eq_true hl] at cS;clear hl hL hM;have hb:¬ (ae xp).toList=(ae yp).toList:=fun h=>hne (by rw [Go.ByteArray.toList_eq,Go.ByteArray.toList_eq,aY,aY] at h;exact h);clear hne;go_enter Tryz.func71,Tryz.ntmps71;go_wp2_with fail
 refine cS.mono ?_;rintro _ w1 ⟨rfl,hK⟩;have B1:=((Bx.new w 29 [.int .i64 xk,.string (ae xn),.int .i64 xs,.int .i64 xq,.int .i64 xb,.string (ae xf),.slice ao n c,.string (ae xp),.int .i64 xfr,.int .i64 xmn,.int .i64 xmb]).kept (((ab.refl [] _).alloc (.cells #[.int .i64 xk,.string (ae xn),.int .i64 xs,.int .i64 xq,.int .i64 xb,.string (ae xf),.slice bo m d,.string (ae yp),.int .i64 yfr,.int .i64 ymn,.int .i64 ymb] 29))) (by simp)).kept hK (by simp);have B2:=(Bx.new (w.alloc (.cells #[.int .i64 xk,.string (ae xn),.int .i64 xs,.int .i64 xq,.int .i64 xb,.string (ae xf),.slice ao n c,.string (ae xp),.int .i64 xfr,.int .i64 xmn,.int .i64 xmb] 29)) 29 [.int .i64 xk,.string (ae xn),.int .i64 xs,.int .i64 xq,.int .i64 xb,.string (ae xf),.slice bo m d,.string (ae yp),.int .i64 yfr,.int .i64 ymn,.int .i64 ymb]).kept hK (by simp);have p7:w1.cell? ⟨w.heap.size,7,none⟩=some (.string (ae xp)):=B1.cell 7 rfl;have q7:w1.cell? ⟨w.heap.size+1,7,none⟩=some (.string (ae yp)):=by have h:=B2.cell 7 (v:=.string (ae yp)) rfl;simpa using h
 have p8:w1.cell? ⟨w.heap.size,8,none⟩=some (.int .i64 xfr):=B1.cell 8 rfl;have q8:w1.cell? ⟨w.heap.size+1,8,none⟩=some (.int .i64 yfr):=by have h:=B2.cell 8 (v:=.int .i64 yfr) rfl;simpa using h
 have p9:w1.cell? ⟨w.heap.size,9,none⟩=some (.int .i64 xmn):=B1.cell 9 rfl;have q9:w1.cell? ⟨w.heap.size+1,9,none⟩=some (.int .i64 ymn):=by have h:=B2.cell 9 (v:=.int .i64 ymn) rfl;simpa using h
 have p10:w1.cell? ⟨w.heap.size,10,none⟩=some (.int .i64 xmb):=B1.cell 10 rfl;have q10:w1.cell? ⟨w.heap.size+1,10,none⟩=some (.int .i64 ymb):=by have h:=B2.cell 10 (v:=.int .i64 ymb) rfl;simpa using h
 clear B1 B2;go_wp2_with fail
 go_ret
 exact ⟨rfl,hKa.trans hK (by simp)⟩
theorem qC (w:World) (xk:Int) (xn:List UInt8) (xs:Int) (xq:Int) (xb:Int) (xf:List UInt8) (xp:List UInt8) (xfr:Int) (yfr:Int) (xmn:Int) (ymn:Int) (xmb:Int) (ymb:Int) (ao bo:Option Addr) (n m c d:Nat) (L M:List Ch) (hL:dz w ao n c L) (hM:dz w bo m d M) (hl:L=M) (hne:xfr≠yfr) :
 Calls Tryz.prog 71 #[.agg #[.int .i64 xk,.string (ae xn),.int .i64 xs,.int .i64 xq,.int .i64 xb,.string (ae xf),.slice ao n c,.string (ae xp),.int .i64 xfr,.int .i64 xmn,.int .i64 xmb],.agg #[.int .i64 xk,.string (ae xn),.int .i64 xs,.int .i64 xq,.int .i64 xb,.string (ae xf),.slice bo m d,.string (ae xp),.int .i64 yfr,.int .i64 ymn,.int .i64 ymb]] w fun e w'=>e=.returned (.bool false)∧ab [] w w':=by
 have hKa:ab [] w ((w.alloc (.cells #[.int .i64 xk,.string (ae xn),.int .i64 xs,.int .i64 xq,.int .i64 xb,.string (ae xf),.slice ao n c,.string (ae xp),.int .i64 xfr,.int .i64 xmn,.int .i64 xmb] 29)).alloc (.cells #[.int .i64 xk,.string (ae xn),.int .i64 xs,.int .i64 xq,.int .i64 xb,.string (ae xf),.slice bo m d,.string (ae xp),.int .i64 yfr,.int .i64 ymn,.int .i64 ymb] 29)):=((ab.refl [] w).alloc _).alloc _;have cS:=dw _ ao bo n m c d L M (hL.kept hKa (by simp)) (hM.kept hKa (by simp));rw [decide_eq_true hl] at cS;clear hl hL hM;have hb:(xfr==yfr)=false:=by simpa using hne
 clear hne;go_enter Tryz.func71,Tryz.ntmps71;go_wp2_with fail
 refine cS.mono ?_;rintro _ w1 ⟨rfl,hK⟩;have B1:=((Bx.new w 29 [.int .i64 xk,.string (ae xn),.int .i64 xs,.int .i64 xq,.int .i64 xb,.string (ae xf),.slice ao n c,.string (ae xp),.int .i64 xfr,.int .i64 xmn,.int .i64 xmb]).kept (((ab.refl [] _).alloc (.cells #[.int .i64 xk,.string (ae xn),.int .i64 xs,.int .i64 xq,.int .i64 xb,.string (ae xf),.slice bo m d,.string (ae xp),.int .i64 yfr,.int .i64 ymn,.int .i64 ymb] 29))) (by simp)).kept hK (by simp);have B2:=(Bx.new (w.alloc (.cells #[.int .i64 xk,.string (ae xn),.int .i64 xs,.int .i64 xq,.int .i64 xb,.string (ae xf),.slice ao n c,.string (ae xp),.int .i64 xfr,.int .i64 xmn,.int .i64 xmb] 29)) 29 [.int .i64 xk,.string (ae xn),.int .i64 xs,.int .i64 xq,.int .i64 xb,.string (ae xf),.slice bo m d,.string (ae xp),.int .i64 yfr,.int .i64 ymn,.int .i64 ymb]).kept hK (by simp);have p7:w1.cell? ⟨w.heap.size,7,none⟩=some (.string (ae xp)):=B1.cell 7 rfl;have q7:w1.cell? ⟨w.heap.size+1,7,none⟩=some (.string (ae xp)):=by have h:=B2.cell 7 (v:=.string (ae xp)) rfl;simpa using h
 have p8:w1.cell? ⟨w.heap.size,8,none⟩=some (.int .i64 xfr):=B1.cell 8 rfl;have q8:w1.cell? ⟨w.heap.size+1,8,none⟩=some (.int .i64 yfr):=by have h:=B2.cell 8 (v:=.int .i64 yfr) rfl;simpa using h
 have p9:w1.cell? ⟨w.heap.size,9,none⟩=some (.int .i64 xmn):=B1.cell 9 rfl;have q9:w1.cell? ⟨w.heap.size+1,9,none⟩=some (.int .i64 ymn):=by have h:=B2.cell 9 (v:=.int .i64 ymn) rfl;simpa using h
 have p10:w1.cell? ⟨w.heap.size,10,none⟩=some (.int .i64 xmb):=B1.cell 10 rfl;have q10:w1.cell? ⟨w.heap.size+1,10,none⟩=some (.int .i64 ymb):=by have h:=B2.cell 10 (v:=.int .i64 ymb) rfl;simpa using h
 clear B1 B2;go_wp2_with fail
 go_ret
 exact ⟨rfl,hKa.trans hK (by simp)⟩
theorem rn (w:World) (xk:Int) (yk:Int) (xn:List UInt8) (yn:List UInt8) (xs:Int) (ys:Int) (xq:Int) (yq:Int) (xb:Int) (yb:Int) (xf:List UInt8) (yf:List UInt8) (xp:List UInt8) (yp:List UInt8) (xfr:Int) (yfr:Int) (xmn:Int) (ymn:Int) (xmb:Int) (ymb:Int) (ao bo:Option Addr) (n m c d:Nat) (hne:xk≠yk) :
 Calls Tryz.prog 71 #[.agg #[.int .i64 xk,.string (ae xn),.int .i64 xs,.int .i64 xq,.int .i64 xb,.string (ae xf),.slice ao n c,.string (ae xp),.int .i64 xfr,.int .i64 xmn,.int .i64 xmb],.agg #[.int .i64 yk,.string (ae yn),.int .i64 ys,.int .i64 yq,.int .i64 yb,.string (ae yf),.slice bo m d,.string (ae yp),.int .i64 yfr,.int .i64 ymn,.int .i64 ymb]] w fun e w'=>e=.returned (.bool false)∧ab [] w w':=by
 have hKa:ab [] w ((w.alloc (.cells #[.int .i64 xk,.string (ae xn),.int .i64 xs,.int .i64 xq,.int .i64 xb,.string (ae xf),.slice ao n c,.string (ae xp),.int .i64 xfr,.int .i64 xmn,.int .i64 xmb] 29)).alloc (.cells #[.int .i64 yk,.string (ae yn),.int .i64 ys,.int .i64 yq,.int .i64 yb,.string (ae yf),.slice bo m d,.string (ae yp),.int .i64 yfr,.int .i64 ymn,.int .i64 ymb] 29)):=((ab.refl [] w).alloc _).alloc _;have hb:(xk==yk)=false:=by simpa using hne
 clear hne;go_enter Tryz.func71,Tryz.ntmps71;go_wp2_with fail
 go_ret
 exact ⟨rfl,hKa⟩
theorem rW (w:World) (xk:Int) (xn:List UInt8) (yn:List UInt8) (xs:Int) (ys:Int) (xq:Int) (yq:Int) (xb:Int) (yb:Int) (xf:List UInt8) (yf:List UInt8) (xp:List UInt8) (yp:List UInt8) (xfr:Int) (yfr:Int) (xmn:Int) (ymn:Int) (xmb:Int) (ymb:Int) (ao bo:Option Addr) (n m c d:Nat) (hne:xn≠yn) :
 Calls Tryz.prog 71 #[.agg #[.int .i64 xk,.string (ae xn),.int .i64 xs,.int .i64 xq,.int .i64 xb,.string (ae xf),.slice ao n c,.string (ae xp),.int .i64 xfr,.int .i64 xmn,.int .i64 xmb],.agg #[.int .i64 xk,.string (ae yn),.int .i64 ys,.int .i64 yq,.int .i64 yb,.string (ae yf),.slice bo m d,.string (ae yp),.int .i64 yfr,.int .i64 ymn,.int .i64 ymb]] w fun e w'=>e=.returned (.bool false)∧ab [] w w':=by
 have hKa:ab [] w ((w.alloc (.cells #[.int .i64 xk,.string (ae xn),.int .i64 xs,.int .i64 xq,.int .i64 xb,.string (ae xf),.slice ao n c,.string (ae xp),.int .i64 xfr,.int .i64 xmn,.int .i64 xmb] 29)).alloc (.cells #[.int .i64 xk,.string (ae yn),.int .i64 ys,.int .i64 yq,.int .i64 yb,.string (ae yf),.slice bo m d,.string (ae yp),.int .i64 yfr,.int .i64 ymn,.int .i64 ymb] 29)):=((ab.refl [] w).alloc _).alloc _;have hb:¬ (ae xn).toList=(ae yn).toList:=fun h=>hne (by rw [Go.ByteArray.toList_eq,Go.ByteArray.toList_eq,aY,aY] at h;exact h);clear hne;go_enter Tryz.func71,Tryz.ntmps71;go_wp2_with fail
 go_ret
 exact ⟨rfl,hKa⟩
theorem sk (w:World) (xk:Int) (xn:List UInt8) (xs:Int) (ys:Int) (xq:Int) (yq:Int) (xb:Int) (yb:Int) (xf:List UInt8) (yf:List UInt8) (xp:List UInt8) (yp:List UInt8) (xfr:Int) (yfr:Int) (xmn:Int) (ymn:Int) (xmb:Int) (ymb:Int) (ao bo:Option Addr) (n m c d:Nat) (hne:xs≠ys) :
 Calls Tryz.prog 71 #[.agg #[.int .i64 xk,.string (ae xn),.int .i64 xs,.int .i64 xq,.int .i64 xb,.string (ae xf),.slice ao n c,.string (ae xp),.int .i64 xfr,.int .i64 xmn,.int .i64 xmb],.agg #[.int .i64 xk,.string (ae xn),.int .i64 ys,.int .i64 yq,.int .i64 yb,.string (ae yf),.slice bo m d,.string (ae yp),.int .i64 yfr,.int .i64 ymn,.int .i64 ymb]] w fun e w'=>e=.returned (.bool false)∧ab [] w w':=by
 have hKa:ab [] w ((w.alloc (.cells #[.int .i64 xk,.string (ae xn),.int .i64 xs,.int .i64 xq,.int .i64 xb,.string (ae xf),.slice ao n c,.string (ae xp),.int .i64 xfr,.int .i64 xmn,.int .i64 xmb] 29)).alloc (.cells #[.int .i64 xk,.string (ae xn),.int .i64 ys,.int .i64 yq,.int .i64 yb,.string (ae yf),.slice bo m d,.string (ae yp),.int .i64 yfr,.int .i64 ymn,.int .i64 ymb] 29)):=((ab.refl [] w).alloc _).alloc _;have hb:(xs==ys)=false:=by simpa using hne
 clear hne;go_enter Tryz.func71,Tryz.ntmps71;go_wp2_with fail
 go_ret
 exact ⟨rfl,hKa⟩
theorem ru (w:World) (xk:Int) (xn:List UInt8) (xs:Int) (xq:Int) (yq:Int) (xb:Int) (yb:Int) (xf:List UInt8) (yf:List UInt8) (xp:List UInt8) (yp:List UInt8) (xfr:Int) (yfr:Int) (xmn:Int) (ymn:Int) (xmb:Int) (ymb:Int) (ao bo:Option Addr) (n m c d:Nat) (hne:xq≠yq) :
 Calls Tryz.prog 71 #[.agg #[.int .i64 xk,.string (ae xn),.int .i64 xs,.int .i64 xq,.int .i64 xb,.string (ae xf),.slice ao n c,.string (ae xp),.int .i64 xfr,.int .i64 xmn,.int .i64 xmb],.agg #[.int .i64 xk,.string (ae xn),.int .i64 xs,.int .i64 yq,.int .i64 yb,.string (ae yf),.slice bo m d,.string (ae yp),.int .i64 yfr,.int .i64 ymn,.int .i64 ymb]] w fun e w'=>e=.returned (.bool false)∧ab [] w w':=by
 have hKa:ab [] w ((w.alloc (.cells #[.int .i64 xk,.string (ae xn),.int .i64 xs,.int .i64 xq,.int .i64 xb,.string (ae xf),.slice ao n c,.string (ae xp),.int .i64 xfr,.int .i64 xmn,.int .i64 xmb] 29)).alloc (.cells #[.int .i64 xk,.string (ae xn),.int .i64 xs,.int .i64 yq,.int .i64 yb,.string (ae yf),.slice bo m d,.string (ae yp),.int .i64 yfr,.int .i64 ymn,.int .i64 ymb] 29)):=((ab.refl [] w).alloc _).alloc _;have hb:(xq==yq)=false:=by simpa using hne
 clear hne;go_enter Tryz.func71,Tryz.ntmps71;go_wp2_with fail
 go_ret
 exact ⟨rfl,hKa⟩
theorem sd (w:World) (xk:Int) (xn:List UInt8) (xs:Int) (xq:Int) (xb:Int) (yb:Int) (xf:List UInt8) (yf:List UInt8) (xp:List UInt8) (yp:List UInt8) (xfr:Int) (yfr:Int) (xmn:Int) (ymn:Int) (xmb:Int) (ymb:Int) (ao bo:Option Addr) (n m c d:Nat) (hne:xb≠yb) :
 Calls Tryz.prog 71 #[.agg #[.int .i64 xk,.string (ae xn),.int .i64 xs,.int .i64 xq,.int .i64 xb,.string (ae xf),.slice ao n c,.string (ae xp),.int .i64 xfr,.int .i64 xmn,.int .i64 xmb],.agg #[.int .i64 xk,.string (ae xn),.int .i64 xs,.int .i64 xq,.int .i64 yb,.string (ae yf),.slice bo m d,.string (ae yp),.int .i64 yfr,.int .i64 ymn,.int .i64 ymb]] w fun e w'=>e=.returned (.bool false)∧ab [] w w':=by
 have hKa:ab [] w ((w.alloc (.cells #[.int .i64 xk,.string (ae xn),.int .i64 xs,.int .i64 xq,.int .i64 xb,.string (ae xf),.slice ao n c,.string (ae xp),.int .i64 xfr,.int .i64 xmn,.int .i64 xmb] 29)).alloc (.cells #[.int .i64 xk,.string (ae xn),.int .i64 xs,.int .i64 xq,.int .i64 yb,.string (ae yf),.slice bo m d,.string (ae yp),.int .i64 yfr,.int .i64 ymn,.int .i64 ymb] 29)):=((ab.refl [] w).alloc _).alloc _;have hb:(xb==yb)=false:=by simpa using hne
 clear hne;go_enter Tryz.func71,Tryz.ntmps71;go_wp2_with fail
 go_ret
 exact ⟨rfl,hKa⟩
theorem rX (w:World) (xk:Int) (xn:List UInt8) (xs:Int) (xq:Int) (xb:Int) (xf:List UInt8) (yf:List UInt8) (xp:List UInt8) (yp:List UInt8) (xfr:Int) (yfr:Int) (xmn:Int) (ymn:Int) (xmb:Int) (ymb:Int) (ao bo:Option Addr) (n m c d:Nat) (hne:xf≠yf) :
 Calls Tryz.prog 71 #[.agg #[.int .i64 xk,.string (ae xn),.int .i64 xs,.int .i64 xq,.int .i64 xb,.string (ae xf),.slice ao n c,.string (ae xp),.int .i64 xfr,.int .i64 xmn,.int .i64 xmb],.agg #[.int .i64 xk,.string (ae xn),.int .i64 xs,.int .i64 xq,.int .i64 xb,.string (ae yf),.slice bo m d,.string (ae yp),.int .i64 yfr,.int .i64 ymn,.int .i64 ymb]] w fun e w'=>e=.returned (.bool false)∧ab [] w w':=by
 have hKa:ab [] w ((w.alloc (.cells #[.int .i64 xk,.string (ae xn),.int .i64 xs,.int .i64 xq,.int .i64 xb,.string (ae xf),.slice ao n c,.string (ae xp),.int .i64 xfr,.int .i64 xmn,.int .i64 xmb] 29)).alloc (.cells #[.int .i64 xk,.string (ae xn),.int .i64 xs,.int .i64 xq,.int .i64 xb,.string (ae yf),.slice bo m d,.string (ae yp),.int .i64 yfr,.int .i64 ymn,.int .i64 ymb] 29)):=((ab.refl [] w).alloc _).alloc _;have hb:¬ (ae xf).toList=(ae yf).toList:=fun h=>hne (by rw [Go.ByteArray.toList_eq,Go.ByteArray.toList_eq,aY,aY] at h;exact h);clear hne;go_enter Tryz.func71,Tryz.ntmps71;go_wp2_with fail
 go_ret
 exact ⟨rfl,hKa⟩
theorem jB (w:World) (x y:Rq) (ao bo:Option Addr) (n m c d:Nat) (hL:dz w ao n c x.c) (hM:dz w bo m d y.c) :
 Calls Tryz.prog 71 #[.agg #[.int .i64 x.k,.string (ae x.n),.int .i64 x.s,.int .i64 x.q,.int .i64 x.b,.string (ae x.f),.slice ao n c,.string (ae x.p),.int .i64 x.fr,.int .i64 x.mn,.int .i64 x.mb],.agg #[.int .i64 y.k,.string (ae y.n),.int .i64 y.s,.int .i64 y.q,.int .i64 y.b,.string (ae y.f),.slice bo m d,.string (ae y.p),.int .i64 y.fr,.int .i64 y.mn,.int .i64 y.mb]] w fun e w'=>e=.returned (.bool (decide (x=y)))∧ab [] w w':=by
 obtain ⟨xk,xn,xs,xq,xb,xf,xc,xp,xfr,xmn,xmb⟩:=x;obtain ⟨yk,yn,ys,yq,yb,yf,yc,yp,yfr,ymn,ymb⟩:=y;simp only at *;by_cases hk:xk=yk
 rotate_left
 ·rw [decide_eq_false (by intro h;injection h;contradiction)];exact rn w xk yk xn yn xs ys xq yq xb yb xf yf xp yp xfr yfr xmn ymn xmb ymb ao bo n m c d hk
 subst hk;by_cases hn:xn=yn
 rotate_left
 ·rw [decide_eq_false (by intro h;injection h;contradiction)];exact rW w xk xn yn xs ys xq yq xb yb xf yf xp yp xfr yfr xmn ymn xmb ymb ao bo n m c d hn
 subst hn;by_cases hs:xs=ys
 rotate_left
 ·rw [decide_eq_false (by intro h;injection h;contradiction)];exact sk w xk xn xs ys xq yq xb yb xf yf xp yp xfr yfr xmn ymn xmb ymb ao bo n m c d hs
 subst hs;by_cases hq:xq=yq
 rotate_left
 ·rw [decide_eq_false (by intro h;injection h;contradiction)];exact ru w xk xn xs xq yq xb yb xf yf xp yp xfr yfr xmn ymn xmb ymb ao bo n m c d hq
 subst hq;by_cases hb:xb=yb
 rotate_left
 ·rw [decide_eq_false (by intro h;injection h;contradiction)];exact sd w xk xn xs xq xb yb xf yf xp yp xfr yfr xmn ymn xmb ymb ao bo n m c d hb
 subst hb;by_cases hf:xf=yf
 rotate_left
 ·rw [decide_eq_false (by intro h;injection h;contradiction)];exact rX w xk xn xs xq xb xf yf xp yp xfr yfr xmn ymn xmb ymb ao bo n m c d hf
 subst hf;by_cases hc:xc=yc
 rotate_left
 ·rw [decide_eq_false (by intro h;injection h;contradiction)];exact sH w xk xn xs xq xb xf xp yp xfr yfr xmn ymn xmb ymb ao bo n m c d xc yc hL hM hc
 subst hc;by_cases hp:xp=yp
 rotate_left
 ·rw [decide_eq_false (by intro h;injection h;contradiction)];exact rf w xk xn xs xq xb xf xp yp xfr yfr xmn ymn xmb ymb ao bo n m c d xc xc hL hM rfl hp
 subst hp;by_cases hfr:xfr=yfr
 rotate_left
 ·rw [decide_eq_false (by intro h;injection h;contradiction)];exact qC w xk xn xs xq xb xf xp xfr yfr xmn ymn xmb ymb ao bo n m c d xc xc hL hM rfl hfr
 subst hfr;by_cases hmn:xmn=ymn
 rotate_left
 ·rw [decide_eq_false (by intro h;injection h;contradiction)];exact qs w xk xn xs xq xb xf xp xfr xmn ymn xmb ymb ao bo n m c d xc xc hL hM rfl hmn
 subst hmn;by_cases hmb:xmb=ymb
 rotate_left
 ·rw [decide_eq_false (by intro h;injection h;contradiction)];exact qG w xk xn xs xq xb xf xp xfr xmn xmb ymb ao bo n m c d xc xc hL hM rfl hmb
 subst hmb;rw [decide_eq_true rfl];exact oS w xk xn xs xq xb xf xp xfr xmn xmb ao bo n m c d xc xc hL hM rfl
end Go.Proofs.YtakafmejllilnaaGreat
