/-
  Same. (Written by mk/mksame.py.)
-/
import Derived.Test.YtakafmejllilnaaGreatF9
import Derived.Test.YtakafmejllilnaaGreatF2
namespace Go.Proofs.YtakafmejllilnaaGreat
open Go.RowKit
set_option maxHeartbeats 4000000 in
set_option maxRecDepth 100000 in
theorem rqsame_k (w:World) (xk:Int) (yk:Int) (xn:List UInt8) (yn:List UInt8) (xs:Int) (ys:Int) (xq:Int) (yq:Int) (xb:Int) (yb:Int) (xf:List UInt8) (yf:List UInt8) (xp:List UInt8) (yp:List UInt8) (xfr:Int) (yfr:Int) (xmn:Int) (ymn:Int) (xmb:Int) (ymb:Int) (ao bo:Option Addr) (n m c d:Nat) (hne:xk≠yk) :
 Calls Tryz.prog 71 #[.agg #[.int .i64 xk,.string (str xn),.int .i64 xs,.int .i64 xq,.int .i64 xb,.string (str xf),.slice ao n c,.string (str xp),.int .i64 xfr,.int .i64 xmn,.int .i64 xmb],.agg #[.int .i64 yk,.string (str yn),.int .i64 ys,.int .i64 yq,.int .i64 yb,.string (str yf),.slice bo m d,.string (str yp),.int .i64 yfr,.int .i64 ymn,.int .i64 ymb]] w fun e w'=>e=.returned (.bool false)∧Kept [] w w':=by
 have hKa:Kept [] w ((w.alloc (.cells #[.int .i64 xk,.string (str xn),.int .i64 xs,.int .i64 xq,.int .i64 xb,.string (str xf),.slice ao n c,.string (str xp),.int .i64 xfr,.int .i64 xmn,.int .i64 xmb] 29)).alloc (.cells #[.int .i64 yk,.string (str yn),.int .i64 ys,.int .i64 yq,.int .i64 yb,.string (str yf),.slice bo m d,.string (str yp),.int .i64 yfr,.int .i64 ymn,.int .i64 ymb] 29)):=((Kept.refl [] w).alloc _).alloc _
 have hb:(xk==yk)=false:=by simpa using hne
 clear hne
 go_enter Tryz.func71,Tryz.ntmps71
 go_wp2_with fail
 go_ret
 exact ⟨rfl,hKa⟩
set_option maxHeartbeats 4000000 in
set_option maxRecDepth 100000 in
theorem rqsame_n (w:World) (xk:Int) (xn:List UInt8) (yn:List UInt8) (xs:Int) (ys:Int) (xq:Int) (yq:Int) (xb:Int) (yb:Int) (xf:List UInt8) (yf:List UInt8) (xp:List UInt8) (yp:List UInt8) (xfr:Int) (yfr:Int) (xmn:Int) (ymn:Int) (xmb:Int) (ymb:Int) (ao bo:Option Addr) (n m c d:Nat) (hne:xn≠yn) :
 Calls Tryz.prog 71 #[.agg #[.int .i64 xk,.string (str xn),.int .i64 xs,.int .i64 xq,.int .i64 xb,.string (str xf),.slice ao n c,.string (str xp),.int .i64 xfr,.int .i64 xmn,.int .i64 xmb],.agg #[.int .i64 xk,.string (str yn),.int .i64 ys,.int .i64 yq,.int .i64 yb,.string (str yf),.slice bo m d,.string (str yp),.int .i64 yfr,.int .i64 ymn,.int .i64 ymb]] w fun e w'=>e=.returned (.bool false)∧Kept [] w w':=by
 have hKa:Kept [] w ((w.alloc (.cells #[.int .i64 xk,.string (str xn),.int .i64 xs,.int .i64 xq,.int .i64 xb,.string (str xf),.slice ao n c,.string (str xp),.int .i64 xfr,.int .i64 xmn,.int .i64 xmb] 29)).alloc (.cells #[.int .i64 xk,.string (str yn),.int .i64 ys,.int .i64 yq,.int .i64 yb,.string (str yf),.slice bo m d,.string (str yp),.int .i64 yfr,.int .i64 ymn,.int .i64 ymb] 29)):=((Kept.refl [] w).alloc _).alloc _
 have hb:¬ (str xn).toList=(str yn).toList:=fun h=>hne (by rw [Go.ByteArray.toList_eq,Go.ByteArray.toList_eq,str_data,str_data] at h;exact h)
 clear hne
 go_enter Tryz.func71,Tryz.ntmps71
 go_wp2_with fail
 go_ret
 exact ⟨rfl,hKa⟩
set_option maxHeartbeats 4000000 in
set_option maxRecDepth 100000 in
theorem rqsame_s (w:World) (xk:Int) (xn:List UInt8) (xs:Int) (ys:Int) (xq:Int) (yq:Int) (xb:Int) (yb:Int) (xf:List UInt8) (yf:List UInt8) (xp:List UInt8) (yp:List UInt8) (xfr:Int) (yfr:Int) (xmn:Int) (ymn:Int) (xmb:Int) (ymb:Int) (ao bo:Option Addr) (n m c d:Nat) (hne:xs≠ys) :
 Calls Tryz.prog 71 #[.agg #[.int .i64 xk,.string (str xn),.int .i64 xs,.int .i64 xq,.int .i64 xb,.string (str xf),.slice ao n c,.string (str xp),.int .i64 xfr,.int .i64 xmn,.int .i64 xmb],.agg #[.int .i64 xk,.string (str xn),.int .i64 ys,.int .i64 yq,.int .i64 yb,.string (str yf),.slice bo m d,.string (str yp),.int .i64 yfr,.int .i64 ymn,.int .i64 ymb]] w fun e w'=>e=.returned (.bool false)∧Kept [] w w':=by
 have hKa:Kept [] w ((w.alloc (.cells #[.int .i64 xk,.string (str xn),.int .i64 xs,.int .i64 xq,.int .i64 xb,.string (str xf),.slice ao n c,.string (str xp),.int .i64 xfr,.int .i64 xmn,.int .i64 xmb] 29)).alloc (.cells #[.int .i64 xk,.string (str xn),.int .i64 ys,.int .i64 yq,.int .i64 yb,.string (str yf),.slice bo m d,.string (str yp),.int .i64 yfr,.int .i64 ymn,.int .i64 ymb] 29)):=((Kept.refl [] w).alloc _).alloc _
 have hb:(xs==ys)=false:=by simpa using hne
 clear hne
 go_enter Tryz.func71,Tryz.ntmps71
 go_wp2_with fail
 go_ret
 exact ⟨rfl,hKa⟩
end Go.Proofs.YtakafmejllilnaaGreat
