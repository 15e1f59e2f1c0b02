/-
  The document's Same. (Written by mk/mksame.py.)
-/
import Derived.Test.YtakafmejllilnaaGreatF9
namespace Go.Proofs.YtakafmejllilnaaGreat
open Go.RowKit
set_option maxHeartbeats 4000000 in
set_option maxRecDepth 100000 in
theorem rqdoc_p (w:World) (xk:Int) (xn:List UInt8) (xs:Int) (xq:Int) (xb:Int) (xf:List UInt8) (xp:List UInt8) (yp:List UInt8) (xfr:Int) (yfr:Int) (xmn:Int) (ymn:Int) (xmb:Int) (ymb:Int) (ao bo:Option Addr) (n m c d:Nat) (hne:xp≠yp) :
 Calls Tryz.prog 49 #[.agg #[.int .i64 xk,.string (str xn),.int .i64 xs,.int .i64 xq,.int .i64 xb,.string (str xf),.slice ao n c,.string (str xp),.int .i64 xfr,.int .i64 xmn,.int .i64 xmb],.agg #[.int .i64 xk,.string (str xn),.int .i64 xs,.int .i64 xq,.int .i64 xb,.string (str xf),.slice bo m d,.string (str yp),.int .i64 yfr,.int .i64 ymn,.int .i64 ymb]] w fun e w'=>e=.returned (.bool false)∧Kept [] w w':=by
 have hKa:Kept [] w ((w.alloc (.cells #[.int .i64 xk,.string (str xn),.int .i64 xs,.int .i64 xq,.int .i64 xb,.string (str xf),.slice ao n c,.string (str xp),.int .i64 xfr,.int .i64 xmn,.int .i64 xmb] 29)).alloc (.cells #[.int .i64 xk,.string (str xn),.int .i64 xs,.int .i64 xq,.int .i64 xb,.string (str xf),.slice bo m d,.string (str yp),.int .i64 yfr,.int .i64 ymn,.int .i64 ymb] 29)):=((Kept.refl [] w).alloc _).alloc _
 have hb:¬ (str xp).toList=(str yp).toList:=fun h=>hne (by rw [Go.ByteArray.toList_eq,Go.ByteArray.toList_eq,str_data,str_data] at h;exact h)
 clear hne
 go_enter Tryz.func49,Tryz.ntmps49
 go_wp2_with fail
 go_ret
 exact ⟨rfl,hKa⟩
set_option maxHeartbeats 4000000 in
set_option maxRecDepth 100000 in
theorem rqdoc_fr (w:World) (xk:Int) (xn:List UInt8) (xs:Int) (xq:Int) (xb:Int) (xf:List UInt8) (xp:List UInt8) (xfr:Int) (yfr:Int) (xmn:Int) (ymn:Int) (xmb:Int) (ymb:Int) (ao bo:Option Addr) (n m c d:Nat) (hne:xfr≠yfr) :
 Calls Tryz.prog 49 #[.agg #[.int .i64 xk,.string (str xn),.int .i64 xs,.int .i64 xq,.int .i64 xb,.string (str xf),.slice ao n c,.string (str xp),.int .i64 xfr,.int .i64 xmn,.int .i64 xmb],.agg #[.int .i64 xk,.string (str xn),.int .i64 xs,.int .i64 xq,.int .i64 xb,.string (str xf),.slice bo m d,.string (str xp),.int .i64 yfr,.int .i64 ymn,.int .i64 ymb]] w fun e w'=>e=.returned (.bool false)∧Kept [] w w':=by
 have hKa:Kept [] w ((w.alloc (.cells #[.int .i64 xk,.string (str xn),.int .i64 xs,.int .i64 xq,.int .i64 xb,.string (str xf),.slice ao n c,.string (str xp),.int .i64 xfr,.int .i64 xmn,.int .i64 xmb] 29)).alloc (.cells #[.int .i64 xk,.string (str xn),.int .i64 xs,.int .i64 xq,.int .i64 xb,.string (str xf),.slice bo m d,.string (str xp),.int .i64 yfr,.int .i64 ymn,.int .i64 ymb] 29)):=((Kept.refl [] w).alloc _).alloc _
 have hb:(xfr==yfr)=false:=by simpa using hne
 clear hne
 go_enter Tryz.func49,Tryz.ntmps49
 go_wp2_with fail
 go_ret
 exact ⟨rfl,hKa⟩
set_option maxHeartbeats 4000000 in
set_option maxRecDepth 100000 in
theorem rqdoc_mn (w:World) (xk:Int) (xn:List UInt8) (xs:Int) (xq:Int) (xb:Int) (xf:List UInt8) (xp:List UInt8) (xfr:Int) (xmn:Int) (ymn:Int) (xmb:Int) (ymb:Int) (ao bo:Option Addr) (n m c d:Nat) (hne:xmn≠ymn) :
 Calls Tryz.prog 49 #[.agg #[.int .i64 xk,.string (str xn),.int .i64 xs,.int .i64 xq,.int .i64 xb,.string (str xf),.slice ao n c,.string (str xp),.int .i64 xfr,.int .i64 xmn,.int .i64 xmb],.agg #[.int .i64 xk,.string (str xn),.int .i64 xs,.int .i64 xq,.int .i64 xb,.string (str xf),.slice bo m d,.string (str xp),.int .i64 xfr,.int .i64 ymn,.int .i64 ymb]] w fun e w'=>e=.returned (.bool false)∧Kept [] w w':=by
 have hKa:Kept [] w ((w.alloc (.cells #[.int .i64 xk,.string (str xn),.int .i64 xs,.int .i64 xq,.int .i64 xb,.string (str xf),.slice ao n c,.string (str xp),.int .i64 xfr,.int .i64 xmn,.int .i64 xmb] 29)).alloc (.cells #[.int .i64 xk,.string (str xn),.int .i64 xs,.int .i64 xq,.int .i64 xb,.string (str xf),.slice bo m d,.string (str xp),.int .i64 xfr,.int .i64 ymn,.int .i64 ymb] 29)):=((Kept.refl [] w).alloc _).alloc _
 have hb:(xmn==ymn)=false:=by simpa using hne
 clear hne
 go_enter Tryz.func49,Tryz.ntmps49
 go_wp2_with fail
 go_ret
 exact ⟨rfl,hKa⟩
end Go.Proofs.YtakafmejllilnaaGreat
