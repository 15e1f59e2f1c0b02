/-
  The document's Same. (Written by mk/mksame.py.)
-/
import Derived.Test.YtakafmejllilnaaGreatF9
namespace Go.Proofs.YtakafmejllilnaaGreat
open Go.RowKit
set_option maxHeartbeats 4000000 in
set_option maxRecDepth 100000 in
theorem rqdoc_mb (w:World) (xk:Int) (xn:List UInt8) (xs:Int) (xq:Int) (xb:Int) (xf:List UInt8) (xp:List UInt8) (xfr:Int) (xmn:Int) (xmb:Int) (ymb:Int) (ao bo:Option Addr) (n m c d:Nat) (hne:xmb≠ymb) :
 Calls Tryz.prog 49 #[.agg #[.int .i64 xk,.string (str xn),.int .i64 xs,.int .i64 xq,.int .i64 xb,.string (str xf),.slice ao n c,.string (str xp),.int .i64 xfr,.int .i64 xmn,.int .i64 xmb],.agg #[.int .i64 xk,.string (str xn),.int .i64 xs,.int .i64 xq,.int .i64 xb,.string (str xf),.slice bo m d,.string (str xp),.int .i64 xfr,.int .i64 xmn,.int .i64 ymb]] w fun e w'=>e=.returned (.bool false)∧Kept [] w w':=by
 have hKa:Kept [] w ((w.alloc (.cells #[.int .i64 xk,.string (str xn),.int .i64 xs,.int .i64 xq,.int .i64 xb,.string (str xf),.slice ao n c,.string (str xp),.int .i64 xfr,.int .i64 xmn,.int .i64 xmb] 29)).alloc (.cells #[.int .i64 xk,.string (str xn),.int .i64 xs,.int .i64 xq,.int .i64 xb,.string (str xf),.slice bo m d,.string (str xp),.int .i64 xfr,.int .i64 xmn,.int .i64 ymb] 29)):=((Kept.refl [] w).alloc _).alloc _
 have hb:(xmb==ymb)=false:=by simpa using hne
 clear hne
 go_enter Tryz.func49,Tryz.ntmps49
 go_wp2_with fail
 go_ret
 exact ⟨rfl,hKa⟩
set_option maxHeartbeats 4000000 in
set_option maxRecDepth 100000 in
theorem rqdoc_c (w:World) (xk:Int) (xn:List UInt8) (xs:Int) (xq:Int) (xb:Int) (xf:List UInt8) (xp:List UInt8) (xfr:Int) (xmn:Int) (xmb:Int) (ao bo:Option Addr) (n m c d:Nat) (L M:List Ch) (hL:SlC w ao n c L) (hM:SlC w bo m d M) (hl:¬ L=M) :
 Calls Tryz.prog 49 #[.agg #[.int .i64 xk,.string (str xn),.int .i64 xs,.int .i64 xq,.int .i64 xb,.string (str xf),.slice ao n c,.string (str xp),.int .i64 xfr,.int .i64 xmn,.int .i64 xmb],.agg #[.int .i64 xk,.string (str xn),.int .i64 xs,.int .i64 xq,.int .i64 xb,.string (str xf),.slice bo m d,.string (str xp),.int .i64 xfr,.int .i64 xmn,.int .i64 xmb]] w fun e w'=>e=.returned (.bool false)∧Kept [] w w':=by
 have hKa:Kept [] w ((w.alloc (.cells #[.int .i64 xk,.string (str xn),.int .i64 xs,.int .i64 xq,.int .i64 xb,.string (str xf),.slice ao n c,.string (str xp),.int .i64 xfr,.int .i64 xmn,.int .i64 xmb] 29)).alloc (.cells #[.int .i64 xk,.string (str xn),.int .i64 xs,.int .i64 xq,.int .i64 xb,.string (str xf),.slice bo m d,.string (str xp),.int .i64 xfr,.int .i64 xmn,.int .i64 xmb] 29)):=((Kept.refl [] w).alloc _).alloc _
 have cS:=rsame_kept _ ao bo n m c d L M (hL.kept hKa (by simp)) (hM.kept hKa (by simp))
 rw [decide_eq_false hl] at cS
 clear hl hL hM
 go_enter Tryz.func49,Tryz.ntmps49
 go_wp2_with fail
 refine cS.mono ?_
 rintro _ w1 ⟨rfl,hK⟩
 go_wp2_with fail
 go_ret
 exact ⟨rfl,hKa.trans hK (by simp)⟩
set_option maxHeartbeats 4000000 in
set_option maxRecDepth 100000 in
theorem rqdoc_all (w:World) (xk:Int) (xn:List UInt8) (xs:Int) (xq:Int) (xb:Int) (xf:List UInt8) (xp:List UInt8) (xfr:Int) (xmn:Int) (xmb:Int) (ao bo:Option Addr) (n m c d:Nat) (L M:List Ch) (hL:SlC w ao n c L) (hM:SlC w bo m d M) (hl:L=M) :
 Calls Tryz.prog 49 #[.agg #[.int .i64 xk,.string (str xn),.int .i64 xs,.int .i64 xq,.int .i64 xb,.string (str xf),.slice ao n c,.string (str xp),.int .i64 xfr,.int .i64 xmn,.int .i64 xmb],.agg #[.int .i64 xk,.string (str xn),.int .i64 xs,.int .i64 xq,.int .i64 xb,.string (str xf),.slice bo m d,.string (str xp),.int .i64 xfr,.int .i64 xmn,.int .i64 xmb]] w fun e w'=>e=.returned (.bool true)∧Kept [] w w':=by
 have hKa:Kept [] w ((w.alloc (.cells #[.int .i64 xk,.string (str xn),.int .i64 xs,.int .i64 xq,.int .i64 xb,.string (str xf),.slice ao n c,.string (str xp),.int .i64 xfr,.int .i64 xmn,.int .i64 xmb] 29)).alloc (.cells #[.int .i64 xk,.string (str xn),.int .i64 xs,.int .i64 xq,.int .i64 xb,.string (str xf),.slice bo m d,.string (str xp),.int .i64 xfr,.int .i64 xmn,.int .i64 xmb] 29)):=((Kept.refl [] w).alloc _).alloc _
 have cS:=rsame_kept _ ao bo n m c d L M (hL.kept hKa (by simp)) (hM.kept hKa (by simp))
 rw [decide_eq_true hl] at cS
 clear hl hL hM
 go_enter Tryz.func49,Tryz.ntmps49
 go_wp2_with fail
 refine cS.mono ?_
 rintro _ w1 ⟨rfl,hK⟩
 go_wp2_with fail
 go_ret
 exact ⟨rfl,hKa.trans hK (by simp)⟩
end Go.Proofs.YtakafmejllilnaaGreat
