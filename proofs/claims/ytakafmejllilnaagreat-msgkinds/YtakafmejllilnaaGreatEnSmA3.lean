/-
  Same. (Written by mk/mksame.py.)
-/
import Derived.Test.YtakafmejllilnaaGreatF9
import Derived.Test.YtakafmejllilnaaGreatF2
namespace Go.Proofs.YtakafmejllilnaaGreat
open Go.RowKit
set_option maxHeartbeats 4000000 in
set_option maxRecDepth 100000 in
theorem rqsame_mn (w:World) (xk:Int) (xn:List UInt8) (xs:Int) (xq:Int) (xb:Int) (xf:List UInt8) (xp:List UInt8) (xfr:Int) (xmn:Int) (ymn:Int) (xmb:Int) (ymb:Int) (ao bo:Option Addr) (n m c d:Nat) (L M:List Ch) (hL:SlC w ao n c L) (hM:SlC w bo m d M) (hl:L=M) (hne:xmn≠ymn) :
 Calls Tryz.prog 71 #[.agg #[.int .i64 xk,.string (str xn),.int .i64 xs,.int .i64 xq,.int .i64 xb,.string (str xf),.slice ao n c,.string (str xp),.int .i64 xfr,.int .i64 xmn,.int .i64 xmb],.agg #[.int .i64 xk,.string (str xn),.int .i64 xs,.int .i64 xq,.int .i64 xb,.string (str xf),.slice bo m d,.string (str xp),.int .i64 xfr,.int .i64 ymn,.int .i64 ymb]] w fun e w'=>e=.returned (.bool false)∧Kept [] w w':=by
 have hKa:Kept [] w ((w.alloc (.cells #[.int .i64 xk,.string (str xn),.int .i64 xs,.int .i64 xq,.int .i64 xb,.string (str xf),.slice ao n c,.string (str xp),.int .i64 xfr,.int .i64 xmn,.int .i64 xmb] 29)).alloc (.cells #[.int .i64 xk,.string (str xn),.int .i64 xs,.int .i64 xq,.int .i64 xb,.string (str xf),.slice bo m d,.string (str xp),.int .i64 xfr,.int .i64 ymn,.int .i64 ymb] 29)):=((Kept.refl [] w).alloc _).alloc _
 have cS:=equal_kept _ ao bo n m c d L M (hL.kept hKa (by simp)) (hM.kept hKa (by simp))
 rw [decide_eq_true hl] at cS
 clear hl hL hM
 have hb:(xmn==ymn)=false:=by simpa using hne
 clear hne
 go_enter Tryz.func71,Tryz.ntmps71
 go_wp2_with fail
 refine cS.mono ?_
 rintro _ w1 ⟨rfl,hK⟩
 have B1:=((Bx.new w 29 [.int .i64 xk,.string (str xn),.int .i64 xs,.int .i64 xq,.int .i64 xb,.string (str xf),.slice ao n c,.string (str xp),.int .i64 xfr,.int .i64 xmn,.int .i64 xmb]).kept (((Kept.refl [] _).alloc (.cells #[.int .i64 xk,.string (str xn),.int .i64 xs,.int .i64 xq,.int .i64 xb,.string (str xf),.slice bo m d,.string (str xp),.int .i64 xfr,.int .i64 ymn,.int .i64 ymb] 29))) (by simp)).kept hK (by simp)
 have B2:=(Bx.new (w.alloc (.cells #[.int .i64 xk,.string (str xn),.int .i64 xs,.int .i64 xq,.int .i64 xb,.string (str xf),.slice ao n c,.string (str xp),.int .i64 xfr,.int .i64 xmn,.int .i64 xmb] 29)) 29 [.int .i64 xk,.string (str xn),.int .i64 xs,.int .i64 xq,.int .i64 xb,.string (str xf),.slice bo m d,.string (str xp),.int .i64 xfr,.int .i64 ymn,.int .i64 ymb]).kept hK (by simp)
 have p7:w1.cell? ⟨w.heap.size,7,none⟩=some (.string (str xp)):=B1.cell 7 rfl
 have q7:w1.cell? ⟨w.heap.size+1,7,none⟩=some (.string (str xp)):=by have h:=B2.cell 7 (v:=.string (str xp)) rfl;simpa using h
 have p8:w1.cell? ⟨w.heap.size,8,none⟩=some (.int .i64 xfr):=B1.cell 8 rfl
 have q8:w1.cell? ⟨w.heap.size+1,8,none⟩=some (.int .i64 xfr):=by have h:=B2.cell 8 (v:=.int .i64 xfr) rfl;simpa using h
 have p9:w1.cell? ⟨w.heap.size,9,none⟩=some (.int .i64 xmn):=B1.cell 9 rfl
 have q9:w1.cell? ⟨w.heap.size+1,9,none⟩=some (.int .i64 ymn):=by have h:=B2.cell 9 (v:=.int .i64 ymn) rfl;simpa using h
 have p10:w1.cell? ⟨w.heap.size,10,none⟩=some (.int .i64 xmb):=B1.cell 10 rfl
 have q10:w1.cell? ⟨w.heap.size+1,10,none⟩=some (.int .i64 ymb):=by have h:=B2.cell 10 (v:=.int .i64 ymb) rfl;simpa using h
 clear B1 B2
 go_wp2_with fail
 go_ret
 exact ⟨rfl,hKa.trans hK (by simp)⟩
set_option maxHeartbeats 4000000 in
set_option maxRecDepth 100000 in
theorem rqsame_mb (w:World) (xk:Int) (xn:List UInt8) (xs:Int) (xq:Int) (xb:Int) (xf:List UInt8) (xp:List UInt8) (xfr:Int) (xmn:Int) (xmb:Int) (ymb:Int) (ao bo:Option Addr) (n m c d:Nat) (L M:List Ch) (hL:SlC w ao n c L) (hM:SlC w bo m d M) (hl:L=M) (hne:xmb≠ymb) :
 Calls Tryz.prog 71 #[.agg #[.int .i64 xk,.string (str xn),.int .i64 xs,.int .i64 xq,.int .i64 xb,.string (str xf),.slice ao n c,.string (str xp),.int .i64 xfr,.int .i64 xmn,.int .i64 xmb],.agg #[.int .i64 xk,.string (str xn),.int .i64 xs,.int .i64 xq,.int .i64 xb,.string (str xf),.slice bo m d,.string (str xp),.int .i64 xfr,.int .i64 xmn,.int .i64 ymb]] w fun e w'=>e=.returned (.bool false)∧Kept [] w w':=by
 have hKa:Kept [] w ((w.alloc (.cells #[.int .i64 xk,.string (str xn),.int .i64 xs,.int .i64 xq,.int .i64 xb,.string (str xf),.slice ao n c,.string (str xp),.int .i64 xfr,.int .i64 xmn,.int .i64 xmb] 29)).alloc (.cells #[.int .i64 xk,.string (str xn),.int .i64 xs,.int .i64 xq,.int .i64 xb,.string (str xf),.slice bo m d,.string (str xp),.int .i64 xfr,.int .i64 xmn,.int .i64 ymb] 29)):=((Kept.refl [] w).alloc _).alloc _
 have cS:=equal_kept _ ao bo n m c d L M (hL.kept hKa (by simp)) (hM.kept hKa (by simp))
 rw [decide_eq_true hl] at cS
 clear hl hL hM
 have hb:(xmb==ymb)=false:=by simpa using hne
 clear hne
 go_enter Tryz.func71,Tryz.ntmps71
 go_wp2_with fail
 refine cS.mono ?_
 rintro _ w1 ⟨rfl,hK⟩
 have B1:=((Bx.new w 29 [.int .i64 xk,.string (str xn),.int .i64 xs,.int .i64 xq,.int .i64 xb,.string (str xf),.slice ao n c,.string (str xp),.int .i64 xfr,.int .i64 xmn,.int .i64 xmb]).kept (((Kept.refl [] _).alloc (.cells #[.int .i64 xk,.string (str xn),.int .i64 xs,.int .i64 xq,.int .i64 xb,.string (str xf),.slice bo m d,.string (str xp),.int .i64 xfr,.int .i64 xmn,.int .i64 ymb] 29))) (by simp)).kept hK (by simp)
 have B2:=(Bx.new (w.alloc (.cells #[.int .i64 xk,.string (str xn),.int .i64 xs,.int .i64 xq,.int .i64 xb,.string (str xf),.slice ao n c,.string (str xp),.int .i64 xfr,.int .i64 xmn,.int .i64 xmb] 29)) 29 [.int .i64 xk,.string (str xn),.int .i64 xs,.int .i64 xq,.int .i64 xb,.string (str xf),.slice bo m d,.string (str xp),.int .i64 xfr,.int .i64 xmn,.int .i64 ymb]).kept hK (by simp)
 have p7:w1.cell? ⟨w.heap.size,7,none⟩=some (.string (str xp)):=B1.cell 7 rfl
 have q7:w1.cell? ⟨w.heap.size+1,7,none⟩=some (.string (str xp)):=by have h:=B2.cell 7 (v:=.string (str xp)) rfl;simpa using h
 have p8:w1.cell? ⟨w.heap.size,8,none⟩=some (.int .i64 xfr):=B1.cell 8 rfl
 have q8:w1.cell? ⟨w.heap.size+1,8,none⟩=some (.int .i64 xfr):=by have h:=B2.cell 8 (v:=.int .i64 xfr) rfl;simpa using h
 have p9:w1.cell? ⟨w.heap.size,9,none⟩=some (.int .i64 xmn):=B1.cell 9 rfl
 have q9:w1.cell? ⟨w.heap.size+1,9,none⟩=some (.int .i64 xmn):=by have h:=B2.cell 9 (v:=.int .i64 xmn) rfl;simpa using h
 have p10:w1.cell? ⟨w.heap.size,10,none⟩=some (.int .i64 xmb):=B1.cell 10 rfl
 have q10:w1.cell? ⟨w.heap.size+1,10,none⟩=some (.int .i64 ymb):=by have h:=B2.cell 10 (v:=.int .i64 ymb) rfl;simpa using h
 clear B1 B2
 go_wp2_with fail
 go_ret
 exact ⟨rfl,hKa.trans hK (by simp)⟩
set_option maxHeartbeats 4000000 in
set_option maxRecDepth 100000 in
theorem rqsame_all (w:World) (xk:Int) (xn:List UInt8) (xs:Int) (xq:Int) (xb:Int) (xf:List UInt8) (xp:List UInt8) (xfr:Int) (xmn:Int) (xmb:Int) (ao bo:Option Addr) (n m c d:Nat) (L M:List Ch) (hL:SlC w ao n c L) (hM:SlC w bo m d M) (hl:L=M) :
 Calls Tryz.prog 71 #[.agg #[.int .i64 xk,.string (str xn),.int .i64 xs,.int .i64 xq,.int .i64 xb,.string (str xf),.slice ao n c,.string (str xp),.int .i64 xfr,.int .i64 xmn,.int .i64 xmb],.agg #[.int .i64 xk,.string (str xn),.int .i64 xs,.int .i64 xq,.int .i64 xb,.string (str xf),.slice bo m d,.string (str xp),.int .i64 xfr,.int .i64 xmn,.int .i64 xmb]] w fun e w'=>e=.returned (.bool true)∧Kept [] w w':=by
 have hKa:Kept [] w ((w.alloc (.cells #[.int .i64 xk,.string (str xn),.int .i64 xs,.int .i64 xq,.int .i64 xb,.string (str xf),.slice ao n c,.string (str xp),.int .i64 xfr,.int .i64 xmn,.int .i64 xmb] 29)).alloc (.cells #[.int .i64 xk,.string (str xn),.int .i64 xs,.int .i64 xq,.int .i64 xb,.string (str xf),.slice bo m d,.string (str xp),.int .i64 xfr,.int .i64 xmn,.int .i64 xmb] 29)):=((Kept.refl [] w).alloc _).alloc _
 have cS:=equal_kept _ ao bo n m c d L M (hL.kept hKa (by simp)) (hM.kept hKa (by simp))
 rw [decide_eq_true hl] at cS
 clear hl hL hM
 go_enter Tryz.func71,Tryz.ntmps71
 go_wp2_with fail
 refine cS.mono ?_
 rintro _ w1 ⟨rfl,hK⟩
 have B1:=((Bx.new w 29 [.int .i64 xk,.string (str xn),.int .i64 xs,.int .i64 xq,.int .i64 xb,.string (str xf),.slice ao n c,.string (str xp),.int .i64 xfr,.int .i64 xmn,.int .i64 xmb]).kept (((Kept.refl [] _).alloc (.cells #[.int .i64 xk,.string (str xn),.int .i64 xs,.int .i64 xq,.int .i64 xb,.string (str xf),.slice bo m d,.string (str xp),.int .i64 xfr,.int .i64 xmn,.int .i64 xmb] 29))) (by simp)).kept hK (by simp)
 have B2:=(Bx.new (w.alloc (.cells #[.int .i64 xk,.string (str xn),.int .i64 xs,.int .i64 xq,.int .i64 xb,.string (str xf),.slice ao n c,.string (str xp),.int .i64 xfr,.int .i64 xmn,.int .i64 xmb] 29)) 29 [.int .i64 xk,.string (str xn),.int .i64 xs,.int .i64 xq,.int .i64 xb,.string (str xf),.slice bo m d,.string (str xp),.int .i64 xfr,.int .i64 xmn,.int .i64 xmb]).kept hK (by simp)
 have p7:w1.cell? ⟨w.heap.size,7,none⟩=some (.string (str xp)):=B1.cell 7 rfl
 have q7:w1.cell? ⟨w.heap.size+1,7,none⟩=some (.string (str xp)):=by have h:=B2.cell 7 (v:=.string (str xp)) rfl;simpa using h
 have p8:w1.cell? ⟨w.heap.size,8,none⟩=some (.int .i64 xfr):=B1.cell 8 rfl
 have q8:w1.cell? ⟨w.heap.size+1,8,none⟩=some (.int .i64 xfr):=by have h:=B2.cell 8 (v:=.int .i64 xfr) rfl;simpa using h
 have p9:w1.cell? ⟨w.heap.size,9,none⟩=some (.int .i64 xmn):=B1.cell 9 rfl
 have q9:w1.cell? ⟨w.heap.size+1,9,none⟩=some (.int .i64 xmn):=by have h:=B2.cell 9 (v:=.int .i64 xmn) rfl;simpa using h
 have p10:w1.cell? ⟨w.heap.size,10,none⟩=some (.int .i64 xmb):=B1.cell 10 rfl
 have q10:w1.cell? ⟨w.heap.size+1,10,none⟩=some (.int .i64 xmb):=by have h:=B2.cell 10 (v:=.int .i64 xmb) rfl;simpa using h
 clear B1 B2
 go_wp2_with fail
 go_ret
 exact ⟨rfl,hKa.trans hK (by simp)⟩
end Go.Proofs.YtakafmejllilnaaGreat
