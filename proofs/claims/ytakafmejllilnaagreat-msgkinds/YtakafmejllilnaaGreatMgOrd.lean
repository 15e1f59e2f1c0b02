/-
  order: the method values that go through the fields of a Kind.
-/
import Derived.Test.YtakafmejllilnaaGreatMsShp
namespace Go.Proofs.YtakafmejllilnaaGreat
open Go.RowKit
def fnm:Fd→String
 | .B => "wapentake/msg.ballot"
 | .S => "wapentake/msg.slot"
 | .T => "wapentake/msg.time"
 | .V => "wapentake/msg.value"
 | .L => "wapentake/msg.votes"
 | .I => "wapentake/msg.image"
 | .N => "wapentake/msg.number"
 | .R => "wapentake/msg.verdict"
def mvF (T:TypeId) (v:Value) (f:Fd):Value:=.func (.method (fnm f)) #[.iface T v] #[]
def OrdP (w:World) (T:TypeId) (v:Value) (k:Int) (r:Ending) (w':World):Prop :=
 r=.returned (.slice (some ⟨w.heap.size,0,none⟩) (shp k).length (shp k).length)∧Bx w' w.heap.size 1 ((shp k).map (mvF T v))∧Kept [] w w'
set_option maxHeartbeats 4000000 in
set_option maxRecDepth 100000 in
theorem order_some (w:World) (T:TypeId) (v:Value) (k:Int) (hk:shp k≠[]):Calls Tryz.prog 32 #[.iface T v,.int .i64 k] w (OrdP w T v k):=by
 have hmf:∀ (fn:Go.Fn) (first cap:Array Value) (w:World),(Instr.makeFunc fn first cap).run Tryz.prog w=.ok (.func fn first cap) w:=fun _ _ _ _=>rfl
 have hK:∀ cs,Kept [] w (w.alloc (.cells cs 1)):=fun cs=>(Kept.refl _ _).alloc _
 obtain ⟨h1,h2⟩:=shp_kind hk
 clear hk
 have h3:k=1∨k=2∨k=3∨k=4∨k=5∨k=6∨k=7∨k=8∨k=9∨k=10∨k=11∨k=12∨k=13∨k=14:=by omega
 clear h1 h2
 rcases h3 with rfl | rfl | rfl | rfl | rfl | rfl | rfl | rfl | rfl | rfl | rfl | rfl | rfl | rfl
 all_goals
  go_enter Tryz.func32,Tryz.ntmps32
  go_wp2_with fail
  try (go_region;go_wp2_with fail)
  go_ret
  exact ⟨rfl,Bx.new w _ _,by first | exact hK _ | exact (hK _).drew⟩
set_option maxHeartbeats 4000000 in
set_option maxRecDepth 100000 in
theorem order_none (w:World) (h:Value) (k:Int) (hk:shp k=[]):Calls Tryz.prog 32 #[h,.int .i64 k] w fun r w'=>r=.returned (.slice none 0 0)∧w'=w:=by
 have b1:(k==1)=false:=by simp only [beq_eq_false_iff_ne,ne_eq];rintro rfl;exact absurd hk (by decide)
 have b2:(k==2)=false:=by simp only [beq_eq_false_iff_ne,ne_eq];rintro rfl;exact absurd hk (by decide)
 have b3:(k==3)=false:=by simp only [beq_eq_false_iff_ne,ne_eq];rintro rfl;exact absurd hk (by decide)
 have b4:(k==4)=false:=by simp only [beq_eq_false_iff_ne,ne_eq];rintro rfl;exact absurd hk (by decide)
 have b5:(k==5)=false:=by simp only [beq_eq_false_iff_ne,ne_eq];rintro rfl;exact absurd hk (by decide)
 have b6:(k==6)=false:=by simp only [beq_eq_false_iff_ne,ne_eq];rintro rfl;exact absurd hk (by decide)
 have b7:(k==7)=false:=by simp only [beq_eq_false_iff_ne,ne_eq];rintro rfl;exact absurd hk (by decide)
 have b8:(k==8)=false:=by simp only [beq_eq_false_iff_ne,ne_eq];rintro rfl;exact absurd hk (by decide)
 have b9:(k==9)=false:=by simp only [beq_eq_false_iff_ne,ne_eq];rintro rfl;exact absurd hk (by decide)
 have b10:(k==10)=false:=by simp only [beq_eq_false_iff_ne,ne_eq];rintro rfl;exact absurd hk (by decide)
 have b11:(k==11)=false:=by simp only [beq_eq_false_iff_ne,ne_eq];rintro rfl;exact absurd hk (by decide)
 have b12:(k==12)=false:=by simp only [beq_eq_false_iff_ne,ne_eq];rintro rfl;exact absurd hk (by decide)
 have b13:(k==13)=false:=by simp only [beq_eq_false_iff_ne,ne_eq];rintro rfl;exact absurd hk (by decide)
 have b14:(k==14)=false:=by simp only [beq_eq_false_iff_ne,ne_eq];rintro rfl;exact absurd hk (by decide)
 clear hk
 go_enter Tryz.func32,Tryz.ntmps32
 go_wp2_with fail
 go_ret
 exact ⟨rfl,rfl⟩
end Go.Proofs.YtakafmejllilnaaGreat
