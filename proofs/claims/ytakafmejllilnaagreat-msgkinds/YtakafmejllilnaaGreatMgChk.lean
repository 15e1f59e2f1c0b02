/-
  Check: may a message be?
-/
import Derived.Test.YtakafmejllilnaaGreatMgBare
namespace Go.Proofs.YtakafmejllilnaaGreat
open Go.RowKit
def takeFs:List Fd→Mm→Mm
 | [],y=>y
 | f :: fs,y=>takeFs fs (takeF f y)
theorem takeFs_snoc (fs:List Fd) (f:Fd) (y:Mm):takeFs (fs++[f]) y=takeF f (takeFs fs y):=by
 induction fs generalizing y with
 | nil=>rfl
 | cons g fs ih=>exact ih _
theorem MsHy.take {w:World}{y:Mm}(h:MsHy w y) (f:Fd):MsHy w (takeF f y):=by
 have hz:RqHy [] w rm0:=⟨⟨rfl,Nat.le_refl _,Nat.zero_le _,fun i hi=>by simp [rm0] at hi⟩,fun _=>rfl,(fun h0=>by simp [rm0] at h0),by simp [rm0],by simp [rm0],by simp [rm0],fun y hy=>by simp [rm0] at hy⟩
 cases f
 ·show MsHy w (if _ then _ else _);split
  ·exact ⟨h.x,h.v,h.i,h.o,h.r,h.u,h.uv,h.ur⟩
  ·exact h
 ·show MsHy w (if _ then _ else _);split
  ·exact ⟨h.x,h.v,h.i,h.o,h.r,h.u,h.uv,h.ur⟩
  ·exact h
 ·show MsHy w (if _ then _ else _);split
  ·exact ⟨h.x,h.v,h.i,h.o,h.r,h.u,h.uv,h.ur⟩
  ·exact h
 ·show MsHy w (if _ then _ else _);split
  ·exact ⟨hz,h.v,h.i,h.o,h.r,(fun c hc=>by simp [rm0] at hc),h.uv,h.ur⟩
  ·exact h
 ·show MsHy w (if _ then _ else _);split
  ·exact ⟨h.x,SlV.nil w,h.i,h.o,h.r,h.u,(fun z hz=>by cases hz),h.ur⟩
  ·exact h
 ·show MsHy w (if _ then _ else _);split
  ·exact ⟨h.x,h.v,Sl.nil w,oct_nil,h.r,h.u,h.uv,h.ur⟩
  ·exact h
 ·show MsHy w (if _ then _ else _);split
  ·exact ⟨h.x,h.v,h.i,h.o,h.r,h.u,h.uv,h.ur⟩
  ·exact h
 ·show MsHy w (if _ then _ else _);split
  ·exact ⟨h.x,h.v,h.i,h.o,vtHy_zero [] w,h.u,h.uv,⟨by simp [vt0],fun x hx=>by simp [vt0] at hx⟩⟩
  ·exact h
theorem MsHy.takes {w:World}{y:Mm}(fs:List Fd) (h:MsHy w y):MsHy w (takeFs fs y):=by
 induction fs generalizing y with
 | nil=>exact h
 | cons f fs ih=>exact ih (h.take f)
theorem sv_call (w:World) (b:Nat) (y:Mm) (f:Fd) (fn:FuncId) (hfn:fn=match f with | .B=>123 | .S=>126 | .T=>127 | .V=>128 | .L=>130 | .I=>124 | .N=>125 | .R=>129)
 (hB:Bx w b 36 (msC y)) (hx:MsHy w y):Calls Tryz.prog fn #[.agg #[.pointer (some ⟨b,0,none⟩)]] w (SvP w b y f):=by
 subst hfn
 cases f
 ·exact svB_call w b y hB
 ·exact svS_call w b y hB
 ·exact svT_call w b y hB
 ·exact svV_call w b y hB hx.x
 ·exact svL_call w b y hB hx.v
 ·exact svI_call w b y hB
 ·exact svN_call w b y hB
 ·exact svR_call w b y hB hx.r
theorem nil_none (w:World):Sem.run Tryz.prog (binOp BinOp.eql 70 (.slice none 0 0) (.slice none 0 0)) w=.ok (.bool true) w:=by kernel_rfl
theorem nil_some (w:World) (g n c:Nat):Sem.run Tryz.prog (binOp BinOp.eql 70 (.slice (some ⟨g,0,none⟩) n c) (.slice none 0 0)) w=.ok (.bool false) w:=by kernel_rfl
theorem shp_len (k:Int):(shp k).length≤3:=by
 unfold shp
 repeat' split
 all_goals simp
def okI (b:Bool):Int:=if b=true then 0 else 1
def chkM (y:Mm):Bool:=!(shp y.k).isEmpty && (addrB y.f && (addrB y.t && bareB (takeFs (shp y.k) y).ms))
def ChI (W:World) (b g:Nat) (y:Mm) (fs:List Fd) (iv:Value) (wr:World):Prop :=
 ∃ i:Nat,iv=.int .i64 (i:Int)∧i≤fs.length∧Hid (Bx wr b 36 (msC (takeFs (fs.take i) y)))∧Hid (Bx wr g 1 (fs.map (mvF 74 (.agg #[.pointer (some ⟨b,0,none⟩)]))))∧Hid (Kept [b] W wr)
set_option maxHeartbeats 8000000 in
set_option maxRecDepth 100000 in
theorem check_call (w:World) (y:Mm) (hx:MsHy w y):Calls Tryz.prog 16 #[.agg (msC y).toArray] w fun r w'=>r=.returned (.int .i64 (okI (chkM y)))∧Kept [] w w':=by
 obtain ⟨W,hW⟩:∃ W,W=w.alloc (.cells (msC y).toArray 36):=⟨_,rfl⟩
 have hK:Kept [] w W:=by rw [hW];exact (Kept.refl _ _).alloc _
 have HK:=hide hK
 have HB:Hid (Bx W w.heap.size 36 (msC y)):=by rw [hW];exact Bx.new w _ _
 have hWs:W.heap.size=w.heap.size+1:=by rw [hW];simp
 have HWs:=hide hWs
 have HX:=hide hx
 have c0:=HB.out.cell 0 rfl
 have c1:=HB.out.cell 1 rfl
 have c2:=HB.out.cell 2 rfl
 unfold msC at hW
 have HW:=hide hW
 have HE:Hid (chkM y=(!(shp y.k).isEmpty && (addrB y.f && (addrB y.t && bareB (takeFs (shp y.k) y).ms)))):=rfl
 clear hx hW hK hWs
 have hnn:=nil_none
 have hns:=nil_some
 by_cases hk:shp y.k=[]
 ·have HQ:Hid (chkM y=false):=by show _=_;rw [HE.out,hk];rfl
  have cO:=hide (order_none W (.iface 74 (.agg #[.pointer (some ⟨w.heap.size,0,none⟩)])) y.k hk)
  clear hk
  unfold msC
  go_enter Tryz.func16,Tryz.ntmps16
  go_upto_region 1 with fail
  rw [← HW.out]
  go_wp2_with fail
  refine cO.out.mono ?_
  rintro _ w1 ⟨rfl,rfl⟩
  go_wp2_with fail
  go_ret
  rw [HQ.out]
  exact ⟨rfl,HK.out⟩
 have cO:=hide (order_some W 74 (.agg #[.pointer (some ⟨w.heap.size,0,none⟩)]) y.k hk)
 have HNE:Hid ((shp y.k).isEmpty=false):=by show _=_;simpa using hk
 clear hk
 have cA:=hide (fun W n=>address_call W n)
 unfold msC
 go_enter Tryz.func16,Tryz.ntmps16
 go_upto_region 1 with fail
 rw [← HW.out]
 go_upto_region 2 with (go_at_call 32;refine cO.out.mono ?_;rintro _ w1 ⟨rfl,hG,hk1⟩;have HG:=hide hG;have HK1:=hide hk1;have d0:=hk1.cell c0 (by simp);have d1:=hk1.cell c1 (by simp);have d2:=hk1.cell c2 (by simp);clear hG hk1 c0 c1 c2 cO)
 have hfl:=shp_len y.k
 generalize shp y.k=fs at HE HNE HG hfl ⊢
 cases h1:addrB y.f
 ·have HQ:Hid (chkM y=false):=by show _=_;rw [HE.out,h1];simp
  go_wp2_with (go_at_call 33;first | ((with_reducible refine (cA.out _ y.f).mono ?_);rw [h1];rintro _ w2 ⟨rfl,rfl⟩))
  go_ret
  rw [HQ.out]
  exact ⟨rfl,HK.out.trans HK1.out (by simp)⟩
 cases h2:addrB y.t
 ·have HQ:Hid (chkM y=false):=by show _=_;rw [HE.out,h2];simp
  go_wp2_with (go_at_call 33;first | ((with_reducible refine (cA.out _ y.f).mono ?_);rw [h1];rintro _ w2 ⟨rfl,rfl⟩) | ((with_reducible refine (cA.out _ y.t).mono ?_);rw [h2];rintro _ w2 ⟨rfl,rfl⟩))
  go_ret
  rw [HQ.out]
  exact ⟨rfl,HK.out.trans HK1.out (by simp)⟩
 have HQ:Hid (chkM y=bareB (takeFs fs y).ms):=by show _=_;rw [HE.out,HNE.out,h1,h2];simp
 have hE1 : ∀ (x : Value) (w : World), (invoke (.fn (.method "wapentake/msg.ballot") #[]) #[.iface 74 x]).run Tryz.prog w = .ok (.enter 123 #[x]) w := fun _ _ => by kernel_rfl
 have hE2 : ∀ (x : Value) (w : World), (invoke (.fn (.method "wapentake/msg.slot") #[]) #[.iface 74 x]).run Tryz.prog w = .ok (.enter 126 #[x]) w := fun _ _ => by kernel_rfl
 have hE3 : ∀ (x : Value) (w : World), (invoke (.fn (.method "wapentake/msg.time") #[]) #[.iface 74 x]).run Tryz.prog w = .ok (.enter 127 #[x]) w := fun _ _ => by kernel_rfl
 have hE4 : ∀ (x : Value) (w : World), (invoke (.fn (.method "wapentake/msg.value") #[]) #[.iface 74 x]).run Tryz.prog w = .ok (.enter 128 #[x]) w := fun _ _ => by kernel_rfl
 have hE5 : ∀ (x : Value) (w : World), (invoke (.fn (.method "wapentake/msg.votes") #[]) #[.iface 74 x]).run Tryz.prog w = .ok (.enter 130 #[x]) w := fun _ _ => by kernel_rfl
 have hE6 : ∀ (x : Value) (w : World), (invoke (.fn (.method "wapentake/msg.image") #[]) #[.iface 74 x]).run Tryz.prog w = .ok (.enter 124 #[x]) w := fun _ _ => by kernel_rfl
 have hE7 : ∀ (x : Value) (w : World), (invoke (.fn (.method "wapentake/msg.number") #[]) #[.iface 74 x]).run Tryz.prog w = .ok (.enter 125 #[x]) w := fun _ _ => by kernel_rfl
 have hE8 : ∀ (x : Value) (w : World), (invoke (.fn (.method "wapentake/msg.verdict") #[]) #[.iface 74 x]).run Tryz.prog w = .ok (.enter 129 #[x]) w := fun _ _ => by kernel_rfl
 have HB1:Hid (Bx w1 w.heap.size 36 (msC (takeFs (fs.take 0) y))):=HB.out.kept HK1.out (by simp)
 go_upto_region 5 with (go_at_call 33;first | ((with_reducible refine (cA.out _ y.f).mono ?_);rw [h1];rintro _ w2 ⟨rfl,rfl⟩) | ((with_reducible refine (cA.out _ y.t).mono ?_);rw [h2];rintro _ w2 ⟨rfl,rfl⟩))
 clear d0 d1 d2 h1 h2
 go_loopw [27] (fun iv wr=>ChI W w.heap.size W.heap.size y fs iv wr) (fun iv _=>fs.length - (intOf iv).toNat)
 case atStart=>exact ⟨0,rfl,Nat.zero_le _,HB1,HG,HK1.out.mono (by simp)⟩
 case round =>
  obtain ⟨i,rfl,hi,HBi,HGi,HKi⟩:=hrel
  by_cases hlt:i < fs.length
  ·have hlt':(i:Int) < fs.length:=by omega
   have hce:=HGi.out.cell i (v:=mvF 74 (.agg #[.pointer (some ⟨w.heap.size,0,none⟩)]) fs[i]) (by rw [List.getElem?_map,List.getElem?_eq_getElem hlt];rfl)
   have HN:Hid (takeF fs[i] (takeFs (fs.take i) y)=takeFs (fs.take (i+1)) y):=by show _=_;rw [List.take_succ_eq_append_getElem hlt,takeFs_snoc]
   generalize fs[i]=f at hce HN
   have HSV:=hide (fun fn hfn=>sv_call wr w.heap.size (takeFs (fs.take i) y) f fn hfn HBi.out ((HX.out.kept (HK.out.trans HKi.out (by simp))).takes (fs.take i)))
   cases f
   all_goals
    unfold mvF fnm at hce
    go_wp2_with fail
    refine (HSV.out _ rfl).mono ?_
    clear HSV hce
    rintro _ w3 ⟨rfl,hB3,hk3⟩
    rw [HN.out] at hB3
    have HB3:=hide hB3
    have HG3:=hide (HGi.out.kept hk3 (by have:=HWs.out;simp;omega))
    have HK3:=hide (HKi.out.trans hk3 (by simp))
    clear hB3 hk3
    go_wp2_with fail
    go_roundw
    case rel=>exact ⟨i+1,by go_num,by omega,HB3,HG3,HK3⟩
    case measure=>simp [intOf];omega
  ·have hlt':¬ (i:Int) < fs.length:=by omega
   have hB9:=HBi.out
   rw [List.take_of_length_le (by omega)] at hB9
   have HB9:=hide hB9
   have HT9:Hid (RowT Tryz.prog 36 (msC (takeFs fs y)).length):=rowT_msg
   have HK9:=hide (HK.out.trans HKi.out (by simp))
   have cB:=hide (isBare_call wr (takeFs fs y) ((HX.out.kept HK9.out).takes fs))
   have HQ9:Hid (bareB (takeFs fs y).ms=chkM y):=HQ.out.symm
   clear hB9 HBi
   generalize bareB (takeFs fs y).ms=bb at cB HQ9
   cases bb
   ·go_wp2_with (first | ((with_reducible refine wl_load_bx HB9.out HT9.out ?_ ?_);rfl) | (go_at_call 34;refine cB.out.mono ?_;rintro _ w4 ⟨rfl,hk4⟩;have HK4:=hide hk4;clear hk4))
    go_ret
    rw [← HQ9.out]
    exact ⟨rfl,HK9.out.trans HK4.out (by simp)⟩
   ·go_wp2_with (first | ((with_reducible refine wl_load_bx HB9.out HT9.out ?_ ?_);rfl) | (go_at_call 34;refine cB.out.mono ?_;rintro _ w4 ⟨rfl,hk4⟩;have HK4:=hide hk4;clear hk4))
    go_ret
    rw [← HQ9.out]
    exact ⟨rfl,HK9.out.trans HK4.out (by simp)⟩
end Go.Proofs.YtakafmejllilnaaGreat
