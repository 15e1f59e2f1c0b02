/-
  The document's own: a message with the fields of its Kind alone.
-/
import Derived.Test.YtakafmejllilnaaGreatW13r
import Derived.Test.YtakafmejllilnaaGreatH2r
import Derived.Deep.CutRange
import Derived.Deep.CutBlock
namespace Go.Proofs.YtakafmejllilnaaGreat
open Go.RowKit
def putF:Fd→Mm→Mm→Mm
 | .B,y,x=>{ x with b:=y.b }
 | .S,y,x=>{ x with s:=y.s }
 | .T,y,x=>{ x with m:=y.m }
 | .V,y,x=>{ x with x:=y.x }
 | .L,y,x=>{ x with vo:=y.vo,vc:=y.vc,D:=y.D }
 | .I,y,x=>{ x with io:=y.io,ic:=y.ic,i:=y.i }
 | .N,y,x=>{ x with n:=y.n }
 | .R,y,x=>{ x with r:=y.r,uo:=y.uo,un:=y.un,uc:=y.uc }
def gF (fs:List Fd) (f:Fd) (y x:Mm):Mm:=if fs.contains f=true then putF f y x else x
def iV (y:Mm):Mm:={ eI with k:=y.k,f:=y.f,t:=y.t }
def ir (y:Mm):Mm:=gF (bc y.k) .R y (gF (bc y.k) .N y (gF (bc y.k) .I y (gF (bc y.k) .L y (gF (bc y.k) .V y (gF (bc y.k) .T y (gF (bc y.k) .S y (gF (bc y.k) .B y (iV y))))))))
theorem lu (k:Int):bc k=[.B,.S]∨bc k=[.B,.S,.L]∨bc k=[.B,.S,.V]∨bc k=[.B]∨bc k=[.S,.V]∨bc k=[.B,.S,.T]∨bc k=[.S]∨bc k=[.S,.I]∨bc k=[.N,.V]∨bc k=[.N,.R]∨bc k=[.N,.S]∨bc k=[]:=by
 unfold bc;repeat' split
 all_goals simp
theorem jW (y:Mm):(ir y).ms=own y.ms:=by
 have hk:bc y.ms.k=bc y.k:=rfl;unfold ir own;rw [hk];rcases lu y.k with h | h | h | h | h | h | h | h | h | h | h | h <;> rw [h] <;> rfl
theorem vQ (y:Mm):(ir y).D=y.D∨(ir y).D=[]:=by
 unfold ir;rcases lu y.k with h | h | h | h | h | h | h | h | h | h | h | h <;> rw [h] <;> first | exact .inl rfl | exact .inr rfl
theorem cb.putF {w:World}{y x:Mm}(f:Fd) (hy:cb w y) (hx:cb w x):cb w (putF f y x):=by
 cases f
 ·exact ⟨hx.x,hx.v,hx.i,hx.o,hx.r,hx.u,hx.uv,hx.ur⟩
 ·exact ⟨hx.x,hx.v,hx.i,hx.o,hx.r,hx.u,hx.uv,hx.ur⟩
 ·exact ⟨hx.x,hx.v,hx.i,hx.o,hx.r,hx.u,hx.uv,hx.ur⟩
 ·exact ⟨hy.x,hx.v,hx.i,hx.o,hx.r,hy.u,hx.uv,hx.ur⟩
 ·exact ⟨hx.x,hy.v,hx.i,hx.o,hx.r,hx.u,hy.uv,hx.ur⟩
 ·exact ⟨hx.x,hx.v,hy.i,hy.o,hx.r,hx.u,hx.uv,hx.ur⟩
 ·exact ⟨hx.x,hx.v,hx.i,hx.o,hx.r,hx.u,hx.uv,hx.ur⟩
 ·exact ⟨hx.x,hx.v,hx.i,hx.o,hy.r,hx.u,hx.uv,hy.ur⟩
theorem cb.gF {w:World}{y x:Mm}(fs:List Fd) (f:Fd) (hy:cb w y) (hx:cb w x):cb w (gF fs f y x):=by
 unfold Go.Proofs.YtakafmejllilnaaGreat.gF;split
 ·exact hy.putF f hx
 ·exact hx
theorem vt (w:World) (y:Mm):cb w (iV y) :=
 ⟨(iQ w).x,(iQ w).v,(iQ w).i,(iQ w).o,(iQ w).r,(iQ w).u,(iQ w).uv,(iQ w).ur⟩
theorem o7 {w:World}{y:Mm}(h:cb w y):cb w (ir y) :=
 h.gF _ _ (h.gF _ _ (h.gF _ _ (h.gF _ _ (h.gF _ _ (h.gF _ _ (h.gF _ _ (h.gF _ _ (vt w y))))))))
def vh (W:World) (y:Mm) (f:Fd) (x:Mm) (wx:World):Prop:=∃ X,Hid (X=gF (bc y.k) f y x)∧Hid (Bx wx W.heap.size 36 (aX X))∧Hid (ab [] W wx)
theorem jI {fs:List Fd}{f:Fd}(h:false=fs.contains f) (y x:Mm):x=gF fs f y x:=by unfold gF;rw [← h];rfl
theorem gj {fs:List Fd}{f:Fd}(h:true=fs.contains f) (y x:Mm):putF f y x=gF fs f y x:=by unfold gF;rw [← h];rfl
set_option linter.unusedSimpArgs false in
set_option maxHeartbeats 8000000 in
set_option maxRecDepth 100000 in
theorem hJ (w:World) (y:Mm):Calls Tryz.prog 38 #[.agg (aX y).toArray] w fun r w'=>r=.returned (.agg (aX (ir y)).toArray)∧ab [] w w':=by
 obtain ⟨W,hW⟩:∃ W,W=(w.alloc (.cells (aX y).toArray 36)).alloc (.cells br.toArray 36):=⟨_,rfl⟩;have k1:=ct w 36 (aX y);have k2:=ct (w.alloc (.cells (aX y).toArray 36)) 36 br;have hM:Bx W w.heap.size 36 (aX y):=by rw [hW];exact (Bx.new w _ _).kept k2 (by simp)
 have hR:Bx W (w.heap.size+1) 36 br:=by rw [hW];have h:=Bx.new (w.alloc (.cells (aX y).toArray 36)) 36 br;simpa using h
 have HKW:Hid (ab [] w W):=by rw [hW];exact k1.trans k2 (by simp)
 have HM:=aa hM;have HR:=aa hR;clear hR;have c0:=hM.cell 0 rfl;have c1:=hM.cell 1 rfl;have c2:=hM.cell 2 rfl;have cH:=aa (iD W y.k);have HXz:Hid (Bx (W.alloc (.cells br.toArray 36)) W.heap.size 36 br):=Bx.new W _ br;have HKz:Hid (ab [] W (W.alloc (.cells br.toArray 36))):=ct W _ br;have HLz:Hid ((aX (iV y)).length=br.length):=rfl;have HOz:=aa (dJ (iV y));have HTz:Hid (aq Tryz.prog 36 (aX (iV y)).length):=cL;unfold aX br at hW;have HW:=aa hW;unfold br at HXz HKz;clear hW k1 k2 hM;unfold aX;go_enter Tryz.func38,Tryz.ntmps38;go_upto_region 1 with fail
 rw [← HW.out];go_upto_region 2 with (go_at_call 27;refine cH.out.mono ?_;clear cH;rintro _ _ ⟨rfl,rfl⟩)
 go_upto_region 3 with ((with_reducible refine ac HXz.out HLz.out HOz.out HTz.out ?_ ?_ ?_);rfl;rfl;intro w0 HB0 HK0s)
 have HK0:=aa (HKz.out.trans HK0s.out (by intro i hi;simp at hi;exact .inr (by omega)));obtain ⟨X0,hX0⟩:∃ X,X=iV y:=⟨_,rfl⟩;rw [← hX0] at HB0;have HX0:=aa hX0;clear c0 c1 c2 hX0 HK0s HKz HXz HLz HOz HTz;have cI:=ez w0 y.k .B 66 rfl;obtain ⟨bb,hbb⟩:∃ bb,bb=(bc y.k).contains .B:=⟨_,rfl⟩;rw [← hbb] at cI;have HI:=aa cI;have HBB:=aa hbb;clear cI hbb;go_upto_if 16 with (go_at_call 73;refine HI.out.mono ?_;clear HI;rintro _ _ ⟨rfl,rfl⟩)
 go_cut [] from 5 (fun wx=>vh W y .B X0 wx)
 case first =>
  have hBw:=HB0.out;have hBm:=HM.out.kept HK0.out (by simp);have hKw:=HK0.out;cases bb with
  | false =>
    have HG:=aa (jI HBB.out y X0);clear hBw hBm hKw;(go_wp2_with fail);go_meet
    exact ⟨X0,HG,HB0,HK0⟩
  | true =>
    have HG:=aa (gj HBB.out y X0);have c:=hBm.cell 3 rfl;have e:=hBw.cell 3 rfl;have f:=hBw.froz 3;have HB2:=aa (hBw.set 3 (.int .i64 y.b));have HK2:=aa (hKw.trans (aj w0 W.heap.size 3 (.int .i64 y.b)) (fun i hi=>.inr (by simp at hi;omega)));clear hBw hBm hKw;(go_wp2_with fail);go_meet
    exact ⟨putF .B y X0,HG,HB2,HK2⟩
 obtain ⟨X1,HX1,HB1,HK1⟩:=hcut;obtain ⟨w1,rfl⟩:∃ q,q=wc:=⟨_,rfl⟩;have cI:=ez w1 y.k .S 83 rfl;obtain ⟨bb,hbb⟩:∃ bb,bb=(bc y.k).contains .S:=⟨_,rfl⟩;rw [← hbb] at cI;have HI:=aa cI;have HBB:=aa hbb;clear cI hbb;go_upto_if 21 with (go_at_call 73;refine HI.out.mono ?_;clear HI;rintro _ _ ⟨rfl,rfl⟩)
 go_cut [] from 5 (fun wx=>vh W y .S X1 wx)
 case first =>
  have hBw:=HB1.out;have hBm:=HM.out.kept HK1.out (by simp);have hKw:=HK1.out;cases bb with
  | false =>
    have HG:=aa (jI HBB.out y X1);clear hBw hBm hKw;(go_wp2_with fail);go_meet
    exact ⟨X1,HG,HB1,HK1⟩
  | true =>
    have HG:=aa (gj HBB.out y X1);have c:=hBm.cell 4 rfl;have e:=hBw.cell 4 rfl;have f:=hBw.froz 4;have HB2:=aa (hBw.set 4 (.int .i64 y.s));have HK2:=aa (hKw.trans (aj w1 W.heap.size 4 (.int .i64 y.s)) (fun i hi=>.inr (by simp at hi;omega)));clear hBw hBm hKw;(go_wp2_with fail);go_meet
    exact ⟨putF .S y X1,HG,HB2,HK2⟩
 obtain ⟨X2,HX2,HB2,HK2⟩:=hcut;obtain ⟨w2,rfl⟩:∃ q,q=wc:=⟨_,rfl⟩;have cI:=ez w2 y.k .T 84 rfl;obtain ⟨bb,hbb⟩:∃ bb,bb=(bc y.k).contains .T:=⟨_,rfl⟩;rw [← hbb] at cI;have HI:=aa cI;have HBB:=aa hbb;clear cI hbb;go_upto_if 26 with (go_at_call 73;refine HI.out.mono ?_;clear HI;rintro _ _ ⟨rfl,rfl⟩)
 go_cut [] from 5 (fun wx=>vh W y .T X2 wx)
 case first =>
  have hBw:=HB2.out;have hBm:=HM.out.kept HK2.out (by simp);have hKw:=HK2.out;cases bb with
  | false =>
    have HG:=aa (jI HBB.out y X2);clear hBw hBm hKw;(go_wp2_with fail);go_meet
    exact ⟨X2,HG,HB2,HK2⟩
  | true =>
    have HG:=aa (gj HBB.out y X2);have c:=hBm.cell 5 rfl;have e:=hBw.cell 5 rfl;have f:=hBw.froz 5;have HB2:=aa (hBw.set 5 (.int .i64 y.m));have HK2:=aa (hKw.trans (aj w2 W.heap.size 5 (.int .i64 y.m)) (fun i hi=>.inr (by simp at hi;omega)));clear hBw hBm hKw;(go_wp2_with fail);go_meet
    exact ⟨putF .T y X2,HG,HB2,HK2⟩
 obtain ⟨X3,HX3,HB3,HK3⟩:=hcut;obtain ⟨w3,rfl⟩:∃ q,q=wc:=⟨_,rfl⟩;have cI:=ez w3 y.k .V 86 rfl;obtain ⟨bb,hbb⟩:∃ bb,bb=(bc y.k).contains .V:=⟨_,rfl⟩;rw [← hbb] at cI;have HI:=aa cI;have HBB:=aa hbb;clear cI hbb;go_upto_if 31 with (go_at_call 73;refine HI.out.mono ?_;clear HI;rintro _ _ ⟨rfl,rfl⟩)
 go_cut [] from 5 (fun wx=>vh W y .V X3 wx)
 case first =>
  have hBw:=HB3.out;have hBm:=HM.out.kept HK3.out (by simp);have hKw:=HK3.out;cases bb with
  | false =>
    have HG:=aa (jI HBB.out y X3);clear hBw hBm hKw;(go_wp2_with fail);go_meet
    exact ⟨X3,HG,HB3,HK3⟩
  | true =>
    have HG:=aa (gj HBB.out y X3);have HXm:=aa hBm.msx;rw [iX] at hBw;have HBx:=aa hBw;have HTm:Hid (aq Tryz.prog 29 (bp y.x).length):=ar;have HO0:=aa (gR y.x);have HL0:Hid ((bp X3.x).length=(bp y.x).length):=rfl;have HKw:=aa hKw;clear hBw hBm hKw;(go_wp2_with (first | ((with_reducible refine bf HXm.out HTm.out ?_ ?_);rfl) | ((refine di (o:=6) HBx.out ?_ HL0.out HO0.out HTm.out ?_ ?_ ?_);rfl;rfl;rfl;intro w6 HB6 HK6)));go_meet
    exact ⟨putF .V y X3,HG,by rw [iX];exact HB6,HKw.out.trans HK6.out (fun i hi=>.inr (by simp at hi;omega))⟩
 obtain ⟨X4,HX4,HB4,HK4⟩:=hcut;obtain ⟨w4,rfl⟩:∃ q,q=wc:=⟨_,rfl⟩;have cI:=ez w4 y.k .L 76 rfl;obtain ⟨bb,hbb⟩:∃ bb,bb=(bc y.k).contains .L:=⟨_,rfl⟩;rw [← hbb] at cI;have HI:=aa cI;have HBB:=aa hbb;clear cI hbb;go_upto_if 36 with (go_at_call 73;refine HI.out.mono ?_;clear HI;rintro _ _ ⟨rfl,rfl⟩)
 go_cut [] from 5 (fun wx=>vh W y .L X4 wx)
 case first =>
  have hBw:=HB4.out;have hBm:=HM.out.kept HK4.out (by simp);have hKw:=HK4.out;cases bb with
  | false =>
    have HG:=aa (jI HBB.out y X4);clear hBw hBm hKw;(go_wp2_with fail);go_meet
    exact ⟨X4,HG,HB4,HK4⟩
  | true =>
    have HG:=aa (gj HBB.out y X4);have c:=hBm.cell 17 rfl;have e:=hBw.cell 17 rfl;have f:=hBw.froz 17;have HB2:=aa (hBw.set 17 (.slice y.vo y.D.length y.vc));have HK2:=aa (hKw.trans (aj w4 W.heap.size 17 (.slice y.vo y.D.length y.vc)) (fun i hi=>.inr (by simp at hi;omega)));clear hBw hBm hKw;(go_wp2_with fail);go_meet
    exact ⟨putF .L y X4,HG,HB2,HK2⟩
 obtain ⟨X5,HX5,HB5,HK5⟩:=hcut;obtain ⟨w5,rfl⟩:∃ q,q=wc:=⟨_,rfl⟩;have cI:=ez w5 y.k .I 73 rfl;obtain ⟨bb,hbb⟩:∃ bb,bb=(bc y.k).contains .I:=⟨_,rfl⟩;rw [← hbb] at cI;have HI:=aa cI;have HBB:=aa hbb;clear cI hbb;go_upto_if 41 with (go_at_call 73;refine HI.out.mono ?_;clear HI;rintro _ _ ⟨rfl,rfl⟩)
 go_cut [] from 5 (fun wx=>vh W y .I X5 wx)
 case first =>
  have hBw:=HB5.out;have hBm:=HM.out.kept HK5.out (by simp);have hKw:=HK5.out;cases bb with
  | false =>
    have HG:=aa (jI HBB.out y X5);clear hBw hBm hKw;(go_wp2_with fail);go_meet
    exact ⟨X5,HG,HB5,HK5⟩
  | true =>
    have HG:=aa (gj HBB.out y X5);have c:=hBm.cell 18 rfl;have e:=hBw.cell 18 rfl;have f:=hBw.froz 18;have HB2:=aa (hBw.set 18 (.slice y.io y.i.length y.ic));have HK2:=aa (hKw.trans (aj w5 W.heap.size 18 (.slice y.io y.i.length y.ic)) (fun i hi=>.inr (by simp at hi;omega)));clear hBw hBm hKw;(go_wp2_with fail);go_meet
    exact ⟨putF .I y X5,HG,HB2,HK2⟩
 obtain ⟨X6,HX6,HB6,HK6⟩:=hcut;obtain ⟨w6,rfl⟩:∃ q,q=wc:=⟨_,rfl⟩;have cI:=ez w6 y.k .N 78 rfl;obtain ⟨bb,hbb⟩:∃ bb,bb=(bc y.k).contains .N:=⟨_,rfl⟩;rw [← hbb] at cI;have HI:=aa cI;have HBB:=aa hbb;clear cI hbb;go_upto_if 46 with (go_at_call 73;refine HI.out.mono ?_;clear HI;rintro _ _ ⟨rfl,rfl⟩)
 go_cut [] from 5 (fun wx=>vh W y .N X6 wx)
 case first =>
  have hBw:=HB6.out;have hBm:=HM.out.kept HK6.out (by simp);have hKw:=HK6.out;cases bb with
  | false =>
    have HG:=aa (jI HBB.out y X6);clear hBw hBm hKw;(go_wp2_with fail);go_meet
    exact ⟨X6,HG,HB6,HK6⟩
  | true =>
    have HG:=aa (gj HBB.out y X6);have c:=hBm.cell 19 rfl;have e:=hBw.cell 19 rfl;have f:=hBw.froz 19;have HB2:=aa (hBw.set 19 (.int .i64 y.n));have HK2:=aa (hKw.trans (aj w6 W.heap.size 19 (.int .i64 y.n)) (fun i hi=>.inr (by simp at hi;omega)));clear hBw hBm hKw;(go_wp2_with fail);go_meet
    exact ⟨putF .N y X6,HG,HB2,HK2⟩
 obtain ⟨X7,HX7,HB7,HK7⟩:=hcut;obtain ⟨w7,rfl⟩:∃ q,q=wc:=⟨_,rfl⟩;have cI:=ez w7 y.k .R 82 rfl;obtain ⟨bb,hbb⟩:∃ bb,bb=(bc y.k).contains .R:=⟨_,rfl⟩;rw [← hbb] at cI;have HI:=aa cI;have HBB:=aa hbb;clear cI hbb;go_upto_if 51 with (go_at_call 73;refine HI.out.mono ?_;clear HI;rintro _ _ ⟨rfl,rfl⟩)
 go_cut [] from 5 (fun wx=>vh W y .R X7 wx)
 case first =>
  have hBw:=HB7.out;have hBm:=HM.out.kept HK7.out (by simp);have hKw:=HK7.out;cases bb with
  | false =>
    have HG:=aa (jI HBB.out y X7);clear hBw hBm hKw;(go_wp2_with fail);go_meet
    exact ⟨X7,HG,HB7,HK7⟩
  | true =>
    have HG:=aa (gj HBB.out y X7);have HXm:=aa hBm.msr;rw [i2] at hBw;have HBx:=aa hBw;have HTm:Hid (aq Tryz.prog 34 (au y.r (.slice y.uo y.un y.uc)).length):=am;have HO0:=aa (aQ y.r (.slice y.uo y.un y.uc) rfl);have HL0:Hid ((au X7.r (.slice X7.uo X7.un X7.uc)).length=(au y.r (.slice y.uo y.un y.uc)).length):=rfl;have HKw:=aa hKw;clear hBw hBm hKw;(go_wp2_with (first | ((with_reducible refine bf HXm.out HTm.out ?_ ?_);rfl) | ((refine di (o:=20) HBx.out ?_ HL0.out HO0.out HTm.out ?_ ?_ ?_);rfl;rfl;rfl;intro w6 HB6 HK6)));go_meet
    exact ⟨putF .R y X7,HG,by rw [i2];exact HB6,HKw.out.trans HK6.out (fun i hi=>.inr (by simp at hi;omega))⟩
 obtain ⟨X8,HX8,HB8,HK8⟩:=hcut;obtain ⟨w8,rfl⟩:∃ q,q=wc:=⟨_,rfl⟩;have HE:Hid (X8=ir y):=by show _=_;unfold ir;rw [HX8.out,HX7.out,HX6.out,HX5.out,HX4.out,HX3.out,HX2.out,HX1.out,HX0.out]
 have HRw:=aa (HR.out.kept HK8.out (by simp));have HLr:Hid ((aX X8).length=br.length):=rfl;have HOr:=aa (dJ X8);have HTr:Hid (aq Tryz.prog 36 (aX X8).length):=cL;go_wp2_with (first | ((with_reducible refine ak HB8.out HTr.out ?_ ?_);rfl) | ((with_reducible refine ac HRw.out HLr.out HOr.out HTr.out ?_ ?_ ?_);rfl;rfl;intro w9 HB9 HK9))
 have KZ:ab [] w w9:=(HKW.out.trans HK8.out (by simp)).trans HK9.out (fun i hi=>.inr (by simp at hi;omega));rw [← HE.out];exact bodyPost_ret (al (by rfl) _ (by rfl) HB9.out HTr.out) rfl ⟨rfl,KZ⟩
end Go.Proofs.YtakafmejllilnaaGreat
