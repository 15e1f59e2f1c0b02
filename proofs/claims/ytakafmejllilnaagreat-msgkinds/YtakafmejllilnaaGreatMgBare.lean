/-
  isBare: has a message no field?
-/
import Derived.Test.YtakafmejllilnaaGreatMgSvM
namespace Go.Proofs.YtakafmejllilnaaGreat
open Go.RowKit
def bareB (x:Ms):Bool:=decide (x.b=0) && (decide (x.s=0) && (decide (x.m=0) && (decide (x.n=0) && (decide (x.v=rq0) && (decide (x.l=[]) && (decide (x.i=[]) && decide (x.r=vt0)))))))
theorem vt_ko {w:World}{x:Vt}{u:Value}(h:VtHy [] w x u):KoV w u x.k:=by
 obtain ⟨uo,un,uc,KK,e,hK,hm⟩:=h.u
 exact ⟨uo,un,uc,KK,e,hK.sl,hm,hK.2.2.2.1⟩
set_option maxHeartbeats 8000000 in
set_option maxRecDepth 100000 in
theorem isBare_call (w:World) (y:Mm) (hx:MsHy w y):Calls Tryz.prog 34 #[.agg (msC y).toArray] w fun r w'=>r=.returned (.bool (bareB y.ms))∧Kept [] w w':=by
 obtain ⟨W,hW⟩:∃ W,W=w.alloc (.cells (msC y).toArray 36):=⟨_,rfl⟩
 have HK:Hid (Kept [] w W):=by rw [hW];exact (Kept.refl _ _).alloc _
 have HB:Hid (Bx W w.heap.size 36 (msC y)):=by rw [hW];exact Bx.new w _ _
 have HX1:=hide HB.out.msx
 have HR1:=hide HB.out.msr
 have HTX:Hid (RowT Tryz.prog 29 (rqC y.x).length):=rowT_req
 have HTV:Hid (RowT Tryz.prog 34 (vtLE y.r (.slice y.uo y.un y.uc)).length):=rowT_ver
 have c3:=HB.out.cell 3 rfl
 have c4:=HB.out.cell 4 rfl
 have c5:=HB.out.cell 5 rfl
 have c17:=HB.out.cell 17 rfl
 have c18:=HB.out.cell 18 rfl
 have c19:=HB.out.cell 19 rfl
 have cS:Hid (Calls Tryz.prog 71 #[.agg (rqC y.x).toArray,.agg (rqC rm0).toArray] W fun r w'=>r=.returned (.bool (decide (y.x.r=rq0)))∧Kept [] W w'):=rqsame_call W y.x.r rq0 y.x.mo none y.x.m 0 y.x.mc 0 (hx.x.kept HK.out).s ⟨rfl,Nat.le_refl _,Nat.zero_le _,fun i hi=>by simp [rq0] at hi⟩
 have cA:Hid (∀ W2,Kept [] w W2→Calls Tryz.prog 72 #[.agg (vtLE y.r (.slice y.uo y.un y.uc)).toArray,.agg (vtLE vt0 (.slice none 0 0)).toArray] W2 fun r w'=>r=.returned (.bool (decide (y.r=vt0)))∧Kept [] W2 w'):=fun W2 k=>alikeP_call W2 y.r vt0 _ _ (vt_ko (hx.r.kept k)) ⟨none,0,0,[],rfl,⟨rfl,Nat.le_refl _,Nat.zero_le _,(fun i hi=>by simp at hi),fun x hx=>by cases hx⟩,rfl,fun _=>rfl⟩
 unfold msC at hW
 have HW:=hide hW
 clear hx hW
 have HBR:Hid (bareB y.ms=(decide (y.b=0) && (decide (y.s=0) && (decide (y.m=0) && (decide (y.n=0) && (decide (y.x.r=rq0) && (decide (y.D.map Vm.v=[]) && (decide (y.i=[]) && decide (y.r=vt0))))))))):=rfl
 by_cases h1:y.b=0
 rotate_left
 ·have HQ:Hid (bareB y.ms=false):=by show _=_;rw [HBR.out,decide_eq_false h1];rfl
  have e1:(y.b==0)=false:=by simpa using h1
  unfold msC
  go_enter Tryz.func34,Tryz.ntmps34
  go_upto_region 1 with fail
  rw [← HW.out]
  go_wp2_with (first | ((with_reducible refine wl_load_atg HX1.out HTX.out ?_ ?_ ?_);rfl;rfl) | (go_at_call 71;refine cS.out.mono ?_;rw [rfl];rintro _ w2 ⟨rfl,hk2⟩;have HK2:=hide (HK.out.trans hk2 (by simp));have d17:=hk2.cell c17 (by simp);have d18:=hk2.cell c18 (by simp);have HR2:=hide (range_kept HR1.out hk2 (by simp));clear c3 c4 c5 c19 c17 c18 hk2) | ((with_reducible refine wl_load_atg HR2.out HTV.out ?_ ?_ ?_);rfl;rfl) | (go_at_call 72;refine (cA.out _ HK2.out).mono ?_;rw [rfl];rintro _ w3 ⟨rfl,hk3⟩;have HK3:=hide (HK2.out.trans hk3 (by simp));clear hk3))
  go_ret
  rw [HQ.out]
  exact ⟨rfl,by first | exact HK3.out | exact HK2.out | exact HK.out⟩
 have e1:(y.b==0)=true:=by simpa using h1
 have H1:=hide h1
 clear h1
 by_cases h2:y.s=0
 rotate_left
 ·have HQ:Hid (bareB y.ms=false):=by show _=_;rw [HBR.out,decide_eq_false h2];simp
  have e2:(y.s==0)=false:=by simpa using h2
  unfold msC
  go_enter Tryz.func34,Tryz.ntmps34
  go_upto_region 1 with fail
  rw [← HW.out]
  go_wp2_with (first | ((with_reducible refine wl_load_atg HX1.out HTX.out ?_ ?_ ?_);rfl;rfl) | (go_at_call 71;refine cS.out.mono ?_;rw [rfl];rintro _ w2 ⟨rfl,hk2⟩;have HK2:=hide (HK.out.trans hk2 (by simp));have d17:=hk2.cell c17 (by simp);have d18:=hk2.cell c18 (by simp);have HR2:=hide (range_kept HR1.out hk2 (by simp));clear c3 c4 c5 c19 c17 c18 hk2) | ((with_reducible refine wl_load_atg HR2.out HTV.out ?_ ?_ ?_);rfl;rfl) | (go_at_call 72;refine (cA.out _ HK2.out).mono ?_;rw [rfl];rintro _ w3 ⟨rfl,hk3⟩;have HK3:=hide (HK2.out.trans hk3 (by simp));clear hk3))
  go_ret
  rw [HQ.out]
  exact ⟨rfl,by first | exact HK3.out | exact HK2.out | exact HK.out⟩
 have e2:(y.s==0)=true:=by simpa using h2
 have H2:=hide h2
 clear h2
 by_cases h3:y.m=0
 rotate_left
 ·have HQ:Hid (bareB y.ms=false):=by show _=_;rw [HBR.out,decide_eq_false h3];simp
  have e3:(y.m==0)=false:=by simpa using h3
  unfold msC
  go_enter Tryz.func34,Tryz.ntmps34
  go_upto_region 1 with fail
  rw [← HW.out]
  go_wp2_with (first | ((with_reducible refine wl_load_atg HX1.out HTX.out ?_ ?_ ?_);rfl;rfl) | (go_at_call 71;refine cS.out.mono ?_;rw [rfl];rintro _ w2 ⟨rfl,hk2⟩;have HK2:=hide (HK.out.trans hk2 (by simp));have d17:=hk2.cell c17 (by simp);have d18:=hk2.cell c18 (by simp);have HR2:=hide (range_kept HR1.out hk2 (by simp));clear c3 c4 c5 c19 c17 c18 hk2) | ((with_reducible refine wl_load_atg HR2.out HTV.out ?_ ?_ ?_);rfl;rfl) | (go_at_call 72;refine (cA.out _ HK2.out).mono ?_;rw [rfl];rintro _ w3 ⟨rfl,hk3⟩;have HK3:=hide (HK2.out.trans hk3 (by simp));clear hk3))
  go_ret
  rw [HQ.out]
  exact ⟨rfl,by first | exact HK3.out | exact HK2.out | exact HK.out⟩
 have e3:(y.m==0)=true:=by simpa using h3
 have H3:=hide h3
 clear h3
 by_cases h4:y.n=0
 rotate_left
 ·have HQ:Hid (bareB y.ms=false):=by show _=_;rw [HBR.out,decide_eq_false h4];simp
  have e4:(y.n==0)=false:=by simpa using h4
  unfold msC
  go_enter Tryz.func34,Tryz.ntmps34
  go_upto_region 1 with fail
  rw [← HW.out]
  go_wp2_with (first | ((with_reducible refine wl_load_atg HX1.out HTX.out ?_ ?_ ?_);rfl;rfl) | (go_at_call 71;refine cS.out.mono ?_;rw [rfl];rintro _ w2 ⟨rfl,hk2⟩;have HK2:=hide (HK.out.trans hk2 (by simp));have d17:=hk2.cell c17 (by simp);have d18:=hk2.cell c18 (by simp);have HR2:=hide (range_kept HR1.out hk2 (by simp));clear c3 c4 c5 c19 c17 c18 hk2) | ((with_reducible refine wl_load_atg HR2.out HTV.out ?_ ?_ ?_);rfl;rfl) | (go_at_call 72;refine (cA.out _ HK2.out).mono ?_;rw [rfl];rintro _ w3 ⟨rfl,hk3⟩;have HK3:=hide (HK2.out.trans hk3 (by simp));clear hk3))
  go_ret
  rw [HQ.out]
  exact ⟨rfl,by first | exact HK3.out | exact HK2.out | exact HK.out⟩
 have e4:(y.n==0)=true:=by simpa using h4
 have H4:=hide h4
 clear h4
 by_cases h5:y.x.r=rq0
 rotate_left
 ·have HQ:Hid (bareB y.ms=false):=by show _=_;rw [HBR.out,decide_eq_false h5];simp
  unfold msC
  go_enter Tryz.func34,Tryz.ntmps34
  go_upto_region 1 with fail
  rw [← HW.out]
  go_wp2_with (first | ((with_reducible refine wl_load_atg HX1.out HTX.out ?_ ?_ ?_);rfl;rfl) | (go_at_call 71;refine cS.out.mono ?_;rw [decide_eq_false h5];rintro _ w2 ⟨rfl,hk2⟩;have HK2:=hide (HK.out.trans hk2 (by simp));have d17:=hk2.cell c17 (by simp);have d18:=hk2.cell c18 (by simp);have HR2:=hide (range_kept HR1.out hk2 (by simp));clear c3 c4 c5 c19 c17 c18 hk2) | ((with_reducible refine wl_load_atg HR2.out HTV.out ?_ ?_ ?_);rfl;rfl) | (go_at_call 72;refine (cA.out _ HK2.out).mono ?_;rw [rfl];rintro _ w3 ⟨rfl,hk3⟩;have HK3:=hide (HK2.out.trans hk3 (by simp));clear hk3))
  go_ret
  rw [HQ.out]
  exact ⟨rfl,by first | exact HK3.out | exact HK2.out | exact HK.out⟩
 have H5:=hide h5
 clear h5
 by_cases h6:y.D=[]
 rotate_left
 ·have HQ:Hid (bareB y.ms=false):=by show _=_;rw [HBR.out,decide_eq_false (show ¬ y.D.map Vm.v=[] by simpa using h6)];simp
  have e6:((y.D.length:Int)==0)=false:=by simpa using h6
  unfold msC
  go_enter Tryz.func34,Tryz.ntmps34
  go_upto_region 1 with fail
  rw [← HW.out]
  go_wp2_with (first | ((with_reducible refine wl_load_atg HX1.out HTX.out ?_ ?_ ?_);rfl;rfl) | (go_at_call 71;refine cS.out.mono ?_;rw [decide_eq_true H5.out];rintro _ w2 ⟨rfl,hk2⟩;have HK2:=hide (HK.out.trans hk2 (by simp));have d17:=hk2.cell c17 (by simp);have d18:=hk2.cell c18 (by simp);have HR2:=hide (range_kept HR1.out hk2 (by simp));clear c3 c4 c5 c19 c17 c18 hk2) | ((with_reducible refine wl_load_atg HR2.out HTV.out ?_ ?_ ?_);rfl;rfl) | (go_at_call 72;refine (cA.out _ HK2.out).mono ?_;rw [rfl];rintro _ w3 ⟨rfl,hk3⟩;have HK3:=hide (HK2.out.trans hk3 (by simp));clear hk3))
  go_ret
  rw [HQ.out]
  exact ⟨rfl,by first | exact HK3.out | exact HK2.out | exact HK.out⟩
 have e6:((y.D.length:Int)==0)=true:=by rw [h6];rfl
 have H6:=hide h6
 clear h6
 by_cases h7:y.i=[]
 rotate_left
 ·have HQ:Hid (bareB y.ms=false):=by show _=_;rw [HBR.out,decide_eq_false h7];simp
  have e7:((y.i.length:Int)==0)=false:=by simpa using h7
  unfold msC
  go_enter Tryz.func34,Tryz.ntmps34
  go_upto_region 1 with fail
  rw [← HW.out]
  go_wp2_with (first | ((with_reducible refine wl_load_atg HX1.out HTX.out ?_ ?_ ?_);rfl;rfl) | (go_at_call 71;refine cS.out.mono ?_;rw [decide_eq_true H5.out];rintro _ w2 ⟨rfl,hk2⟩;have HK2:=hide (HK.out.trans hk2 (by simp));have d17:=hk2.cell c17 (by simp);have d18:=hk2.cell c18 (by simp);have HR2:=hide (range_kept HR1.out hk2 (by simp));clear c3 c4 c5 c19 c17 c18 hk2) | ((with_reducible refine wl_load_atg HR2.out HTV.out ?_ ?_ ?_);rfl;rfl) | (go_at_call 72;refine (cA.out _ HK2.out).mono ?_;rw [rfl];rintro _ w3 ⟨rfl,hk3⟩;have HK3:=hide (HK2.out.trans hk3 (by simp));clear hk3))
  go_ret
  rw [HQ.out]
  exact ⟨rfl,by first | exact HK3.out | exact HK2.out | exact HK.out⟩
 have e7:((y.i.length:Int)==0)=true:=by rw [h7];rfl
 have H7:=hide h7
 clear h7
 by_cases h8:y.r=vt0
 rotate_left
 ·have HQ:Hid (bareB y.ms=false):=by show _=_;rw [HBR.out,decide_eq_false h8];simp
  unfold msC
  go_enter Tryz.func34,Tryz.ntmps34
  go_upto_region 1 with fail
  rw [← HW.out]
  go_wp2_with (first | ((with_reducible refine wl_load_atg HX1.out HTX.out ?_ ?_ ?_);rfl;rfl) | (go_at_call 71;refine cS.out.mono ?_;rw [decide_eq_true H5.out];rintro _ w2 ⟨rfl,hk2⟩;have HK2:=hide (HK.out.trans hk2 (by simp));have d17:=hk2.cell c17 (by simp);have d18:=hk2.cell c18 (by simp);have HR2:=hide (range_kept HR1.out hk2 (by simp));clear c3 c4 c5 c19 c17 c18 hk2) | ((with_reducible refine wl_load_atg HR2.out HTV.out ?_ ?_ ?_);rfl;rfl) | (go_at_call 72;refine (cA.out _ HK2.out).mono ?_;rw [decide_eq_false h8];rintro _ w3 ⟨rfl,hk3⟩;have HK3:=hide (HK2.out.trans hk3 (by simp));clear hk3))
  go_ret
  rw [HQ.out]
  exact ⟨rfl,by first | exact HK3.out | exact HK2.out | exact HK.out⟩
 ·have HQ:Hid (bareB y.ms=true):=by show _=_;rw [HBR.out];simp [H1.out,H2.out,H3.out,H4.out,H5.out,H6.out,H7.out,h8]
  have H8:=hide h8
  clear h8
  unfold msC
  go_enter Tryz.func34,Tryz.ntmps34
  go_upto_region 1 with fail
  rw [← HW.out]
  go_wp2_with (first | ((with_reducible refine wl_load_atg HX1.out HTX.out ?_ ?_ ?_);rfl;rfl) | (go_at_call 71;refine cS.out.mono ?_;rw [decide_eq_true H5.out];rintro _ w2 ⟨rfl,hk2⟩;have HK2:=hide (HK.out.trans hk2 (by simp));have d17:=hk2.cell c17 (by simp);have d18:=hk2.cell c18 (by simp);have HR2:=hide (range_kept HR1.out hk2 (by simp));clear c3 c4 c5 c19 c17 c18 hk2) | ((with_reducible refine wl_load_atg HR2.out HTV.out ?_ ?_ ?_);rfl;rfl) | (go_at_call 72;refine (cA.out _ HK2.out).mono ?_;rw [decide_eq_true H8.out];rintro _ w3 ⟨rfl,hk3⟩;have HK3:=hide (HK2.out.trans hk3 (by simp));clear hk3))
  go_ret
  rw [HQ.out]
  exact ⟨rfl,by first | exact HK3.out | exact HK2.out | exact HK.out⟩
end Go.Proofs.YtakafmejllilnaaGreat
