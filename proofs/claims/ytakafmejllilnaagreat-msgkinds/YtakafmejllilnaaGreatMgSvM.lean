/-
  The sieve takes fields away that may be.
-/
import Derived.Test.YtakafmejllilnaaGreatMgSv
namespace Go.Proofs.YtakafmejllilnaaGreat
open Go.RowKit
def takeF:Fd→Mm→Mm
 | .B,y=>if goodB y.b=true then { y with b:=0 } else y
 | .S,y=>if goodB y.s=true then { y with s:=0 } else y
 | .T,y=>if goodB y.m=true then { y with m:=0 } else y
 | .V,y=>if mayR y.x.r=true then { y with x:=rm0 } else y
 | .L,y=>if vsB (y.D.map Vm.v)=true then { y with vo:=none,vc:=0,D:=[] } else y
 | .I,y=>if y.i.length≤524288 then { y with io:=none,ic:=0,i:=[] } else y
 | .N,y=>if goodB y.n=true then { y with n:=0 } else y
 | .R,y=>if mayV y.r=true then { y with r:=vt0,uo:=none,un:=0,uc:=0 } else y
def SvP (w:World) (b:Nat) (y:Mm) (f:Fd) (r:Ending) (w':World):Prop:=r=.returned (.tuple #[])∧Bx w' b 36 (msC (takeF f y))∧Kept [b] w w'
theorem takeNumber_call (w:World) (b j:Nat) (n:Int) (hc:w.cell? ⟨b,j,none⟩=some (.int .i64 n)) (hf:w.frozen? ⟨b,j,none⟩=false) :
 Calls Tryz.prog 131 #[.pointer (some ⟨b,j,none⟩)] w fun r w'=>r=.returned (.tuple #[])∧w'=if goodB n=true then w.setCell ⟨b,j,none⟩ (.int .i64 0) else w:=by
 have cN:=number_call w n
 cases hg:goodB n
 ·rw [hg] at cN
  go_enter Tryz.func131,Tryz.ntmps131
  go_wp2_with fail
  refine cN.mono ?_
  rintro _ w1 ⟨rfl,rfl⟩
  go_wp2_with fail
  go_returns
  exact ⟨rfl,rfl⟩
 ·rw [hg] at cN
  go_enter Tryz.func131,Tryz.ntmps131
  go_wp2_with fail
  refine cN.mono ?_
  rintro _ w1 ⟨rfl,rfl⟩
  go_wp2_with fail
  go_returns
  exact ⟨rfl,rfl⟩
set_option maxHeartbeats 2000000 in
theorem svB_call (w:World) (b:Nat) (y:Mm) (hB:Bx w b 36 (msC y)):Calls Tryz.prog 123 #[.agg #[.pointer (some ⟨b,0,none⟩)]] w (SvP w b y .B):=by
 have k1:=lay1 w 74 [.pointer (some ⟨b,0,none⟩)]
 have hB1:=hB.kept k1 (by simp)
 have cT:=hide (takeNumber_call _ b 3 y.b (hB1.cell 3 rfl) (hB1.froz 3))
 have HB1:=hide hB1
 have HK1:=hide k1
 clear k1 hB1 hB
 go_enter Tryz.func123,Tryz.ntmps123
 go_wp2_with fail
 refine cT.out.mono ?_
 clear cT
 rintro _ w2 ⟨rfl,hw2⟩
 have H2:Hid (SvP w b y .B (.returned (.tuple #[])) w2):=by
  refine ⟨rfl,?_⟩
  show Bx w2 b _ (msC (if goodB y.b=true then _ else _))∧_
  by_cases hg:goodB y.b=true
  ·rw [if_pos hg] at hw2 ⊢
   rw [hw2]
   exact ⟨HB1.out.set 3 _,(HK1.out.mono (by simp)).trans ((Kept.refl [b] _).setCell (by simp) _) (by simp)⟩
  ·rw [if_neg hg] at hw2 ⊢
   rw [hw2]
   exact ⟨HB1.out,HK1.out.mono (by simp)⟩
 clear hw2
 go_wp2_with fail
 go_returns
 exact H2.out
set_option maxHeartbeats 2000000 in
theorem svS_call (w:World) (b:Nat) (y:Mm) (hB:Bx w b 36 (msC y)):Calls Tryz.prog 126 #[.agg #[.pointer (some ⟨b,0,none⟩)]] w (SvP w b y .S):=by
 have k1:=lay1 w 74 [.pointer (some ⟨b,0,none⟩)]
 have hB1:=hB.kept k1 (by simp)
 have cT:=hide (takeNumber_call _ b 4 y.s (hB1.cell 4 rfl) (hB1.froz 4))
 have HB1:=hide hB1
 have HK1:=hide k1
 clear k1 hB1 hB
 go_enter Tryz.func126,Tryz.ntmps126
 go_wp2_with fail
 refine cT.out.mono ?_
 clear cT
 rintro _ w2 ⟨rfl,hw2⟩
 have H2:Hid (SvP w b y .S (.returned (.tuple #[])) w2):=by
  refine ⟨rfl,?_⟩
  show Bx w2 b _ (msC (if goodB y.s=true then _ else _))∧_
  by_cases hg:goodB y.s=true
  ·rw [if_pos hg] at hw2 ⊢
   rw [hw2]
   exact ⟨HB1.out.set 4 _,(HK1.out.mono (by simp)).trans ((Kept.refl [b] _).setCell (by simp) _) (by simp)⟩
  ·rw [if_neg hg] at hw2 ⊢
   rw [hw2]
   exact ⟨HB1.out,HK1.out.mono (by simp)⟩
 clear hw2
 go_wp2_with fail
 go_returns
 exact H2.out
set_option maxHeartbeats 2000000 in
theorem svT_call (w:World) (b:Nat) (y:Mm) (hB:Bx w b 36 (msC y)):Calls Tryz.prog 127 #[.agg #[.pointer (some ⟨b,0,none⟩)]] w (SvP w b y .T):=by
 have k1:=lay1 w 74 [.pointer (some ⟨b,0,none⟩)]
 have hB1:=hB.kept k1 (by simp)
 have cT:=hide (takeNumber_call _ b 5 y.m (hB1.cell 5 rfl) (hB1.froz 5))
 have HB1:=hide hB1
 have HK1:=hide k1
 clear k1 hB1 hB
 go_enter Tryz.func127,Tryz.ntmps127
 go_wp2_with fail
 refine cT.out.mono ?_
 clear cT
 rintro _ w2 ⟨rfl,hw2⟩
 have H2:Hid (SvP w b y .T (.returned (.tuple #[])) w2):=by
  refine ⟨rfl,?_⟩
  show Bx w2 b _ (msC (if goodB y.m=true then _ else _))∧_
  by_cases hg:goodB y.m=true
  ·rw [if_pos hg] at hw2 ⊢
   rw [hw2]
   exact ⟨HB1.out.set 5 _,(HK1.out.mono (by simp)).trans ((Kept.refl [b] _).setCell (by simp) _) (by simp)⟩
  ·rw [if_neg hg] at hw2 ⊢
   rw [hw2]
   exact ⟨HB1.out,HK1.out.mono (by simp)⟩
 clear hw2
 go_wp2_with fail
 go_returns
 exact H2.out
set_option maxHeartbeats 2000000 in
theorem svN_call (w:World) (b:Nat) (y:Mm) (hB:Bx w b 36 (msC y)):Calls Tryz.prog 125 #[.agg #[.pointer (some ⟨b,0,none⟩)]] w (SvP w b y .N):=by
 have k1:=lay1 w 74 [.pointer (some ⟨b,0,none⟩)]
 have hB1:=hB.kept k1 (by simp)
 have cT:=hide (takeNumber_call _ b 19 y.n (hB1.cell 19 rfl) (hB1.froz 19))
 have HB1:=hide hB1
 have HK1:=hide k1
 clear k1 hB1 hB
 go_enter Tryz.func125,Tryz.ntmps125
 go_wp2_with fail
 refine cT.out.mono ?_
 clear cT
 rintro _ w2 ⟨rfl,hw2⟩
 have H2:Hid (SvP w b y .N (.returned (.tuple #[])) w2):=by
  refine ⟨rfl,?_⟩
  show Bx w2 b _ (msC (if goodB y.n=true then _ else _))∧_
  by_cases hg:goodB y.n=true
  ·rw [if_pos hg] at hw2 ⊢
   rw [hw2]
   exact ⟨HB1.out.set 19 _,(HK1.out.mono (by simp)).trans ((Kept.refl [b] _).setCell (by simp) _) (by simp)⟩
  ·rw [if_neg hg] at hw2 ⊢
   rw [hw2]
   exact ⟨HB1.out,HK1.out.mono (by simp)⟩
 clear hw2
 go_wp2_with fail
 go_returns
 exact H2.out
set_option maxHeartbeats 2000000 in
set_option maxRecDepth 100000 in
theorem svV_call (w:World) (b:Nat) (y:Mm) (hB:Bx w b 36 (msC y)) (hx:RqHy [] w y.x):Calls Tryz.prog 128 #[.agg #[.pointer (some ⟨b,0,none⟩)]] w (SvP w b y .V):=by
 have k1:=lay1 w 74 [.pointer (some ⟨b,0,none⟩)]
 have HB1:=hide (hB.kept k1 (by simp))
 have cC:Hid (Calls Tryz.prog 132 #[.agg (rqC y.x).toArray] (w.alloc (.cells #[.pointer (some ⟨b,0,none⟩)] 74)) fun r w'=>r=.returned (.int .i64 (if mayR y.x.r=true then 0 else 1))∧Kept [] (w.alloc (.cells #[.pointer (some ⟨b,0,none⟩)] 74)) w'):=chkE_call _ y.x (hx.kept k1)
 have HSB:Hid (Bx (w.alloc (.cells #[.pointer (some ⟨b,0,none⟩)] 74)) w.heap.size 74 [.pointer (some ⟨b,0,none⟩)]):=Bx.new w _ _
 have HK1:=hide k1
 have HX1:=hide HB1.out.msx
 have HTR:Hid (RowT Tryz.prog 29 (rqC y.x).length):=rowT_req
 have HT0:Hid (RowT Tryz.prog 29 (rqC rm0).length):=rowT_req
 have HO0:=hide (one_rqC rm0)
 have HL0:Hid ((rqC y.x).length=(rqC rm0).length):=rfl
 clear k1 hB hx
 cases hg:mayR y.x.r
 ·have HT:Hid (takeF .V y=y):=by show (if _ then _ else _)=_;rw [hg];rfl
  rw [hg] at cC
  go_enter Tryz.func128,Tryz.ntmps128
  go_wp2_with ((with_reducible refine wl_load_at HX1.out HTR.out ?_ ?_);rfl)
  refine cC.out.mono ?_
  rintro _ w2 ⟨rfl,hk⟩
  have H2:Hid (SvP w b y .V (.returned (.tuple #[])) w2):=⟨rfl,by rw [HT.out];exact HB1.out.kept hk (by simp),(HK1.out.trans hk (by simp)).mono (by simp)⟩
  clear hk
  go_wp2_with fail
  go_returns
  exact H2.out
 ·have HT:Hid (takeF .V y={ y with x:=rm0 }):=by show (if _ then _ else _)=_;rw [hg];rfl
  rw [hg] at cC
  go_enter Tryz.func128,Tryz.ntmps128
  go_upto_region 2 with (first | ((with_reducible refine wl_load_at HX1.out HTR.out ?_ ?_);rfl) | (go_at_call 132;refine cC.out.mono ?_;rintro _ w2 ⟨rfl,hk⟩;have HK2:=hide hk;have d2:=hk.cell (HSB.out.cell 0 rfl) (by simp);clear hk))
  have hB2:=HB1.out.kept HK2.out (by simp)
  rw [msC_x] at hB2
  have HB2:=hide hB2
  clear hB2
  go_wp2_with ((refine wl_store_at (o:=6) HB2.out ?_ HL0.out HO0.out HT0.out ?_ ?_ ?_);rfl;rfl;rfl;intro w3 HB3 HK3)
  go_returns
  refine ⟨rfl,?_,(((HK1.out.trans HK2.out (by simp)).mono (by simp)).trans HK3.out (by simp))⟩
  rw [HT.out,msC_x]
  exact HB3.out
set_option maxHeartbeats 2000000 in
theorem svL_call (w:World) (b:Nat) (y:Mm) (hB:Bx w b 36 (msC y)) (hx:SlV w y.vo y.D.length y.vc y.D):Calls Tryz.prog 130 #[.agg #[.pointer (some ⟨b,0,none⟩)]] w (SvP w b y .L):=by
 have k1:=lay1 w 74 [.pointer (some ⟨b,0,none⟩)]
 have hB1:=hB.kept k1 (by simp)
 have c17:=hB1.cell 17 rfl
 have HB1:=hide hB1
 have cC:=hide (areVotes_call _ _ _ _ (hx.kept k1))
 have HSB:Hid (Bx (w.alloc (.cells #[.pointer (some ⟨b,0,none⟩)] 74)) w.heap.size 74 [.pointer (some ⟨b,0,none⟩)]):=Bx.new w _ _
 have HK1:=hide k1
 clear k1 hB hx hB1
 cases hg:vsB (y.D.map Vm.v)
 ·have HT:Hid (takeF .L y=y):=by show (if _ then _ else _)=_;rw [hg];rfl
  rw [hg] at cC
  go_enter Tryz.func130,Tryz.ntmps130
  go_wp2_with fail
  refine cC.out.mono ?_
  rintro _ w2 ⟨rfl,hk⟩
  have H2:Hid (SvP w b y .L (.returned (.tuple #[])) w2):=⟨rfl,by rw [HT.out];exact HB1.out.kept hk (by simp),(HK1.out.trans hk (by simp)).mono (by simp)⟩
  clear hk
  go_wp2_with fail
  go_returns
  exact H2.out
 ·have HT:Hid (takeF .L y={ y with vo:=none,vc:=0,D:=[] }):=by show (if _ then _ else _)=_;rw [hg];rfl
  rw [hg] at cC
  go_enter Tryz.func130,Tryz.ntmps130
  go_wp2_with fail
  refine cC.out.mono ?_
  rintro _ w2 ⟨rfl,hk⟩
  have d2:=hk.cell (HSB.out.cell 0 rfl) (by simp)
  have hB2:=HB1.out.kept hk (by simp)
  have e2:=hB2.cell 17 rfl
  have f2:=hB2.froz 17
  have H2:Hid (SvP w b y .L (.returned (.tuple #[])) (w2.setCell ⟨b,17,none⟩ (.slice none 0 0))):=⟨rfl,by rw [HT.out];exact hB2.set 17 _,((HK1.out.trans hk (by simp)).mono (by simp)).setCell (by simp) _⟩
  clear hk hB2
  go_wp2_with fail
  go_returns
  exact H2.out
set_option maxHeartbeats 2000000 in
theorem svI_call (w:World) (b:Nat) (y:Mm) (hB:Bx w b 36 (msC y)):Calls Tryz.prog 124 #[.agg #[.pointer (some ⟨b,0,none⟩)]] w (SvP w b y .I):=by
 have k1:=lay1 w 74 [.pointer (some ⟨b,0,none⟩)]
 have hB1:=hB.kept k1 (by simp)
 have c18:=hB1.cell 18 rfl
 have f18:=hB1.froz 18
 have HB1:=hide hB1
 have HK1:=hide k1
 clear k1 hB hB1
 by_cases hg:y.i.length≤524288
 ·have hg':(y.i.length:Int)≤524288:=by omega
  have HT:Hid (takeF .I y={ y with io:=none,ic:=0,i:=[] }):=by show (if _ then _ else _)=_;rw [if_pos hg]
  have H2:Hid (SvP w b y .I (.returned (.tuple #[])) ((w.alloc (.cells #[.pointer (some ⟨b,0,none⟩)] 74)).setCell ⟨b,18,none⟩ (.slice none 0 0))):=⟨rfl,by rw [HT.out];exact HB1.out.set 18 _,(HK1.out.mono (by simp)).setCell (by simp) _⟩
  go_enter Tryz.func124,Tryz.ntmps124
  go_wp2_with fail
  go_returns
  exact H2.out
 ·have hg':¬ (y.i.length:Int)≤524288:=by omega
  have HT:Hid (takeF .I y=y):=by show (if _ then _ else _)=_;rw [if_neg hg]
  have H2:Hid (SvP w b y .I (.returned (.tuple #[])) (w.alloc (.cells #[.pointer (some ⟨b,0,none⟩)] 74))):=⟨rfl,by rw [HT.out];exact HB1.out,HK1.out.mono (by simp)⟩
  go_enter Tryz.func124,Tryz.ntmps124
  go_wp2_with fail
  go_returns
  exact H2.out
theorem one_vtz:∀ v∈vtLE vt0 (.slice none 0 0),v.oneCell'=true:=one_vtLE vt0 (.slice none 0 0) rfl
set_option maxHeartbeats 2000000 in
set_option maxRecDepth 100000 in
theorem svR_call (w:World) (b:Nat) (y:Mm) (hB:Bx w b 36 (msC y)) (hx:VtHy [] w y.r (.slice y.uo y.un y.uc)):Calls Tryz.prog 129 #[.agg #[.pointer (some ⟨b,0,none⟩)]] w (SvP w b y .R):=by
 have k1:=lay1 w 74 [.pointer (some ⟨b,0,none⟩)]
 have HB1:=hide (hB.kept k1 (by simp))
 have cC:Hid (Calls Tryz.prog 133 #[.agg (vtLE y.r (.slice y.uo y.un y.uc)).toArray] (w.alloc (.cells #[.pointer (some ⟨b,0,none⟩)] 74)) (EncP (w.alloc (.cells #[.pointer (some ⟨b,0,none⟩)] 74)) (toldS ([],0) y.r))):=encV_call _ y.r _ (hx.kept k1)
 have HSB:Hid (Bx (w.alloc (.cells #[.pointer (some ⟨b,0,none⟩)] 74)) w.heap.size 74 [.pointer (some ⟨b,0,none⟩)]):=Bx.new w _ _
 have HK1:=hide k1
 have HX1:=hide HB1.out.msr
 have HTR:Hid (RowT Tryz.prog 34 (vtLE y.r (.slice y.uo y.un y.uc)).length):=rowT_ver
 have HT0:Hid (RowT Tryz.prog 34 (vtLE vt0 (.slice none 0 0)).length):=rowT_ver
 have HO0:=hide one_vtz
 have HL0:Hid ((vtLE y.r (.slice y.uo y.un y.uc)).length=(vtLE vt0 (.slice none 0 0)).length):=rfl
 clear k1 hB hx
 cases hg:mayV y.r
 ·have HT:Hid (takeF .R y=y):=by show (if _ then _ else _)=_;rw [hg];rfl
  rw [encV_mayn (by simp [hg])] at cC
  go_enter Tryz.func129,Tryz.ntmps129
  go_wp2_with ((with_reducible refine wl_load_at HX1.out HTR.out ?_ ?_);rfl)
  refine cC.out.mono ?_
  rintro _ w2 ⟨a2,c2,rfl,_,_,hk⟩
  have H2:Hid (SvP w b y .R (.returned (.tuple #[])) w2):=⟨rfl,by rw [HT.out];exact HB1.out.kept hk (by simp),(HK1.out.trans hk (by simp)).mono (by simp)⟩
  clear hk
  go_wp2_with fail
  go_returns
  exact H2.out
 ·have HT:Hid (takeF .R y={ y with r:=vt0,uo:=none,un:=0,uc:=0 }):=by show (if _ then _ else _)=_;rw [hg];rfl
  rw [encV_may hg] at cC
  go_enter Tryz.func129,Tryz.ntmps129
  go_upto_region 3 with (first | ((with_reducible refine wl_load_at HX1.out HTR.out ?_ ?_);rfl) | (go_at_call 133;refine cC.out.mono ?_;rintro _ w2 ⟨a2,c2,rfl,_,_,hk⟩;have HK2:=hide hk;have d2:=hk.cell (HSB.out.cell 0 rfl) (by simp);clear hk))
  have hB2:=HB1.out.kept HK2.out (by simp)
  rw [msC_r] at hB2
  have HB2:=hide hB2
  clear hB2
  go_wp2_with ((refine wl_store_at (o:=20) HB2.out ?_ HL0.out HO0.out HT0.out ?_ ?_ ?_);rfl;rfl;rfl;intro w3 HB3 HK3)
  go_returns
  refine ⟨rfl,?_,(((HK1.out.trans HK2.out (by simp)).mono (by simp)).trans HK3.out (by simp))⟩
  rw [HT.out,msC_r]
  exact HB3.out
end Go.Proofs.YtakafmejllilnaaGreat
