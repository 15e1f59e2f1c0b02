/-
  Texts laid as one.
-/
import Derived.Test.YtakafmejllilnaaGreatMgSvr
set_option maxHeartbeats 8000000
set_option maxRecDepth 100000
/-
 The sieve takes fields away that may be.
-/
namespace Go.Proofs.YtakafmejllilnaaGreat
open Go.RowKit
def dW:Fd→Mm→Mm
 | .B,y=>if ah y.b=true then { y with b:=0 } else y
 | .S,y=>if ah y.s=true then { y with s:=0 } else y
 | .T,y=>if ah y.m=true then { y with m:=0 } else y
 | .V,y=>if fe y.x.r=true then { y with x:=ie } else y
 | .L,y=>if mt (y.D.map Vm.v)=true then { y with vo:=none,vc:=0,D:=[] } else y
 | .I,y=>if y.i.length≤524288 then { y with io:=none,ic:=0,i:=[] } else y
 | .N,y=>if ah y.n=true then { y with n:=0 } else y
 | .R,y=>if jc y.r=true then { y with r:=bD,uo:=none,un:=0,uc:=0 } else y
def lW (w:World) (b:Nat) (y:Mm) (f:Fd) (r:Ending) (w':World):Prop:=r=.returned (.tuple #[])∧Bx w' b 36 (aX (dW f y))∧ab [b] w w'
theorem dK (w:World) (b j:Nat) (n:Int) (hc:w.cell? ⟨b,j,none⟩=some (.int .i64 n)) (hf:w.frozen? ⟨b,j,none⟩=false) :
 Calls Tryz.prog 131 #[.pointer (some ⟨b,j,none⟩)] w fun r w'=>r=.returned (.tuple #[])∧w'=if ah n=true then w.setCell ⟨b,j,none⟩ (.int .i64 0) else w:=by
 have cN:=jG w n;cases hg:ah n
 ·rw [hg] at cN;go_enter Tryz.func131,Tryz.ntmps131;(go_wp2_with fail);refine cN.mono ?_;rintro _ w1 ⟨rfl,rfl⟩;(go_wp2_with fail);go_returns
  exact ⟨rfl,rfl⟩
 ·rw [hg] at cN;go_enter Tryz.func131,Tryz.ntmps131;(go_wp2_with fail);refine cN.mono ?_;rintro _ w1 ⟨rfl,rfl⟩;(go_wp2_with fail);go_returns
  exact ⟨rfl,rfl⟩
theorem ro (w:World) (b:Nat) (y:Mm) (hB:Bx w b 36 (aX y)):Calls Tryz.prog 123 #[.agg #[.pointer (some ⟨b,0,none⟩)]] w (lW w b y .B):=by
 have k1:=ct w 74 [.pointer (some ⟨b,0,none⟩)];have hB1:=hB.kept k1 (by simp);have cT:=aa (dK _ b 3 y.b (hB1.cell 3 rfl) (hB1.froz 3));have HB1:=aa hB1;have HK1:=aa k1;clear k1 hB1 hB;go_enter Tryz.func123,Tryz.ntmps123;go_wp2_with fail
 refine cT.out.mono ?_;clear cT;rintro _ w2 ⟨rfl,hw2⟩
 have H2:Hid (lW w b y .B (.returned (.tuple #[])) w2):=by
  refine ⟨rfl,?_⟩;show Bx w2 b _ (aX (if ah y.b=true then _ else _))∧_;by_cases hg:ah y.b=true
  ·rw [if_pos hg] at hw2 ⊢;rw [hw2];exact ⟨HB1.out.set 3 _,(HK1.out.mono (by simp)).trans ((ab.refl [b] _).setCell (by simp) _) (by simp)⟩
  ·rw [if_neg hg] at hw2 ⊢;rw [hw2];exact ⟨HB1.out,HK1.out.mono (by simp)⟩
 clear hw2;go_wp2_with fail
 go_returns
 exact H2.out
theorem rv (w:World) (b:Nat) (y:Mm) (hB:Bx w b 36 (aX y)):Calls Tryz.prog 126 #[.agg #[.pointer (some ⟨b,0,none⟩)]] w (lW w b y .S):=by
 have k1:=ct w 74 [.pointer (some ⟨b,0,none⟩)];have hB1:=hB.kept k1 (by simp);have cT:=aa (dK _ b 4 y.s (hB1.cell 4 rfl) (hB1.froz 4));have HB1:=aa hB1;have HK1:=aa k1;clear k1 hB1 hB;go_enter Tryz.func126,Tryz.ntmps126;go_wp2_with fail
 refine cT.out.mono ?_;clear cT;rintro _ w2 ⟨rfl,hw2⟩
 have H2:Hid (lW w b y .S (.returned (.tuple #[])) w2):=by
  refine ⟨rfl,?_⟩;show Bx w2 b _ (aX (if ah y.s=true then _ else _))∧_;by_cases hg:ah y.s=true
  ·rw [if_pos hg] at hw2 ⊢;rw [hw2];exact ⟨HB1.out.set 4 _,(HK1.out.mono (by simp)).trans ((ab.refl [b] _).setCell (by simp) _) (by simp)⟩
  ·rw [if_neg hg] at hw2 ⊢;rw [hw2];exact ⟨HB1.out,HK1.out.mono (by simp)⟩
 clear hw2;go_wp2_with fail
 go_returns
 exact H2.out
theorem rP (w:World) (b:Nat) (y:Mm) (hB:Bx w b 36 (aX y)):Calls Tryz.prog 127 #[.agg #[.pointer (some ⟨b,0,none⟩)]] w (lW w b y .T):=by
 have k1:=ct w 74 [.pointer (some ⟨b,0,none⟩)];have hB1:=hB.kept k1 (by simp);have cT:=aa (dK _ b 5 y.m (hB1.cell 5 rfl) (hB1.froz 5));have HB1:=aa hB1;have HK1:=aa k1;clear k1 hB1 hB;go_enter Tryz.func127,Tryz.ntmps127;go_wp2_with fail
 refine cT.out.mono ?_;clear cT;rintro _ w2 ⟨rfl,hw2⟩
 have H2:Hid (lW w b y .T (.returned (.tuple #[])) w2):=by
  refine ⟨rfl,?_⟩;show Bx w2 b _ (aX (if ah y.m=true then _ else _))∧_;by_cases hg:ah y.m=true
  ·rw [if_pos hg] at hw2 ⊢;rw [hw2];exact ⟨HB1.out.set 5 _,(HK1.out.mono (by simp)).trans ((ab.refl [b] _).setCell (by simp) _) (by simp)⟩
  ·rw [if_neg hg] at hw2 ⊢;rw [hw2];exact ⟨HB1.out,HK1.out.mono (by simp)⟩
 clear hw2;go_wp2_with fail
 go_returns
 exact H2.out
theorem su (w:World) (b:Nat) (y:Mm) (hB:Bx w b 36 (aX y)):Calls Tryz.prog 125 #[.agg #[.pointer (some ⟨b,0,none⟩)]] w (lW w b y .N):=by
 have k1:=ct w 74 [.pointer (some ⟨b,0,none⟩)];have hB1:=hB.kept k1 (by simp);have cT:=aa (dK _ b 19 y.n (hB1.cell 19 rfl) (hB1.froz 19));have HB1:=aa hB1;have HK1:=aa k1;clear k1 hB1 hB;go_enter Tryz.func125,Tryz.ntmps125;go_wp2_with fail
 refine cT.out.mono ?_;clear cT;rintro _ w2 ⟨rfl,hw2⟩
 have H2:Hid (lW w b y .N (.returned (.tuple #[])) w2):=by
  refine ⟨rfl,?_⟩;show Bx w2 b _ (aX (if ah y.n=true then _ else _))∧_;by_cases hg:ah y.n=true
  ·rw [if_pos hg] at hw2 ⊢;rw [hw2];exact ⟨HB1.out.set 19 _,(HK1.out.mono (by simp)).trans ((ab.refl [b] _).setCell (by simp) _) (by simp)⟩
  ·rw [if_neg hg] at hw2 ⊢;rw [hw2];exact ⟨HB1.out,HK1.out.mono (by simp)⟩
 clear hw2;go_wp2_with fail
 go_returns
 exact H2.out
theorem sx (w:World) (b:Nat) (y:Mm) (hB:Bx w b 36 (aX y)) (hx:dS [] w y.x):Calls Tryz.prog 128 #[.agg #[.pointer (some ⟨b,0,none⟩)]] w (lW w b y .V):=by
 have k1:=ct w 74 [.pointer (some ⟨b,0,none⟩)];have HB1:=aa (hB.kept k1 (by simp));have cC:Hid (Calls Tryz.prog 132 #[.agg (bp y.x).toArray] (w.alloc (.cells #[.pointer (some ⟨b,0,none⟩)] 74)) fun r w'=>r=.returned (.int .i64 (if fe y.x.r=true then 0 else 1))∧ab [] (w.alloc (.cells #[.pointer (some ⟨b,0,none⟩)] 74)) w'):=ly _ y.x (hx.kept k1);have HSB:Hid (Bx (w.alloc (.cells #[.pointer (some ⟨b,0,none⟩)] 74)) w.heap.size 74 [.pointer (some ⟨b,0,none⟩)]):=Bx.new w _ _;have HK1:=aa k1;have HX1:=aa HB1.out.msx;have HTR:Hid (aq Tryz.prog 29 (bp y.x).length):=ar;have HT0:Hid (aq Tryz.prog 29 (bp ie).length):=ar;have HO0:=aa (gR ie);have HL0:Hid ((bp y.x).length=(bp ie).length):=rfl;clear k1 hB hx;cases hg:fe y.x.r
 ·have HT:Hid (dW .V y=y):=by show (if _ then _ else _)=_;rw [hg];rfl
  rw [hg] at cC;go_enter Tryz.func128,Tryz.ntmps128;(go_wp2_with ((with_reducible refine bf HX1.out HTR.out ?_ ?_);rfl));refine cC.out.mono ?_;rintro _ w2 ⟨rfl,hk⟩;have H2:Hid (lW w b y .V (.returned (.tuple #[])) w2):=⟨rfl,by rw [HT.out];exact HB1.out.kept hk (by simp),(HK1.out.trans hk (by simp)).mono (by simp)⟩;clear hk;(go_wp2_with fail);go_returns
  exact H2.out
 ·have HT:Hid (dW .V y={ y with x:=ie }):=by show (if _ then _ else _)=_;rw [hg];rfl
  rw [hg] at cC;go_enter Tryz.func128,Tryz.ntmps128;go_upto_region 2 with (first | ((with_reducible refine bf HX1.out HTR.out ?_ ?_);rfl) | (go_at_call 132;refine cC.out.mono ?_;rintro _ w2 ⟨rfl,hk⟩;have HK2:=aa hk;have d2:=hk.cell (HSB.out.cell 0 rfl) (by simp);clear hk))
  have hB2:=HB1.out.kept HK2.out (by simp);rw [iX] at hB2;have HB2:=aa hB2;clear hB2;(go_wp2_with ((refine di (o:=6) HB2.out ?_ HL0.out HO0.out HT0.out ?_ ?_ ?_);rfl;rfl;rfl;intro w3 HB3 HK3));go_returns
  refine ⟨rfl,?_,(((HK1.out.trans HK2.out (by simp)).mono (by simp)).trans HK3.out (by simp))⟩;rw [HT.out,iX];exact HB3.out
theorem rh (w:World) (b:Nat) (y:Mm) (hB:Bx w b 36 (aX y)) (hx:p2 w y.vo y.D.length y.vc y.D):Calls Tryz.prog 130 #[.agg #[.pointer (some ⟨b,0,none⟩)]] w (lW w b y .L):=by
 have k1:=ct w 74 [.pointer (some ⟨b,0,none⟩)];have hB1:=hB.kept k1 (by simp);have c17:=hB1.cell 17 rfl;have HB1:=aa hB1;have cC:=aa (k8 _ _ _ _ (hx.kept k1));have HSB:Hid (Bx (w.alloc (.cells #[.pointer (some ⟨b,0,none⟩)] 74)) w.heap.size 74 [.pointer (some ⟨b,0,none⟩)]):=Bx.new w _ _;have HK1:=aa k1;clear k1 hB hx hB1;cases hg:mt (y.D.map Vm.v)
 ·have HT:Hid (dW .L y=y):=by show (if _ then _ else _)=_;rw [hg];rfl
  rw [hg] at cC;go_enter Tryz.func130,Tryz.ntmps130;(go_wp2_with fail);refine cC.out.mono ?_;rintro _ w2 ⟨rfl,hk⟩;have H2:Hid (lW w b y .L (.returned (.tuple #[])) w2):=⟨rfl,by rw [HT.out];exact HB1.out.kept hk (by simp),(HK1.out.trans hk (by simp)).mono (by simp)⟩;clear hk;(go_wp2_with fail);go_returns
  exact H2.out
 ·have HT:Hid (dW .L y={ y with vo:=none,vc:=0,D:=[] }):=by show (if _ then _ else _)=_;rw [hg];rfl
  rw [hg] at cC;go_enter Tryz.func130,Tryz.ntmps130;(go_wp2_with fail);refine cC.out.mono ?_;rintro _ w2 ⟨rfl,hk⟩;have d2:=hk.cell (HSB.out.cell 0 rfl) (by simp);have hB2:=HB1.out.kept hk (by simp);have e2:=hB2.cell 17 rfl;have f2:=hB2.froz 17;have H2:Hid (lW w b y .L (.returned (.tuple #[])) (w2.setCell ⟨b,17,none⟩ (.slice none 0 0))):=⟨rfl,by rw [HT.out];exact hB2.set 17 _,((HK1.out.trans hk (by simp)).mono (by simp)).setCell (by simp) _⟩;clear hk hB2;(go_wp2_with fail);go_returns
  exact H2.out
theorem rF (w:World) (b:Nat) (y:Mm) (hB:Bx w b 36 (aX y)):Calls Tryz.prog 124 #[.agg #[.pointer (some ⟨b,0,none⟩)]] w (lW w b y .I):=by
 have k1:=ct w 74 [.pointer (some ⟨b,0,none⟩)];have hB1:=hB.kept k1 (by simp);have c18:=hB1.cell 18 rfl;have f18:=hB1.froz 18;have HB1:=aa hB1;have HK1:=aa k1;clear k1 hB hB1;by_cases hg:y.i.length≤524288
 ·have hg':(y.i.length:Int)≤524288:=by omega
  have HT:Hid (dW .I y={ y with io:=none,ic:=0,i:=[] }):=by show (if _ then _ else _)=_;rw [if_pos hg]
  have H2:Hid (lW w b y .I (.returned (.tuple #[])) ((w.alloc (.cells #[.pointer (some ⟨b,0,none⟩)] 74)).setCell ⟨b,18,none⟩ (.slice none 0 0))):=⟨rfl,by rw [HT.out];exact HB1.out.set 18 _,(HK1.out.mono (by simp)).setCell (by simp) _⟩;go_enter Tryz.func124,Tryz.ntmps124;(go_wp2_with fail);go_returns
  exact H2.out
 ·have hg':¬ (y.i.length:Int)≤524288:=by omega
  have HT:Hid (dW .I y=y):=by show (if _ then _ else _)=_;rw [if_neg hg]
  have H2:Hid (lW w b y .I (.returned (.tuple #[])) (w.alloc (.cells #[.pointer (some ⟨b,0,none⟩)] 74))):=⟨rfl,by rw [HT.out];exact HB1.out,HK1.out.mono (by simp)⟩;go_enter Tryz.func124,Tryz.ntmps124;(go_wp2_with fail);go_returns
  exact H2.out
theorem tv:∀ v∈au bD (.slice none 0 0),v.oneCell'=true:=aQ bD (.slice none 0 0) rfl
theorem sR (w:World) (b:Nat) (y:Mm) (hB:Bx w b 36 (aX y)) (hx:eb [] w y.r (.slice y.uo y.un y.uc)):Calls Tryz.prog 129 #[.agg #[.pointer (some ⟨b,0,none⟩)]] w (lW w b y .R):=by
 have k1:=ct w 74 [.pointer (some ⟨b,0,none⟩)];have HB1:=aa (hB.kept k1 (by simp));have cC:Hid (Calls Tryz.prog 133 #[.agg (au y.r (.slice y.uo y.un y.uc)).toArray] (w.alloc (.cells #[.pointer (some ⟨b,0,none⟩)] 74)) (i7 (w.alloc (.cells #[.pointer (some ⟨b,0,none⟩)] 74)) (ew ([],0) y.r))):=pV _ y.r _ (hx.kept k1);have HSB:Hid (Bx (w.alloc (.cells #[.pointer (some ⟨b,0,none⟩)] 74)) w.heap.size 74 [.pointer (some ⟨b,0,none⟩)]):=Bx.new w _ _;have HK1:=aa k1;have HX1:=aa HB1.out.msr;have HTR:Hid (aq Tryz.prog 34 (au y.r (.slice y.uo y.un y.uc)).length):=am;have HT0:Hid (aq Tryz.prog 34 (au bD (.slice none 0 0)).length):=am;have HO0:=aa tv;have HL0:Hid ((au y.r (.slice y.uo y.un y.uc)).length=(au bD (.slice none 0 0)).length):=rfl;clear k1 hB hx;cases hg:jc y.r
 ·have HT:Hid (dW .R y=y):=by show (if _ then _ else _)=_;rw [hg];rfl
  rw [qo (by simp [hg])] at cC;go_enter Tryz.func129,Tryz.ntmps129;(go_wp2_with ((with_reducible refine bf HX1.out HTR.out ?_ ?_);rfl));refine cC.out.mono ?_;rintro _ w2 ⟨a2,c2,rfl,_,_,hk⟩;have H2:Hid (lW w b y .R (.returned (.tuple #[])) w2):=⟨rfl,by rw [HT.out];exact HB1.out.kept hk (by simp),(HK1.out.trans hk (by simp)).mono (by simp)⟩;clear hk;(go_wp2_with fail);go_returns
  exact H2.out
 ·have HT:Hid (dW .R y={ y with r:=bD,uo:=none,un:=0,uc:=0 }):=by show (if _ then _ else _)=_;rw [hg];rfl
  rw [sD hg] at cC;go_enter Tryz.func129,Tryz.ntmps129;go_upto_region 3 with (first | ((with_reducible refine bf HX1.out HTR.out ?_ ?_);rfl) | (go_at_call 133;refine cC.out.mono ?_;rintro _ w2 ⟨a2,c2,rfl,_,_,hk⟩;have HK2:=aa hk;have d2:=hk.cell (HSB.out.cell 0 rfl) (by simp);clear hk))
  have hB2:=HB1.out.kept HK2.out (by simp);rw [i2] at hB2;have HB2:=aa hB2;clear hB2;(go_wp2_with ((refine di (o:=20) HB2.out ?_ HL0.out HO0.out HT0.out ?_ ?_ ?_);rfl;rfl;rfl;intro w3 HB3 HK3));go_returns
  refine ⟨rfl,?_,(((HK1.out.trans HK2.out (by simp)).mono (by simp)).trans HK3.out (by simp))⟩;rw [HT.out,i2];exact HB3.out
def ej (x:Ms):Bool:=decide (x.b=0) && (decide (x.s=0) && (decide (x.m=0) && (decide (x.n=0) && (decide (x.v=cl) && (decide (x.l=[]) && (decide (x.i=[]) && decide (x.r=bD)))))))
theorem ws {w:World}{x:Vt}{u:Value}(h:eb [] w x u):nH w u x.k:=by
 obtain ⟨uo,un,uc,KK,e,hK,hm⟩:=h.u;exact ⟨uo,un,uc,KK,e,hK.sl,hm,hK.2.2.2.1⟩
theorem nT (w:World) (y:Mm) (hx:cb w y):Calls Tryz.prog 34 #[.agg (aX y).toArray] w fun r w'=>r=.returned (.bool (ej y.ms))∧ab [] w w':=by
 obtain ⟨W,hW⟩:∃ W,W=w.alloc (.cells (aX y).toArray 36):=⟨_,rfl⟩;have HK:Hid (ab [] w W):=by rw [hW];exact (ab.refl _ _).alloc _
 have HB:Hid (Bx W w.heap.size 36 (aX y)):=by rw [hW];exact Bx.new w _ _
 have HX1:=aa HB.out.msx;have HR1:=aa HB.out.msr;have HTX:Hid (aq Tryz.prog 29 (bp y.x).length):=ar;have HTV:Hid (aq Tryz.prog 34 (au y.r (.slice y.uo y.un y.uc)).length):=am;have c3:=HB.out.cell 3 rfl;have c4:=HB.out.cell 4 rfl;have c5:=HB.out.cell 5 rfl;have c17:=HB.out.cell 17 rfl;have c18:=HB.out.cell 18 rfl;have c19:=HB.out.cell 19 rfl;have cS:Hid (Calls Tryz.prog 71 #[.agg (bp y.x).toArray,.agg (bp ie).toArray] W fun r w'=>r=.returned (.bool (decide (y.x.r=cl)))∧ab [] W w'):=jB W y.x.r cl y.x.mo none y.x.m 0 y.x.mc 0 (hx.x.kept HK.out).s ⟨rfl,Nat.le_refl _,Nat.zero_le _,fun i hi=>by simp [cl] at hi⟩;have cA:Hid (∀ W2,ab [] w W2→Calls Tryz.prog 72 #[.agg (au y.r (.slice y.uo y.un y.uc)).toArray,.agg (au bD (.slice none 0 0)).toArray] W2 fun r w'=>r=.returned (.bool (decide (y.r=bD)))∧ab [] W2 w'):=fun W2 k=>jO W2 y.r bD _ _ (ws (hx.r.kept k)) ⟨none,0,0,[],rfl,⟨rfl,Nat.le_refl _,Nat.zero_le _,(fun i hi=>by simp at hi),fun x hx=>by cases hx⟩,rfl,fun _=>rfl⟩;unfold aX at hW;have HW:=aa hW;clear hx hW;have HBR:Hid (ej y.ms=(decide (y.b=0) && (decide (y.s=0) && (decide (y.m=0) && (decide (y.n=0) && (decide (y.x.r=cl) && (decide (y.D.map Vm.v=[]) && (decide (y.i=[]) && decide (y.r=bD))))))))):=rfl;by_cases h1:y.b=0
 rotate_left
 ·have HQ:Hid (ej y.ms=false):=by show _=_;rw [HBR.out,decide_eq_false h1];rfl
  have e1:(y.b==0)=false:=by simpa using h1
  unfold aX;go_enter Tryz.func34,Tryz.ntmps34;go_upto_region 1 with fail
  rw [← HW.out];(go_wp2_with (first | ((with_reducible refine aC HX1.out HTX.out ?_ ?_ ?_);rfl;rfl) | (go_at_call 71;refine cS.out.mono ?_;rw [rfl];rintro _ w2 ⟨rfl,hk2⟩;have HK2:=aa (HK.out.trans hk2 (by simp));have d17:=hk2.cell c17 (by simp);have d18:=hk2.cell c18 (by simp);have HR2:=aa (a8 HR1.out hk2 (by simp));clear c3 c4 c5 c19 c17 c18 hk2) | ((with_reducible refine aC HR2.out HTV.out ?_ ?_ ?_);rfl;rfl) | (go_at_call 72;refine (cA.out _ HK2.out).mono ?_;rw [rfl];rintro _ w3 ⟨rfl,hk3⟩;have HK3:=aa (HK2.out.trans hk3 (by simp));clear hk3)));go_ret
  rw [HQ.out];exact ⟨rfl,by first | exact HK3.out | exact HK2.out | exact HK.out⟩
 have e1:(y.b==0)=true:=by simpa using h1
 have H1:=aa h1;clear h1;by_cases h2:y.s=0
 rotate_left
 ·have HQ:Hid (ej y.ms=false):=by show _=_;rw [HBR.out,decide_eq_false h2];simp
  have e2:(y.s==0)=false:=by simpa using h2
  unfold aX;go_enter Tryz.func34,Tryz.ntmps34;go_upto_region 1 with fail
  rw [← HW.out];(go_wp2_with (first | ((with_reducible refine aC HX1.out HTX.out ?_ ?_ ?_);rfl;rfl) | (go_at_call 71;refine cS.out.mono ?_;rw [rfl];rintro _ w2 ⟨rfl,hk2⟩;have HK2:=aa (HK.out.trans hk2 (by simp));have d17:=hk2.cell c17 (by simp);have d18:=hk2.cell c18 (by simp);have HR2:=aa (a8 HR1.out hk2 (by simp));clear c3 c4 c5 c19 c17 c18 hk2) | ((with_reducible refine aC HR2.out HTV.out ?_ ?_ ?_);rfl;rfl) | (go_at_call 72;refine (cA.out _ HK2.out).mono ?_;rw [rfl];rintro _ w3 ⟨rfl,hk3⟩;have HK3:=aa (HK2.out.trans hk3 (by simp));clear hk3)));go_ret
  rw [HQ.out];exact ⟨rfl,by first | exact HK3.out | exact HK2.out | exact HK.out⟩
 have e2:(y.s==0)=true:=by simpa using h2
 have H2:=aa h2;clear h2;by_cases h3:y.m=0
 rotate_left
 ·have HQ:Hid (ej y.ms=false):=by show _=_;rw [HBR.out,decide_eq_false h3];simp
  have e3:(y.m==0)=false:=by simpa using h3
  unfold aX;go_enter Tryz.func34,Tryz.ntmps34;go_upto_region 1 with fail
  rw [← HW.out];(go_wp2_with (first | ((with_reducible refine aC HX1.out HTX.out ?_ ?_ ?_);rfl;rfl) | (go_at_call 71;refine cS.out.mono ?_;rw [rfl];rintro _ w2 ⟨rfl,hk2⟩;have HK2:=aa (HK.out.trans hk2 (by simp));have d17:=hk2.cell c17 (by simp);have d18:=hk2.cell c18 (by simp);have HR2:=aa (a8 HR1.out hk2 (by simp));clear c3 c4 c5 c19 c17 c18 hk2) | ((with_reducible refine aC HR2.out HTV.out ?_ ?_ ?_);rfl;rfl) | (go_at_call 72;refine (cA.out _ HK2.out).mono ?_;rw [rfl];rintro _ w3 ⟨rfl,hk3⟩;have HK3:=aa (HK2.out.trans hk3 (by simp));clear hk3)));go_ret
  rw [HQ.out];exact ⟨rfl,by first | exact HK3.out | exact HK2.out | exact HK.out⟩
 have e3:(y.m==0)=true:=by simpa using h3
 have H3:=aa h3;clear h3;by_cases h4:y.n=0
 rotate_left
 ·have HQ:Hid (ej y.ms=false):=by show _=_;rw [HBR.out,decide_eq_false h4];simp
  have e4:(y.n==0)=false:=by simpa using h4
  unfold aX;go_enter Tryz.func34,Tryz.ntmps34;go_upto_region 1 with fail
  rw [← HW.out];(go_wp2_with (first | ((with_reducible refine aC HX1.out HTX.out ?_ ?_ ?_);rfl;rfl) | (go_at_call 71;refine cS.out.mono ?_;rw [rfl];rintro _ w2 ⟨rfl,hk2⟩;have HK2:=aa (HK.out.trans hk2 (by simp));have d17:=hk2.cell c17 (by simp);have d18:=hk2.cell c18 (by simp);have HR2:=aa (a8 HR1.out hk2 (by simp));clear c3 c4 c5 c19 c17 c18 hk2) | ((with_reducible refine aC HR2.out HTV.out ?_ ?_ ?_);rfl;rfl) | (go_at_call 72;refine (cA.out _ HK2.out).mono ?_;rw [rfl];rintro _ w3 ⟨rfl,hk3⟩;have HK3:=aa (HK2.out.trans hk3 (by simp));clear hk3)));go_ret
  rw [HQ.out];exact ⟨rfl,by first | exact HK3.out | exact HK2.out | exact HK.out⟩
 have e4:(y.n==0)=true:=by simpa using h4
 have H4:=aa h4;clear h4;by_cases h5:y.x.r=cl
 rotate_left
 ·have HQ:Hid (ej y.ms=false):=by show _=_;rw [HBR.out,decide_eq_false h5];simp
  unfold aX;go_enter Tryz.func34,Tryz.ntmps34;go_upto_region 1 with fail
  rw [← HW.out];(go_wp2_with (first | ((with_reducible refine aC HX1.out HTX.out ?_ ?_ ?_);rfl;rfl) | (go_at_call 71;refine cS.out.mono ?_;rw [decide_eq_false h5];rintro _ w2 ⟨rfl,hk2⟩;have HK2:=aa (HK.out.trans hk2 (by simp));have d17:=hk2.cell c17 (by simp);have d18:=hk2.cell c18 (by simp);have HR2:=aa (a8 HR1.out hk2 (by simp));clear c3 c4 c5 c19 c17 c18 hk2) | ((with_reducible refine aC HR2.out HTV.out ?_ ?_ ?_);rfl;rfl) | (go_at_call 72;refine (cA.out _ HK2.out).mono ?_;rw [rfl];rintro _ w3 ⟨rfl,hk3⟩;have HK3:=aa (HK2.out.trans hk3 (by simp));clear hk3)));go_ret
  rw [HQ.out];exact ⟨rfl,by first | exact HK3.out | exact HK2.out | exact HK.out⟩
 have H5:=aa h5;clear h5;by_cases h6:y.D=[]
 rotate_left
 ·have HQ:Hid (ej y.ms=false):=by show _=_;rw [HBR.out,decide_eq_false (show ¬ y.D.map Vm.v=[] by simpa using h6)];simp
  have e6:((y.D.length:Int)==0)=false:=by simpa using h6
  unfold aX;go_enter Tryz.func34,Tryz.ntmps34;go_upto_region 1 with fail
  rw [← HW.out];(go_wp2_with (first | ((with_reducible refine aC HX1.out HTX.out ?_ ?_ ?_);rfl;rfl) | (go_at_call 71;refine cS.out.mono ?_;rw [decide_eq_true H5.out];rintro _ w2 ⟨rfl,hk2⟩;have HK2:=aa (HK.out.trans hk2 (by simp));have d17:=hk2.cell c17 (by simp);have d18:=hk2.cell c18 (by simp);have HR2:=aa (a8 HR1.out hk2 (by simp));clear c3 c4 c5 c19 c17 c18 hk2) | ((with_reducible refine aC HR2.out HTV.out ?_ ?_ ?_);rfl;rfl) | (go_at_call 72;refine (cA.out _ HK2.out).mono ?_;rw [rfl];rintro _ w3 ⟨rfl,hk3⟩;have HK3:=aa (HK2.out.trans hk3 (by simp));clear hk3)));go_ret
  rw [HQ.out];exact ⟨rfl,by first | exact HK3.out | exact HK2.out | exact HK.out⟩
 have e6:((y.D.length:Int)==0)=true:=by rw [h6];rfl
 have H6:=aa h6;clear h6;by_cases h7:y.i=[]
 rotate_left
 ·have HQ:Hid (ej y.ms=false):=by show _=_;rw [HBR.out,decide_eq_false h7];simp
  have e7:((y.i.length:Int)==0)=false:=by simpa using h7
  unfold aX;go_enter Tryz.func34,Tryz.ntmps34;go_upto_region 1 with fail
  rw [← HW.out];(go_wp2_with (first | ((with_reducible refine aC HX1.out HTX.out ?_ ?_ ?_);rfl;rfl) | (go_at_call 71;refine cS.out.mono ?_;rw [decide_eq_true H5.out];rintro _ w2 ⟨rfl,hk2⟩;have HK2:=aa (HK.out.trans hk2 (by simp));have d17:=hk2.cell c17 (by simp);have d18:=hk2.cell c18 (by simp);have HR2:=aa (a8 HR1.out hk2 (by simp));clear c3 c4 c5 c19 c17 c18 hk2) | ((with_reducible refine aC HR2.out HTV.out ?_ ?_ ?_);rfl;rfl) | (go_at_call 72;refine (cA.out _ HK2.out).mono ?_;rw [rfl];rintro _ w3 ⟨rfl,hk3⟩;have HK3:=aa (HK2.out.trans hk3 (by simp));clear hk3)));go_ret
  rw [HQ.out];exact ⟨rfl,by first | exact HK3.out | exact HK2.out | exact HK.out⟩
 have e7:((y.i.length:Int)==0)=true:=by rw [h7];rfl
 have H7:=aa h7;clear h7;by_cases h8:y.r=bD
 rotate_left
 ·have HQ:Hid (ej y.ms=false):=by show _=_;rw [HBR.out,decide_eq_false h8];simp
  unfold aX;go_enter Tryz.func34,Tryz.ntmps34;go_upto_region 1 with fail
  rw [← HW.out];(go_wp2_with (first | ((with_reducible refine aC HX1.out HTX.out ?_ ?_ ?_);rfl;rfl) | (go_at_call 71;refine cS.out.mono ?_;rw [decide_eq_true H5.out];rintro _ w2 ⟨rfl,hk2⟩;have HK2:=aa (HK.out.trans hk2 (by simp));have d17:=hk2.cell c17 (by simp);have d18:=hk2.cell c18 (by simp);have HR2:=aa (a8 HR1.out hk2 (by simp));clear c3 c4 c5 c19 c17 c18 hk2) | ((with_reducible refine aC HR2.out HTV.out ?_ ?_ ?_);rfl;rfl) | (go_at_call 72;refine (cA.out _ HK2.out).mono ?_;rw [decide_eq_false h8];rintro _ w3 ⟨rfl,hk3⟩;have HK3:=aa (HK2.out.trans hk3 (by simp));clear hk3)));go_ret
  rw [HQ.out];exact ⟨rfl,by first | exact HK3.out | exact HK2.out | exact HK.out⟩
 ·have HQ:Hid (ej y.ms=true):=by show _=_;rw [HBR.out];simp [H1.out,H2.out,H3.out,H4.out,H5.out,H6.out,H7.out,h8]
  have H8:=aa h8;clear h8;unfold aX;go_enter Tryz.func34,Tryz.ntmps34;go_upto_region 1 with fail
  rw [← HW.out];(go_wp2_with (first | ((with_reducible refine aC HX1.out HTX.out ?_ ?_ ?_);rfl;rfl) | (go_at_call 71;refine cS.out.mono ?_;rw [decide_eq_true H5.out];rintro _ w2 ⟨rfl,hk2⟩;have HK2:=aa (HK.out.trans hk2 (by simp));have d17:=hk2.cell c17 (by simp);have d18:=hk2.cell c18 (by simp);have HR2:=aa (a8 HR1.out hk2 (by simp));clear c3 c4 c5 c19 c17 c18 hk2) | ((with_reducible refine aC HR2.out HTV.out ?_ ?_ ?_);rfl;rfl) | (go_at_call 72;refine (cA.out _ HK2.out).mono ?_;rw [decide_eq_true H8.out];rintro _ w3 ⟨rfl,hk3⟩;have HK3:=aa (HK2.out.trans hk3 (by simp));clear hk3)));go_ret
  rw [HQ.out];exact ⟨rfl,by first | exact HK3.out | exact HK2.out | exact HK.out⟩
end Go.Proofs.YtakafmejllilnaaGreat
