/-
  Texts laid as one.
-/
import Derived.Test.YtakafmejllilnaaGreatF1r
import Derived.Test.YtakafmejllilnaaGreatH2r
import Derived.Test.YtakafmejllilnaaGreatMgDdr
import Derived.Test.YtakafmejllilnaaGreatW9r
set_option maxHeartbeats 8000000
set_option maxRecDepth 100000
set_option linter.unusedSimpArgs false
/-
 Torn,lengthened and changed frames,plainly.
-/
namespace Go.Proofs.YtakafmejllilnaaGreat
open Go.RowKit
def el (l:List Int):List Int:=l++dR 4 (db l)
theorem ed (l:List Int):(el l).length=l.length+4:=by simp [el,a5]
theorem bi.app {l m:List Int}(h:bi l) (k:bi m):bi (l++m):=by
 intro x hx;rcases List.mem_append.1 hx with h1 | h1
 ·exact h x h1
 ·exact k x h1
theorem lr {l:List Int}(h:bi l):bi (el l):=bi.app h (fg _ _)
theorem mC (a b:List Int) (h:b.length=4):bN (a++b)=(bs b==(db a:Int)):=by
 unfold bN;have e:(a++b).length - 4=a.length:=by rw [List.length_append];omega
 rw [e,List.drop_left,List.take_left]
theorem iG (l:List Int):bN (el l)=true:=by
 unfold el;rw [mC _ _ (a5 _ _),lH _ (by omega) (by have:=gG l;omega)];simp
theorem ga (l:List Int):ci l=el (dR 4 l.length)++el l:=rfl
theorem gn (l:List Int):(ci l).length=l.length+12:=by
 rw [ga,List.length_append,ed,ed,a5];omega
theorem nG {l:List Int}(h:bi l):bi (ci l):=by
 rw [ga];exact bi.app (lr (fg _ _)) (lr h)
theorem wm (n:Nat) (F:List Int) (h:F.take 8=el (dR 4 n)):F.take 4=dR 4 n:=by
 have:F.take 4=(F.take 8).take 4:=by rw [List.take_take];rfl
 rw [this,h];unfold el;rw [List.take_left' (a5 _ _)]
theorem mL (n:Nat) (hn:n≤1048576) (F:List Int) (h:F.take 8=el (dR 4 n)) :
 ¬ F.length < 8∧¬ bN (F.take 8)=false∧bs (F.take 4)=n:=by
 refine ⟨?_,?_,?_⟩
 ·have:=congrArg List.length h
  rw [ed,a5,List.length_take] at this;omega
 ·rw [h,iG];simp
 ·rw [wm n F h,lH _ (by omega) (by omega)]
theorem od (n:Nat) (X:List Int):(el (dR 4 n)++X).take 8=el (dR 4 n) :=
 List.take_left' (by rw [ed,a5])
theorem kI (n:Nat) (X:List Int):(el (dR 4 n)++X).drop 8=X :=
 List.drop_left' (by rw [ed,a5])
theorem uj (l:List Int) (hl:l.length≤1048576) (more:List Int):aE (ci l++more)=(l,(l.length:Int)+12,0):=by
 have e0:ci l++more=el (dR 4 l.length)++(el l++more):=by rw [ga,List.append_assoc]
 have e:(ci l++more).take 8=el (dR 4 l.length):=by rw [e0,od]
 obtain ⟨h1,h2,h3⟩:=mL l.length hl _ e;have hlen:(ci l++more).length=l.length+12+more.length:=by rw [List.length_append,gn]
 have h4:((ci l++more).take (l.length+12)).drop 8=el l:=by
  rw [List.take_left' (gn l),ga,kI]
 have h5:((ci l++more).take (8+l.length)).drop 8=l:=by
  rw [List.drop_take,e0,kI];have:8+l.length - 8=l.length:=by omega
  rw [this];unfold el;rw [List.append_assoc,List.take_left]
 unfold aE;rw [if_neg h1,if_neg h2,h3,if_neg (by omega),if_neg (by omega),Int.toNat_natCast,h4,iG,h5];simp
def mN:Mm:={ eI with k:=5,f:=1,t:=2,b:=300 }
theorem xM (w:World) (k f t b s m n:Int):cb w { eI with k:=k,f:=f,t:=t,b:=b,s:=s,m:=m,n:=n } :=
 ⟨(iQ w).x,(iQ w).v,(iQ w).i,(iQ w).o,(iQ w).r,(iQ w).u,(iQ w).uv,(iQ w).ur⟩
theorem sP:(jr mN.ms).2=0∧(jr mN.ms).1.length=17∧(((jr mN.ms).1.take 13).drop 8)=[5,1,2,172,2]∧fu (jr mN.ms).1=(mN.ms,0):=by decide +kernel
theorem r6 (x:Ms) (h:vr x):bi (jr x).1:=by
 unfold jr;split
 ·split
  ·exact nG (r8 (je ((gU h).1 (by assumption))))
  ·exact bq
 ·exact bq
theorem oE (w:World):Calls Tryz.prog 9 #[] w fun r w'=>r=.returned (.bool true)∧ab [] w w':=by
 have cE:=p3 w mN (xM w 5 1 2 300 0 0 0);have HO:=aa (r6 mN.ms (xM w 5 1 2 300 0 0 0).ms);obtain ⟨h1,h2,h3,h4⟩:=sP;generalize jr mN.ms=q at *;obtain ⟨B,e⟩:=q;simp only at h1 h2 h3 h4 HO;subst h1;have HB:=aa h2;have HC:=aa h3;have HD:=aa h4;have HE:Hid (Calls Tryz.prog 10 #[.agg (aX mN).toArray] w (i7 w (B,0))):=cE;clear h2 h3 h4 cE;unfold mN eI ie bD aX at HE;go_enter Tryz.func9,Tryz.ntmps9;go_wp2_with fail
 refine HE.out.mono ?_;clear HE;rintro _ w1 ⟨a1,c1,rfl,hS1,hb1,hk1⟩;have hS1':Sl w1 a1 17 c1 B:=by rw [← HB.out];exact hS1
 obtain ⟨b1,o1,rfl,_⟩:=hS1'.some (by decide);rw [show (B,(0:Int)).1.length=17 from HB.out];have HS1:=aa hS1';have HK1:=aa hk1;have hc1:17≤c1:=hS1'.2.1;have hc13:(13:Int)≤(c1:Int):=by omega
 have hc8:¬ c1=8:=by omega
 clear hS1 hS1' hb1 hk1;have cD:=aa (lI w1 _ _ c1 B HS1.out (by omega) HO.out);rw [HD.out] at cD;go_wp2_with fail
 refine cD.out.mono ?_;clear cD;rintro _ w2 ⟨y,rfl,hy,hm,hk2⟩;have HS2:=aa (Sl.kept hk2 HS1.out (by simp));have HK2:=aa (HK1.out.trans hk2 (by simp));have hyb:y.b=300:=congrArg Ms.b hy;have HYB:=aa hyb;clear hy hm hk2 hyb;have HBy:Hid (Bx (w2.alloc (.cells br.toArray 36)) w2.heap.size 36 br):=Bx.new w2 _ _;have HKy:Hid (ab [] w2 (w2.alloc (.cells br.toArray 36))):=ct w2 _ br;have HTY:Hid (aq Tryz.prog 36 (aX y).length):=cL;have HOY:=aa (dJ y);have HLY:Hid ((aX y).length=br.length):=rfl;unfold br at HBy HKy;go_upto_region 3 with ((refine ac HBy.out ?_ HOY.out HTY.out ?_ ?_ ?_);exact HLY.out;rfl;rfl;intro w3 HB3 HK3)
 have d3:=HB3.out.cell 3 rfl;rw [HYB.out] at d3;have HKW:=aa (HK2.out.trans (HKy.out.trans HK3.out (S:=[]) (by simp)) (by simp));have HS3:=aa (Sl.kept (HKy.out.trans HK3.out (S:=[]) (by simp)) HS2.out (by simp));go_wp2_with fail
 obtain ⟨w4,hw4⟩:∃ w4,w4=w3.alloc (.cells #[.int .u8 5,.int .u8 1,.int .u8 2,.int .u8 172,.int .u8 2] 5):=⟨_,rfl⟩;have k4:ab [] w3 w4:=by rw [hw4];exact (ab.refl _ _).alloc _
 have h6:Sl w4 (some ⟨w3.heap.size,0,none⟩) 5 5 [5,1,2,172,2]:=by rw [hw4];exact Sl.lit rfl rfl (by decide)
 have h5:Sl w4 (some ⟨b1,o1+8,none⟩) 5 (c1 - 8) ((B.take 13).drop 8):=by
  have h:=((Sl.kept k4 HS3.out (by simp)).take (show 13≤17 by decide)).drop (show 8≤13 by decide);rw [Option.map_some,kO] at h;exact h
 have cS:=iA w4 _ _ _ _ _ _ _ _ h5 h6;rw [HC.out,decide_eq_true rfl] at cS;rw [← hw4];have d4:=k4.cell d3 (by simp);have HK4:=aa (HKW.out.trans k4 (by simp));have HSC:=aa cS;clear hw4 k4 h5 h6 cS d3;refine HSC.out.mono ?_;clear HSC;rintro _ w5 ⟨rfl,hk5⟩;have d5:=hk5.cell d4 (by simp);have HK5:=aa (HK4.out.trans hk5 (by simp));clear hk5 d4;go_wp2_with fail
 go_ret
 exact ⟨rfl,HK5.out⟩
theorem qF (w:World) (ao:Option Addr) (n c:Nat) (l:List Int) (hS:Sl w ao n c l) (ho:bi l) :
 Calls Tryz.prog 5 #[.slice ao n c] w fun r w'=>r=.returned (.bool true)∧ab [] w w':=by
 have HO:=aa ho;have HS:=aa hS;have hnm:=hS.2.2.1;have hnc:=hS.2.1;unfold maxLen at hnm;have cA:=aa (oE w);clear hS ho;go_enter Tryz.func5,Tryz.ntmps5;go_upto_region 3 with (go_at_call 9;refine cA.out.mono ?_;rintro _ w1 ⟨rfl,hk1⟩;have HK1:=aa hk1;clear hk1)
 have HS1:=aa (Sl.kept HK1.out HS.out (by simp));by_cases hn:20000 < n
 ·have hn':(20000:Int) < n:=by omega
  (go_wp2_with fail);go_ret
  exact ⟨rfl,HK1.out⟩
 have hn':¬ (20000:Int) < n:=by omega
 have cR:=aa (lI w1 ao n c l HS1.out (by omega) HO.out);have cQ:=aa (fun (W2:World) (k:ab [] w1 W2)=>oM W2 ao n c l (Sl.kept k HS1.out (by simp)) (by omega) HO.out);generalize fu l=q at cR cQ;obtain ⟨x,e⟩:=q;go_upto_region 5 with fail
 go_wp2_with fail
 refine cR.out.mono ?_;clear cR;rintro _ w4 ⟨y4,rfl,hy4,hm4,hk4⟩;have HY4:=aa hy4;have HM4:=aa hm4;have HK4:=aa hk4;clear hy4 hm4 hk4;have HBy4:Hid (Bx (w4.alloc (.cells br.toArray 36)) w4.heap.size 36 br):=Bx.new w4 _ _;have HKy4:Hid (ab [] w4 (w4.alloc (.cells br.toArray 36))):=ct w4 _ br;have HTY4:Hid (aq Tryz.prog 36 (aX y4).length):=cL;have HOY4:=aa (dJ y4);have HLY4:Hid ((aX y4).length=br.length):=rfl;unfold br at HBy4 HKy4;go_upto_region 6 with ((refine ac HBy4.out ?_ HOY4.out HTY4.out ?_ ?_ ?_);exact HLY4.out;rfl;rfl;intro w5 HB5 HK5)
 have HK45:=aa (HKy4.out.trans HK5.out (S:=[]) (by simp));have HM5:=aa (HM4.out.kept HK45.out);have cQ5:=aa (cQ.out w5 (HK4.out.trans HK45.out (by simp)));clear cQ;go_wp2_with fail
 refine cQ5.out.mono ?_;clear cQ5;rintro _ w6 ⟨y6,rfl,hy6,hm6,hk6⟩;have HY6:=aa hy6;have HM6:=aa hm6;have HK6:=aa hk6;clear hy6 hm6 hk6;have HBy6:Hid (Bx (w6.alloc (.cells br.toArray 36)) w6.heap.size 36 br):=Bx.new w6 _ _;have HKy6:Hid (ab [] w6 (w6.alloc (.cells br.toArray 36))):=ct w6 _ br;have HTY6:Hid (aq Tryz.prog 36 (aX y6).length):=cL;have HOY6:=aa (dJ y6);have HLY6:Hid ((aX y6).length=br.length):=rfl;unfold br at HBy6 HKy6;go_upto_region 7 with ((refine ac HBy6.out ?_ HOY6.out HTY6.out ?_ ?_ ?_);exact HLY6.out;rfl;rfl;intro w7 HB7 HK7)
 have HK67:=aa (HKy6.out.trans HK7.out (S:=[]) (by simp));have HK57:=aa (HK6.out.trans HK67.out (by simp));have HM7:=aa (HM6.out.kept HK67.out);have HB57:=aa (HB5.out.kept HK57.out (by simp));have HK07:=aa ((HK1.out.trans (HK4.out.trans HK45.out (by simp)) (by simp)).trans HK57.out (by simp));have cM:=aa (ke w7 y4 y6 (HM5.out.kept HK57.out) HM7.out (by rw [HY4.out,HY6.out]));clear HS HS1 HO HY4 HY6 hnm hnc hn hn' HKy4 HBy4 HKy6 HBy6 HM4 HM5 HM6 HM7 HK1 HK4 HK45 HK6 HK67 HK57;go_wp2_with (first | ((with_reducible refine jH HB57.out HTY4.out ?_ ?_ ?_);rfl;rfl) | ((with_reducible refine jH HB7.out HTY6.out ?_ ?_ ?_);rfl;rfl) | (go_at_call 19;refine cM.out.mono ?_;clear cM;rintro _ w8 ⟨rfl,hk8⟩;have HK08:=aa (HK07.out.trans hk8 (by simp));clear hk8))
 go_ret
 exact ⟨rfl,HK08.out⟩
theorem again_told {l:List Int}{x:Ms}(ho:bi l) (hl:l.length≤1048576) (h:fu (ci l)=(x,0)):bQ x=true∧jr x=(ci l,0):=by
 have h1:=uj l hl [];rw [List.append_nil] at h1;have h2:=gn l;unfold fu at h;rw [h1] at h;simp only [ne_eq,not_true_eq_false,if_false] at h;rw [if_neg (by omega)] at h;obtain ⟨_,h4,h5⟩:=vH ho h;refine ⟨h5,?_⟩;unfold jr;rw [if_pos h5,← h4,if_pos hl]
theorem frameE_of (l:List Int) (hl:l.length≤1048576):dn l=(ci l,0):=by
 unfold dn;rw [if_pos (by omega)]
theorem magain_walk (w:World) (ao:Option Addr) (n c:Nat) (l:List Int) (hS:Sl w ao n c l) (ho:bi l) :
 Calls Tryz.prog 7 #[.slice ao n c] w fun r w'=>r=.returned (.bool true)∧ab [] w w':=by
 have HO:=aa ho;have HS:=aa hS;have hnm:=hS.2.2.1;have hnc:=hS.2.1;have hnl:=hS.1;unfold maxLen at hnm;have cA:=aa (oE w);clear hS ho;go_enter Tryz.func7,Tryz.ntmps7;go_upto_region 3 with (go_at_call 9;refine cA.out.mono ?_;rintro _ w1 ⟨rfl,hk1⟩;have HK1:=aa hk1;clear hk1)
 have HS1:=aa (Sl.kept HK1.out HS.out (by simp));by_cases hn:20000 < n
 ·have hn':(20000:Int) < n:=by omega
  (go_wp2_with fail);go_ret
  exact ⟨rfl,HK1.out⟩
 have hn':¬ (20000:Int) < n:=by omega
 have hL:l.length≤20000:=by omega
 have HL:=aa hL;have cF:=vj w1 ao n c l HS1.out HO.out;rw [frameE_of l (by omega)] at cF;have CF:=aa cF;clear cF hn hL hnl;go_upto_region 5 with fail
 go_wp2_with fail
 refine CF.out.mono ?_;clear CF;rintro _ w3 ⟨a3,n3,c3,rfl,hS3,_,hk3⟩;have hn3:n3=l.length+12:=by rw [← hS3.1,gn]
 subst hn3;have HS3:=aa hS3;have HK3:=aa (HK1.out.trans hk3 (by simp));clear hS3 hk3;have HAG:=aa (fun x h=>again_told (x:=x) HO.out (by have:=HL.out;omega) h);have cR:=aa (lI w3 a3 _ c3 _ HS3.out (by have:=HL.out;omega) (nG HO.out));have cQ:=aa (fun (W2:World) (k:ab [] w3 W2)=>oM W2 a3 _ c3 _ (Sl.kept k HS3.out (by simp)) (by have:=HL.out;omega) (nG HO.out));generalize fu (ci l)=q at cR cQ HAG;obtain ⟨x,e⟩:=q;go_upto_region 6 with fail
 go_wp2_with fail
 refine cR.out.mono ?_;clear cR;rintro _ w4 ⟨y4,rfl,hy4,hm4,hk4⟩;have HY4:=aa hy4;have HM4:=aa hm4;have HK4:=aa hk4;clear hy4 hm4 hk4;have HBy4:Hid (Bx (w4.alloc (.cells br.toArray 36)) w4.heap.size 36 br):=Bx.new w4 _ _;have HKy4:Hid (ab [] w4 (w4.alloc (.cells br.toArray 36))):=ct w4 _ br;have HTY4:Hid (aq Tryz.prog 36 (aX y4).length):=cL;have HOY4:=aa (dJ y4);have HLY4:Hid ((aX y4).length=br.length):=rfl;unfold br at HBy4 HKy4;go_upto_region 7 with ((refine ac HBy4.out ?_ HOY4.out HTY4.out ?_ ?_ ?_);exact HLY4.out;rfl;rfl;intro w5 HB5 HK5)
 have HK45:=aa (HKy4.out.trans HK5.out (S:=[]) (by simp));have HM5:=aa (HM4.out.kept HK45.out);have cQ5:=aa (cQ.out w5 (HK4.out.trans HK45.out (by simp)));clear cQ;go_wp2_with fail
 refine cQ5.out.mono ?_;clear cQ5;rintro _ w6 ⟨y6,rfl,hy6,hm6,hk6⟩;have HY6:=aa hy6;have HM6:=aa hm6;have HK6:=aa hk6;clear hy6 hm6 hk6;have HBy6:Hid (Bx (w6.alloc (.cells br.toArray 36)) w6.heap.size 36 br):=Bx.new w6 _ _;have HKy6:Hid (ab [] w6 (w6.alloc (.cells br.toArray 36))):=ct w6 _ br;have HTY6:Hid (aq Tryz.prog 36 (aX y6).length):=cL;have HOY6:=aa (dJ y6);have HLY6:Hid ((aX y6).length=br.length):=rfl;unfold br at HBy6 HKy6;go_upto_region 8 with ((refine ac HBy6.out ?_ HOY6.out HTY6.out ?_ ?_ ?_);exact HLY6.out;rfl;rfl;intro w7 HB7 HK7)
 have HK67:=aa (HKy6.out.trans HK7.out (S:=[]) (by simp));have HK57:=aa (HK6.out.trans HK67.out (by simp));have HK37:=aa ((HK4.out.trans HK45.out (by simp)).trans HK57.out (by simp));have HM7:=aa (HM6.out.kept HK67.out);have HM57:=aa (HM5.out.kept HK57.out);have HB57:=aa (HB5.out.kept HK57.out (by simp));have HK07:=aa (HK3.out.trans HK37.out (by simp));have cM:=aa (ke w7 y4 y6 HM57.out HM7.out (by rw [HY4.out,HY6.out]));have HS7:=aa (Sl.kept HK37.out HS3.out (by simp));clear HS HS1 HO HY6 hnm hnc hn' HKy4 HBy4 HKy6 HBy6 HM4 HM5 HM6 HM7 HK1 HK4 HK45 HK6 HK67 HK57 HS3;by_cases he:e=0
 rotate_left
 ·have heb:(e != 0)=true:=by simpa using he
  clear he;(go_wp2_with (first | ((with_reducible refine jH HB57.out HTY4.out ?_ ?_ ?_);rfl;rfl) | ((with_reducible refine jH HB7.out HTY6.out ?_ ?_ ?_);rfl;rfl) | (go_at_call 19;refine cM.out.mono ?_;clear cM;rintro _ w8 ⟨rfl,hk8⟩;have HK08:=aa (HK07.out.trans hk8 (by simp));clear hk8)));go_ret
  exact ⟨rfl,HK08.out⟩
 subst he;obtain ⟨hok,hen⟩:=HAG.out x rfl;have HOK:=aa hok;have HEN:=aa hen;clear hok hen HAG;have cE:=aa (fun (W2:World) (k:ab [] w7 W2)=>p3 W2 y4 (HM57.out.kept k));have cC:=aa (fun (W2:World) (k:ab [] w7 W2)=>j9 W2 y4 (HM57.out.kept k));go_upto_region 12 with (first | ((with_reducible refine jH HB57.out HTY4.out ?_ ?_ ?_);rfl;rfl) | ((with_reducible refine jH HB7.out HTY6.out ?_ ?_ ?_);rfl;rfl) | (go_at_call 19;refine cM.out.mono ?_;clear cM;rintro _ w8 ⟨rfl,hk8⟩;have HK08:=aa (HK07.out.trans hk8 (by simp));have HK78:=aa hk8;clear hk8))
 have HB58:=aa (HB57.out.kept HK78.out (by simp));have cE8:=cE.out w8 HK78.out;rw [HY4.out,HEN.out] at cE8;have HE8:=aa cE8;have HS8:=aa (Sl.kept HK78.out HS7.out (by simp));clear cE8 cE HS7;go_upto_region 13 with (first | ((with_reducible refine ak HB58.out HTY4.out ?_ ?_);rfl) | (go_at_call 10;refine HE8.out.mono ?_;clear HE8;rintro _ w9 ⟨a9,c9,rfl,hS9,_,hk9⟩;have HS9:=aa hS9;have HK9:=aa hk9;clear hS9 hk9))
 have HB59:=aa (HB58.out.kept HK9.out (by simp));have HS89:=aa (Sl.kept HK9.out HS8.out (by simp));have HK79:=aa (HK78.out.trans HK9.out (by simp));have cB:=iA w9 a3 a9 _ c3 _ c9 (ci l) (ci l) HS89.out HS9.out;rw [decide_eq_true rfl] at cB;have HBS:=aa cB
 have HCI:Hid (yl (kh y4)=0):=by
  show yl (kh y4)=0;rw [pm HM57.out,HY4.out,HOK.out];rfl
 have HCC:=aa (fun (W2:World) (k:ab [] w7 W2)=>(HCI.out ▸ cC.out W2 k:Calls Tryz.prog 16 #[.agg (aX y4).toArray] W2 fun r w'=>r=.returned (.int .i64 0)∧ab [] W2 w'));clear cB cC HCI HS89 HS9 HS8 HB58;go_wp2_with (first | (go_at_call 15;refine HBS.out.mono ?_;clear HBS;rintro _ w10 ⟨rfl,hk10⟩;have HK10:=aa (HK79.out.trans hk10 (by simp));have HB10:=aa (HB59.out.kept hk10 (by simp));have HC10:=aa (HCC.out w10 HK10.out);clear hk10) | ((with_reducible refine jH HB10.out HTY4.out ?_ ?_ ?_);rfl;rfl) | (go_at_call 16;refine HC10.out.mono ?_;clear HC10;rintro _ w11 ⟨rfl,hk11⟩;have HK11:=aa (HK10.out.trans hk11 (by simp));clear hk11))
 go_ret
 exact ⟨rfl,HK07.out.trans HK11.out (by simp)⟩
end Go.Proofs.YtakafmejllilnaaGreat
