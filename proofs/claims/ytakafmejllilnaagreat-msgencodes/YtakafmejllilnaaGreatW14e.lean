/-
  Texts laid as one.
-/
import Derived.Test.YtakafmejllilnaaGreatF7e
import Derived.Test.YtakafmejllilnaaGreatF2e
import Derived.Test.YtakafmejllilnaaGreatF8e
import Derived.Deep.RegionHeld3
import Derived.Test.YtakafmejllilnaaGreatF1e
import Derived.Test.YtakafmejllilnaaGreatH2e
import Derived.Test.YtakafmejllilnaaGreatW6e
import Derived.Test.YtakafmejllilnaaGreatW8e
set_option maxHeartbeats 8000000
set_option maxRecDepth 100000
set_option linter.unusedSimpArgs false
/-
 small: has a request few and small parts?
-/
namespace Go.Proofs.YtakafmejllilnaaGreat
open Go.RowKit
def xH (r:Rq):Prop:=r.c.length≤200∧r.n.length≤1000∧r.f.length≤1000∧r.p.length≤1000∧∀ y∈r.c,y.p.length≤1000
def xM (w:World) (P:Prop) (e:Ending) (w':World):Prop:=∃ b:Bool,e=.returned (.bool b)∧(b=true→P)∧ab [] w w'
def yz (x:Rm) (jv:Value):Prop:=∃ j:Nat,jv=.int .i64 (j:Int)∧j≤x.r.c.length∧Hid (∀ q (h:q < x.r.c.length),q < j→x.r.c[q].p.length≤1000)
theorem nV (w:World) (x:Rm) (hS:dd w x.mo x.m x.mc x.r.c) :
 Calls Tryz.prog 66 #[dv x] w (xM w (xH x.r)):=by
 have hml:=hS.1;have hmc:=hS.2.1;have hmm:=hS.2.2.1;unfold maxLen at hmm;obtain ⟨W,hW⟩:∃ W,W=w.alloc (.cells #[.int .i64 x.r.k,.string (ac x.r.n),.int .i64 x.r.s,.int .i64 x.r.q,.int .i64 x.r.b,.string (ac x.r.f),.slice x.mo x.m x.mc,.string (ac x.r.p),.int .i64 x.r.fr,.int .i64 x.r.mn,.int .i64 x.r.mb] 29):=⟨_,rfl⟩;have HW:=aa hW;have HK:Hid (ab [] w W):=by rw [hW];exact (ab.refl _ _).alloc _
 have hB:Bx W w.heap.size 29 (aR x):=by rw [hW];exact Bx.new w _ (aR x)
 have c1:W.cell? ⟨w.heap.size,1,none⟩=some (.string (ac x.r.n)):=hB.cell 1 rfl;have c5:W.cell? ⟨w.heap.size,5,none⟩=some (.string (ac x.r.f)):=hB.cell 5 rfl;have c6:W.cell? ⟨w.heap.size,6,none⟩=some (.slice x.mo x.m x.mc):=hB.cell 6 rfl;have c7:W.cell? ⟨w.heap.size,7,none⟩=some (.string (ac x.r.p)):=hB.cell 7 rfl;have HL:=aa (hS.kept HK.out (by simp));have HNO:Hid (xM w (xH x.r) (.returned (.bool false)) W):=⟨false,rfl,by simp,HK.out⟩;clear hB hW;have hsn:(ac x.r.n).size=x.r.n.length:=bJ _;have hsf:(ac x.r.f).size=x.r.f.length:=bJ _;have hsp:(ac x.r.p).size=x.r.p.length:=bJ _;clear hS;unfold dv;by_cases hl4:200 < x.m
 ·have hl4':(200:Int) < x.m:=by omega
  go_enter Tryz.func66,Tryz.ntmps66;go_upto_region 1 with fail
  rw [← HW.out];(go_wp2_with fail);go_ret
  exact HNO.out
 have hl4':¬ (200:Int) < x.m:=by omega
 by_cases hn3:1000 < x.r.n.length
 ·have hn3':(1000:Int) < x.r.n.length:=by omega
  go_enter Tryz.func66,Tryz.ntmps66;go_upto_region 1 with fail
  rw [← HW.out];(go_wp2_with fail);go_ret
  exact HNO.out
 have hn3':¬ (1000:Int) < x.r.n.length:=by omega
 by_cases hf3:1000 < x.r.f.length
 ·have hf3':(1000:Int) < x.r.f.length:=by omega
  go_enter Tryz.func66,Tryz.ntmps66;go_upto_region 1 with fail
  rw [← HW.out];(go_wp2_with fail);go_ret
  exact HNO.out
 have hf3':¬ (1000:Int) < x.r.f.length:=by omega
 by_cases hp3:1000 < x.r.p.length
 ·have hp3':(1000:Int) < x.r.p.length:=by omega
  go_enter Tryz.func66,Tryz.ntmps66;go_upto_region 1 with fail
  rw [← HW.out];(go_wp2_with fail);go_ret
  exact HNO.out
 have hp3':¬ (1000:Int) < x.r.p.length:=by omega
 go_enter Tryz.func66,Tryz.ntmps66;go_upto_region 1 with fail
 rw [← HW.out];go_wp2_with fail
 go_loop [3] (fun jv=>yz x jv) (fun jv=>x.m - (intOf jv).toNat)
 case atStart=>exact ⟨0,rfl,Nat.zero_le _,fun j h h2=>by omega⟩
 case round =>
  obtain ⟨j,rfl,hj,HJ⟩:=hrel;by_cases hjl:j < x.m
  ·have hjl':(j:Int) < x.m:=by omega
   have hjc:j≤x.mc:=by omega
   obtain ⟨g2,o2,hmo,hy⟩:=HL.out.2.2.2 j (by omega);obtain ⟨y,hye⟩:∃ y,y=x.r.c[j]'(by omega):=⟨_,rfl⟩;rw [← hye] at hy;have HY:Hid (y=x.r.c[j]'(by omega)):=hye;obtain ⟨d0,d1,d2⟩:=hy;have hsy:(ac y.p).size=y.p.length:=bJ _;rw [hmo] at c6;clear hye d1 d2 hmo;by_cases hy3:1000 < y.p.length
   ·have hy3':(1000:Int) < y.p.length:=by omega
    (go_wp2_with fail);go_ret
    exact HNO.out
   ·have hy3':¬ (1000:Int) < y.p.length:=by omega
    have HJ2:Hid (∀ q (h:q < x.r.c.length),q < j+1→x.r.c[q].p.length≤1000):=fun q h h2=>by
     by_cases e:q=j
     ·subst e;rw [← HY.out];omega
     ·exact HJ.out q h (by omega)
    (go_wp2_with fail);go_round
    case rel=>exact ⟨j+1,by go_num,by omega,HJ2⟩
    case measure=>simp [intOf];omega
  ·have hjl':¬ (j:Int) < x.m:=by omega
   have HY:Hid (xH x.r):=⟨by omega,by omega,by omega,by omega,fun y hy=>by
    obtain ⟨q,hq,rfl⟩:=List.getElem_of_mem hy;exact HJ.out q hq (by omega)⟩
   (go_wp2_with fail);go_ret
   exact ⟨true,rfl,fun _=>HY.out,HK.out⟩
def xl (w:World) (e:Ending) (w':World):Prop:=∃ b:Bool,e=.returned (.bool b)∧ab [] w w'
def xU (W:World) (n:Nat) (iv:Value) (wr:World):Prop:=∃ i:Nat,iv=.int .i64 (i:Int)∧i≤n∧Hid (ab [] W wr)
theorem nJ (w:World) (x:Vt) (u:Value) (h:ku w u x.k) :
 Calls Tryz.prog 25 #[bS x u] w (xl w):=by
 obtain ⟨ao,n,c,K,rfl,hK,_,_⟩:=h;obtain ⟨W,hW⟩:∃ W,W=w.alloc (.cells #[.int .i64 x.c,.int .i64 x.s,.int .i64 x.r,.string (ac x.p),.int .u64 x.d,.slice ao n c,.int .i64 x.m] 34):=⟨_,rfl⟩;have HW:=aa hW;have HK0:Hid (ab [] w W):=by rw [hW];exact (ab.refl _ _).alloc _
 have hB:Bx W w.heap.size 34 (ak x (.slice ao n c)):=by rw [hW];exact Bx.new w _ (ak x (.slice ao n c))
 have HBx:=aa hB;have c3:W.cell? ⟨w.heap.size,3,none⟩=some (.string (ac x.p)):=hB.cell 3 rfl;have c5:W.cell? ⟨w.heap.size,5,none⟩=some (.slice ao n c):=hB.cell 5 rfl;have hl:=hK.1;have hc:=hK.2.1;have hm:=hK.2.2.1;unfold maxLen at hm;have HL:Hid (K.length=n):=hl;have HK:Hid (jI W ao n c K):=hK.kept HK0.out;have hsp:(ac x.p).size=x.p.length:=bJ _;clear hB hW hK hl;unfold bS;by_cases hn:100 < n
 ·have hn':(100:Int) < n:=by omega
  go_enter Tryz.func25,Tryz.ntmps25;go_upto_region 1 with fail
  rw [← HW.out];(go_wp2_with fail);go_ret
  exact ⟨false,rfl,HK0.out⟩
 have hn':¬ (100:Int) < n:=by omega
 by_cases hp:1000 < x.p.length
 ·have hp':(1000:Int) < x.p.length:=by omega
  go_enter Tryz.func25,Tryz.ntmps25;go_upto_region 1 with fail
  rw [← HW.out];(go_wp2_with fail);go_ret
  exact ⟨false,rfl,HK0.out⟩
 have hp':¬ (1000:Int) < x.p.length:=by omega
 go_enter Tryz.func25,Tryz.ntmps25;go_upto_region 1 with fail
 rw [← HW.out];go_wp2_with fail
 clear c5 c3;go_loopw [3] (fun iv wr=>xU W n iv wr) (fun iv _=>n - (intOf iv).toNat)
 case atStart=>exact ⟨0,rfl,Nat.zero_le _,ab.refl _ _⟩
 case round =>
  obtain ⟨i,rfl,hi,HR⟩:=hrel;have c5:wr.cell? ⟨w.heap.size,5,none⟩=some (.slice ao n c):=(HBx.out.kept HR.out (by simp)).cell 5 rfl;by_cases hlt:i < n
  ·have hlt':(i:Int) < n:=by omega
   have hic:i≤c:=by omega
   have hiK:i < K.length:=by rw [HL.out];exact hlt
   obtain ⟨g,o,rfl,hx⟩:=HK.out.2.2.2.1 i hiK;obtain ⟨mo,mm,mc,e1,hs1,_⟩:=HK.out.2.2.2.2 _ (List.getElem_mem hiK);obtain ⟨_,_,x2,x3⟩:=hx.kept HR.out (by simp);rw [e1] at x3;have cS:=fun W2 (hk:ab [] wr W2)=>nV W2 ⟨⟨0,[],0,0,0,K[i].1.n,K[i].1.c,[],0,0,0⟩,mo,mm,mc⟩ ((hs1.kept HR.out (by simp)).kept hk (by simp));generalize K[i].1=y at *;clear hx hs1 e1;go_wp2_with fail
   go_region_held3 (fun w'=>w'.cell? ⟨w.heap.size,5,none⟩=some (.slice (some ⟨g,o,none⟩) n c)∧w'.cell? ⟨g,o+i*4+2,none⟩=some (.string (ac y.n))∧w'.cell? ⟨g,o+i*4+3,none⟩=some (.slice mo mm mc))
    (first | go_keep | exact ⟨hK3.cell c5 (by simp),hK3.cell x2 (by simp),hK3.cell x3 (by simp)⟩)
    (first
      | (go_at_call 66;refine (cS _ ?_).mono ?_;exact (ab.refl [] _).drew;rintro e w3 ⟨b3,rfl,hb3,hK3⟩;clear hb3;replace hK3:=(ab.refl [] wr).drew.trans hK3 (by simp)))
   cases b3
   ·have HW3:Hid (ab [] w w3):=(HK0.out.trans HR.out (by simp)).trans hK3 (by simp);clear cS hK3;(go_wp2_with fail);go_ret
    exact ⟨false,rfl,HW3.out⟩
   ·have HW3:Hid (ab [] W w3):=HR.out.trans hK3 (by simp);clear cS hK3;(go_wp2_with fail);go_roundw
    case rel=>exact ⟨i+1,by go_num,by omega,HW3⟩
    case measure=>simp [intOf];omega
  ·have hlt':¬ (i:Int) < n:=by omega
   (go_wp2_with fail);go_ret
   exact ⟨true,rfl,HK0.out.trans HR.out (by simp)⟩
def ry (l:List Int):List Int:=l++dA 4 (dB l)
theorem bh.app {l m:List Int}(h:bh l) (k:bh m):bh (l++m):=by
 intro x hx;rcases List.mem_append.1 hx with h1 | h1
 ·exact h x h1
 ·exact k x h1
theorem lq {l:List Int}(h:bh l):bh (ry l):=bh.app h (fK _ _)
theorem oh (l:List Int):dE l=ry (dA 4 l.length)++ry l:=rfl
theorem mQ {l:List Int}(h:bh l):bh (dE l):=by
 rw [oh];exact bh.app (lq (fK _ _)) (lq h)
def mN:Mm:={ fB with k:=5,f:=1,t:=2,b:=300 }
theorem xQ (w:World) (k f t b s m n:Int):bH w { fB with k:=k,f:=f,t:=t,b:=b,s:=s,m:=m,n:=n } :=
 ⟨(lj w).x,(lj w).v,(lj w).i,(lj w).o,(lj w).r,(lj w).u,(lj w).uv,(lj w).ur⟩
theorem sv:(fp mN.ms).2=0∧(fp mN.ms).1.length=17∧(((fp mN.ms).1.take 13).drop 8)=[5,1,2,172,2]∧kI (fp mN.ms).1=(mN.ms,0):=by decide +kernel
theorem qP (x:Ms) (h:uZ x):bh (fp x).1:=by
 unfold fp;split
 ·split
  ·exact mQ (oj (fA ((fC h).1 (by assumption))))
  ·exact bs
 ·exact bs
theorem oD (w:World):Calls Tryz.prog 9 #[] w fun r w'=>r=.returned (.bool true)∧ab [] w w':=by
 have cE:=kY w mN (xQ w 5 1 2 300 0 0 0);have HO:=aa (qP mN.ms (xQ w 5 1 2 300 0 0 0).ms);obtain ⟨h1,h2,h3,h4⟩:=sv;generalize fp mN.ms=q at *;obtain ⟨B,e⟩:=q;simp only at h1 h2 h3 h4 HO;subst h1;have HB:=aa h2;have HC:=aa h3;have HD:=aa h4;have HE:Hid (Calls Tryz.prog 10 #[.agg (aJ mN).toArray] w (iK w (B,0))):=cE;clear h2 h3 h4 cE;unfold mN fB je eq aJ at HE;go_enter Tryz.func9,Tryz.ntmps9;go_wp2_with fail
 refine HE.out.mono ?_;clear HE;rintro _ w1 ⟨a1,c1,rfl,hS1,hb1,hk1⟩;have hS1':Sl w1 a1 17 c1 B:=by rw [← HB.out];exact hS1
 obtain ⟨b1,o1,rfl,_⟩:=hS1'.some (by decide);rw [show (B,(0:Int)).1.length=17 from HB.out];have HS1:=aa hS1';have HK1:=aa hk1;have hc1:17≤c1:=hS1'.2.1;have hc13:(13:Int)≤(c1:Int):=by omega
 have hc8:¬ c1=8:=by omega
 clear hS1 hS1' hb1 hk1;have cD:=aa (qm w1 _ _ c1 B HS1.out (by omega) HO.out);rw [HD.out] at cD;go_wp2_with fail
 refine cD.out.mono ?_;clear cD;rintro _ w2 ⟨y,rfl,hy,hm,hk2⟩;have HS2:=aa (Sl.kept hk2 HS1.out (by simp));have HK2:=aa (HK1.out.trans hk2 (by simp));have hyb:y.b=300:=congrArg Ms.b hy;have HYB:=aa hyb;clear hy hm hk2 hyb;have HBy:Hid (Bx (w2.alloc (.cells cY.toArray 36)) w2.heap.size 36 cY):=Bx.new w2 _ _;have HKy:Hid (ab [] w2 (w2.alloc (.cells cY.toArray 36))):=cJ w2 _ cY;have HTY:Hid (av Tryz.prog 36 (aJ y).length):=dm;have HOY:=aa (fT y);have HLY:Hid ((aJ y).length=cY.length):=rfl;unfold cY at HBy HKy;go_upto_region 3 with ((refine ae HBy.out ?_ HOY.out HTY.out ?_ ?_ ?_);exact HLY.out;rfl;rfl;intro w3 HB3 HK3)
 have d3:=HB3.out.cell 3 rfl;rw [HYB.out] at d3;have HKW:=aa (HK2.out.trans (HKy.out.trans HK3.out (S:=[]) (by simp)) (by simp));have HS3:=aa (Sl.kept (HKy.out.trans HK3.out (S:=[]) (by simp)) HS2.out (by simp));go_wp2_with fail
 obtain ⟨w4,hw4⟩:∃ w4,w4=w3.alloc (.cells #[.int .u8 5,.int .u8 1,.int .u8 2,.int .u8 172,.int .u8 2] 5):=⟨_,rfl⟩;have k4:ab [] w3 w4:=by rw [hw4];exact (ab.refl _ _).alloc _
 have h6:Sl w4 (some ⟨w3.heap.size,0,none⟩) 5 5 [5,1,2,172,2]:=by rw [hw4];exact Sl.lit rfl rfl (by decide)
 have h5:Sl w4 (some ⟨b1,o1+8,none⟩) 5 (c1 - 8) ((B.take 13).drop 8):=by
  have h:=((Sl.kept k4 HS3.out (by simp)).take (show 13≤17 by decide)).drop (show 8≤13 by decide);rw [Option.map_some,gv] at h;exact h
 have cS:=fQ w4 _ _ _ _ _ _ _ _ h5 h6;rw [HC.out,decide_eq_true rfl] at cS;rw [← hw4];have d4:=k4.cell d3 (by simp);have HK4:=aa (HKW.out.trans k4 (by simp));have HSC:=aa cS;clear hw4 k4 h5 h6 cS d3;refine HSC.out.mono ?_;clear HSC;rintro _ w5 ⟨rfl,hk5⟩;have d5:=hk5.cell d4 (by simp);have HK5:=aa (HK4.out.trans hk5 (by simp));clear hk5 d4;go_wp2_with fail
 go_ret
 exact ⟨rfl,HK5.out⟩
def xV (n:Nat) (iv:Value):Prop:=∃ i:Nat,iv=.int .i64 (i:Int)∧i≤n
theorem vg {w:World}{x:Vt}{u:Value}(h:bX [] w x u):ku w u x.k:=by
 obtain ⟨uo,un,uc,KK,e,hK,hm⟩:=h.u;exact ⟨uo,un,uc,KK,e,hK.sl,hm,hK.2.2.2.1⟩
theorem mY (w:World) (y:Mm) (hy:bH w y):Calls Tryz.prog 13 #[.agg (aJ y).toArray] w (xl w):=by
 obtain ⟨W,hW⟩:∃ W,W=w.alloc (.cells (aJ y).toArray 36):=⟨_,rfl⟩;have hK:ab [] w W:=by rw [hW];exact (ab.refl _ _).alloc _
 have HK:=aa hK;have HB:Hid (Bx W w.heap.size 36 (aJ y)):=by rw [hW];exact Bx.new w _ _
 have HY:=aa (hy.kept hK);have HR1:=aa HB.out.msr;have HTV:Hid (av Tryz.prog 34 (ak y.r (.slice y.uo y.un y.uc)).length):=am;have cV:Hid (Calls Tryz.prog 25 #[.agg (ak y.r (.slice y.uo y.un y.uc)).toArray] W (xl W)):=nJ W y.r _ (vg HY.out.r);have c12:=HB.out.cell 12 rfl;have c17:=HB.out.cell 17 rfl;have c18:=HB.out.cell 18 rfl;have hmx:=HY.out.v.mx;have hle:=HY.out.v.le;unfold maxLen at hmx;unfold aJ at hW;have HW:=aa hW;clear hW hK hy;obtain ⟨ao,hao⟩:∃ ao,ao=y.vo:=⟨_,rfl⟩;have HV:Hid (ob W ao y.D.length y.vc y.D):=by rw [hao];exact HY.out.v
 rw [← hao] at c17;have HNO:Hid (∀ b wr,ab [] w wr→xl w (.returned (.bool b)) wr):=fun b wr h=>⟨b,rfl,h⟩;clear hao;unfold aJ;by_cases h1:200 < y.D.length
 ·have h1':(200:Int) < y.D.length:=by omega
  go_enter Tryz.func13,Tryz.ntmps13;go_upto_region 1 with fail
  rw [← HW.out];(go_wp2_with fail);go_ret
  exact HNO.out _ _ HK.out
 have h1':¬ (200:Int) < y.D.length:=by omega
 by_cases h2:5000 < y.i.length
 ·have h2':(5000:Int) < y.i.length:=by omega
  go_enter Tryz.func13,Tryz.ntmps13;go_upto_region 1 with fail
  rw [← HW.out];(go_wp2_with fail);go_ret
  exact HNO.out _ _ HK.out
 have h2':¬ (5000:Int) < y.i.length:=by omega
 by_cases h3:200 < y.x.m
 ·have h3':(200:Int) < y.x.m:=by omega
  go_enter Tryz.func13,Tryz.ntmps13;go_upto_region 1 with fail
  rw [← HW.out];(go_wp2_with fail);go_ret
  exact HNO.out _ _ HK.out
 have h3':¬ (200:Int) < y.x.m:=by omega
 go_enter Tryz.func13,Tryz.ntmps13;go_upto_region 1 with fail
 rw [← HW.out];go_wp2_with ((with_reducible refine az HR1.out HTV.out ?_ ?_ ?_);rfl;rfl)
 refine cV.out.mono ?_;clear cV;rintro _ w2 ⟨bb,rfl,hk2⟩;have HK2:=aa (HK.out.trans hk2 (by simp));have HC:=aa (hk2.cell c17 (by simp));have HV2:=aa (HV.out.kept hk2);clear hk2 c12 c17 c18;cases bb
 ·(go_wp2_with fail);go_ret
  exact HNO.out _ _ HK2.out
 ·have c17:=HC.out;(go_wp2_with fail);go_loop [3] (fun iv=>xV y.D.length iv) (fun iv=>y.D.length - (intOf iv).toNat)
  case atStart=>exact ⟨0,rfl,Nat.zero_le _⟩
  case round =>
   obtain ⟨i,rfl,hi⟩:=hrel;by_cases hlt:i < y.D.length
   ·have hlt':(i:Int) < y.D.length:=by omega
    have hic:i≤y.vc:=by omega
    obtain ⟨b0,o0,hao,hel⟩:=HV2.out.e i hlt;generalize y.D[i]=v at hel;have c8:=hel 8 (.slice v.x.mo v.x.m v.x.mc) rfl;rw [hao] at c17;clear hel hao;by_cases h4:200 < v.x.m
    ·have h4':(200:Int) < v.x.m:=by omega
     (go_wp2_with fail);go_ret
     exact HNO.out _ _ HK2.out
    ·have h4':¬ (200:Int) < v.x.m:=by omega
     (go_wp2_with fail);go_round
     case rel=>exact ⟨i+1,by go_num,by omega⟩
     case measure=>simp [intOf];omega
   ·have hlt':¬ (i:Int) < y.D.length:=by omega
    (go_wp2_with fail);go_ret
    exact HNO.out _ _ HK2.out
theorem wn {f:FuncId}{a:Array Value}{w:World}{b c:Bool}(h:Calls Tryz.prog f a w fun e w'=>e=.returned (.bool b)∧ab [] w w') (e:b=c):Calls Tryz.prog f a w fun e w'=>e=.returned (.bool c)∧ab [] w w':=e ▸ h
theorem vm (b:Bool):xT b=cb b:=by cases b <;> rfl
theorem q3 (w:World) (y:Mm) (hy:bH w y):Calls Tryz.prog 4 #[.agg (aJ y).toArray] w fun r w'=>r=.returned (.bool true)∧ab [] w w':=by
 obtain ⟨W,hW⟩:∃ W,W=w.alloc (.cells (aJ y).toArray 36):=⟨_,rfl⟩;have hK:ab [] w W:=by rw [hW];exact (ab.refl _ _).alloc _
 have HK:=aa hK;have HB:Hid (Bx W w.heap.size 36 (aJ y)):=by rw [hW];exact Bx.new w _ _
 have HT:Hid (av Tryz.prog 36 (aJ y).length):=dm;have HY:=aa (hy.kept hK);have cA:=aa (oD W);unfold aJ at hW;have HW:=aa hW;clear hW hK hy;unfold aJ;go_enter Tryz.func4,Tryz.ntmps4;go_upto_region 1 with fail
 rw [← HW.out];go_upto_region 3 with (go_at_call 9;refine cA.out.mono ?_;rintro _ w1 ⟨rfl,hk1⟩;have HK1:=aa (HK.out.trans hk1 (by simp));have HB1:=aa (HB.out.kept hk1 (by simp));have HY1:=aa (HY.out.kept hk1);clear hk1)
 clear cA;have cS:=aa (mY w1 y HY1.out);go_upto_region 5 with (first | ((with_reducible refine ai HB1.out HT.out ?_ ?_);rfl) | (go_at_call 13;refine cS.out.mono ?_;clear cS;rintro _ w2 ⟨bb,rfl,hk2⟩;have HK2:=aa (HK1.out.trans hk2 (by simp));have HB2:=aa (HB1.out.kept hk2 (by simp));have HY2:=aa (HY1.out.kept hk2);clear hk2;cases bb))
 ·go_ret
  exact ⟨rfl,HK2.out⟩
 have cE:=kY w2 y HY2.out;have cD:∀ W2,ab [] w2 W2→Calls Tryz.prog 14 #[.agg (aJ y).toArray] W2 (u7 W2 (fp y.ms)):=fun W2 k=>oQ W2 y (HY2.out.kept k)
 have cCE:∀ W2,ab [] w2 W2→Calls Tryz.prog 16 #[.agg (aJ y).toArray] W2 fun r w'=>r=.returned (.int .i64 (cb (bE y.ms)))∧ab [] W2 w':=fun W2 k=>by
  have h:=ik W2 y (HY2.out.kept k);rw [lu (HY2.out.kept k),vm] at h;exact h
 have cCD:∀ W2,ab [] w2 W2→Calls Tryz.prog 17 #[.agg (aJ y).toArray] W2 fun r w'=>r=.returned (.int .i64 (cb (bE y.ms)))∧ab [] W2 w':=fun W2 k=>jN W2 y (HY2.out.kept k);generalize fp y.ms=q at cE cD;generalize cb (bE y.ms)=u at cCE cCD;obtain ⟨l,e⟩:=q;have HE:=aa cE;have HD:=aa cD;have HCE:=aa cCE;have HCD:=aa cCD;clear cE cD cCE cCD;go_upto_region 7 with (first | ((with_reducible refine ai HB2.out HT.out ?_ ?_);rfl) | ((with_reducible refine ai (HB2.out.kept HK3.out (by simp)) HT.out ?_ ?_);rfl) | (go_at_call 10;refine HE.out.mono ?_;clear HE;rintro _ w3 ⟨a3,c3,rfl,hS3,hb3,hk3⟩;have HK3:=aa hk3;have HS3:=aa hS3;clear hS3 hb3 hk3) | (go_at_call 14;refine (HD.out _ HK3.out).mono ?_;clear HD;rintro _ w4 ⟨a4,n4,c4,rfl,hS4,hb4,hk4⟩;have HK4:=aa (HK3.out.trans hk4 (by simp));have HS4:=aa hS4;have HS34:=aa (Sl.kept hk4 HS3.out (by simp));clear hS4 hb4 hk4))
 have HY0:=aa (HK4.out.trans (ab.refl [] _).drew (by simp));refine wp_region_held_drew (S:=fun w9=>Bx w9 w.heap.size 36 (aJ y)) (by kernel_rfl) (HB2.out.kept HY0.out (by simp)) (fun hHeld=>?_);refine aq [0,1,2,3,4,5] (by rfl) (by kernel_rfl) (fun _ _ _ _ _ h=>h) hHeld ?_
 iterate 6
  refine yk ?_ rfl (Or.inl ⟨by rfl,?_⟩) ?_;rotate_left
  ·intro w9 hSw;go_simp;(try with_reducible rfl)
  try simp only [sT,Act.put]
 refine ap ?_;simp only [ah,sT];refine bW 6 (by kernel_rfl) rfl (fun K0 hK0=>?_);go_simp;refine (wn (fQ _ a3 a4 _ c3 n4 c4 _ _ (Sl.kept (ab.refl [] _).drew HS34.out (by simp)) (Sl.kept (ab.refl [] _).drew HS4.out (by simp))) (decide_eq_true rfl)).mono ?_;rintro _ y1 ⟨rfl,hk1⟩;have HY1:=aa (HY0.out.trans hk1 (by simp));clear hk1;go_wp2_with fail
 refine hK0.out _ _ (HB2.out.kept HY1.out (by simp)) (fun hHeld=>?_);clear hK0 K0;try simp only [sT,Act.put]
 refine aq [7,8] (by rfl) (by kernel_rfl) (fun _ _ _ _ _ h=>h) hHeld ?_
 iterate 2
  refine yk ?_ rfl (Or.inl ⟨by rfl,?_⟩) ?_;rotate_left
  ·intro w9 hSw;go_simp;(try with_reducible rfl)
  try simp only [sT,Act.put]
 refine ap ?_;simp only [ah,sT];refine wpAnyH_take (i:=9) (v:=.agg (aJ y).toArray) rfl (by kernel_rfl) (by kernel_rfl) (by kernel_rfl) (fun _ _ _ h=>h) (yieldsIf_load_mid (by rfl) _ _ rfl w.heap.size 0 rfl (aJ y) _ (fun w9 hSw=>hSw.range) Tryz.underlying36 rfl df) hHeld ?_;try simp only [sT,Act.put]
 refine wpAnyH_take (i:=11) (v:=.agg (aJ y).toArray) rfl (by kernel_rfl) (by kernel_rfl) (by kernel_rfl) (fun _ _ _ h=>h) (yieldsIf_load_mid (by rfl) _ _ rfl w.heap.size 0 rfl (aJ y) _ (fun w9 hSw=>hSw.range) Tryz.underlying36 rfl df) hHeld ?_;try simp only [sT,Act.put]
 refine bW 10 (by kernel_rfl) rfl (fun K0 hK0=>?_);go_simp;refine (HCE.out _ HY1.out).mono ?_;rintro _ y2 ⟨rfl,hk2⟩;have HY2:=aa (HY1.out.trans hk2 (by simp));clear hk2;go_wp2_with fail
 refine hK0.out _ _ (HB2.out.kept HY2.out (by simp)) (fun hHeld=>?_);clear hK0 K0;try simp only [sT,Act.put]
 refine bW 12 (by kernel_rfl) rfl (fun K0 hK0=>?_);go_simp;refine (HCD.out _ HY2.out).mono ?_;rintro _ y3 ⟨rfl,hk3⟩;have HY3:=aa (HY2.out.trans hk3 (by simp));clear hk3;go_wp2_with fail
 refine hK0.out _ _ (HB2.out.kept HY3.out (by simp)) (fun hHeld=>?_);clear hK0 K0;try simp only [sT,Act.put]
 refine aq [13,14,15] (by rfl) (by kernel_rfl) (fun _ _ _ _ _ h=>h) hHeld ?_
 iterate 3
  refine yk ?_ rfl (Or.inl ⟨by rfl,?_⟩) ?_;rotate_left
  ·intro w9 hSw;go_simp;(try with_reducible rfl)
  try simp only [sT,Act.put]
 refine ap ?_;simp only [ah,sT];try simp only [sT,Act.put]
 refine wpAnyH_done (by kernel_rfl) ?_ _;clear hHeld;go_wp2_with fail
 go_ret
 exact ⟨rfl,HK2.out.trans HY3.out (by simp)⟩
end Go.Proofs.YtakafmejllilnaaGreat
