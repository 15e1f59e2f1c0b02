/-
  Texts laid as one.
-/
import Derived.Test.YtakafmejllilnaaGreatW1r
import Derived.Test.YtakafmejllilnaaGreatW3r
import Derived.Test.YtakafmejllilnaaGreatF14r
import Derived.Test.YtakafmejllilnaaGreatW0r
import Derived.Deep.RegionHeld3
import Derived.Test.YtakafmejllilnaaGreatW7r
set_option maxHeartbeats 8000000
set_option maxRecDepth 100000
set_option linter.unusedSimpArgs false
/-
 The document's own Same: two messages that are the same.
-/
namespace Go.Proofs.YtakafmejllilnaaGreat
open Go.RowKit
theorem oa {a b:Int}(h:a=b):(a != b)=false:=by rw [h];simp
theorem xJ {a b:Int}(h:a=b):(a==b)=true:=by rw [h];simp
theorem jh {w:World}{x:Vt}{u:Value}(h:eb [] w x u):nH w u x.k:=by
 obtain ⟨uo,un,uc,KK,e,hK,hm⟩:=h.u;exact ⟨uo,un,uc,KK,e,hK.sl,hm,hK.2.2.2.1⟩
theorem lg (w:World) (y z:Vm) (hy:dS [] w y.x) (hz:dS [] w z.x) (h:y.v=z.v):Calls Tryz.prog 51 #[.agg (cq y).toArray,.agg (cq z).toArray] w fun r w'=>r=.returned (.bool true)∧ab [] w w':=by
 have h1:y.s=z.s:=congrArg Vo.s h;have h2:y.b=z.b:=congrArg Vo.b h;have h3:y.x.r=z.x.r:=congrArg Vo.v h;have e1:=xJ h1;have e2:=xJ h2;obtain ⟨W,hW⟩:∃ W,W=(w.alloc (.cells (cq y).toArray 55)).alloc (.cells (cq z).toArray 55):=⟨_,rfl⟩;have k1:=ct w 55 (cq y);have k2:=ct (w.alloc (.cells (cq y).toArray 55)) 55 (cq z);have hB1:Bx W w.heap.size 55 (cq y):=by rw [hW];exact (Bx.new w _ _).kept k2 (by simp)
 have hB2:Bx W (w.heap.size+1) 55 (cq z):=by rw [hW];have h:=Bx.new (w.alloc (.cells (cq y).toArray 55)) 55 (cq z);simpa using h
 have HK:Hid (ab [] w W):=by rw [hW];exact k1.trans k2 (by simp)
 have c0:=hB1.cell 0 rfl;have c1:=hB1.cell 1 rfl;have d0:=hB2.cell 0 rfl;have d1:=hB2.cell 1 rfl;have HX1:=aa hB1.vox;have HX2:=aa hB2.vox;have HT1:Hid (aq Tryz.prog 29 (bp y.x).length):=ar;have HT2:Hid (aq Tryz.prog 29 (bp z.x).length):=ar;have cS:Calls Tryz.prog 49 #[.agg (bp y.x).toArray,.agg (bp z.x).toArray] W fun e w'=>e=.returned (.bool (decide (y.x.r=z.x.r)))∧ab [] W w':=fa W y.x.r z.x.r _ _ _ _ _ _ (hy.kept HK.out).s (hz.kept HK.out).s;rw [decide_eq_true h3] at cS;have HS:=aa cS;unfold cq at hW;have HW:=aa hW;clear hW k1 k2 hB1 hB2 cS h1 h2 h3 hy hz h;unfold cq;go_enter Tryz.func51,Tryz.ntmps51;go_upto_region 1 with fail
 rw [← HW.out];go_wp2_with (first | ((with_reducible refine aC HX1.out HT1.out ?_ ?_ ?_);rfl;rfl) | ((with_reducible refine aC HX2.out HT2.out ?_ ?_ ?_);rfl;rfl) | (go_at_call 49;refine HS.out.mono ?_;rintro _ w2 ⟨rfl,hk2⟩;have HK2:=aa (HK.out.trans hk2 (by simp));clear hk2))
 go_ret
 exact ⟨rfl,HK2.out⟩
def ye (W:World) (n:Nat) (jv:Value) (wr:World):Prop:=∃ j:Nat,jv=.int .i64 (j:Int)∧j≤n∧Hid (ab [] W wr)
theorem kF:(Tryz.prog.info? 55).map (·.size)=some 13:=by kernel_rfl
theorem ke (w:World) (y z:Mm) (hy:cb w y) (hz:cb w z) (h:y.ms=z.ms):Calls Tryz.prog 19 #[.agg (aX y).toArray,.agg (aX z).toArray] w fun r w'=>r=.returned (.bool true)∧ab [] w w':=by
 have e1:=oa (show y.k=z.k from congrArg Ms.k h);have e2:=oa (show y.f=z.f from congrArg Ms.f h);have e3:=oa (show y.t=z.t from congrArg Ms.t h);have e4:=oa (show y.b=z.b from congrArg Ms.b h);have e5:=oa (show y.s=z.s from congrArg Ms.s h);have e6:=oa (show y.m=z.m from congrArg Ms.m h);have e7:=oa (show y.n=z.n from congrArg Ms.n h);have hl:y.D.map Vm.v=z.D.map Vm.v:=congrArg Ms.l h;have hlen:y.D.length=z.D.length:=by have:=congrArg List.length hl;simpa using this
 have e8:=oa (show (y.D.length:Int)=z.D.length by omega);have hx:y.x.r=z.x.r:=congrArg Ms.v h;have hi:y.i=z.i:=congrArg Ms.i h;have hr:y.r=z.r:=congrArg Ms.r h;obtain ⟨W,hW⟩:∃ W,W=(w.alloc (.cells (aX y).toArray 36)).alloc (.cells (aX z).toArray 36):=⟨_,rfl⟩;have k1:=ct w 36 (aX y);have k2:=ct (w.alloc (.cells (aX y).toArray 36)) 36 (aX z);have hB1:Bx W w.heap.size 36 (aX y):=by rw [hW];exact (Bx.new w _ _).kept k2 (by simp)
 have hB2:Bx W (w.heap.size+1) 36 (aX z):=by rw [hW];have h:=Bx.new (w.alloc (.cells (aX y).toArray 36)) 36 (aX z);simpa using h
 have hK:ab [] w W:=by rw [hW];exact k1.trans k2 (by simp)
 have HK:=aa hK;have HB1:=aa hB1;have HB2:=aa hB2;have HX1:=aa hB1.msx;have HX2:=aa hB2.msx;have HT1:Hid (aq Tryz.prog 29 (bp y.x).length):=ar;have HT2:Hid (aq Tryz.prog 29 (bp z.x).length):=ar;have HV1:Hid (aq Tryz.prog 34 (au y.r (.slice y.uo y.un y.uc)).length):=am;have HV2:Hid (aq Tryz.prog 34 (au z.r (.slice z.uo z.un z.uc)).length):=am;have HY:=aa (hy.kept hK);have HZ:=aa (hz.kept hK);have cS:Calls Tryz.prog 49 #[.agg (bp y.x).toArray,.agg (bp z.x).toArray] W fun e w'=>e=.returned (.bool (decide (y.x.r=z.x.r)))∧ab [] W w':=fa W y.x.r z.x.r _ _ _ _ _ _ HY.out.x.s HZ.out.x.s;rw [decide_eq_true hx] at cS;have HS:=aa cS;have HR:=aa hr;have HI:=aa hi;have HL:=aa hl;have HLEN:=aa hlen;have c0:=hB1.cell 0 rfl;have c1:=hB1.cell 1 rfl;have c2:=hB1.cell 2 rfl;have c3:=hB1.cell 3 rfl;have c4:=hB1.cell 4 rfl;have c5:=hB1.cell 5 rfl;have c19:=hB1.cell 19 rfl;have c17:=hB1.cell 17 rfl;have d0:=hB2.cell 0 rfl;have d1:=hB2.cell 1 rfl;have d2:=hB2.cell 2 rfl;have d3:=hB2.cell 3 rfl;have d4:=hB2.cell 4 rfl;have d5:=hB2.cell 5 rfl;have d19:=hB2.cell 19 rfl;have d17:=hB2.cell 17 rfl;unfold aX at hW;have HW:=aa hW;clear hW k1 k2 hB1 hB2 cS hx hi hr hl hlen hy hz h hK;unfold aX;go_enter Tryz.func19,Tryz.ntmps19;go_upto_region 1 with fail
 rw [← HW.out];go_upto_region 3 with fail
 clear c0 c1 c2 c3 c4 c5 c19 d0 d1 d2 d3 d4 d5 d19 e1 e2 e3 e4 e5 e6 e7 e8;go_wp2_with (first | ((with_reducible refine bf HX1.out HT1.out ?_ ?_);rfl) | ((with_reducible refine bf HX2.out HT2.out ?_ ?_);rfl))
 refine HS.out.mono ?_;clear HS;rintro _ w2 ⟨rfl,hk2⟩;have HK2:=aa (HK.out.trans hk2 (by simp));have hY2:=HB1.out.kept hk2 (by simp);have hZ2:=HB2.out.kept hk2 (by simp);have HB12:=aa hY2;have HB22:=aa hZ2;have HR1:=aa hY2.msr;have HR2:=aa hZ2.msr;have HY2:=aa (HY.out.kept hk2);have HZ2:=aa (HZ.out.kept hk2);have cV:Calls Tryz.prog 50 #[.agg (au y.r (.slice y.uo y.un y.uc)).toArray,.agg (au z.r (.slice z.uo z.un z.uc)).toArray] w2 fun e w'=>e=.returned (.bool (decide (y.r=z.r)))∧ab [] w2 w':=fZ w2 y.r z.r _ _ (jh HY2.out.r) (jh HZ2.out.r);rw [decide_eq_true HR.out] at cV;have HV:=aa cV;have d18:=hY2.cell 18 rfl;have g18:=hZ2.cell 18 rfl;clear cV hk2 hY2 hZ2 c17 d17;go_wp2_with (first | ((with_reducible refine aC HR1.out HV1.out ?_ ?_ ?_);rfl;rfl) | ((with_reducible refine aC HR2.out HV2.out ?_ ?_ ?_);rfl;rfl))
 refine HV.out.mono ?_;clear HV;rintro _ w3 ⟨rfl,hk3⟩;have HK3:=aa (HK2.out.trans hk3 (by simp));have hY3:=HB12.out.kept hk3 (by simp);have hZ3:=HB22.out.kept hk3 (by simp);have HY3:=aa (HY2.out.kept hk3);have HZ3:=aa (HZ2.out.kept hk3);have cB:=iA w3 y.io z.io _ y.ic _ z.ic y.i z.i HY3.out.i HZ3.out.i;rw [decide_eq_true HI.out] at cB;have HBs:=aa cB;have d18:=hY3.cell 18 rfl;have g18:=hZ3.cell 18 rfl;have HB13:=aa hY3;have HB23:=aa hZ3;clear cB hk3 hY3 hZ3;go_wp2_with fail
 refine HBs.out.mono ?_;clear HBs;rintro _ w4 ⟨rfl,hk4⟩;have HK4:=aa (HK3.out.trans hk4 (by simp));have HB14:=aa (HB13.out.kept hk4 (by simp));have HB24:=aa (HB23.out.kept hk4 (by simp));have HY4:=aa (HY3.out.kept hk4);have HZ4:=aa (HZ3.out.kept hk4);have hmx:=HY4.out.v.mx;have hle:=HY4.out.v.le;unfold maxLen at hmx;have hle2:=HZ4.out.v.le;clear hk4 d18 g18;obtain ⟨ao,hao⟩:∃ ao,ao=y.vo:=⟨_,rfl⟩;obtain ⟨bo,hbo⟩:∃ bo,bo=z.vo:=⟨_,rfl⟩;have HVY:Hid (p2 w4 ao y.D.length y.vc y.D):=by rw [hao];exact HY4.out.v
 have HVZ:Hid (p2 w4 bo z.D.length z.vc z.D):=by rw [hbo];exact HZ4.out.v
 have HC1:Hid (w4.cell? ⟨w.heap.size,17,none⟩=some (.slice ao y.D.length y.vc)):=by rw [hao];exact HB14.out.cell 17 rfl
 have HC2:Hid (w4.cell? ⟨w.heap.size+1,17,none⟩=some (.slice bo z.D.length z.vc)):=by rw [hbo];exact HB24.out.cell 17 rfl
 clear hao hbo;go_wp2_with fail
 go_loopw [5] (fun jv wr=>ye w4 y.D.length jv wr) (fun jv _=>y.D.length - (intOf jv).toNat)
 case atStart=>exact ⟨0,rfl,Nat.zero_le _,ab.refl _ _⟩
 case round =>
  obtain ⟨i,rfl,hi,HKi⟩:=hrel;have c17:=HKi.out.cell HC1.out (by simp);have d17:=HKi.out.cell HC2.out (by simp);by_cases hlt:i < y.D.length
  rotate_left
  ·have hlt':¬ (i:Int) < y.D.length:=by omega
   (go_wp2_with fail);go_ret
   exact ⟨rfl,HK4.out.trans HKi.out (by simp)⟩
  ·have hlt':(i:Int) < y.D.length:=by omega
   have hltz:i < z.D.length:=by have:=HLEN.out;omega
   have hltz':(i:Int) < z.D.length:=by omega
   have hiy:i≤y.vc:=by omega
   have hiz:i≤z.vc:=by omega
   obtain ⟨b1,o1,h1,hel1⟩:=HVY.out.e i hlt;obtain ⟨b2,o2,h2,hel2⟩:=HVZ.out.e i hltz
   have hv:y.D[i].v=z.D[i].v:=by
    have h3:=HL.out;have h4:(y.D.map Vm.v)[i]?=(z.D.map Vm.v)[i]?:=by rw [h3]
    rw [List.getElem?_map,List.getElem?_map,List.getElem?_eq_getElem hlt,List.getElem?_eq_getElem hltz] at h4;simpa using h4
   have cV:=lg wr.drew y.D[i] z.D[i] ((HVY.out.x _ (List.getElem_mem hlt)).kept (HKi.out.trans (ab.refl [] wr).drew (by simp))) ((HVZ.out.x _ (List.getElem_mem hltz)).kept (HKi.out.trans (ab.refl [] wr).drew (by simp))) hv;have HV:=aa cV;have HE1:=aa (a8 hel1 HKi.out (by simp));have HE2:=aa (a8 hel2 HKi.out (by simp));generalize y.D[i]=v1 at HV HE1;generalize z.D[i]=v2 at HV HE2;subst h1;subst h2;clear hel1 hel2 hv cV;go_upto_region 8 with fail
   refine wp_region_held_drew (S:=fun w9=>w9.cell? ⟨w.heap.size,17,none⟩=some (.slice (some ⟨b1,o1,none⟩) y.D.length y.vc)∧w9.cell? ⟨w.heap.size+1,17,none⟩=some (.slice (some ⟨b2,o2,none⟩) z.D.length z.vc)∧w9.rangeAt b1 (o1+i*13) (cq v1)∧w9.rangeAt b2 (o2+i*13) (cq v2)) (by kernel_rfl) ⟨c17,d17,HE1.out,HE2.out⟩ (fun hHeld=>?_);refine ay [0,1,2,3] (by rfl) (by kernel_rfl) (fun _ _ _ _ _ h=>h) hHeld ?_
   iterate 4
    refine yk ?_ rfl (Or.inl ⟨by rfl,?_⟩) ?_;rotate_left
    ·intro w9 hSw;obtain ⟨m0,m1,_⟩:=hSw;go_simp;(try with_reducible rfl)
    try simp only [sT,Act.put]
   refine ax ?_;simp only [ai,sT];refine wpAnyH_take (i:=4) (v:=.agg (cq v1).toArray) rfl (by kernel_rfl) (by kernel_rfl) (by kernel_rfl) (fun _ _ _ h=>h) (yieldsIf_load_mid (by rfl) _ _ rfl b1 (o1+i*13) rfl (cq v1) _ (fun w9 hSw=>hSw.2.2.1) Tryz.underlying55 rfl kF) hHeld ?_;(try simp only [sT,Act.put]);refine ay [5,6,7,8] (by rfl) (by kernel_rfl) (fun _ _ _ _ _ h=>h) hHeld ?_
   iterate 4
    refine yk ?_ rfl (Or.inl ⟨by rfl,?_⟩) ?_;rotate_left
    ·intro w9 hSw;obtain ⟨m0,m1,_⟩:=hSw;go_simp;(try with_reducible rfl)
    try simp only [sT,Act.put]
   refine ax ?_;simp only [ai,sT];refine wpAnyH_take (i:=9) (v:=.agg (cq v2).toArray) rfl (by kernel_rfl) (by kernel_rfl) (by kernel_rfl) (fun _ _ _ h=>h) (yieldsIf_load_mid (by rfl) _ _ rfl b2 (o2+i*13) rfl (cq v2) _ (fun w9 hSw=>hSw.2.2.2) Tryz.underlying55 rfl kF) hHeld ?_;(try simp only [sT,Act.put]);refine cd 10 (by kernel_rfl) rfl (fun K0 hK0=>?_);go_simp;refine HV.out.mono ?_;rintro _ w5 ⟨rfl,hk5⟩;have HC5:=aa (And.intro (hk5.cell c17 (by simp)) (And.intro (hk5.cell d17 (by simp)) (And.intro (a8 (show wr.drew.rangeAt b1 (o1+i*13) (cq v1) from HE1.out) hk5 (by simp)) (a8 (show wr.drew.rangeAt b2 (o2+i*13) (cq v2) from HE2.out) hk5 (by simp)))));have HK5:=aa (HKi.out.trans ((ab.refl [] wr).drew.trans hk5 (by simp)) (by simp));clear hk5;(go_wp2_with fail);refine hK0.out _ _ HC5.out (fun hHeld=>?_);clear hK0 K0;(try simp only [sT,Act.put]);refine ay [11] (by rfl) (by kernel_rfl) (fun _ _ _ _ _ h=>h) hHeld ?_
   iterate 1
    refine yk ?_ rfl (Or.inl ⟨by rfl,?_⟩) ?_;rotate_left
    ·intro w9 hSw;obtain ⟨m0,m1,_⟩:=hSw;go_simp;(try with_reducible rfl)
    try simp only [sT,Act.put]
   refine ax ?_;simp only [ai,sT];refine wpAnyH_done (by kernel_rfl) ?_ _;clear hHeld;(go_wp2_with fail);go_roundw
   case rel=>exact ⟨i+1,by go_num,by omega,HK5⟩
   case measure=>simp [intOf];omega
theorem sA (w:World) (y z:Mm) (hy:cb w y) (hz:cb w z) (h:y.ms≠z.ms) (hv:y.D.length=z.D.length→y.D.map Vm.v=z.D.map Vm.v):Calls Tryz.prog 19 #[.agg (aX y).toArray,.agg (aX z).toArray] w fun r w'=>r=.returned (.bool false)∧ab [] w w':=by
 obtain ⟨W,hW⟩:∃ W,W=(w.alloc (.cells (aX y).toArray 36)).alloc (.cells (aX z).toArray 36):=⟨_,rfl⟩;have k1:=ct w 36 (aX y);have k2:=ct (w.alloc (.cells (aX y).toArray 36)) 36 (aX z);have hB1:Bx W w.heap.size 36 (aX y):=by rw [hW];exact (Bx.new w _ _).kept k2 (by simp)
 have hB2:Bx W (w.heap.size+1) 36 (aX z):=by rw [hW];have h:=Bx.new (w.alloc (.cells (aX y).toArray 36)) 36 (aX z);simpa using h
 have hK:ab [] w W:=by rw [hW];exact k1.trans k2 (by simp)
 have HK:=aa hK;have HB1:=aa hB1;have HB2:=aa hB2;have HX1:=aa hB1.msx;have HX2:=aa hB2.msx;have HT1:Hid (aq Tryz.prog 29 (bp y.x).length):=ar;have HT2:Hid (aq Tryz.prog 29 (bp z.x).length):=ar;have HV1:Hid (aq Tryz.prog 34 (au y.r (.slice y.uo y.un y.uc)).length):=am;have HV2:Hid (aq Tryz.prog 34 (au z.r (.slice z.uo z.un z.uc)).length):=am;have HY:=aa (hy.kept hK);have HZ:=aa (hz.kept hK);have cS:Calls Tryz.prog 49 #[.agg (bp y.x).toArray,.agg (bp z.x).toArray] W fun e w'=>e=.returned (.bool (decide (y.x.r=z.x.r)))∧ab [] W w':=fa W y.x.r z.x.r _ _ _ _ _ _ HY.out.x.s HZ.out.x.s;have HCS:=aa cS;have HM:=aa h;have HLV:=aa hv;have c0:=hB1.cell 0 rfl;have c1:=hB1.cell 1 rfl;have c2:=hB1.cell 2 rfl;have c3:=hB1.cell 3 rfl;have c4:=hB1.cell 4 rfl;have c5:=hB1.cell 5 rfl;have c19:=hB1.cell 19 rfl;have c17:=hB1.cell 17 rfl;have d0:=hB2.cell 0 rfl;have d1:=hB2.cell 1 rfl;have d2:=hB2.cell 2 rfl;have d3:=hB2.cell 3 rfl;have d4:=hB2.cell 4 rfl;have d5:=hB2.cell 5 rfl;have d19:=hB2.cell 19 rfl;have d17:=hB2.cell 17 rfl;unfold aX at hW;have HW:=aa hW;clear hW k1 k2 hB1 hB2 cS hy hz h hv hK;unfold aX;go_enter Tryz.func19,Tryz.ntmps19;go_upto_region 1 with fail
 rw [← HW.out];by_cases h1:y.k=z.k
 rotate_left
 ·have e1:(y.k != z.k)=true:=by simpa using h1
  clear h1;(go_wp2_with fail);go_ret
  exact ⟨rfl,HK.out⟩
 have e1:=oa h1;have H1:=aa h1;clear h1;by_cases h2:y.f=z.f
 rotate_left
 ·have e2:(y.f != z.f)=true:=by simpa using h2
  clear h2;(go_wp2_with fail);go_ret
  exact ⟨rfl,HK.out⟩
 have e2:=oa h2;have H2:=aa h2;clear h2;by_cases h3:y.t=z.t
 rotate_left
 ·have e3:(y.t != z.t)=true:=by simpa using h3
  clear h3;(go_wp2_with fail);go_ret
  exact ⟨rfl,HK.out⟩
 have e3:=oa h3;have H3:=aa h3;clear h3;by_cases h4:y.b=z.b
 rotate_left
 ·have e4:(y.b != z.b)=true:=by simpa using h4
  clear h4;(go_wp2_with fail);go_ret
  exact ⟨rfl,HK.out⟩
 have e4:=oa h4;have H4:=aa h4;clear h4;by_cases h5:y.s=z.s
 rotate_left
 ·have e5:(y.s != z.s)=true:=by simpa using h5
  clear h5;(go_wp2_with fail);go_ret
  exact ⟨rfl,HK.out⟩
 have e5:=oa h5;have H5:=aa h5;clear h5;by_cases h6:y.m=z.m
 rotate_left
 ·have e6:(y.m != z.m)=true:=by simpa using h6
  clear h6;(go_wp2_with fail);go_ret
  exact ⟨rfl,HK.out⟩
 have e6:=oa h6;have H6:=aa h6;clear h6;by_cases h7:y.n=z.n
 rotate_left
 ·have e7:(y.n != z.n)=true:=by simpa using h7
  clear h7;(go_wp2_with fail);go_ret
  exact ⟨rfl,HK.out⟩
 have e7:=oa h7;have H7:=aa h7;clear h7;by_cases h8:y.D.length=z.D.length
 rotate_left
 ·have e8:((y.D.length:Int) != z.D.length)=true:=by simp only [bne_iff_ne,ne_eq];omega
  clear h8;(go_wp2_with fail);go_ret
  exact ⟨rfl,HK.out⟩
 have e8:=oa (show (y.D.length:Int)=z.D.length by omega);have H8:=aa h8;clear h8;go_upto_region 3 with fail
 clear c0 c1 c2 c3 c4 c5 c19 d0 d1 d2 d3 d4 d5 d19 e1 e2 e3 e4 e5 e6 e7 e8;go_wp2_with (first | ((with_reducible refine bf HX1.out HT1.out ?_ ?_);rfl) | ((with_reducible refine bf HX2.out HT2.out ?_ ?_);rfl))
 by_cases hx:y.x.r=z.x.r
 rotate_left
 ·have cS:=HCS.out;rw [decide_eq_false hx] at cS;have HS:=aa cS;clear cS hx HCS;refine HS.out.mono ?_;clear HS;rintro _ w2 ⟨rfl,hk2⟩;have HK2:=aa (HK.out.trans hk2 (by simp));clear hk2;(go_wp2_with fail);go_ret
  exact ⟨rfl,HK2.out⟩
 have cS:=HCS.out;rw [decide_eq_true hx] at cS;have HS:=aa cS;have HX:=aa hx;clear cS hx HCS;refine HS.out.mono ?_;clear HS;rintro _ w2 ⟨rfl,hk2⟩;have HK2:=aa (HK.out.trans hk2 (by simp));have hY2:=HB1.out.kept hk2 (by simp);have hZ2:=HB2.out.kept hk2 (by simp);have HB12:=aa hY2;have HB22:=aa hZ2;have HR1:=aa hY2.msr;have HR2:=aa hZ2.msr;have HY2:=aa (HY.out.kept hk2);have HZ2:=aa (HZ.out.kept hk2);have cV:Calls Tryz.prog 50 #[.agg (au y.r (.slice y.uo y.un y.uc)).toArray,.agg (au z.r (.slice z.uo z.un z.uc)).toArray] w2 fun e w'=>e=.returned (.bool (decide (y.r=z.r)))∧ab [] w2 w':=fZ w2 y.r z.r _ _ (jh HY2.out.r) (jh HZ2.out.r);have HCV:=aa cV;have d18:=hY2.cell 18 rfl;have g18:=hZ2.cell 18 rfl;clear cV hk2 hY2 hZ2 c17 d17;go_wp2_with (first | ((with_reducible refine aC HR1.out HV1.out ?_ ?_ ?_);rfl;rfl) | ((with_reducible refine aC HR2.out HV2.out ?_ ?_ ?_);rfl;rfl))
 by_cases hr:y.r=z.r
 rotate_left
 ·have cV:=HCV.out;rw [decide_eq_false hr] at cV;have HV:=aa cV;clear cV hr HCV;refine HV.out.mono ?_;clear HV;rintro _ w3 ⟨rfl,hk3⟩;have HK3:=aa (HK2.out.trans hk3 (by simp));clear hk3;(go_wp2_with fail);go_ret
  exact ⟨rfl,HK3.out⟩
 have cV:=HCV.out;rw [decide_eq_true hr] at cV;have HV:=aa cV;have HR:=aa hr;clear cV hr HCV;refine HV.out.mono ?_;clear HV;rintro _ w3 ⟨rfl,hk3⟩;have HK3:=aa (HK2.out.trans hk3 (by simp));have hY3:=HB12.out.kept hk3 (by simp);have hZ3:=HB22.out.kept hk3 (by simp);have HY3:=aa (HY2.out.kept hk3);have HZ3:=aa (HZ2.out.kept hk3);have cB:=iA w3 y.io z.io _ y.ic _ z.ic y.i z.i HY3.out.i HZ3.out.i
 have hi:y.i≠z.i:=fun hi=>HM.out (re H1.out H2.out H3.out (fun g=>by
  cases g
  ·exact H4.out
  ·exact H5.out
  ·exact H6.out
  ·exact HX.out
  ·exact HLV.out H8.out
  ·exact hi
  ·exact H7.out
  ·exact HR.out))
 rw [decide_eq_false hi] at cB;have HBs:=aa cB;have d18:=hY3.cell 18 rfl;have g18:=hZ3.cell 18 rfl;have HB13:=aa hY3;have HB23:=aa hZ3;clear cB hk3 hY3 hZ3 hi;go_wp2_with fail
 refine HBs.out.mono ?_;clear HBs;rintro _ w4 ⟨rfl,hk4⟩;have HK4:=aa (HK3.out.trans hk4 (by simp));clear hk4;go_wp2_with fail
 go_ret
 exact ⟨rfl,HK4.out⟩
theorem fT (w:World) (y z:Mm) (hy:cb w y) (hz:cb w z) (hv:y.D.length=z.D.length→y.D.map Vm.v=z.D.map Vm.v):Calls Tryz.prog 19 #[.agg (aX y).toArray,.agg (aX z).toArray] w fun r w'=>r=.returned (.bool (decide (y.ms=z.ms)))∧ab [] w w':=by
 by_cases h:y.ms=z.ms
 ·rw [decide_eq_true h];exact ke w y z hy hz h
 ·rw [decide_eq_false h];exact sA w y z hy hz h hv
end Go.Proofs.YtakafmejllilnaaGreat
