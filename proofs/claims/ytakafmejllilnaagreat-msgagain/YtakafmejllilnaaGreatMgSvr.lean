/-
  The sieve's questions: numbers, addresses, values, votes.
-/
import Derived.Test.YtakafmejllilnaaGreatW1r
namespace Go.Proofs.YtakafmejllilnaaGreat
open Go.RowKit
theorem jG (w:World) (n:Int):Calls Tryz.prog 135 #[.int .i64 n] w fun r w'=>r=.returned (.bool (ah n))∧w=w':=by
 by_cases h0:0≤n
 ·have h0':decide (0≤n)=true:=decide_eq_true h0;by_cases h1:n≤1099511627776
  ·have hg:ah n=true:=(aZ n).2 ⟨h0,h1⟩;rw [hg];clear hg;go_enter Tryz.func135,Tryz.ntmps135;(go_wp2_with fail);go_ret
   exact ⟨rfl,rfl⟩
  ·have hg:ah n=false:=by rw [Bool.eq_false_iff];intro h;exact h1 ((aZ n).1 h).2
   rw [hg];clear hg;go_enter Tryz.func135,Tryz.ntmps135;(go_wp2_with fail);go_ret
   exact ⟨rfl,rfl⟩
 ·have hg:ah n=false:=by rw [Bool.eq_false_iff];intro h;exact h0 ((aZ n).1 h).1
  rw [hg];clear hg;go_enter Tryz.func135,Tryz.ntmps135;(go_wp2_with fail);go_ret
  exact ⟨rfl,rfl⟩
set_option linter.unusedSimpArgs false in
theorem mB (w:World) (n:Int):Calls Tryz.prog 33 #[.int .i64 n] w fun r w'=>r=.returned (.bool (aF n))∧w=w':=by
 have h:n < 0∨(0≤n∧n < 15)∨(15≤n∧n < 100)∨(100≤n∧n≤199)∨199 < n:=by omega
 rcases h with h | h | h | h | h
 ·have d0:decide (0≤n)=false:=by simp only [decide_eq_true_eq,decide_eq_false_iff_not];omega
  have d1:decide (n < 15)=true:=by simp only [decide_eq_true_eq,decide_eq_false_iff_not];omega
  have d2:decide (100≤n)=false:=by simp only [decide_eq_true_eq,decide_eq_false_iff_not];omega
  have d3:decide (n≤199)=true:=by simp only [decide_eq_true_eq,decide_eq_false_iff_not];omega
  have hg:aF n=false:=by unfold aF;rw [d0,d1,d2,d3];rfl
  rw [hg];clear hg h;go_enter Tryz.func33,Tryz.ntmps33;(go_wp2_with fail);go_ret
  exact ⟨by first | rfl | (show Ending.returned (.bool _)=_;first | rw [d0] | rw [d1] | rw [d2] | rw [d3]),rfl⟩
 ·have d0:decide (0≤n)=true:=by simp only [decide_eq_true_eq,decide_eq_false_iff_not];omega
  have d1:decide (n < 15)=true:=by simp only [decide_eq_true_eq,decide_eq_false_iff_not];omega
  have d2:decide (100≤n)=false:=by simp only [decide_eq_true_eq,decide_eq_false_iff_not];omega
  have d3:decide (n≤199)=true:=by simp only [decide_eq_true_eq,decide_eq_false_iff_not];omega
  have hg:aF n=true:=by unfold aF;rw [d0,d1,d2,d3];rfl
  rw [hg];clear hg h;go_enter Tryz.func33,Tryz.ntmps33;(go_wp2_with fail);go_ret
  exact ⟨by first | rfl | (show Ending.returned (.bool _)=_;first | rw [d0] | rw [d1] | rw [d2] | rw [d3]),rfl⟩
 ·have d0:decide (0≤n)=true:=by simp only [decide_eq_true_eq,decide_eq_false_iff_not];omega
  have d1:decide (n < 15)=false:=by simp only [decide_eq_true_eq,decide_eq_false_iff_not];omega
  have d2:decide (100≤n)=false:=by simp only [decide_eq_true_eq,decide_eq_false_iff_not];omega
  have d3:decide (n≤199)=true:=by simp only [decide_eq_true_eq,decide_eq_false_iff_not];omega
  have hg:aF n=false:=by unfold aF;rw [d0,d1,d2,d3];rfl
  rw [hg];clear hg h;go_enter Tryz.func33,Tryz.ntmps33;(go_wp2_with fail);go_ret
  exact ⟨by first | rfl | (show Ending.returned (.bool _)=_;first | rw [d0] | rw [d1] | rw [d2] | rw [d3]),rfl⟩
 ·have d0:decide (0≤n)=true:=by simp only [decide_eq_true_eq,decide_eq_false_iff_not];omega
  have d1:decide (n < 15)=false:=by simp only [decide_eq_true_eq,decide_eq_false_iff_not];omega
  have d2:decide (100≤n)=true:=by simp only [decide_eq_true_eq,decide_eq_false_iff_not];omega
  have d3:decide (n≤199)=true:=by simp only [decide_eq_true_eq,decide_eq_false_iff_not];omega
  have hg:aF n=true:=by unfold aF;rw [d0,d1,d2,d3];rfl
  rw [hg];clear hg h;go_enter Tryz.func33,Tryz.ntmps33;(go_wp2_with fail);go_ret
  exact ⟨by first | rfl | (show Ending.returned (.bool _)=_;first | rw [d0] | rw [d1] | rw [d2] | rw [d3]),rfl⟩
 ·have d0:decide (0≤n)=true:=by simp only [decide_eq_true_eq,decide_eq_false_iff_not];omega
  have d1:decide (n < 15)=false:=by simp only [decide_eq_true_eq,decide_eq_false_iff_not];omega
  have d2:decide (100≤n)=true:=by simp only [decide_eq_true_eq,decide_eq_false_iff_not];omega
  have d3:decide (n≤199)=false:=by simp only [decide_eq_true_eq,decide_eq_false_iff_not];omega
  have hg:aF n=false:=by unfold aF;rw [d0,d1,d2,d3];rfl
  rw [hg];clear hg h;go_enter Tryz.func33,Tryz.ntmps33;(go_wp2_with fail);go_ret
  exact ⟨by first | rfl | (show Ending.returned (.bool _)=_;first | rw [d0] | rw [d1] | rw [d2] | rw [d3]),rfl⟩
theorem ly (w:World) (x:Rm) (hx:dS [] w x):Calls Tryz.prog 132 #[eU x] w fun r w'=>r=.returned (.int .i64 (if fe x.r=true then 0 else 1))∧ab [] w w':=by
 have e:(gv ([],0) x.r).2=if fe x.r=true then 0 else 1:=by
  by_cases h:fe x.r=true
  ·rw [qO h,if_pos h]
  ·rw [pA h,if_neg h]
 rw [← e];clear e;have k1:=ct w 29 (bp x);have HB1:=aa (Bx.new w 29 (bp x));have HT:Hid (aq Tryz.prog 29 (bp x).length):=ar;have cE:=aa (qL _ x (hx.on k1 (fun k hk=>by cases hk)));have HK1:=aa k1;unfold bp at HB1 HK1 HT cE;unfold eU at cE;clear k1 hx;unfold eU;go_enter Tryz.func132,Tryz.ntmps132;go_wp2_with ((with_reducible refine ak HB1.out HT.out ?_ ?_);rfl)
 refine cE.out.mono ?_;clear cE;rintro _ w2 ⟨a,c,rfl,hS,hb,hk⟩;have HK2:=aa (HK1.out.trans hk (by simp));clear hS hb hk;go_wp2_with fail
 go_ret
 exact ⟨rfl,HK2.out⟩
def kX:Vm:=⟨0,0,ie⟩
def ge (v:Vo):Bool:=ah v.s && ah v.b && fe v.v
def jy:Int→List Vo→Bool
 | _,[]=>true
 | p,v :: L=>decide (p < v.s) && (ge v && jy v.s L)
def mt (L:List Vo):Bool:=decide (L.length≤4096) && jy (-1) L
def ya (w:World) (D:List Vm) (lv iv:Value) (wr:World):Prop :=
 ∃ (i:Nat) (p:Int),lv=.int .i64 p∧iv=.int .i64 (i:Int)∧i≤D.length∧Hid (mt (D.map Vm.v)=jy p ((D.drop i).map Vm.v))∧Hid (ab [] w wr)
set_option maxHeartbeats 8000000 in
set_option maxRecDepth 100000 in
theorem k8 (w:World) (ao:Option Addr) (c:Nat) (D:List Vm) (h:p2 w ao D.length c D) :
 Calls Tryz.prog 134 #[.slice ao D.length c] w fun r w'=>r=.returned (.bool (mt (D.map Vm.v)))∧ab [] w w':=by
 have hmx:=h.mx;have hle:=h.le;unfold maxLen at hmx;by_cases hb:4096 < D.length
 ·have hb':(4096:Int) < D.length:=by omega
  have HF:Hid (mt (D.map Vm.v)=false):=by show _=_;unfold mt;rw [List.length_map,decide_eq_false (by omega)];rfl
  clear h;go_enter Tryz.func134,Tryz.ntmps134;(go_wp2_with fail);go_ret
  rw [HF.out];exact ⟨rfl,ab.refl _ _⟩
 have hb':¬ (4096:Int) < D.length:=by omega
 have HST:Hid (mt (D.map Vm.v)=jy (-1) ((D.drop 0).map Vm.v)):=by show _=_;unfold mt;rw [List.length_map,decide_eq_true (by omega)];rfl
 have H:=aa h;have cN:=aa (fun W n=>jG W n);clear h;go_enter Tryz.func134,Tryz.ntmps134;go_wp2_with fail
 go_loopw [3,11] (fun lv iv wr=>ya w D lv iv wr) (fun _ iv _=>D.length - (intOf iv).toNat)
 case atStart=>exact ⟨0,-1,rfl,rfl,Nat.zero_le _,HST,ab.refl _ _⟩
 case round =>
  obtain ⟨i,p,rfl,rfl,hi,HQ,HK⟩:=hrel;by_cases hlt:i < D.length
  ·have hlt':(i:Int) < D.length:=by omega
   obtain ⟨b0,o0,hao,hel⟩:=H.out.e i hlt;have hdr:D.drop i=D[i] :: D.drop (i+1):=List.drop_eq_getElem_cons hlt;have hxy:=H.out.x D[i] (List.getElem_mem hlt);generalize D[i]=y at hdr hel hxy;have hel2:=a8 hel HK.out (by simp);have HEL:=aa hel2;have HXY:=aa (hxy.kept HK.out);have hca:ab [] wr (wr.alloc (.cells #[.int .i64 0,.int .i64 0,.int .i64 0,.string ⟨#[]⟩,.int .i64 0,.int .i64 0,.int .i64 0,.string ⟨#[]⟩,.slice none 0 0,.string ⟨#[]⟩,.int .i64 0,.int .i64 0,.int .i64 0] 55)):=(ab.refl _ _).alloc _;have HBa:Hid (Bx (wr.alloc (.cells #[.int .i64 0,.int .i64 0,.int .i64 0,.string ⟨#[]⟩,.int .i64 0,.int .i64 0,.int .i64 0,.string ⟨#[]⟩,.slice none 0 0,.string ⟨#[]⟩,.int .i64 0,.int .i64 0,.int .i64 0] 55)) wr.heap.size 55 (cq kX)):=Bx.new wr _ (cq kX);have HLa:Hid ((cq y).length=(cq kX).length):=rfl;have HOa:=aa (fY y);have HTV:Hid (aq Tryz.prog 55 (cq y).length):=eR;have HTR:Hid (aq Tryz.prog 29 (bp y.x).length):=ar;have HK5A:∀ w5,ab [wr.heap.size] (wr.alloc (.cells #[.int .i64 0,.int .i64 0,.int .i64 0,.string ⟨#[]⟩,.int .i64 0,.int .i64 0,.int .i64 0,.string ⟨#[]⟩,.slice none 0 0,.string ⟨#[]⟩,.int .i64 0,.int .i64 0,.int .i64 0] 55)) w5→ab [] w w5:=fun w5 h5=>HK.out.trans (hca.trans h5 (by simp)) (by simp);have cC:Hid (∀ W,ab [wr.heap.size] (wr.alloc (.cells #[.int .i64 0,.int .i64 0,.int .i64 0,.string ⟨#[]⟩,.int .i64 0,.int .i64 0,.int .i64 0,.string ⟨#[]⟩,.slice none 0 0,.string ⟨#[]⟩,.int .i64 0,.int .i64 0,.int .i64 0] 55)) W→Calls Tryz.prog 132 #[.agg (bp y.x).toArray] W fun r w'=>r=.returned (.int .i64 (if fe y.x.r=true then 0 else 1))∧ab [] W w'):=fun W hW=>ly W y.x (HXY.out.kept (hca.trans hW (by simp)));clear hel hel2 hxy hca;subst hao;by_cases hs:y.s≤p
   ·skip
    have HF:Hid (mt (D.map Vm.v)=false):=by show _=_;rw [HQ.out,hdr];simp only [List.map_cons,jy,ge,Vm.v];simp [(show ¬ p < y.s by omega)]
    clear hdr HQ;(go_wp2_with (first | ((with_reducible refine bf HEL.out HTV.out ?_ ?_);rfl) | ((with_reducible refine ac HBa.out HLa.out HOa.out HTV.out ?_ ?_ ?_);rfl;rfl;intro w5 HB5 HK5;have d5:=HB5.out.cell 0 rfl;have d6:=HB5.out.cell 1 rfl;have HX5:=aa HB5.out.vox) | ((with_reducible refine aC HX5.out HTR.out ?_ ?_ ?_);rfl;rfl) | (go_at_call 135;first | ((with_reducible refine (cN.out _ y.s).mono ?_);rw [rfl];rintro _ w6 ⟨rfl,rfl⟩) | ((with_reducible refine (cN.out _ y.b).mono ?_);rw [rfl];rintro _ w6 ⟨rfl,rfl⟩)) | (go_at_call 132;refine (cC.out _ (by exact HK5.out)).mono ?_;rw [rfl];rintro _ w7 ⟨rfl,hk7⟩;have HK7:=aa hk7;clear hk7)));go_ret
    rw [HF.out];refine ⟨rfl,?_⟩;first | exact (HK5A w5 HK5.out).trans HK7.out (by simp) | exact HK5A w5 HK5.out
   cases hg1:ah y.s
   ·skip
    have HF:Hid (mt (D.map Vm.v)=false):=by show _=_;rw [HQ.out,hdr];simp only [List.map_cons,jy,ge,Vm.v];simp [hg1]
    clear hdr HQ;(go_wp2_with (first | ((with_reducible refine bf HEL.out HTV.out ?_ ?_);rfl) | ((with_reducible refine ac HBa.out HLa.out HOa.out HTV.out ?_ ?_ ?_);rfl;rfl;intro w5 HB5 HK5;have d5:=HB5.out.cell 0 rfl;have d6:=HB5.out.cell 1 rfl;have HX5:=aa HB5.out.vox) | ((with_reducible refine aC HX5.out HTR.out ?_ ?_ ?_);rfl;rfl) | (go_at_call 135;first | ((with_reducible refine (cN.out _ y.s).mono ?_);rw [hg1];rintro _ w6 ⟨rfl,rfl⟩) | ((with_reducible refine (cN.out _ y.b).mono ?_);rw [rfl];rintro _ w6 ⟨rfl,rfl⟩)) | (go_at_call 132;refine (cC.out _ (by exact HK5.out)).mono ?_;rw [rfl];rintro _ w7 ⟨rfl,hk7⟩;have HK7:=aa hk7;clear hk7)));go_ret
    rw [HF.out];refine ⟨rfl,?_⟩;first | exact (HK5A w5 HK5.out).trans HK7.out (by simp) | exact HK5A w5 HK5.out
   cases hg2:ah y.b
   ·skip
    have HF:Hid (mt (D.map Vm.v)=false):=by show _=_;rw [HQ.out,hdr];simp only [List.map_cons,jy,ge,Vm.v];simp [hg2]
    clear hdr HQ;(go_wp2_with (first | ((with_reducible refine bf HEL.out HTV.out ?_ ?_);rfl) | ((with_reducible refine ac HBa.out HLa.out HOa.out HTV.out ?_ ?_ ?_);rfl;rfl;intro w5 HB5 HK5;have d5:=HB5.out.cell 0 rfl;have d6:=HB5.out.cell 1 rfl;have HX5:=aa HB5.out.vox) | ((with_reducible refine aC HX5.out HTR.out ?_ ?_ ?_);rfl;rfl) | (go_at_call 135;first | ((with_reducible refine (cN.out _ y.s).mono ?_);rw [hg1];rintro _ w6 ⟨rfl,rfl⟩) | ((with_reducible refine (cN.out _ y.b).mono ?_);rw [hg2];rintro _ w6 ⟨rfl,rfl⟩)) | (go_at_call 132;refine (cC.out _ (by exact HK5.out)).mono ?_;rw [rfl];rintro _ w7 ⟨rfl,hk7⟩;have HK7:=aa hk7;clear hk7)));go_ret
    rw [HF.out];refine ⟨rfl,?_⟩;first | exact (HK5A w5 HK5.out).trans HK7.out (by simp) | exact HK5A w5 HK5.out
   cases hg3:fe y.x.r
   ·skip
    have HF:Hid (mt (D.map Vm.v)=false):=by show _=_;rw [HQ.out,hdr];simp only [List.map_cons,jy,ge,Vm.v];simp [hg3]
    clear hdr HQ;(go_wp2_with (first | ((with_reducible refine bf HEL.out HTV.out ?_ ?_);rfl) | ((with_reducible refine ac HBa.out HLa.out HOa.out HTV.out ?_ ?_ ?_);rfl;rfl;intro w5 HB5 HK5;have d5:=HB5.out.cell 0 rfl;have d6:=HB5.out.cell 1 rfl;have HX5:=aa HB5.out.vox) | ((with_reducible refine aC HX5.out HTR.out ?_ ?_ ?_);rfl;rfl) | (go_at_call 135;first | ((with_reducible refine (cN.out _ y.s).mono ?_);rw [hg1];rintro _ w6 ⟨rfl,rfl⟩) | ((with_reducible refine (cN.out _ y.b).mono ?_);rw [hg2];rintro _ w6 ⟨rfl,rfl⟩)) | (go_at_call 132;refine (cC.out _ (by exact HK5.out)).mono ?_;rw [hg3];rintro _ w7 ⟨rfl,hk7⟩;have HK7:=aa hk7;clear hk7)));go_ret
    rw [HF.out];refine ⟨rfl,?_⟩;first | exact (HK5A w5 HK5.out).trans HK7.out (by simp) | exact HK5A w5 HK5.out
   have HN:Hid (mt (D.map Vm.v)=jy y.s ((D.drop (i+1)).map Vm.v)):=by show _=_;rw [HQ.out,hdr];simp only [List.map_cons,jy,ge,Vm.v,hg1,hg2,hg3,decide_eq_true (show p < y.s by omega),Bool.and_self,Bool.true_and]
   clear hdr HQ;(go_wp2_with (first | ((with_reducible refine bf HEL.out HTV.out ?_ ?_);rfl) | ((with_reducible refine ac HBa.out HLa.out HOa.out HTV.out ?_ ?_ ?_);rfl;rfl;intro w5 HB5 HK5;have d5:=HB5.out.cell 0 rfl;have d6:=HB5.out.cell 1 rfl;have HX5:=aa HB5.out.vox) | ((with_reducible refine aC HX5.out HTR.out ?_ ?_ ?_);rfl;rfl) | (go_at_call 135;first | ((with_reducible refine (cN.out _ y.s).mono ?_);rw [hg1];rintro _ w6 ⟨rfl,rfl⟩) | ((with_reducible refine (cN.out _ y.b).mono ?_);rw [hg2];rintro _ w6 ⟨rfl,rfl⟩)) | (go_at_call 132;refine (cC.out _ (by exact HK5.out)).mono ?_;rw [hg3];rintro _ w7 ⟨rfl,hk7⟩;have HK7:=aa hk7;have d7:=hk7.cell d5 (by simp);clear hk7 d5 d6)));go_roundw
   case rel=>exact ⟨i+1,y.s,rfl,by go_num,by omega,HN,(HK5A w5 HK5.out).trans HK7.out (by simp)⟩
   case measure=>simp [intOf];omega
  ·have hlt':¬ (i:Int) < D.length:=by omega
   have HE:Hid (mt (D.map Vm.v)=true):=by show _=_;rw [HQ.out,List.drop_eq_nil_of_le (by omega)];rfl
   (go_wp2_with fail);go_ret
   rw [HE.out];exact ⟨rfl,HK.out⟩
end Go.Proofs.YtakafmejllilnaaGreat
