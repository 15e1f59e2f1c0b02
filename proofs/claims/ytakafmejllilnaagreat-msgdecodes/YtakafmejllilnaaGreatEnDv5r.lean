/-
  The document's MayVerdict, its loop. (Written by mk/mkmayv.py.)
-/
import Derived.Test.YtakafmejllilnaaGreatW0r
import Derived.Test.YtakafmejllilnaaGreatEnDv3r
namespace Go.Proofs.YtakafmejllilnaaGreat
open Go.RowKit
set_option linter.unusedSimpArgs false in
set_option maxHeartbeats 16000000 in
set_option maxRecDepth 100000 in
theorem tK (w:World) (v:Vt) (u:Value) (hv:nH w u v.k) (hb:j3 v=true):Calls Tryz.prog 40 #[dx v u] w fun e w'=>e=.returned (.bool (jL v))∧ab [] w w':=by
 obtain ⟨uo,un,uc,rfl⟩:=hv.one;have HV0:=aa hv;obtain ⟨ao,nn,cc,K,eK,hK,hKv,_⟩:=hv;cases eK
 obtain ⟨W,hW⟩:∃ W,W=w.alloc (.cells #[.int .i64 v.c,.int .i64 v.s,.int .i64 v.r,.string (ae v.p),.int .u64 v.d,.slice uo un uc,.int .i64 v.m] 34):=⟨_,rfl⟩;have HW:=aa hW;have HK:Hid (ab [] w W):=by rw [hW];exact (ab.refl _ _).alloc _
 have hB:Bx W w.heap.size 34 (au v (.slice uo un uc)):=by rw [hW];exact Bx.new w _ (au v (.slice uo un uc))
 have HB:=aa hB;have HV:=aa (HV0.out.kept HK.out);have HSK:=aa (hK.kept HK.out);have HKV:=aa hKv;have hlk:v.k.length=un:=by rw [← hKv,List.length_map,hK.1]
 have hsp:(ae v.p).size=v.p.length:=dr _;have hum:=hK.2.2.1;have huc:=hK.2.1;unfold maxLen at hum;clear hW hB hK hKv;unfold dx;have HMV:Hid (jL v=v.k.all pI):=by show jL v=_;unfold jL;rw [hb];rfl
 have hh:=hb;unfold j3 at hh;simp only [Bool.and_eq_true,decide_eq_true_eq] at hh;obtain ⟨⟨⟨⟨⟨⟨⟨hc0,hc15⟩,hgs⟩,hgr⟩,hgm⟩,htp⟩,hl⟩,how⟩:=hh;have hc0':¬ v.c < 0:=by omega
 have hc15':¬ 15≤v.c:=by omega
 have HGs:=aa hgs;have HGr:=aa hgr;have HGm:=aa hgm;have hp0:¬ 255 < v.p.length:=by unfold eS at htp;simp at htp;omega
 have HPB:Hid (decide ((255:Int) < (v.p.length:Int))=false):=decide_eq_false (by omega);have HLB:Hid (decide ((32:Int) < (un:Int))=false):=decide_eq_false (by omega);have HOW:=aa (decide_eq_true how);clear hb hgs hgr hgm htp how hl hlk hc0 hc15 hp0;go_enter Tryz.func40,Tryz.ntmps40;go_upto_region 1 with fail
 rw [← HW.out];refine wp_region_held_drew (S:=fun w9=>Bx w9 w.heap.size 34 (au v (.slice uo un uc))) (by kernel_rfl) (HB.out.kept (ab.refl [] _).drew (by simp)) (fun hHeld=>?_);refine cw (fuel':=45) (l':=#[false,false,false,false,false,false,false,false,false,false,false,false,false,false,false,false,false,false,false,false,false,false,false,false,false,false,false,false,false,false,false,false,false,false,false,false,false,false,false,false,false,false,false,false,false]) (by rfl) (by rfl) ?_;refine ay [0] (by rfl) (by kernel_rfl) (fun _ _ _ _ _ h=>h) hHeld ?_
 iterate 1
  refine yk ?_ rfl (Or.inl ⟨by rfl,?_⟩) ?_;rotate_left
  ·intro w9 hSw;go_simp;(try with_reducible rfl)
  try simp only [sT,Act.put]
 refine ax ?_;simp only [ai,sT];refine ay [1] (by rfl) (by kernel_rfl) (fun _ _ _ _ _ h=>h) hHeld ?_
 iterate 1
  refine yk ?_ rfl (Or.inl ⟨by rfl,?_⟩) ?_;rotate_left
  ·intro w9 hSw;have pj:w9.cell? ⟨w.heap.size,0,none⟩=some (.int .i64 v.c):=hSw.cell 0 rfl;go_simp;(try with_reducible rfl)
  try simp only [sT,Act.put]
 refine ax ?_;simp only [ai,sT];refine ay [2,3,4] (by rfl) (by kernel_rfl) (fun _ _ _ _ _ h=>h) hHeld ?_
 iterate 3
  refine yk ?_ rfl (Or.inl ⟨by rfl,?_⟩) ?_;rotate_left
  ·intro w9 hSw;go_simp;(try with_reducible rfl)
  try simp only [sT,Act.put]
 refine ax ?_;simp only [ai,sT];refine ay [5] (by rfl) (by kernel_rfl) (fun _ _ _ _ _ h=>h) hHeld ?_
 iterate 1
  refine yk ?_ rfl (Or.inl ⟨by rfl,?_⟩) ?_;rotate_left
  ·intro w9 hSw;have pj:w9.cell? ⟨w.heap.size,0,none⟩=some (.int .i64 v.c):=hSw.cell 0 rfl;go_simp;(try with_reducible rfl)
  try simp only [sT,Act.put]
 refine ax ?_;simp only [ai,sT];refine ay [6,7,8,9] (by rfl) (by kernel_rfl) (fun _ _ _ _ _ h=>h) hHeld ?_
 iterate 4
  refine yk ?_ rfl (Or.inl ⟨by rfl,?_⟩) ?_;rotate_left
  ·intro w9 hSw;go_simp;(try with_reducible rfl)
  try simp only [sT,Act.put]
 refine ax ?_;simp only [ai,sT];refine ay [10] (by rfl) (by kernel_rfl) (fun _ _ _ _ _ h=>h) hHeld ?_
 iterate 1
  refine yk ?_ rfl (Or.inl ⟨by rfl,?_⟩) ?_;rotate_left
  ·intro w9 hSw;have pj:w9.cell? ⟨w.heap.size,1,none⟩=some (.int .i64 v.s):=hSw.cell 1 rfl;go_simp;(try with_reducible rfl)
  try simp only [sT,Act.put]
 refine ax ?_;simp only [ai,sT];refine cd 11 (by kernel_rfl) rfl (fun K0 hK0=>?_);go_simp;refine (aV _ v.s).mono ?_;rw [HGs.out];rintro _ W0 ⟨rfl,hW0⟩;obtain rfl:=hW0.symm;go_wp2_with fail
 refine hK0.out _ _ (HB.out.kept (ab.refl [] _).drew (by simp)) (fun hHeld=>?_);clear hK0 K0;try simp only [sT,Act.put]
 refine ay [12,13,14,15] (by rfl) (by kernel_rfl) (fun _ _ _ _ _ h=>h) hHeld ?_
 iterate 4
  refine yk ?_ rfl (Or.inl ⟨by rfl,?_⟩) ?_;rotate_left
  ·intro w9 hSw;go_simp;(try with_reducible rfl)
  try simp only [sT,Act.put]
 refine ax ?_;simp only [ai,sT];refine ay [16] (by rfl) (by kernel_rfl) (fun _ _ _ _ _ h=>h) hHeld ?_
 iterate 1
  refine yk ?_ rfl (Or.inl ⟨by rfl,?_⟩) ?_;rotate_left
  ·intro w9 hSw;have pj:w9.cell? ⟨w.heap.size,2,none⟩=some (.int .i64 v.r):=hSw.cell 2 rfl;go_simp;(try with_reducible rfl)
  try simp only [sT,Act.put]
 refine ax ?_;simp only [ai,sT];refine cd 17 (by kernel_rfl) rfl (fun K0 hK0=>?_);go_simp;refine (aV _ v.r).mono ?_;rw [HGr.out];rintro _ W0 ⟨rfl,hW0⟩;obtain rfl:=hW0.symm;go_wp2_with fail
 refine hK0.out _ _ (HB.out.kept (ab.refl [] _).drew (by simp)) (fun hHeld=>?_);clear hK0 K0;try simp only [sT,Act.put]
 refine ay [18,19,20,21] (by rfl) (by kernel_rfl) (fun _ _ _ _ _ h=>h) hHeld ?_
 iterate 4
  refine yk ?_ rfl (Or.inl ⟨by rfl,?_⟩) ?_;rotate_left
  ·intro w9 hSw;go_simp;(try with_reducible rfl)
  try simp only [sT,Act.put]
 refine ax ?_;simp only [ai,sT];refine ay [22] (by rfl) (by kernel_rfl) (fun _ _ _ _ _ h=>h) hHeld ?_
 iterate 1
  refine yk ?_ rfl (Or.inl ⟨by rfl,?_⟩) ?_;rotate_left
  ·intro w9 hSw;have pj:w9.cell? ⟨w.heap.size,6,none⟩=some (.int .i64 v.m):=hSw.cell 6 rfl;go_simp;(try with_reducible rfl)
  try simp only [sT,Act.put]
 refine ax ?_;simp only [ai,sT];refine cd 23 (by kernel_rfl) rfl (fun K0 hK0=>?_);go_simp;refine (aV _ v.m).mono ?_;rw [HGm.out];rintro _ W0 ⟨rfl,hW0⟩;obtain rfl:=hW0.symm;go_wp2_with fail
 refine hK0.out _ _ (HB.out.kept (ab.refl [] _).drew (by simp)) (fun hHeld=>?_);clear hK0 K0;try simp only [sT,Act.put]
 refine ay [24,25,26,27] (by rfl) (by kernel_rfl) (fun _ _ _ _ _ h=>h) hHeld ?_
 iterate 4
  refine yk ?_ rfl (Or.inl ⟨by rfl,?_⟩) ?_;rotate_left
  ·intro w9 hSw;go_simp;(try with_reducible rfl)
  try simp only [sT,Act.put]
 refine ax ?_;simp only [ai,sT];refine ay [28] (by rfl) (by kernel_rfl) (fun _ _ _ _ _ h=>h) hHeld ?_
 iterate 1
  refine yk ?_ rfl (Or.inl ⟨by rfl,?_⟩) ?_;rotate_left
  ·intro w9 hSw;have pj:w9.cell? ⟨w.heap.size,3,none⟩=some (.string (ae v.p)):=hSw.cell 3 rfl;go_simp;(try with_reducible rfl)
  try simp only [sT,Act.put]
 refine ax ?_;simp only [ai,sT];refine ay [29] (by rfl) (by kernel_rfl) (fun _ _ _ _ _ h=>h) hHeld ?_
 iterate 1
  refine yk ?_ rfl (Or.inl ⟨by rfl,?_⟩) ?_;rotate_left
  ·intro w9 hSw;go_simp;(try with_reducible rfl)
  try simp only [sT,Act.put]
 refine ax ?_;simp only [ai,sT];refine ay [30] (by rfl) (by kernel_rfl) (fun _ _ _ _ _ h=>h) hHeld ?_
 iterate 1
  refine yk ?_ rfl (Or.inl ⟨by rfl,?_⟩) ?_;rotate_left
  ·intro w9 hSw;have hq:=HPB.out;go_simp;(try with_reducible rfl)
  try simp only [sT,Act.put]
 refine ax ?_;simp only [ai,sT];refine ay [31,32,33] (by rfl) (by kernel_rfl) (fun _ _ _ _ _ h=>h) hHeld ?_
 iterate 3
  refine yk ?_ rfl (Or.inl ⟨by rfl,?_⟩) ?_;rotate_left
  ·intro w9 hSw;go_simp;(try with_reducible rfl)
  try simp only [sT,Act.put]
 refine ax ?_;simp only [ai,sT];refine ay [34] (by rfl) (by kernel_rfl) (fun _ _ _ _ _ h=>h) hHeld ?_
 iterate 1
  refine yk ?_ rfl (Or.inl ⟨by rfl,?_⟩) ?_;rotate_left
  ·intro w9 hSw;have pj:w9.cell? ⟨w.heap.size,5,none⟩=some (.slice uo un uc):=hSw.cell 5 rfl;go_simp;(try with_reducible rfl)
  try simp only [sT,Act.put]
 refine ax ?_;simp only [ai,sT];refine ay [35] (by rfl) (by kernel_rfl) (fun _ _ _ _ _ h=>h) hHeld ?_
 iterate 1
  refine yk ?_ rfl (Or.inl ⟨by rfl,?_⟩) ?_;rotate_left
  ·intro w9 hSw;go_simp;(try with_reducible rfl)
  try simp only [sT,Act.put]
 refine ax ?_;simp only [ai,sT];refine ay [36] (by rfl) (by kernel_rfl) (fun _ _ _ _ _ h=>h) hHeld ?_
 iterate 1
  refine yk ?_ rfl (Or.inl ⟨by rfl,?_⟩) ?_;rotate_left
  ·intro w9 hSw;have hq:=HLB.out;go_simp;(try with_reducible rfl)
  try simp only [sT,Act.put]
 refine ax ?_;simp only [ai,sT];refine ay [37,38] (by rfl) (by kernel_rfl) (fun _ _ _ _ _ h=>h) hHeld ?_
 iterate 2
  refine yk ?_ rfl (Or.inl ⟨by rfl,?_⟩) ?_;rotate_left
  ·intro w9 hSw;go_simp;(try with_reducible rfl)
  try simp only [sT,Act.put]
 refine ax ?_;simp only [ai,sT];refine wpAnyH_take (i:=39) (v:=.agg (au v (.slice uo un uc)).toArray) rfl (by kernel_rfl) (by kernel_rfl) (by kernel_rfl) (fun _ _ _ h=>h) (yieldsIf_load_mid (by rfl) _ _ rfl w.heap.size 0 rfl (au v (.slice uo un uc)) _ (fun w9 hSw=>hSw.range) Tryz.underlying34 rfl dH) hHeld ?_;try simp only [sT,Act.put]
 refine wpAnyH_take (i:=40) (v:=.agg (au v (.slice uo un uc)).toArray) rfl (by kernel_rfl) (by kernel_rfl) (by kernel_rfl) (fun _ _ _ h=>h) (yieldsIf_load_mid (by rfl) _ _ rfl w.heap.size 0 rfl (au v (.slice uo un uc)) _ (fun w9 hSw=>hSw.range) Tryz.underlying34 rfl dH) hHeld ?_;try simp only [sT,Act.put]
 refine cd 41 (by kernel_rfl) rfl (fun K0 hK0=>?_);go_simp;refine (ki _ v uo un uc).mono ?_;rintro _ w2 ⟨u2,rfl,hu2,hk2⟩;have HK2:=aa ((ab.refl [] W).drew.trans hk2 (by simp));clear hk2;go_wp2_with fail
 refine hK0.out _ _ (HB.out.kept HK2.out (by simp)) (fun hHeld=>?_);clear hK0 K0;try simp only [sT,Act.put]
 refine cd 42 (by kernel_rfl) rfl (fun K0 hK0=>?_);go_simp;have cS:=lB w2 v (.slice uo un uc) u2 hu2 (HV.out.kept HK2.out);rw [HOW.out] at cS;refine cS.mono ?_;clear cS;rintro _ w3 ⟨rfl,hk3⟩;have HK3:=aa (HK2.out.trans hk3 (by simp));clear hk3;go_wp2_with fail
 refine hK0.out _ _ (HB.out.kept HK3.out (by simp)) (fun hHeld=>?_);clear hK0 K0;try simp only [sT,Act.put]
 refine ay [43,44] (by rfl) (by kernel_rfl) (fun _ _ _ _ _ h=>h) hHeld ?_
 iterate 2
  refine yk ?_ rfl (Or.inl ⟨by rfl,?_⟩) ?_;rotate_left
  ·intro w9 hSw;go_simp;(try with_reducible rfl)
  try simp only [sT,Act.put]
 refine ax ?_;simp only [ai,sT];try simp only [sT,Act.put]
 refine wpAnyH_done (by kernel_rfl) ?_ _;clear hHeld;have HY:=aa HK3.out;clear HK2 HK3;go_wp2_with fail
 go_loopw [3] (fun iv wr=>xT W un K iv wr) (fun iv _=>un - (intOf iv).toNat)
 case atStart=>exact ⟨0,rfl,Nat.zero_le _,HY,fun q h h2=>by omega⟩
 case round =>
  obtain ⟨i,rfl,hi,HR,HJ⟩:=hrel;have hBr:=HB.out.kept HR.out (by simp);have c5:wr.cell? ⟨w.heap.size,5,none⟩=some (.slice uo un uc):=hBr.cell 5 rfl;by_cases hlt:i < un
  ·have hlt':(i:Int) < un:=by omega
   have hic:i≤uc:=by omega
   have hiK:i < K.length:=by rw [HSK.out.1];exact hlt
   obtain ⟨g,o,rfl,hx⟩:=HSK.out.2.2.2.1 i hiK;obtain ⟨mo,mm,mc,e1,hs1,_⟩:=HSK.out.2.2.2.2 _ (List.getElem_mem hiK);have hxr:=kD (hx.kept HR.out (by simp));have HXR:=aa hxr;have HKM:Hid (K[i].1∈v.k):=by rw [← HKV.out];exact List.mem_map.2 ⟨_,List.getElem_mem hiK,rfl⟩
   have HIO:=aa (vb e1);have hs2:=hs1.kept HR.out (by simp)
   have HJN:Hid (pI K[i].1=true→∀ q (h:q < K.length),q < i+1→pI K[q].1=true):=fun hk q h h2=>by
    by_cases e:q=i
    ·subst e;exact hk
    ·exact HJ.out q h (by omega)
   generalize hKi:K[i]=y at *;obtain ⟨y1,y2⟩:=y;simp only at e1 HKM hs2 HJN;subst e1;have HXR':Hid (wr.rangeAt g (o+i*4) (dk (y1,.slice mo mm mc))):=HXR;clear hKi hx hs1 hxr HXR;have HZ:Hid (Bx (wr.alloc (.cells #[.int .i64 0,.int .i64 0,.string ⟨#[]⟩,.slice none 0 0] 108)) wr.heap.size 108 qJ):=Bx.new wr _ qJ;have HL4:Hid ((dk (y1,.slice mo mm mc)).length=qJ.length):=rfl;have HT4:Hid (aq Tryz.prog 108 (dk (y1,.slice mo mm mc)).length):=eZ;obtain ⟨DD,hDD⟩:∃ DD,DD=Tryz.underlying108:=⟨_,rfl⟩;clear hDD DD;go_upto_region 7 with (first | ((with_reducible refine wpList_load_mid rfl _ _ rfl g (o+i*4) ?_ (dk (y1,.slice mo mm mc)) _ HXR'.out Tryz.underlying108 rfl (by kernel_rfl) ?_);rfl) | ((with_reducible refine ac HZ.out HL4.out HIO.out HT4.out ?_ ?_ ?_);rfl;rfl;intro w5 HB5 HK5))
   have k5:ab [] wr w5:=(((ab.refl [wr.heap.size] wr).alloc _).trans HK5.out (by simp)).drop0 (by intro i hi;simp at hi;omega);have d0:w5.cell? ⟨wr.heap.size,0,none⟩=some (.int .i64 y1.r):=HB5.out.cell 0 rfl;have d1:w5.cell? ⟨wr.heap.size,1,none⟩=some (.int .i64 y1.b):=HB5.out.cell 1 rfl;have d2:w5.cell? ⟨wr.heap.size,2,none⟩=some (.string (ae y1.n)):=HB5.out.cell 2 rfl;have d3:w5.cell? ⟨wr.heap.size,3,none⟩=some (.slice mo mm mc):=HB5.out.cell 3 rfl;have hsn:(ae y1.n).size=y1.n.length:=dr _;have HKw5:=aa ((HK.out.trans HR.out (by simp)).trans k5 (by simp));have HKW5:=aa (HR.out.trans k5 (by simp));have c1:=aV w5 y1.r;have c2:=aV w5 y1.b;have c3:=gM w5 mo mm mc y1.c (hs2.kept k5 (by simp));clear k5 hs2 c5 hBr HB5 HK5;by_cases h1:ah y1.r=true
   rotate_left
   ·rw [Bool.not_eq_true] at h1;rw [h1] at c1;have cg1:=aa c1;have cg2:=aa c2;have cmc:=aa c3;clear c1 c2 c3
    have HC:Hid (jL v=false):=by
     show jL v=false;rw [HMV.out,Bool.eq_false_iff];intro h;have hz:=List.all_eq_true.1 h _ (HKM.out);unfold pI at hz;rw [h1] at hz;simp at hz
    (go_wp2_with (first | (go_at_call 74;refine cg1.out.mono ?_;clear cg1;rintro _ W0 ⟨rfl,hW0⟩;obtain rfl:=hW0.symm) | (go_at_call 74;refine cg2.out.mono ?_;clear cg2;rintro _ W0 ⟨rfl,hW0⟩;obtain rfl:=hW0.symm) | (go_at_call 75;refine cmc.out.mono ?_;clear cmc;rintro _ W0 ⟨rfl,hW0⟩;obtain rfl:=hW0.symm)));go_ret
    rw [HC.out];exact ⟨rfl,HKw5.out⟩
   rw [h1] at c1;by_cases h2:ah y1.b=true
   rotate_left
   ·rw [Bool.not_eq_true] at h2;rw [h2] at c2;have cg1:=aa c1;have cg2:=aa c2;have cmc:=aa c3;clear c1 c2 c3
    have HC:Hid (jL v=false):=by
     show jL v=false;rw [HMV.out,Bool.eq_false_iff];intro h;have hz:=List.all_eq_true.1 h _ (HKM.out);unfold pI at hz;rw [h2] at hz;simp at hz
    (go_wp2_with (first | (go_at_call 74;refine cg1.out.mono ?_;clear cg1;rintro _ W0 ⟨rfl,hW0⟩;obtain rfl:=hW0.symm) | (go_at_call 74;refine cg2.out.mono ?_;clear cg2;rintro _ W0 ⟨rfl,hW0⟩;obtain rfl:=hW0.symm) | (go_at_call 75;refine cmc.out.mono ?_;clear cmc;rintro _ W0 ⟨rfl,hW0⟩;obtain rfl:=hW0.symm)));go_ret
    rw [HC.out];exact ⟨rfl,HKw5.out⟩
   rw [h2] at c2;by_cases h3:255 < y1.n.length
   ·have h3':(255:Int) < y1.n.length:=by omega
    have h3t:eS y1.n=false:=decide_eq_false (by omega);have cg1:=aa c1;have cg2:=aa c2;have cmc:=aa c3;clear c1 c2 c3
    have HC:Hid (jL v=false):=by
     show jL v=false;rw [HMV.out,Bool.eq_false_iff];intro h;have hz:=List.all_eq_true.1 h _ (HKM.out);unfold pI at hz;rw [h3t] at hz;simp at hz
    (go_wp2_with (first | (go_at_call 74;refine cg1.out.mono ?_;clear cg1;rintro _ W0 ⟨rfl,hW0⟩;obtain rfl:=hW0.symm) | (go_at_call 74;refine cg2.out.mono ?_;clear cg2;rintro _ W0 ⟨rfl,hW0⟩;obtain rfl:=hW0.symm) | (go_at_call 75;refine cmc.out.mono ?_;clear cmc;rintro _ W0 ⟨rfl,hW0⟩;obtain rfl:=hW0.symm)));go_ret
    rw [HC.out];exact ⟨rfl,HKw5.out⟩
   have h3':¬ (255:Int) < y1.n.length:=by omega
   have h3t:eS y1.n=true:=decide_eq_true (by omega);by_cases h4:mO y1.c=true
   rotate_left
   ·rw [Bool.not_eq_true] at h4;rw [h4] at c3;have cg1:=aa c1;have cg2:=aa c2;have cmc:=aa c3;clear c1 c2 c3
    have HC:Hid (jL v=false):=by
     show jL v=false;rw [HMV.out,Bool.eq_false_iff];intro h;have hz:=List.all_eq_true.1 h _ (HKM.out);unfold pI at hz;rw [h4] at hz;simp at hz
    (go_wp2_with (first | (go_at_call 74;refine cg1.out.mono ?_;clear cg1;rintro _ W0 ⟨rfl,hW0⟩;obtain rfl:=hW0.symm) | (go_at_call 74;refine cg2.out.mono ?_;clear cg2;rintro _ W0 ⟨rfl,hW0⟩;obtain rfl:=hW0.symm) | (go_at_call 75;refine cmc.out.mono ?_;clear cmc;rintro _ W0 ⟨rfl,hW0⟩;obtain rfl:=hW0.symm)));go_ret
    rw [HC.out];exact ⟨rfl,HKw5.out⟩
   rw [h4] at c3;have HJ2:=aa (HJN.out (by unfold pI;rw [h1,h2,h3t,h4];rfl));have cg1:=aa c1;have cg2:=aa c2;have cmc:=aa c3;clear c1 c2 c3 h1 h2 h3t h4;(go_wp2_with (first | (go_at_call 74;refine cg1.out.mono ?_;clear cg1;rintro _ W0 ⟨rfl,hW0⟩;obtain rfl:=hW0.symm) | (go_at_call 74;refine cg2.out.mono ?_;clear cg2;rintro _ W0 ⟨rfl,hW0⟩;obtain rfl:=hW0.symm) | (go_at_call 75;refine cmc.out.mono ?_;clear cmc;rintro _ W0 ⟨rfl,hW0⟩;obtain rfl:=hW0.symm)));go_roundw
   case rel=>exact ⟨i+1,by go_num,by omega,HKW5,HJ2⟩
   case measure=>simp [intOf];omega
  ·have hlt':¬ (i:Int) < un:=by omega
   have HC:Hid (jL v=true):=by
    show jL v=true;rw [HMV.out,List.all_eq_true];intro y hy;rw [← HKV.out] at hy;obtain ⟨z,hz,rfl⟩:=List.mem_map.1 hy;obtain ⟨q,hq,rfl⟩:=List.getElem_of_mem hz;exact HJ.out q hq (by have:=HSK.out.1;omega)
   (go_wp2_with fail);go_ret
   rw [HC.out];exact ⟨rfl,HK.out.trans HR.out (by simp)⟩
theorem pc (w:World) (v:Vt) (u:Value) (hv:nH w u v.k):Calls Tryz.prog 40 #[dx v u] w fun e w'=>e=.returned (.bool (jL v))∧ab [] w w':=by
 cases hb:j3 v
 ·exact uu w v u hv hb
 ·exact tK w v u hv hb
end Go.Proofs.YtakafmejllilnaaGreat
