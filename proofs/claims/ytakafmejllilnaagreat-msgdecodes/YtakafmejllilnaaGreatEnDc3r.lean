/-
  The document's Check of requests. (Written by mk/mkchk.py.)
-/
import Derived.Test.YtakafmejllilnaaGreatEnDc2r
import Derived.Test.YtakafmejllilnaaGreatW3r
import Derived.Test.YtakafmejllilnaaGreatF12r
import Derived.Test.YtakafmejllilnaaGreatW0r
namespace Go.Proofs.YtakafmejllilnaaGreat
open Go.RowKit
theorem qS (w:World) (x:Rm):Calls Tryz.prog 76 #[eU x] w (ij w x (jU x.r)):=by
 unfold jU;by_cases h0:x.r.k=0
 ·rw [if_pos h0];exact wW w x h0
 rw [if_neg h0];by_cases h1:x.r.k=1
 ·rw [if_pos h1,h1];exact wl w x h1
 rw [if_neg h1];by_cases h2:x.r.k=2
 ·rw [if_pos h2,h2];exact xl w x h2
 rw [if_neg h2];by_cases h4:x.r.k=4
 ·rw [if_pos h4,h4];exact wv w x h4
 rw [if_neg h4];by_cases h5:x.r.k=5
 ·rw [if_pos h5,h5];exact wT w x h5
 rw [if_neg h5];by_cases h6:x.r.k=6
 ·rw [if_pos (Or.inl h6),h6];exact wN w x h6
 by_cases h7:x.r.k=7
 ·rw [if_pos (Or.inr h7),h7];exact xi w x h7
 rw [if_neg (by omega)];exact wB w x h0 h1 h2 h4 h5 h6 h7
theorem lx (w:World) (x:Rm):Calls Tryz.prog 76 #[.agg (bp x).toArray] w (ij w x (jU x.r)):=qS w x
theorem mK (w:World) (x:Rm) (u:Value) (hu:u=.slice x.mo x.m x.mc∧(jU x.r).c=x.r.c∨u=.slice none 0 0∧(jU x.r).c=[]) (hS:dz w x.mo x.m x.mc x.r.c) :
 Calls Tryz.prog 49 #[.agg (bp x).toArray,.agg (a4 (jU x.r) u).toArray] w fun e w'=>e=.returned (.bool (decide (x.r=jU x.r)))∧ab [] w w':=by
 rcases hu with ⟨rfl,h⟩ | ⟨rfl,h⟩
 ·exact fa w x.r (jU x.r) _ _ _ _ _ _ hS (by rw [h];exact hS)
 ·exact fa w x.r (jU x.r) _ _ _ _ _ _ hS (by rw [h];exact ⟨rfl,Nat.le_refl _,Nat.zero_le _,fun i hi=>by simp at hi⟩)
def cy (b:Bool):Int:=if b=true then 0 else 1
def xD (W:World) (b:Bool) (s:Value) (wx:World):Prop:=s=.bool b∧wx=W
set_option linter.unusedSimpArgs false in
set_option maxHeartbeats 16000000 in
set_option maxRecDepth 100000 in
theorem fc (w:World) (x:Rm) (hS:dz w x.mo x.m x.mc x.r.c):Calls Tryz.prog 39 #[eU x] w fun e w'=>e=.returned (.int .i64 (cy (dj x.r)))∧ab [] w w':=by
 obtain ⟨W,hW⟩:∃ W,W=w.alloc (.cells #[.int .i64 x.r.k,.string (ae x.r.n),.int .i64 x.r.s,.int .i64 x.r.q,.int .i64 x.r.b,.string (ae x.r.f),.slice x.mo x.m x.mc,.string (ae x.r.p),.int .i64 x.r.fr,.int .i64 x.r.mn,.int .i64 x.r.mb] 29):=⟨_,rfl⟩;have HW:=aa hW;have HK:Hid (ab [] w W):=by rw [hW];exact (ab.refl _ _).alloc _
 have hB:Bx W w.heap.size 29 (bp x):=by rw [hW];exact Bx.new w _ (bp x)
 have HB:=aa hB;have HS:=aa (hS.kept HK.out (by simp));have c0:W.cell? ⟨w.heap.size,0,none⟩=some (.int .i64 x.r.k):=hB.cell 0 rfl;have c2:W.cell? ⟨w.heap.size,2,none⟩=some (.int .i64 x.r.s):=hB.cell 2 rfl;have c3:W.cell? ⟨w.heap.size,3,none⟩=some (.int .i64 x.r.q):=hB.cell 3 rfl;have c4:W.cell? ⟨w.heap.size,4,none⟩=some (.int .i64 x.r.b):=hB.cell 4 rfl;have c8:W.cell? ⟨w.heap.size,8,none⟩=some (.int .i64 x.r.fr):=hB.cell 8 rfl;have c9:W.cell? ⟨w.heap.size,9,none⟩=some (.int .i64 x.r.mn):=hB.cell 9 rfl;have c10:W.cell? ⟨w.heap.size,10,none⟩=some (.int .i64 x.r.mb):=hB.cell 10 rfl;have hsn:(ae x.r.n).size=x.r.n.length:=dr _;have hsf:(ae x.r.f).size=x.r.f.length:=dr _;have hsp:(ae x.r.p).size=x.r.p.length:=dr _;clear hW hB hS;unfold eU;go_enter Tryz.func39,Tryz.ntmps39;go_upto_region 1 with fail
 rw [← HW.out];go_cut [3] from 4 (fun s3 wx=>xD W (dA x.r) s3 wx)
 case first =>
  by_cases hk0:0≤x.r.k
  rotate_left
  ·have e:dA x.r=false:=by unfold dA;rw [decide_eq_false hk0];simp
   have HE:=aa e;clear e;(go_wp2_with fail);go_meet
   exact ⟨by rw [HE.out],rfl⟩
  have hk0':decide (0≤x.r.k)=true:=decide_eq_true hk0;by_cases hk8:x.r.k < 8
  rotate_left
  ·have e:dA x.r=false:=by unfold dA;rw [decide_eq_false hk8];simp
   have HE:=aa e;clear e;(go_wp2_with fail);go_meet
   exact ⟨by rw [HE.out],rfl⟩
  have hk8':decide (x.r.k < 8)=true:=decide_eq_true hk8;have cg_s:=fun W1=>aV W1 x.r.s;have cg_q:=fun W1=>aV W1 x.r.q;have cg_b:=fun W1=>aV W1 x.r.b;have cg_fr:=fun W1=>aV W1 x.r.fr;have cg_mn:=fun W1=>aV W1 x.r.mn;have cg_mb:=fun W1=>aV W1 x.r.mb;by_cases h_s:ah x.r.s=true
  rotate_left
  ·rw [Bool.not_eq_true] at h_s;have e:dA x.r=false:=by unfold dA;rw [h_s];simp
   have HE:=aa e;simp only [h_s] at cg_s;clear h_s e;(go_wp2_with (first | (go_at_call 74;refine (cg_s _).mono ?_;clear cg_s;rintro _ W0 ⟨rfl,hW0⟩;obtain rfl:=hW0.symm) | (go_at_call 74;refine (cg_q _).mono ?_;clear cg_q;rintro _ W0 ⟨rfl,hW0⟩;obtain rfl:=hW0.symm) | (go_at_call 74;refine (cg_b _).mono ?_;clear cg_b;rintro _ W0 ⟨rfl,hW0⟩;obtain rfl:=hW0.symm) | (go_at_call 74;refine (cg_fr _).mono ?_;clear cg_fr;rintro _ W0 ⟨rfl,hW0⟩;obtain rfl:=hW0.symm) | (go_at_call 74;refine (cg_mn _).mono ?_;clear cg_mn;rintro _ W0 ⟨rfl,hW0⟩;obtain rfl:=hW0.symm) | (go_at_call 74;refine (cg_mb _).mono ?_;clear cg_mb;rintro _ W0 ⟨rfl,hW0⟩;obtain rfl:=hW0.symm)));go_meet
   exact ⟨by rw [HE.out],rfl⟩
  have HG_s:=aa h_s;simp only [h_s] at cg_s;clear h_s;by_cases h_q:ah x.r.q=true
  rotate_left
  ·rw [Bool.not_eq_true] at h_q;have e:dA x.r=false:=by unfold dA;rw [h_q];simp
   have HE:=aa e;simp only [h_q] at cg_q;clear h_q e;(go_wp2_with (first | (go_at_call 74;refine (cg_s _).mono ?_;clear cg_s;rintro _ W0 ⟨rfl,hW0⟩;obtain rfl:=hW0.symm) | (go_at_call 74;refine (cg_q _).mono ?_;clear cg_q;rintro _ W0 ⟨rfl,hW0⟩;obtain rfl:=hW0.symm) | (go_at_call 74;refine (cg_b _).mono ?_;clear cg_b;rintro _ W0 ⟨rfl,hW0⟩;obtain rfl:=hW0.symm) | (go_at_call 74;refine (cg_fr _).mono ?_;clear cg_fr;rintro _ W0 ⟨rfl,hW0⟩;obtain rfl:=hW0.symm) | (go_at_call 74;refine (cg_mn _).mono ?_;clear cg_mn;rintro _ W0 ⟨rfl,hW0⟩;obtain rfl:=hW0.symm) | (go_at_call 74;refine (cg_mb _).mono ?_;clear cg_mb;rintro _ W0 ⟨rfl,hW0⟩;obtain rfl:=hW0.symm)));go_meet
   exact ⟨by rw [HE.out],rfl⟩
  have HG_q:=aa h_q;simp only [h_q] at cg_q;clear h_q;by_cases h_b:ah x.r.b=true
  rotate_left
  ·rw [Bool.not_eq_true] at h_b;have e:dA x.r=false:=by unfold dA;rw [h_b];simp
   have HE:=aa e;simp only [h_b] at cg_b;clear h_b e;(go_wp2_with (first | (go_at_call 74;refine (cg_s _).mono ?_;clear cg_s;rintro _ W0 ⟨rfl,hW0⟩;obtain rfl:=hW0.symm) | (go_at_call 74;refine (cg_q _).mono ?_;clear cg_q;rintro _ W0 ⟨rfl,hW0⟩;obtain rfl:=hW0.symm) | (go_at_call 74;refine (cg_b _).mono ?_;clear cg_b;rintro _ W0 ⟨rfl,hW0⟩;obtain rfl:=hW0.symm) | (go_at_call 74;refine (cg_fr _).mono ?_;clear cg_fr;rintro _ W0 ⟨rfl,hW0⟩;obtain rfl:=hW0.symm) | (go_at_call 74;refine (cg_mn _).mono ?_;clear cg_mn;rintro _ W0 ⟨rfl,hW0⟩;obtain rfl:=hW0.symm) | (go_at_call 74;refine (cg_mb _).mono ?_;clear cg_mb;rintro _ W0 ⟨rfl,hW0⟩;obtain rfl:=hW0.symm)));go_meet
   exact ⟨by rw [HE.out],rfl⟩
  have HG_b:=aa h_b;simp only [h_b] at cg_b;clear h_b;by_cases h_fr:ah x.r.fr=true
  rotate_left
  ·rw [Bool.not_eq_true] at h_fr;have e:dA x.r=false:=by unfold dA;rw [h_fr];simp
   have HE:=aa e;simp only [h_fr] at cg_fr;clear h_fr e;(go_wp2_with (first | (go_at_call 74;refine (cg_s _).mono ?_;clear cg_s;rintro _ W0 ⟨rfl,hW0⟩;obtain rfl:=hW0.symm) | (go_at_call 74;refine (cg_q _).mono ?_;clear cg_q;rintro _ W0 ⟨rfl,hW0⟩;obtain rfl:=hW0.symm) | (go_at_call 74;refine (cg_b _).mono ?_;clear cg_b;rintro _ W0 ⟨rfl,hW0⟩;obtain rfl:=hW0.symm) | (go_at_call 74;refine (cg_fr _).mono ?_;clear cg_fr;rintro _ W0 ⟨rfl,hW0⟩;obtain rfl:=hW0.symm) | (go_at_call 74;refine (cg_mn _).mono ?_;clear cg_mn;rintro _ W0 ⟨rfl,hW0⟩;obtain rfl:=hW0.symm) | (go_at_call 74;refine (cg_mb _).mono ?_;clear cg_mb;rintro _ W0 ⟨rfl,hW0⟩;obtain rfl:=hW0.symm)));go_meet
   exact ⟨by rw [HE.out],rfl⟩
  have HG_fr:=aa h_fr;simp only [h_fr] at cg_fr;clear h_fr;by_cases h_mn:ah x.r.mn=true
  rotate_left
  ·rw [Bool.not_eq_true] at h_mn;have e:dA x.r=false:=by unfold dA;rw [h_mn];simp
   have HE:=aa e;simp only [h_mn] at cg_mn;clear h_mn e;(go_wp2_with (first | (go_at_call 74;refine (cg_s _).mono ?_;clear cg_s;rintro _ W0 ⟨rfl,hW0⟩;obtain rfl:=hW0.symm) | (go_at_call 74;refine (cg_q _).mono ?_;clear cg_q;rintro _ W0 ⟨rfl,hW0⟩;obtain rfl:=hW0.symm) | (go_at_call 74;refine (cg_b _).mono ?_;clear cg_b;rintro _ W0 ⟨rfl,hW0⟩;obtain rfl:=hW0.symm) | (go_at_call 74;refine (cg_fr _).mono ?_;clear cg_fr;rintro _ W0 ⟨rfl,hW0⟩;obtain rfl:=hW0.symm) | (go_at_call 74;refine (cg_mn _).mono ?_;clear cg_mn;rintro _ W0 ⟨rfl,hW0⟩;obtain rfl:=hW0.symm) | (go_at_call 74;refine (cg_mb _).mono ?_;clear cg_mb;rintro _ W0 ⟨rfl,hW0⟩;obtain rfl:=hW0.symm)));go_meet
   exact ⟨by rw [HE.out],rfl⟩
  have HG_mn:=aa h_mn;simp only [h_mn] at cg_mn;clear h_mn;by_cases h_mb:ah x.r.mb=true
  rotate_left
  ·rw [Bool.not_eq_true] at h_mb;have e:dA x.r=false:=by unfold dA;rw [h_mb];simp
   have HE:=aa e;simp only [h_mb] at cg_mb;clear h_mb e;(go_wp2_with (first | (go_at_call 74;refine (cg_s _).mono ?_;clear cg_s;rintro _ W0 ⟨rfl,hW0⟩;obtain rfl:=hW0.symm) | (go_at_call 74;refine (cg_q _).mono ?_;clear cg_q;rintro _ W0 ⟨rfl,hW0⟩;obtain rfl:=hW0.symm) | (go_at_call 74;refine (cg_b _).mono ?_;clear cg_b;rintro _ W0 ⟨rfl,hW0⟩;obtain rfl:=hW0.symm) | (go_at_call 74;refine (cg_fr _).mono ?_;clear cg_fr;rintro _ W0 ⟨rfl,hW0⟩;obtain rfl:=hW0.symm) | (go_at_call 74;refine (cg_mn _).mono ?_;clear cg_mn;rintro _ W0 ⟨rfl,hW0⟩;obtain rfl:=hW0.symm) | (go_at_call 74;refine (cg_mb _).mono ?_;clear cg_mb;rintro _ W0 ⟨rfl,hW0⟩;obtain rfl:=hW0.symm)));go_meet
   exact ⟨by rw [HE.out],rfl⟩
  have HG_mb:=aa h_mb;simp only [h_mb] at cg_mb;clear h_mb;have e:dA x.r=true:=by unfold dA;rw [hk0',hk8',HG_s.out,HG_q.out,HG_b.out,HG_fr.out,HG_mn.out,HG_mb.out];rfl
  have HE:=aa e;clear e;(go_wp2_with (first | (go_at_call 74;refine (cg_s _).mono ?_;clear cg_s;rintro _ W0 ⟨rfl,hW0⟩;obtain rfl:=hW0.symm) | (go_at_call 74;refine (cg_q _).mono ?_;clear cg_q;rintro _ W0 ⟨rfl,hW0⟩;obtain rfl:=hW0.symm) | (go_at_call 74;refine (cg_b _).mono ?_;clear cg_b;rintro _ W0 ⟨rfl,hW0⟩;obtain rfl:=hW0.symm) | (go_at_call 74;refine (cg_fr _).mono ?_;clear cg_fr;rintro _ W0 ⟨rfl,hW0⟩;obtain rfl:=hW0.symm) | (go_at_call 74;refine (cg_mn _).mono ?_;clear cg_mn;rintro _ W0 ⟨rfl,hW0⟩;obtain rfl:=hW0.symm) | (go_at_call 74;refine (cg_mb _).mono ?_;clear cg_mb;rintro _ W0 ⟨rfl,hW0⟩;obtain rfl:=hW0.symm)));go_meet
  exact ⟨by rw [HE.out],rfl⟩
 case rest =>
  obtain ⟨rfl,rfl⟩:=hcut;clear c0 c2 c3 c4 c8 c9 c10;obtain ⟨W,hWc⟩:∃ W,W=wc:=⟨_,rfl⟩;subst hWc;go_upto_region 2 with fail
  by_cases hnum:dA x.r=true
  rotate_left
  ·have HC:Hid (cy (dj x.r)=1):=by show cy (dj x.r)=1;unfold dj;rw [Bool.not_eq_true] at hnum;rw [hnum];rfl
   rw [Bool.not_eq_true] at hnum;rw [hnum];clear hnum;refine wp_region_held_drew (S:=fun w9=>Bx w9 w.heap.size 29 (bp x)) (by kernel_rfl) (HB.out.kept (ab.refl [] _).drew (by simp)) (fun hHeld=>?_);refine ay [0,1,2] (by rfl) (by kernel_rfl) (fun _ _ _ _ _ h=>h) hHeld ?_
   iterate 3
    refine yk ?_ rfl (Or.inl ⟨by rfl,?_⟩) ?_;rotate_left
    ·intro w9 hSw;go_simp;(try with_reducible rfl)
    try simp only [sT,Act.put]
   refine ax ?_;simp only [ai,sT];refine ay [3,4,5,6] (by rfl) (by kernel_rfl) (fun _ _ _ _ _ h=>h) hHeld ?_
   iterate 4
    refine yk undef rfl (Or.inr ⟨by rfl,rfl⟩) ?_;try simp only [sT,Act.put]
   refine ax ?_;simp only [ai,sT];refine ay [7,8] (by rfl) (by kernel_rfl) (fun _ _ _ _ _ h=>h) hHeld ?_
   iterate 2
    refine yk ?_ rfl (Or.inl ⟨by rfl,?_⟩) ?_;rotate_left
    ·intro w9 hSw;go_simp;(try with_reducible rfl)
    try simp only [sT,Act.put]
   refine ax ?_;simp only [ai,sT];refine ay [9,10,11,12] (by rfl) (by kernel_rfl) (fun _ _ _ _ _ h=>h) hHeld ?_
   iterate 4
    refine yk undef rfl (Or.inr ⟨by rfl,rfl⟩) ?_;try simp only [sT,Act.put]
   refine ax ?_;simp only [ai,sT];refine ay [13,14] (by rfl) (by kernel_rfl) (fun _ _ _ _ _ h=>h) hHeld ?_
   iterate 2
    refine yk ?_ rfl (Or.inl ⟨by rfl,?_⟩) ?_;rotate_left
    ·intro w9 hSw;go_simp;(try with_reducible rfl)
    try simp only [sT,Act.put]
   refine ax ?_;simp only [ai,sT];refine ay [15,16,17,18] (by rfl) (by kernel_rfl) (fun _ _ _ _ _ h=>h) hHeld ?_
   iterate 4
    refine yk undef rfl (Or.inr ⟨by rfl,rfl⟩) ?_;try simp only [sT,Act.put]
   refine ax ?_;simp only [ai,sT];refine ay [19,20] (by rfl) (by kernel_rfl) (fun _ _ _ _ _ h=>h) hHeld ?_
   iterate 2
    refine yk ?_ rfl (Or.inl ⟨by rfl,?_⟩) ?_;rotate_left
    ·intro w9 hSw;go_simp;(try with_reducible rfl)
    try simp only [sT,Act.put]
   refine ax ?_;simp only [ai,sT];refine ay [21,22,23,24] (by rfl) (by kernel_rfl) (fun _ _ _ _ _ h=>h) hHeld ?_
   iterate 4
    refine yk undef rfl (Or.inr ⟨by rfl,rfl⟩) ?_;try simp only [sT,Act.put]
   refine ax ?_;simp only [ai,sT];refine ay [25,26] (by rfl) (by kernel_rfl) (fun _ _ _ _ _ h=>h) hHeld ?_
   iterate 2
    refine yk ?_ rfl (Or.inl ⟨by rfl,?_⟩) ?_;rotate_left
    ·intro w9 hSw;go_simp;(try with_reducible rfl)
    try simp only [sT,Act.put]
   refine ax ?_;simp only [ai,sT];refine ay [27,28,29,30,31] (by rfl) (by kernel_rfl) (fun _ _ _ _ _ h=>h) hHeld ?_
   iterate 5
    refine yk undef rfl (Or.inr ⟨by rfl,rfl⟩) ?_;try simp only [sT,Act.put]
   refine ax ?_;simp only [ai,sT];refine ay [32] (by rfl) (by kernel_rfl) (fun _ _ _ _ _ h=>h) hHeld ?_
   iterate 1
    refine yk ?_ rfl (Or.inl ⟨by rfl,?_⟩) ?_;rotate_left
    ·intro w9 hSw;go_simp;(try with_reducible rfl)
    try simp only [sT,Act.put]
   refine ax ?_;simp only [ai,sT];(try simp only [sT,Act.put]);refine wpAnyH_done (by kernel_rfl) ?_ _;clear hHeld;(go_wp2_with fail);go_ret
   rw [HC.out];exact ⟨rfl,HK.out.drew⟩
  have HNUM:=aa hnum;rw [hnum];clear hnum;by_cases hbn:255 < x.r.n.length
  ·have hb':(255:Int) < x.r.n.length:=by omega
   have HC:Hid (cy (dj x.r)=1):=by show cy (dj x.r)=1;unfold dj;rw [show eS x.r.n=false from decide_eq_false (by omega)];simp [cy]
   refine wp_region_held_drew (S:=fun w9=>Bx w9 w.heap.size 29 (bp x)) (by kernel_rfl) (HB.out.kept (ab.refl [] _).drew (by simp)) (fun hHeld=>?_);refine ay [0,1,2,3] (by rfl) (by kernel_rfl) (fun _ _ _ _ _ h=>h) hHeld ?_
   iterate 4
    refine yk ?_ rfl (Or.inl ⟨by rfl,?_⟩) ?_;rotate_left
    ·intro w9 hSw;go_simp;(try with_reducible rfl)
    try simp only [sT,Act.put]
   refine ax ?_;simp only [ai,sT];refine ay [4] (by rfl) (by kernel_rfl) (fun _ _ _ _ _ h=>h) hHeld ?_
   iterate 1
    refine yk ?_ rfl (Or.inl ⟨by rfl,?_⟩) ?_;rotate_left
    ·intro w9 hSw;have pj:w9.cell? ⟨w.heap.size,1,none⟩=some (.string (ae x.r.n)):=hSw.cell 1 rfl;go_simp;(try with_reducible rfl)
    try simp only [sT,Act.put]
   refine ax ?_;simp only [ai,sT];refine ay [5,6,7,8] (by rfl) (by kernel_rfl) (fun _ _ _ _ _ h=>h) hHeld ?_
   iterate 4
    refine yk ?_ rfl (Or.inl ⟨by rfl,?_⟩) ?_;rotate_left
    ·intro w9 hSw;go_simp;(try with_reducible rfl)
    try simp only [sT,Act.put]
   refine ax ?_;simp only [ai,sT];refine ay [9,10,11,12] (by rfl) (by kernel_rfl) (fun _ _ _ _ _ h=>h) hHeld ?_
   iterate 4
    refine yk undef rfl (Or.inr ⟨by rfl,rfl⟩) ?_;try simp only [sT,Act.put]
   refine ax ?_;simp only [ai,sT];refine ay [13,14] (by rfl) (by kernel_rfl) (fun _ _ _ _ _ h=>h) hHeld ?_
   iterate 2
    refine yk ?_ rfl (Or.inl ⟨by rfl,?_⟩) ?_;rotate_left
    ·intro w9 hSw;go_simp;(try with_reducible rfl)
    try simp only [sT,Act.put]
   refine ax ?_;simp only [ai,sT];refine ay [15,16,17,18] (by rfl) (by kernel_rfl) (fun _ _ _ _ _ h=>h) hHeld ?_
   iterate 4
    refine yk undef rfl (Or.inr ⟨by rfl,rfl⟩) ?_;try simp only [sT,Act.put]
   refine ax ?_;simp only [ai,sT];refine ay [19,20] (by rfl) (by kernel_rfl) (fun _ _ _ _ _ h=>h) hHeld ?_
   iterate 2
    refine yk ?_ rfl (Or.inl ⟨by rfl,?_⟩) ?_;rotate_left
    ·intro w9 hSw;go_simp;(try with_reducible rfl)
    try simp only [sT,Act.put]
   refine ax ?_;simp only [ai,sT];refine ay [21,22,23,24] (by rfl) (by kernel_rfl) (fun _ _ _ _ _ h=>h) hHeld ?_
   iterate 4
    refine yk undef rfl (Or.inr ⟨by rfl,rfl⟩) ?_;try simp only [sT,Act.put]
   refine ax ?_;simp only [ai,sT];refine ay [25,26] (by rfl) (by kernel_rfl) (fun _ _ _ _ _ h=>h) hHeld ?_
   iterate 2
    refine yk ?_ rfl (Or.inl ⟨by rfl,?_⟩) ?_;rotate_left
    ·intro w9 hSw;go_simp;(try with_reducible rfl)
    try simp only [sT,Act.put]
   refine ax ?_;simp only [ai,sT];refine ay [27,28,29,30,31] (by rfl) (by kernel_rfl) (fun _ _ _ _ _ h=>h) hHeld ?_
   iterate 5
    refine yk undef rfl (Or.inr ⟨by rfl,rfl⟩) ?_;try simp only [sT,Act.put]
   refine ax ?_;simp only [ai,sT];refine ay [32] (by rfl) (by kernel_rfl) (fun _ _ _ _ _ h=>h) hHeld ?_
   iterate 1
    refine yk ?_ rfl (Or.inl ⟨by rfl,?_⟩) ?_;rotate_left
    ·intro w9 hSw;go_simp;(try with_reducible rfl)
    try simp only [sT,Act.put]
   refine ax ?_;simp only [ai,sT];(try simp only [sT,Act.put]);refine wpAnyH_done (by kernel_rfl) ?_ _;clear hHeld;(go_wp2_with fail);go_ret
   rw [HC.out];exact ⟨rfl,HK.out.drew⟩
  have hbn':¬ (255:Int) < x.r.n.length:=by omega
  have HTn:Hid (eS x.r.n=true):=decide_eq_true (by omega);by_cases hbf:255 < x.r.f.length
  ·have hb':(255:Int) < x.r.f.length:=by omega
   have HC:Hid (cy (dj x.r)=1):=by show cy (dj x.r)=1;unfold dj;rw [show eS x.r.f=false from decide_eq_false (by omega)];simp [cy]
   refine wp_region_held_drew (S:=fun w9=>Bx w9 w.heap.size 29 (bp x)) (by kernel_rfl) (HB.out.kept (ab.refl [] _).drew (by simp)) (fun hHeld=>?_);refine ay [0,1,2,3] (by rfl) (by kernel_rfl) (fun _ _ _ _ _ h=>h) hHeld ?_
   iterate 4
    refine yk ?_ rfl (Or.inl ⟨by rfl,?_⟩) ?_;rotate_left
    ·intro w9 hSw;go_simp;(try with_reducible rfl)
    try simp only [sT,Act.put]
   refine ax ?_;simp only [ai,sT];refine ay [4] (by rfl) (by kernel_rfl) (fun _ _ _ _ _ h=>h) hHeld ?_
   iterate 1
    refine yk ?_ rfl (Or.inl ⟨by rfl,?_⟩) ?_;rotate_left
    ·intro w9 hSw;have pj:w9.cell? ⟨w.heap.size,1,none⟩=some (.string (ae x.r.n)):=hSw.cell 1 rfl;go_simp;(try with_reducible rfl)
    try simp only [sT,Act.put]
   refine ax ?_;simp only [ai,sT];refine ay [5,6,7,8,9] (by rfl) (by kernel_rfl) (fun _ _ _ _ _ h=>h) hHeld ?_
   iterate 5
    refine yk ?_ rfl (Or.inl ⟨by rfl,?_⟩) ?_;rotate_left
    ·intro w9 hSw;go_simp;(try with_reducible rfl)
    try simp only [sT,Act.put]
   refine ax ?_;simp only [ai,sT];refine ay [10] (by rfl) (by kernel_rfl) (fun _ _ _ _ _ h=>h) hHeld ?_
   iterate 1
    refine yk ?_ rfl (Or.inl ⟨by rfl,?_⟩) ?_;rotate_left
    ·intro w9 hSw;have pj:w9.cell? ⟨w.heap.size,5,none⟩=some (.string (ae x.r.f)):=hSw.cell 5 rfl;go_simp;(try with_reducible rfl)
    try simp only [sT,Act.put]
   refine ax ?_;simp only [ai,sT];refine ay [11,12,13,14] (by rfl) (by kernel_rfl) (fun _ _ _ _ _ h=>h) hHeld ?_
   iterate 4
    refine yk ?_ rfl (Or.inl ⟨by rfl,?_⟩) ?_;rotate_left
    ·intro w9 hSw;go_simp;(try with_reducible rfl)
    try simp only [sT,Act.put]
   refine ax ?_;simp only [ai,sT];refine ay [15,16,17,18] (by rfl) (by kernel_rfl) (fun _ _ _ _ _ h=>h) hHeld ?_
   iterate 4
    refine yk undef rfl (Or.inr ⟨by rfl,rfl⟩) ?_;try simp only [sT,Act.put]
   refine ax ?_;simp only [ai,sT];refine ay [19,20] (by rfl) (by kernel_rfl) (fun _ _ _ _ _ h=>h) hHeld ?_
   iterate 2
    refine yk ?_ rfl (Or.inl ⟨by rfl,?_⟩) ?_;rotate_left
    ·intro w9 hSw;go_simp;(try with_reducible rfl)
    try simp only [sT,Act.put]
   refine ax ?_;simp only [ai,sT];refine ay [21,22,23,24] (by rfl) (by kernel_rfl) (fun _ _ _ _ _ h=>h) hHeld ?_
   iterate 4
    refine yk undef rfl (Or.inr ⟨by rfl,rfl⟩) ?_;try simp only [sT,Act.put]
   refine ax ?_;simp only [ai,sT];refine ay [25,26] (by rfl) (by kernel_rfl) (fun _ _ _ _ _ h=>h) hHeld ?_
   iterate 2
    refine yk ?_ rfl (Or.inl ⟨by rfl,?_⟩) ?_;rotate_left
    ·intro w9 hSw;go_simp;(try with_reducible rfl)
    try simp only [sT,Act.put]
   refine ax ?_;simp only [ai,sT];refine ay [27,28,29,30,31] (by rfl) (by kernel_rfl) (fun _ _ _ _ _ h=>h) hHeld ?_
   iterate 5
    refine yk undef rfl (Or.inr ⟨by rfl,rfl⟩) ?_;try simp only [sT,Act.put]
   refine ax ?_;simp only [ai,sT];refine ay [32] (by rfl) (by kernel_rfl) (fun _ _ _ _ _ h=>h) hHeld ?_
   iterate 1
    refine yk ?_ rfl (Or.inl ⟨by rfl,?_⟩) ?_;rotate_left
    ·intro w9 hSw;go_simp;(try with_reducible rfl)
    try simp only [sT,Act.put]
   refine ax ?_;simp only [ai,sT];(try simp only [sT,Act.put]);refine wpAnyH_done (by kernel_rfl) ?_ _;clear hHeld;(go_wp2_with fail);go_ret
   rw [HC.out];exact ⟨rfl,HK.out.drew⟩
  have hbf':¬ (255:Int) < x.r.f.length:=by omega
  have HTf:Hid (eS x.r.f=true):=decide_eq_true (by omega);by_cases hbp:255 < x.r.p.length
  ·have hb':(255:Int) < x.r.p.length:=by omega
   have HC:Hid (cy (dj x.r)=1):=by show cy (dj x.r)=1;unfold dj;rw [show eS x.r.p=false from decide_eq_false (by omega)];simp [cy]
   refine wp_region_held_drew (S:=fun w9=>Bx w9 w.heap.size 29 (bp x)) (by kernel_rfl) (HB.out.kept (ab.refl [] _).drew (by simp)) (fun hHeld=>?_);refine ay [0,1,2,3] (by rfl) (by kernel_rfl) (fun _ _ _ _ _ h=>h) hHeld ?_
   iterate 4
    refine yk ?_ rfl (Or.inl ⟨by rfl,?_⟩) ?_;rotate_left
    ·intro w9 hSw;go_simp;(try with_reducible rfl)
    try simp only [sT,Act.put]
   refine ax ?_;simp only [ai,sT];refine ay [4] (by rfl) (by kernel_rfl) (fun _ _ _ _ _ h=>h) hHeld ?_
   iterate 1
    refine yk ?_ rfl (Or.inl ⟨by rfl,?_⟩) ?_;rotate_left
    ·intro w9 hSw;have pj:w9.cell? ⟨w.heap.size,1,none⟩=some (.string (ae x.r.n)):=hSw.cell 1 rfl;go_simp;(try with_reducible rfl)
    try simp only [sT,Act.put]
   refine ax ?_;simp only [ai,sT];refine ay [5,6,7,8,9] (by rfl) (by kernel_rfl) (fun _ _ _ _ _ h=>h) hHeld ?_
   iterate 5
    refine yk ?_ rfl (Or.inl ⟨by rfl,?_⟩) ?_;rotate_left
    ·intro w9 hSw;go_simp;(try with_reducible rfl)
    try simp only [sT,Act.put]
   refine ax ?_;simp only [ai,sT];refine ay [10] (by rfl) (by kernel_rfl) (fun _ _ _ _ _ h=>h) hHeld ?_
   iterate 1
    refine yk ?_ rfl (Or.inl ⟨by rfl,?_⟩) ?_;rotate_left
    ·intro w9 hSw;have pj:w9.cell? ⟨w.heap.size,5,none⟩=some (.string (ae x.r.f)):=hSw.cell 5 rfl;go_simp;(try with_reducible rfl)
    try simp only [sT,Act.put]
   refine ax ?_;simp only [ai,sT];refine ay [11,12,13,14,15] (by rfl) (by kernel_rfl) (fun _ _ _ _ _ h=>h) hHeld ?_
   iterate 5
    refine yk ?_ rfl (Or.inl ⟨by rfl,?_⟩) ?_;rotate_left
    ·intro w9 hSw;go_simp;(try with_reducible rfl)
    try simp only [sT,Act.put]
   refine ax ?_;simp only [ai,sT];refine ay [16] (by rfl) (by kernel_rfl) (fun _ _ _ _ _ h=>h) hHeld ?_
   iterate 1
    refine yk ?_ rfl (Or.inl ⟨by rfl,?_⟩) ?_;rotate_left
    ·intro w9 hSw;have pj:w9.cell? ⟨w.heap.size,7,none⟩=some (.string (ae x.r.p)):=hSw.cell 7 rfl;go_simp;(try with_reducible rfl)
    try simp only [sT,Act.put]
   refine ax ?_;simp only [ai,sT];refine ay [17,18,19,20] (by rfl) (by kernel_rfl) (fun _ _ _ _ _ h=>h) hHeld ?_
   iterate 4
    refine yk ?_ rfl (Or.inl ⟨by rfl,?_⟩) ?_;rotate_left
    ·intro w9 hSw;go_simp;(try with_reducible rfl)
    try simp only [sT,Act.put]
   refine ax ?_;simp only [ai,sT];refine ay [21,22,23,24] (by rfl) (by kernel_rfl) (fun _ _ _ _ _ h=>h) hHeld ?_
   iterate 4
    refine yk undef rfl (Or.inr ⟨by rfl,rfl⟩) ?_;try simp only [sT,Act.put]
   refine ax ?_;simp only [ai,sT];refine ay [25,26] (by rfl) (by kernel_rfl) (fun _ _ _ _ _ h=>h) hHeld ?_
   iterate 2
    refine yk ?_ rfl (Or.inl ⟨by rfl,?_⟩) ?_;rotate_left
    ·intro w9 hSw;go_simp;(try with_reducible rfl)
    try simp only [sT,Act.put]
   refine ax ?_;simp only [ai,sT];refine ay [27,28,29,30,31] (by rfl) (by kernel_rfl) (fun _ _ _ _ _ h=>h) hHeld ?_
   iterate 5
    refine yk undef rfl (Or.inr ⟨by rfl,rfl⟩) ?_;try simp only [sT,Act.put]
   refine ax ?_;simp only [ai,sT];refine ay [32] (by rfl) (by kernel_rfl) (fun _ _ _ _ _ h=>h) hHeld ?_
   iterate 1
    refine yk ?_ rfl (Or.inl ⟨by rfl,?_⟩) ?_;rotate_left
    ·intro w9 hSw;go_simp;(try with_reducible rfl)
    try simp only [sT,Act.put]
   refine ax ?_;simp only [ai,sT];(try simp only [sT,Act.put]);refine wpAnyH_done (by kernel_rfl) ?_ _;clear hHeld;(go_wp2_with fail);go_ret
   rw [HC.out];exact ⟨rfl,HK.out.drew⟩
  have hbp':¬ (255:Int) < x.r.p.length:=by omega
  have HTp:Hid (eS x.r.p=true):=decide_eq_true (by omega);by_cases hmc:mO x.r.c=true
  rotate_left
  ·rw [Bool.not_eq_true] at hmc;have HMC:=aa hmc;have HC:Hid (cy (dj x.r)=1):=by show cy (dj x.r)=1;unfold dj;rw [hmc];simp [cy]
   clear hmc;refine wp_region_held_drew (S:=fun w9=>Bx w9 w.heap.size 29 (bp x)) (by kernel_rfl) (HB.out.kept (ab.refl [] _).drew (by simp)) (fun hHeld=>?_);refine ay [0,1,2,3] (by rfl) (by kernel_rfl) (fun _ _ _ _ _ h=>h) hHeld ?_
   iterate 4
    refine yk ?_ rfl (Or.inl ⟨by rfl,?_⟩) ?_;rotate_left
    ·intro w9 hSw;go_simp;(try with_reducible rfl)
    try simp only [sT,Act.put]
   refine ax ?_;simp only [ai,sT];refine ay [4] (by rfl) (by kernel_rfl) (fun _ _ _ _ _ h=>h) hHeld ?_
   iterate 1
    refine yk ?_ rfl (Or.inl ⟨by rfl,?_⟩) ?_;rotate_left
    ·intro w9 hSw;have pj:w9.cell? ⟨w.heap.size,1,none⟩=some (.string (ae x.r.n)):=hSw.cell 1 rfl;go_simp;(try with_reducible rfl)
    try simp only [sT,Act.put]
   refine ax ?_;simp only [ai,sT];refine ay [5,6,7,8,9] (by rfl) (by kernel_rfl) (fun _ _ _ _ _ h=>h) hHeld ?_
   iterate 5
    refine yk ?_ rfl (Or.inl ⟨by rfl,?_⟩) ?_;rotate_left
    ·intro w9 hSw;go_simp;(try with_reducible rfl)
    try simp only [sT,Act.put]
   refine ax ?_;simp only [ai,sT];refine ay [10] (by rfl) (by kernel_rfl) (fun _ _ _ _ _ h=>h) hHeld ?_
   iterate 1
    refine yk ?_ rfl (Or.inl ⟨by rfl,?_⟩) ?_;rotate_left
    ·intro w9 hSw;have pj:w9.cell? ⟨w.heap.size,5,none⟩=some (.string (ae x.r.f)):=hSw.cell 5 rfl;go_simp;(try with_reducible rfl)
    try simp only [sT,Act.put]
   refine ax ?_;simp only [ai,sT];refine ay [11,12,13,14,15] (by rfl) (by kernel_rfl) (fun _ _ _ _ _ h=>h) hHeld ?_
   iterate 5
    refine yk ?_ rfl (Or.inl ⟨by rfl,?_⟩) ?_;rotate_left
    ·intro w9 hSw;go_simp;(try with_reducible rfl)
    try simp only [sT,Act.put]
   refine ax ?_;simp only [ai,sT];refine ay [16] (by rfl) (by kernel_rfl) (fun _ _ _ _ _ h=>h) hHeld ?_
   iterate 1
    refine yk ?_ rfl (Or.inl ⟨by rfl,?_⟩) ?_;rotate_left
    ·intro w9 hSw;have pj:w9.cell? ⟨w.heap.size,7,none⟩=some (.string (ae x.r.p)):=hSw.cell 7 rfl;go_simp;(try with_reducible rfl)
    try simp only [sT,Act.put]
   refine ax ?_;simp only [ai,sT];refine ay [17,18,19,20,21] (by rfl) (by kernel_rfl) (fun _ _ _ _ _ h=>h) hHeld ?_
   iterate 5
    refine yk ?_ rfl (Or.inl ⟨by rfl,?_⟩) ?_;rotate_left
    ·intro w9 hSw;go_simp;(try with_reducible rfl)
    try simp only [sT,Act.put]
   refine ax ?_;simp only [ai,sT];refine ay [22] (by rfl) (by kernel_rfl) (fun _ _ _ _ _ h=>h) hHeld ?_
   iterate 1
    refine yk ?_ rfl (Or.inl ⟨by rfl,?_⟩) ?_;rotate_left
    ·intro w9 hSw;have pj:w9.cell? ⟨w.heap.size,6,none⟩=some (.slice x.mo x.m x.mc):=hSw.cell 6 rfl;go_simp;(try with_reducible rfl)
    try simp only [sT,Act.put]
   refine ax ?_;simp only [ai,sT];refine cd 23 (by kernel_rfl) rfl (fun K0 hK0=>?_);go_simp;refine (gM _ x.mo x.m x.mc x.r.c (HS.out.kept (ab.refl [] _).drew (by simp))).mono ?_;rw [HMC.out];rintro _ W0 ⟨rfl,hW0⟩;obtain rfl:=hW0.symm;(go_wp2_with fail);refine hK0.out _ _ (HB.out.kept (ab.refl [] _).drew (by simp)) (fun hHeld=>?_);clear hK0 K0;(try simp only [sT,Act.put]);refine ay [24,25,26] (by rfl) (by kernel_rfl) (fun _ _ _ _ _ h=>h) hHeld ?_
   iterate 3
    refine yk ?_ rfl (Or.inl ⟨by rfl,?_⟩) ?_;rotate_left
    ·intro w9 hSw;go_simp;(try with_reducible rfl)
    try simp only [sT,Act.put]
   refine ax ?_;simp only [ai,sT];refine ay [27,28,29,30,31] (by rfl) (by kernel_rfl) (fun _ _ _ _ _ h=>h) hHeld ?_
   iterate 5
    refine yk undef rfl (Or.inr ⟨by rfl,rfl⟩) ?_;try simp only [sT,Act.put]
   refine ax ?_;simp only [ai,sT];refine ay [32] (by rfl) (by kernel_rfl) (fun _ _ _ _ _ h=>h) hHeld ?_
   iterate 1
    refine yk ?_ rfl (Or.inl ⟨by rfl,?_⟩) ?_;rotate_left
    ·intro w9 hSw;go_simp;(try with_reducible rfl)
    try simp only [sT,Act.put]
   refine ax ?_;simp only [ai,sT];(try simp only [sT,Act.put]);refine wpAnyH_done (by kernel_rfl) ?_ _;clear hHeld;(go_wp2_with fail);go_ret
   rw [HC.out];exact ⟨rfl,HK.out.drew⟩
  have HMC:=aa hmc;clear hmc;by_cases how:x.r=jU x.r
  rotate_left
  ·have HOW:=aa (decide_eq_false how);have HC:Hid (cy (dj x.r)=1):=by show cy (dj x.r)=1;unfold dj;rw [HOW.out];simp [cy]
   clear how;refine wp_region_held_drew (S:=fun w9=>Bx w9 w.heap.size 29 (bp x)) (by kernel_rfl) (HB.out.kept (ab.refl [] _).drew (by simp)) (fun hHeld=>?_);refine ay [0,1,2,3] (by rfl) (by kernel_rfl) (fun _ _ _ _ _ h=>h) hHeld ?_
   iterate 4
    refine yk ?_ rfl (Or.inl ⟨by rfl,?_⟩) ?_;rotate_left
    ·intro w9 hSw;go_simp;(try with_reducible rfl)
    try simp only [sT,Act.put]
   refine ax ?_;simp only [ai,sT];refine ay [4] (by rfl) (by kernel_rfl) (fun _ _ _ _ _ h=>h) hHeld ?_
   iterate 1
    refine yk ?_ rfl (Or.inl ⟨by rfl,?_⟩) ?_;rotate_left
    ·intro w9 hSw;have pj:w9.cell? ⟨w.heap.size,1,none⟩=some (.string (ae x.r.n)):=hSw.cell 1 rfl;go_simp;(try with_reducible rfl)
    try simp only [sT,Act.put]
   refine ax ?_;simp only [ai,sT];refine ay [5,6,7,8,9] (by rfl) (by kernel_rfl) (fun _ _ _ _ _ h=>h) hHeld ?_
   iterate 5
    refine yk ?_ rfl (Or.inl ⟨by rfl,?_⟩) ?_;rotate_left
    ·intro w9 hSw;go_simp;(try with_reducible rfl)
    try simp only [sT,Act.put]
   refine ax ?_;simp only [ai,sT];refine ay [10] (by rfl) (by kernel_rfl) (fun _ _ _ _ _ h=>h) hHeld ?_
   iterate 1
    refine yk ?_ rfl (Or.inl ⟨by rfl,?_⟩) ?_;rotate_left
    ·intro w9 hSw;have pj:w9.cell? ⟨w.heap.size,5,none⟩=some (.string (ae x.r.f)):=hSw.cell 5 rfl;go_simp;(try with_reducible rfl)
    try simp only [sT,Act.put]
   refine ax ?_;simp only [ai,sT];refine ay [11,12,13,14,15] (by rfl) (by kernel_rfl) (fun _ _ _ _ _ h=>h) hHeld ?_
   iterate 5
    refine yk ?_ rfl (Or.inl ⟨by rfl,?_⟩) ?_;rotate_left
    ·intro w9 hSw;go_simp;(try with_reducible rfl)
    try simp only [sT,Act.put]
   refine ax ?_;simp only [ai,sT];refine ay [16] (by rfl) (by kernel_rfl) (fun _ _ _ _ _ h=>h) hHeld ?_
   iterate 1
    refine yk ?_ rfl (Or.inl ⟨by rfl,?_⟩) ?_;rotate_left
    ·intro w9 hSw;have pj:w9.cell? ⟨w.heap.size,7,none⟩=some (.string (ae x.r.p)):=hSw.cell 7 rfl;go_simp;(try with_reducible rfl)
    try simp only [sT,Act.put]
   refine ax ?_;simp only [ai,sT];refine ay [17,18,19,20,21] (by rfl) (by kernel_rfl) (fun _ _ _ _ _ h=>h) hHeld ?_
   iterate 5
    refine yk ?_ rfl (Or.inl ⟨by rfl,?_⟩) ?_;rotate_left
    ·intro w9 hSw;go_simp;(try with_reducible rfl)
    try simp only [sT,Act.put]
   refine ax ?_;simp only [ai,sT];refine ay [22] (by rfl) (by kernel_rfl) (fun _ _ _ _ _ h=>h) hHeld ?_
   iterate 1
    refine yk ?_ rfl (Or.inl ⟨by rfl,?_⟩) ?_;rotate_left
    ·intro w9 hSw;have pj:w9.cell? ⟨w.heap.size,6,none⟩=some (.slice x.mo x.m x.mc):=hSw.cell 6 rfl;go_simp;(try with_reducible rfl)
    try simp only [sT,Act.put]
   refine ax ?_;simp only [ai,sT];refine cd 23 (by kernel_rfl) rfl (fun K0 hK0=>?_);go_simp;refine (gM _ x.mo x.m x.mc x.r.c (HS.out.kept (ab.refl [] _).drew (by simp))).mono ?_;rw [HMC.out];rintro _ W0 ⟨rfl,hW0⟩;obtain rfl:=hW0.symm;(go_wp2_with fail);refine hK0.out _ _ (HB.out.kept (ab.refl [] _).drew (by simp)) (fun hHeld=>?_);clear hK0 K0;(try simp only [sT,Act.put]);refine ay [24,25,26] (by rfl) (by kernel_rfl) (fun _ _ _ _ _ h=>h) hHeld ?_
   iterate 3
    refine yk ?_ rfl (Or.inl ⟨by rfl,?_⟩) ?_;rotate_left
    ·intro w9 hSw;go_simp;(try with_reducible rfl)
    try simp only [sT,Act.put]
   refine ax ?_;simp only [ai,sT];refine wpAnyH_take (i:=27) (v:=.agg (bp x).toArray) rfl (by kernel_rfl) (by kernel_rfl) (by kernel_rfl) (fun _ _ _ h=>h) (yieldsIf_load_mid (by rfl) _ _ rfl w.heap.size 0 rfl (bp x) _ (fun w9 hSw=>hSw.range) Tryz.underlying29 rfl cm) hHeld ?_;(try simp only [sT,Act.put]);refine wpAnyH_take (i:=28) (v:=.agg (bp x).toArray) rfl (by kernel_rfl) (by kernel_rfl) (by kernel_rfl) (fun _ _ _ h=>h) (yieldsIf_load_mid (by rfl) _ _ rfl w.heap.size 0 rfl (bp x) _ (fun w9 hSw=>hSw.range) Tryz.underlying29 rfl cm) hHeld ?_;(try simp only [sT,Act.put]);refine cd 29 (by kernel_rfl) rfl (fun K0 hK0=>?_);go_simp;refine (lx _ x).mono ?_;rintro _ w2 ⟨u2,rfl,hu2,hk2⟩;have HK2:=aa ((ab.refl [] W).drew.trans hk2 (by simp));clear hk2;(go_wp2_with fail);refine hK0.out _ _ (HB.out.kept HK2.out (by simp)) (fun hHeld=>?_);clear hK0 K0;(try simp only [sT,Act.put]);refine cd 30 (by kernel_rfl) rfl (fun K0 hK0=>?_);go_simp;have cS:=mK w2 x u2 hu2 (HS.out.kept HK2.out (by simp));rw [HOW.out] at cS;refine cS.mono ?_;clear cS;rintro _ w3 ⟨rfl,hk3⟩;have HK3:=aa (HK2.out.trans hk3 (by simp));clear hk3;(go_wp2_with fail);refine hK0.out _ _ (HB.out.kept HK3.out (by simp)) (fun hHeld=>?_);clear hK0 K0;(try simp only [sT,Act.put]);refine ay [31,32] (by rfl) (by kernel_rfl) (fun _ _ _ _ _ h=>h) hHeld ?_
   iterate 2
    refine yk ?_ rfl (Or.inl ⟨by rfl,?_⟩) ?_;rotate_left
    ·intro w9 hSw;go_simp;(try with_reducible rfl)
    try simp only [sT,Act.put]
   refine ax ?_;simp only [ai,sT];(try simp only [sT,Act.put]);refine wpAnyH_done (by kernel_rfl) ?_ _;clear hHeld;(go_wp2_with fail);go_ret
   rw [HC.out];exact ⟨rfl,HK.out.trans HK3.out (by simp)⟩
  have HOW:=aa (decide_eq_true how);have HC:Hid (cy (dj x.r)=0):=by show cy (dj x.r)=0;unfold dj;rw [HOW.out,HMC.out,HNUM.out,HTn.out,HTf.out,HTp.out];rfl
  clear how;refine wp_region_held_drew (S:=fun w9=>Bx w9 w.heap.size 29 (bp x)) (by kernel_rfl) (HB.out.kept (ab.refl [] _).drew (by simp)) (fun hHeld=>?_);refine ay [0,1,2,3] (by rfl) (by kernel_rfl) (fun _ _ _ _ _ h=>h) hHeld ?_
  iterate 4
   refine yk ?_ rfl (Or.inl ⟨by rfl,?_⟩) ?_;rotate_left
   ·intro w9 hSw;go_simp;(try with_reducible rfl)
   try simp only [sT,Act.put]
  refine ax ?_;simp only [ai,sT];refine ay [4] (by rfl) (by kernel_rfl) (fun _ _ _ _ _ h=>h) hHeld ?_
  iterate 1
   refine yk ?_ rfl (Or.inl ⟨by rfl,?_⟩) ?_;rotate_left
   ·intro w9 hSw;have pj:w9.cell? ⟨w.heap.size,1,none⟩=some (.string (ae x.r.n)):=hSw.cell 1 rfl;go_simp;(try with_reducible rfl)
   try simp only [sT,Act.put]
  refine ax ?_;simp only [ai,sT];refine ay [5,6,7,8,9] (by rfl) (by kernel_rfl) (fun _ _ _ _ _ h=>h) hHeld ?_
  iterate 5
   refine yk ?_ rfl (Or.inl ⟨by rfl,?_⟩) ?_;rotate_left
   ·intro w9 hSw;go_simp;(try with_reducible rfl)
   try simp only [sT,Act.put]
  refine ax ?_;simp only [ai,sT];refine ay [10] (by rfl) (by kernel_rfl) (fun _ _ _ _ _ h=>h) hHeld ?_
  iterate 1
   refine yk ?_ rfl (Or.inl ⟨by rfl,?_⟩) ?_;rotate_left
   ·intro w9 hSw;have pj:w9.cell? ⟨w.heap.size,5,none⟩=some (.string (ae x.r.f)):=hSw.cell 5 rfl;go_simp;(try with_reducible rfl)
   try simp only [sT,Act.put]
  refine ax ?_;simp only [ai,sT];refine ay [11,12,13,14,15] (by rfl) (by kernel_rfl) (fun _ _ _ _ _ h=>h) hHeld ?_
  iterate 5
   refine yk ?_ rfl (Or.inl ⟨by rfl,?_⟩) ?_;rotate_left
   ·intro w9 hSw;go_simp;(try with_reducible rfl)
   try simp only [sT,Act.put]
  refine ax ?_;simp only [ai,sT];refine ay [16] (by rfl) (by kernel_rfl) (fun _ _ _ _ _ h=>h) hHeld ?_
  iterate 1
   refine yk ?_ rfl (Or.inl ⟨by rfl,?_⟩) ?_;rotate_left
   ·intro w9 hSw;have pj:w9.cell? ⟨w.heap.size,7,none⟩=some (.string (ae x.r.p)):=hSw.cell 7 rfl;go_simp;(try with_reducible rfl)
   try simp only [sT,Act.put]
  refine ax ?_;simp only [ai,sT];refine ay [17,18,19,20,21] (by rfl) (by kernel_rfl) (fun _ _ _ _ _ h=>h) hHeld ?_
  iterate 5
   refine yk ?_ rfl (Or.inl ⟨by rfl,?_⟩) ?_;rotate_left
   ·intro w9 hSw;go_simp;(try with_reducible rfl)
   try simp only [sT,Act.put]
  refine ax ?_;simp only [ai,sT];refine ay [22] (by rfl) (by kernel_rfl) (fun _ _ _ _ _ h=>h) hHeld ?_
  iterate 1
   refine yk ?_ rfl (Or.inl ⟨by rfl,?_⟩) ?_;rotate_left
   ·intro w9 hSw;have pj:w9.cell? ⟨w.heap.size,6,none⟩=some (.slice x.mo x.m x.mc):=hSw.cell 6 rfl;go_simp;(try with_reducible rfl)
   try simp only [sT,Act.put]
  refine ax ?_;simp only [ai,sT];refine cd 23 (by kernel_rfl) rfl (fun K0 hK0=>?_);go_simp;refine (gM _ x.mo x.m x.mc x.r.c (HS.out.kept (ab.refl [] _).drew (by simp))).mono ?_;rw [HMC.out];rintro _ W0 ⟨rfl,hW0⟩;obtain rfl:=hW0.symm;(go_wp2_with fail);refine hK0.out _ _ (HB.out.kept (ab.refl [] _).drew (by simp)) (fun hHeld=>?_);clear hK0 K0;(try simp only [sT,Act.put]);refine ay [24,25,26] (by rfl) (by kernel_rfl) (fun _ _ _ _ _ h=>h) hHeld ?_
  iterate 3
   refine yk ?_ rfl (Or.inl ⟨by rfl,?_⟩) ?_;rotate_left
   ·intro w9 hSw;go_simp;(try with_reducible rfl)
   try simp only [sT,Act.put]
  refine ax ?_;simp only [ai,sT];refine wpAnyH_take (i:=27) (v:=.agg (bp x).toArray) rfl (by kernel_rfl) (by kernel_rfl) (by kernel_rfl) (fun _ _ _ h=>h) (yieldsIf_load_mid (by rfl) _ _ rfl w.heap.size 0 rfl (bp x) _ (fun w9 hSw=>hSw.range) Tryz.underlying29 rfl cm) hHeld ?_;(try simp only [sT,Act.put]);refine wpAnyH_take (i:=28) (v:=.agg (bp x).toArray) rfl (by kernel_rfl) (by kernel_rfl) (by kernel_rfl) (fun _ _ _ h=>h) (yieldsIf_load_mid (by rfl) _ _ rfl w.heap.size 0 rfl (bp x) _ (fun w9 hSw=>hSw.range) Tryz.underlying29 rfl cm) hHeld ?_;(try simp only [sT,Act.put]);refine cd 29 (by kernel_rfl) rfl (fun K0 hK0=>?_);go_simp;refine (lx _ x).mono ?_;rintro _ w2 ⟨u2,rfl,hu2,hk2⟩;have HK2:=aa ((ab.refl [] W).drew.trans hk2 (by simp));clear hk2;(go_wp2_with fail);refine hK0.out _ _ (HB.out.kept HK2.out (by simp)) (fun hHeld=>?_);clear hK0 K0;(try simp only [sT,Act.put]);refine cd 30 (by kernel_rfl) rfl (fun K0 hK0=>?_);go_simp;have cS:=mK w2 x u2 hu2 (HS.out.kept HK2.out (by simp));rw [HOW.out] at cS;refine cS.mono ?_;clear cS;rintro _ w3 ⟨rfl,hk3⟩;have HK3:=aa (HK2.out.trans hk3 (by simp));clear hk3;(go_wp2_with fail);refine hK0.out _ _ (HB.out.kept HK3.out (by simp)) (fun hHeld=>?_);clear hK0 K0;(try simp only [sT,Act.put]);refine ay [31,32] (by rfl) (by kernel_rfl) (fun _ _ _ _ _ h=>h) hHeld ?_
  iterate 2
   refine yk ?_ rfl (Or.inl ⟨by rfl,?_⟩) ?_;rotate_left
   ·intro w9 hSw;go_simp;(try with_reducible rfl)
   try simp only [sT,Act.put]
  refine ax ?_;simp only [ai,sT];(try simp only [sT,Act.put]);refine wpAnyH_done (by kernel_rfl) ?_ _;clear hHeld;(go_wp2_with fail);go_ret
  rw [HC.out];exact ⟨rfl,HK.out.trans HK3.out (by simp)⟩
end Go.Proofs.YtakafmejllilnaaGreat
