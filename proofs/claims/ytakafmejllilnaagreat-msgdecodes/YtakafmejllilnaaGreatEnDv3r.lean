/-
  The document's MayVerdict. (Written by mk/mkmayv.py.)
-/
import Derived.Test.YtakafmejllilnaaGreatEnDv2r
import Derived.Test.YtakafmejllilnaaGreatF14r
import Derived.Test.YtakafmejllilnaaGreatF12r
import Derived.Test.YtakafmejllilnaaGreatW0r
namespace Go.Proofs.YtakafmejllilnaaGreat
open Go.RowKit
theorem ki (w:World) (v:Vt) (uo:Option Addr) (un uc:Nat):Calls Tryz.prog 77 #[.agg (au v (.slice uo un uc)).toArray] w (i9 w (.slice uo un uc) v.k (jV v)):=pN w v uo un uc
theorem lB (w:World) (v:Vt) (u u':Value) (hu:u'=u∧(jV v).k=v.k∨u'=.slice none 0 0∧(jV v).k=[]) (hV:nH w u v.k) :
 Calls Tryz.prog 50 #[.agg (au v u).toArray,.agg (au (jV v) u').toArray] w fun e w'=>e=.returned (.bool (decide (v=jV v)))∧ab [] w w':=by
 rcases hu with ⟨rfl,h⟩ | ⟨rfl,h⟩
 ·exact fZ w v (jV v) _ _ hV (by rw [h];exact hV)
 ·exact fZ w v (jV v) _ _ hV (by rw [h];exact (bJ.nil 0 w).ko)
def xT (W:World) (n:Nat) (K:List (bW × Value)) (iv:Value) (wr:World):Prop:=∃ i:Nat,iv=.int .i64 (i:Int)∧i≤n∧Hid (ab [] W wr)∧Hid (∀ q (h:q < K.length),q < i→pI K[q].1=true)
theorem vb {x:bW × Value}{mo:Option Addr}{mm mc:Nat}(h:x.2=.slice mo mm mc):∀ z∈dk x,z.oneCell'=true:=by
 intro z hz;simp [dk] at hz
 rcases hz with rfl | rfl | rfl | rfl
 all_goals first | rfl | (rw [h];rfl)
set_option linter.unusedSimpArgs false in
set_option maxHeartbeats 16000000 in
set_option maxRecDepth 100000 in
theorem uu (w:World) (v:Vt) (u:Value) (hv:nH w u v.k) (hb:j3 v=false):Calls Tryz.prog 40 #[dx v u] w fun e w'=>e=.returned (.bool (jL v))∧ab [] w w':=by
 obtain ⟨uo,un,uc,rfl⟩:=hv.one;have HV0:=aa hv;obtain ⟨ao,nn,cc,K,eK,hK,hKv,_⟩:=hv;cases eK
 obtain ⟨W,hW⟩:∃ W,W=w.alloc (.cells #[.int .i64 v.c,.int .i64 v.s,.int .i64 v.r,.string (ae v.p),.int .u64 v.d,.slice uo un uc,.int .i64 v.m] 34):=⟨_,rfl⟩;have HW:=aa hW;have HK:Hid (ab [] w W):=by rw [hW];exact (ab.refl _ _).alloc _
 have hB:Bx W w.heap.size 34 (au v (.slice uo un uc)):=by rw [hW];exact Bx.new w _ (au v (.slice uo un uc))
 have HB:=aa hB;have HV:=aa (HV0.out.kept HK.out);have hlk:v.k.length=un:=by rw [← hKv,List.length_map,hK.1]
 have hsp:(ae v.p).size=v.p.length:=dr _;have hum:=hK.2.2.1;have huc:=hK.2.1;unfold maxLen at hum;clear hW hB hK hKv;unfold dx;have HC:Hid (jL v=false):=by show jL v=false;unfold jL;rw [hb];rfl
 have HHB:=aa hb;clear hb;go_enter Tryz.func40,Tryz.ntmps40;go_upto_region 1 with fail
 rw [← HW.out];by_cases hc0:0≤v.c
 rotate_left
 ·have hc0':v.c < 0:=by omega
  refine wp_region_held_drew (S:=fun w9=>Bx w9 w.heap.size 34 (au v (.slice uo un uc))) (by kernel_rfl) (HB.out.kept (ab.refl [] _).drew (by simp)) (fun hHeld=>?_);refine cw (fuel':=45) (l':=#[false,false,false,false,false,false,false,false,false,false,false,false,false,false,false,false,false,false,false,false,false,false,false,false,false,false,false,false,false,false,false,false,false,false,false,false,false,false,false,false,false,false,false,false,false]) (by rfl) (by rfl) ?_;refine ay [0] (by rfl) (by kernel_rfl) (fun _ _ _ _ _ h=>h) hHeld ?_
  iterate 1
   refine yk ?_ rfl (Or.inl ⟨by rfl,?_⟩) ?_;rotate_left
   ·intro w9 hSw;go_simp;(try with_reducible rfl)
   try simp only [sT,Act.put]
  refine ax ?_;simp only [ai,sT];refine ay [1] (by rfl) (by kernel_rfl) (fun _ _ _ _ _ h=>h) hHeld ?_
  iterate 1
   refine yk ?_ rfl (Or.inl ⟨by rfl,?_⟩) ?_;rotate_left
   ·intro w9 hSw;have pj:w9.cell? ⟨w.heap.size,0,none⟩=some (.int .i64 v.c):=hSw.cell 0 rfl;go_simp;(try with_reducible rfl)
   try simp only [sT,Act.put]
  refine ax ?_;simp only [ai,sT];refine ay [2,3] (by rfl) (by kernel_rfl) (fun _ _ _ _ _ h=>h) hHeld ?_
  iterate 2
   refine yk ?_ rfl (Or.inl ⟨by rfl,?_⟩) ?_;rotate_left
   ·intro w9 hSw;go_simp;(try with_reducible rfl)
   try simp only [sT,Act.put]
  refine ax ?_;simp only [ai,sT];refine ay [4,5,6] (by rfl) (by kernel_rfl) (fun _ _ _ _ _ h=>h) hHeld ?_
  iterate 3
   refine yk undef rfl (Or.inr ⟨by rfl,rfl⟩) ?_;try simp only [sT,Act.put]
  refine ax ?_;simp only [ai,sT];refine ay [7,8] (by rfl) (by kernel_rfl) (fun _ _ _ _ _ h=>h) hHeld ?_
  iterate 2
   refine yk ?_ rfl (Or.inl ⟨by rfl,?_⟩) ?_;rotate_left
   ·intro w9 hSw;go_simp;(try with_reducible rfl)
   try simp only [sT,Act.put]
  refine ax ?_;simp only [ai,sT];refine ay [9,10,11,12] (by rfl) (by kernel_rfl) (fun _ _ _ _ _ h=>h) hHeld ?_
  iterate 4
   refine yk undef rfl (Or.inr ⟨by rfl,rfl⟩) ?_;try simp only [sT,Act.put]
  refine ax ?_;simp only [ai,sT];refine ay [13,14] (by rfl) (by kernel_rfl) (fun _ _ _ _ _ h=>h) hHeld ?_
  iterate 2
   refine yk ?_ rfl (Or.inl ⟨by rfl,?_⟩) ?_;rotate_left
   ·intro w9 hSw;go_simp;(try with_reducible rfl)
   try simp only [sT,Act.put]
  refine ax ?_;simp only [ai,sT];refine ay [15,16,17,18] (by rfl) (by kernel_rfl) (fun _ _ _ _ _ h=>h) hHeld ?_
  iterate 4
   refine yk undef rfl (Or.inr ⟨by rfl,rfl⟩) ?_;try simp only [sT,Act.put]
  refine ax ?_;simp only [ai,sT];refine ay [19,20] (by rfl) (by kernel_rfl) (fun _ _ _ _ _ h=>h) hHeld ?_
  iterate 2
   refine yk ?_ rfl (Or.inl ⟨by rfl,?_⟩) ?_;rotate_left
   ·intro w9 hSw;go_simp;(try with_reducible rfl)
   try simp only [sT,Act.put]
  refine ax ?_;simp only [ai,sT];refine ay [21,22,23,24] (by rfl) (by kernel_rfl) (fun _ _ _ _ _ h=>h) hHeld ?_
  iterate 4
   refine yk undef rfl (Or.inr ⟨by rfl,rfl⟩) ?_;try simp only [sT,Act.put]
  refine ax ?_;simp only [ai,sT];refine ay [25,26] (by rfl) (by kernel_rfl) (fun _ _ _ _ _ h=>h) hHeld ?_
  iterate 2
   refine yk ?_ rfl (Or.inl ⟨by rfl,?_⟩) ?_;rotate_left
   ·intro w9 hSw;go_simp;(try with_reducible rfl)
   try simp only [sT,Act.put]
  refine ax ?_;simp only [ai,sT];refine ay [27,28,29,30] (by rfl) (by kernel_rfl) (fun _ _ _ _ _ h=>h) hHeld ?_
  iterate 4
   refine yk undef rfl (Or.inr ⟨by rfl,rfl⟩) ?_;try simp only [sT,Act.put]
  refine ax ?_;simp only [ai,sT];refine ay [31,32] (by rfl) (by kernel_rfl) (fun _ _ _ _ _ h=>h) hHeld ?_
  iterate 2
   refine yk ?_ rfl (Or.inl ⟨by rfl,?_⟩) ?_;rotate_left
   ·intro w9 hSw;go_simp;(try with_reducible rfl)
   try simp only [sT,Act.put]
  refine ax ?_;simp only [ai,sT];refine ay [33,34,35,36] (by rfl) (by kernel_rfl) (fun _ _ _ _ _ h=>h) hHeld ?_
  iterate 4
   refine yk undef rfl (Or.inr ⟨by rfl,rfl⟩) ?_;try simp only [sT,Act.put]
  refine ax ?_;simp only [ai,sT];refine ay [37,38] (by rfl) (by kernel_rfl) (fun _ _ _ _ _ h=>h) hHeld ?_
  iterate 2
   refine yk ?_ rfl (Or.inl ⟨by rfl,?_⟩) ?_;rotate_left
   ·intro w9 hSw;go_simp;(try with_reducible rfl)
   try simp only [sT,Act.put]
  refine ax ?_;simp only [ai,sT];refine ay [39,40,41,42,43] (by rfl) (by kernel_rfl) (fun _ _ _ _ _ h=>h) hHeld ?_
  iterate 5
   refine yk undef rfl (Or.inr ⟨by rfl,rfl⟩) ?_;try simp only [sT,Act.put]
  refine ax ?_;simp only [ai,sT];refine ay [44] (by rfl) (by kernel_rfl) (fun _ _ _ _ _ h=>h) hHeld ?_
  iterate 1
   refine yk ?_ rfl (Or.inl ⟨by rfl,?_⟩) ?_;rotate_left
   ·intro w9 hSw;go_simp;(try with_reducible rfl)
   try simp only [sT,Act.put]
  refine ax ?_;simp only [ai,sT];(try simp only [sT,Act.put]);refine wpAnyH_done (by kernel_rfl) ?_ _;clear hHeld;(go_wp2_with fail);go_ret
  rw [HC.out];exact ⟨rfl,HK.out.drew⟩
 have hc0':¬ v.c < 0:=by omega
 by_cases hc15:v.c < 15
 rotate_left
 ·have hc15':15≤v.c:=by omega
  refine wp_region_held_drew (S:=fun w9=>Bx w9 w.heap.size 34 (au v (.slice uo un uc))) (by kernel_rfl) (HB.out.kept (ab.refl [] _).drew (by simp)) (fun hHeld=>?_);refine cw (fuel':=45) (l':=#[false,false,false,false,false,false,false,false,false,false,false,false,false,false,false,false,false,false,false,false,false,false,false,false,false,false,false,false,false,false,false,false,false,false,false,false,false,false,false,false,false,false,false,false,false]) (by rfl) (by rfl) ?_;refine ay [0] (by rfl) (by kernel_rfl) (fun _ _ _ _ _ h=>h) hHeld ?_
  iterate 1
   refine yk ?_ rfl (Or.inl ⟨by rfl,?_⟩) ?_;rotate_left
   ·intro w9 hSw;go_simp;(try with_reducible rfl)
   try simp only [sT,Act.put]
  refine ax ?_;simp only [ai,sT];refine ay [1] (by rfl) (by kernel_rfl) (fun _ _ _ _ _ h=>h) hHeld ?_
  iterate 1
   refine yk ?_ rfl (Or.inl ⟨by rfl,?_⟩) ?_;rotate_left
   ·intro w9 hSw;have pj:w9.cell? ⟨w.heap.size,0,none⟩=some (.int .i64 v.c):=hSw.cell 0 rfl;go_simp;(try with_reducible rfl)
   try simp only [sT,Act.put]
  refine ax ?_;simp only [ai,sT];refine ay [2,3,4] (by rfl) (by kernel_rfl) (fun _ _ _ _ _ h=>h) hHeld ?_
  iterate 3
   refine yk ?_ rfl (Or.inl ⟨by rfl,?_⟩) ?_;rotate_left
   ·intro w9 hSw;go_simp;(try with_reducible rfl)
   try simp only [sT,Act.put]
  refine ax ?_;simp only [ai,sT];refine ay [5] (by rfl) (by kernel_rfl) (fun _ _ _ _ _ h=>h) hHeld ?_
  iterate 1
   refine yk ?_ rfl (Or.inl ⟨by rfl,?_⟩) ?_;rotate_left
   ·intro w9 hSw;have pj:w9.cell? ⟨w.heap.size,0,none⟩=some (.int .i64 v.c):=hSw.cell 0 rfl;go_simp;(try with_reducible rfl)
   try simp only [sT,Act.put]
  refine ax ?_;simp only [ai,sT];refine ay [6,7,8] (by rfl) (by kernel_rfl) (fun _ _ _ _ _ h=>h) hHeld ?_
  iterate 3
   refine yk ?_ rfl (Or.inl ⟨by rfl,?_⟩) ?_;rotate_left
   ·intro w9 hSw;go_simp;(try with_reducible rfl)
   try simp only [sT,Act.put]
  refine ax ?_;simp only [ai,sT];refine ay [9,10,11,12] (by rfl) (by kernel_rfl) (fun _ _ _ _ _ h=>h) hHeld ?_
  iterate 4
   refine yk undef rfl (Or.inr ⟨by rfl,rfl⟩) ?_;try simp only [sT,Act.put]
  refine ax ?_;simp only [ai,sT];refine ay [13,14] (by rfl) (by kernel_rfl) (fun _ _ _ _ _ h=>h) hHeld ?_
  iterate 2
   refine yk ?_ rfl (Or.inl ⟨by rfl,?_⟩) ?_;rotate_left
   ·intro w9 hSw;go_simp;(try with_reducible rfl)
   try simp only [sT,Act.put]
  refine ax ?_;simp only [ai,sT];refine ay [15,16,17,18] (by rfl) (by kernel_rfl) (fun _ _ _ _ _ h=>h) hHeld ?_
  iterate 4
   refine yk undef rfl (Or.inr ⟨by rfl,rfl⟩) ?_;try simp only [sT,Act.put]
  refine ax ?_;simp only [ai,sT];refine ay [19,20] (by rfl) (by kernel_rfl) (fun _ _ _ _ _ h=>h) hHeld ?_
  iterate 2
   refine yk ?_ rfl (Or.inl ⟨by rfl,?_⟩) ?_;rotate_left
   ·intro w9 hSw;go_simp;(try with_reducible rfl)
   try simp only [sT,Act.put]
  refine ax ?_;simp only [ai,sT];refine ay [21,22,23,24] (by rfl) (by kernel_rfl) (fun _ _ _ _ _ h=>h) hHeld ?_
  iterate 4
   refine yk undef rfl (Or.inr ⟨by rfl,rfl⟩) ?_;try simp only [sT,Act.put]
  refine ax ?_;simp only [ai,sT];refine ay [25,26] (by rfl) (by kernel_rfl) (fun _ _ _ _ _ h=>h) hHeld ?_
  iterate 2
   refine yk ?_ rfl (Or.inl ⟨by rfl,?_⟩) ?_;rotate_left
   ·intro w9 hSw;go_simp;(try with_reducible rfl)
   try simp only [sT,Act.put]
  refine ax ?_;simp only [ai,sT];refine ay [27,28,29,30] (by rfl) (by kernel_rfl) (fun _ _ _ _ _ h=>h) hHeld ?_
  iterate 4
   refine yk undef rfl (Or.inr ⟨by rfl,rfl⟩) ?_;try simp only [sT,Act.put]
  refine ax ?_;simp only [ai,sT];refine ay [31,32] (by rfl) (by kernel_rfl) (fun _ _ _ _ _ h=>h) hHeld ?_
  iterate 2
   refine yk ?_ rfl (Or.inl ⟨by rfl,?_⟩) ?_;rotate_left
   ·intro w9 hSw;go_simp;(try with_reducible rfl)
   try simp only [sT,Act.put]
  refine ax ?_;simp only [ai,sT];refine ay [33,34,35,36] (by rfl) (by kernel_rfl) (fun _ _ _ _ _ h=>h) hHeld ?_
  iterate 4
   refine yk undef rfl (Or.inr ⟨by rfl,rfl⟩) ?_;try simp only [sT,Act.put]
  refine ax ?_;simp only [ai,sT];refine ay [37,38] (by rfl) (by kernel_rfl) (fun _ _ _ _ _ h=>h) hHeld ?_
  iterate 2
   refine yk ?_ rfl (Or.inl ⟨by rfl,?_⟩) ?_;rotate_left
   ·intro w9 hSw;go_simp;(try with_reducible rfl)
   try simp only [sT,Act.put]
  refine ax ?_;simp only [ai,sT];refine ay [39,40,41,42,43] (by rfl) (by kernel_rfl) (fun _ _ _ _ _ h=>h) hHeld ?_
  iterate 5
   refine yk undef rfl (Or.inr ⟨by rfl,rfl⟩) ?_;try simp only [sT,Act.put]
  refine ax ?_;simp only [ai,sT];refine ay [44] (by rfl) (by kernel_rfl) (fun _ _ _ _ _ h=>h) hHeld ?_
  iterate 1
   refine yk ?_ rfl (Or.inl ⟨by rfl,?_⟩) ?_;rotate_left
   ·intro w9 hSw;go_simp;(try with_reducible rfl)
   try simp only [sT,Act.put]
  refine ax ?_;simp only [ai,sT];(try simp only [sT,Act.put]);refine wpAnyH_done (by kernel_rfl) ?_ _;clear hHeld;(go_wp2_with fail);go_ret
  rw [HC.out];exact ⟨rfl,HK.out.drew⟩
 have hc15':¬ 15≤v.c:=by omega
 by_cases hgs:ah v.s=true
 rotate_left
 ·rw [Bool.not_eq_true] at hgs;have HGs:=aa hgs;clear hgs;refine wp_region_held_drew (S:=fun w9=>Bx w9 w.heap.size 34 (au v (.slice uo un uc))) (by kernel_rfl) (HB.out.kept (ab.refl [] _).drew (by simp)) (fun hHeld=>?_);refine cw (fuel':=45) (l':=#[false,false,false,false,false,false,false,false,false,false,false,false,false,false,false,false,false,false,false,false,false,false,false,false,false,false,false,false,false,false,false,false,false,false,false,false,false,false,false,false,false,false,false,false,false]) (by rfl) (by rfl) ?_;refine ay [0] (by rfl) (by kernel_rfl) (fun _ _ _ _ _ h=>h) hHeld ?_
  iterate 1
   refine yk ?_ rfl (Or.inl ⟨by rfl,?_⟩) ?_;rotate_left
   ·intro w9 hSw;go_simp;(try with_reducible rfl)
   try simp only [sT,Act.put]
  refine ax ?_;simp only [ai,sT];refine ay [1] (by rfl) (by kernel_rfl) (fun _ _ _ _ _ h=>h) hHeld ?_
  iterate 1
   refine yk ?_ rfl (Or.inl ⟨by rfl,?_⟩) ?_;rotate_left
   ·intro w9 hSw;have pj:w9.cell? ⟨w.heap.size,0,none⟩=some (.int .i64 v.c):=hSw.cell 0 rfl;go_simp;(try with_reducible rfl)
   try simp only [sT,Act.put]
  refine ax ?_;simp only [ai,sT];refine ay [2,3,4] (by rfl) (by kernel_rfl) (fun _ _ _ _ _ h=>h) hHeld ?_
  iterate 3
   refine yk ?_ rfl (Or.inl ⟨by rfl,?_⟩) ?_;rotate_left
   ·intro w9 hSw;go_simp;(try with_reducible rfl)
   try simp only [sT,Act.put]
  refine ax ?_;simp only [ai,sT];refine ay [5] (by rfl) (by kernel_rfl) (fun _ _ _ _ _ h=>h) hHeld ?_
  iterate 1
   refine yk ?_ rfl (Or.inl ⟨by rfl,?_⟩) ?_;rotate_left
   ·intro w9 hSw;have pj:w9.cell? ⟨w.heap.size,0,none⟩=some (.int .i64 v.c):=hSw.cell 0 rfl;go_simp;(try with_reducible rfl)
   try simp only [sT,Act.put]
  refine ax ?_;simp only [ai,sT];refine ay [6,7,8,9] (by rfl) (by kernel_rfl) (fun _ _ _ _ _ h=>h) hHeld ?_
  iterate 4
   refine yk ?_ rfl (Or.inl ⟨by rfl,?_⟩) ?_;rotate_left
   ·intro w9 hSw;go_simp;(try with_reducible rfl)
   try simp only [sT,Act.put]
  refine ax ?_;simp only [ai,sT];refine ay [10] (by rfl) (by kernel_rfl) (fun _ _ _ _ _ h=>h) hHeld ?_
  iterate 1
   refine yk ?_ rfl (Or.inl ⟨by rfl,?_⟩) ?_;rotate_left
   ·intro w9 hSw;have pj:w9.cell? ⟨w.heap.size,1,none⟩=some (.int .i64 v.s):=hSw.cell 1 rfl;go_simp;(try with_reducible rfl)
   try simp only [sT,Act.put]
  refine ax ?_;simp only [ai,sT];refine cd 11 (by kernel_rfl) rfl (fun K0 hK0=>?_);go_simp;refine (aV _ v.s).mono ?_;rw [HGs.out];rintro _ W0 ⟨rfl,hW0⟩;obtain rfl:=hW0.symm;(go_wp2_with fail);refine hK0.out _ _ (HB.out.kept (ab.refl [] _).drew (by simp)) (fun hHeld=>?_);clear hK0 K0;(try simp only [sT,Act.put]);refine ay [12,13,14] (by rfl) (by kernel_rfl) (fun _ _ _ _ _ h=>h) hHeld ?_
  iterate 3
   refine yk ?_ rfl (Or.inl ⟨by rfl,?_⟩) ?_;rotate_left
   ·intro w9 hSw;go_simp;(try with_reducible rfl)
   try simp only [sT,Act.put]
  refine ax ?_;simp only [ai,sT];refine ay [15,16,17,18] (by rfl) (by kernel_rfl) (fun _ _ _ _ _ h=>h) hHeld ?_
  iterate 4
   refine yk undef rfl (Or.inr ⟨by rfl,rfl⟩) ?_;try simp only [sT,Act.put]
  refine ax ?_;simp only [ai,sT];refine ay [19,20] (by rfl) (by kernel_rfl) (fun _ _ _ _ _ h=>h) hHeld ?_
  iterate 2
   refine yk ?_ rfl (Or.inl ⟨by rfl,?_⟩) ?_;rotate_left
   ·intro w9 hSw;go_simp;(try with_reducible rfl)
   try simp only [sT,Act.put]
  refine ax ?_;simp only [ai,sT];refine ay [21,22,23,24] (by rfl) (by kernel_rfl) (fun _ _ _ _ _ h=>h) hHeld ?_
  iterate 4
   refine yk undef rfl (Or.inr ⟨by rfl,rfl⟩) ?_;try simp only [sT,Act.put]
  refine ax ?_;simp only [ai,sT];refine ay [25,26] (by rfl) (by kernel_rfl) (fun _ _ _ _ _ h=>h) hHeld ?_
  iterate 2
   refine yk ?_ rfl (Or.inl ⟨by rfl,?_⟩) ?_;rotate_left
   ·intro w9 hSw;go_simp;(try with_reducible rfl)
   try simp only [sT,Act.put]
  refine ax ?_;simp only [ai,sT];refine ay [27,28,29,30] (by rfl) (by kernel_rfl) (fun _ _ _ _ _ h=>h) hHeld ?_
  iterate 4
   refine yk undef rfl (Or.inr ⟨by rfl,rfl⟩) ?_;try simp only [sT,Act.put]
  refine ax ?_;simp only [ai,sT];refine ay [31,32] (by rfl) (by kernel_rfl) (fun _ _ _ _ _ h=>h) hHeld ?_
  iterate 2
   refine yk ?_ rfl (Or.inl ⟨by rfl,?_⟩) ?_;rotate_left
   ·intro w9 hSw;go_simp;(try with_reducible rfl)
   try simp only [sT,Act.put]
  refine ax ?_;simp only [ai,sT];refine ay [33,34,35,36] (by rfl) (by kernel_rfl) (fun _ _ _ _ _ h=>h) hHeld ?_
  iterate 4
   refine yk undef rfl (Or.inr ⟨by rfl,rfl⟩) ?_;try simp only [sT,Act.put]
  refine ax ?_;simp only [ai,sT];refine ay [37,38] (by rfl) (by kernel_rfl) (fun _ _ _ _ _ h=>h) hHeld ?_
  iterate 2
   refine yk ?_ rfl (Or.inl ⟨by rfl,?_⟩) ?_;rotate_left
   ·intro w9 hSw;go_simp;(try with_reducible rfl)
   try simp only [sT,Act.put]
  refine ax ?_;simp only [ai,sT];refine ay [39,40,41,42,43] (by rfl) (by kernel_rfl) (fun _ _ _ _ _ h=>h) hHeld ?_
  iterate 5
   refine yk undef rfl (Or.inr ⟨by rfl,rfl⟩) ?_;try simp only [sT,Act.put]
  refine ax ?_;simp only [ai,sT];refine ay [44] (by rfl) (by kernel_rfl) (fun _ _ _ _ _ h=>h) hHeld ?_
  iterate 1
   refine yk ?_ rfl (Or.inl ⟨by rfl,?_⟩) ?_;rotate_left
   ·intro w9 hSw;go_simp;(try with_reducible rfl)
   try simp only [sT,Act.put]
  refine ax ?_;simp only [ai,sT];(try simp only [sT,Act.put]);refine wpAnyH_done (by kernel_rfl) ?_ _;clear hHeld;(go_wp2_with fail);go_ret
  rw [HC.out];exact ⟨rfl,HK.out.drew⟩
 have HGs:=aa hgs;clear hgs;by_cases hgr:ah v.r=true
 rotate_left
 ·rw [Bool.not_eq_true] at hgr;have HGr:=aa hgr;clear hgr;refine wp_region_held_drew (S:=fun w9=>Bx w9 w.heap.size 34 (au v (.slice uo un uc))) (by kernel_rfl) (HB.out.kept (ab.refl [] _).drew (by simp)) (fun hHeld=>?_);refine cw (fuel':=45) (l':=#[false,false,false,false,false,false,false,false,false,false,false,false,false,false,false,false,false,false,false,false,false,false,false,false,false,false,false,false,false,false,false,false,false,false,false,false,false,false,false,false,false,false,false,false,false]) (by rfl) (by rfl) ?_;refine ay [0] (by rfl) (by kernel_rfl) (fun _ _ _ _ _ h=>h) hHeld ?_
  iterate 1
   refine yk ?_ rfl (Or.inl ⟨by rfl,?_⟩) ?_;rotate_left
   ·intro w9 hSw;go_simp;(try with_reducible rfl)
   try simp only [sT,Act.put]
  refine ax ?_;simp only [ai,sT];refine ay [1] (by rfl) (by kernel_rfl) (fun _ _ _ _ _ h=>h) hHeld ?_
  iterate 1
   refine yk ?_ rfl (Or.inl ⟨by rfl,?_⟩) ?_;rotate_left
   ·intro w9 hSw;have pj:w9.cell? ⟨w.heap.size,0,none⟩=some (.int .i64 v.c):=hSw.cell 0 rfl;go_simp;(try with_reducible rfl)
   try simp only [sT,Act.put]
  refine ax ?_;simp only [ai,sT];refine ay [2,3,4] (by rfl) (by kernel_rfl) (fun _ _ _ _ _ h=>h) hHeld ?_
  iterate 3
   refine yk ?_ rfl (Or.inl ⟨by rfl,?_⟩) ?_;rotate_left
   ·intro w9 hSw;go_simp;(try with_reducible rfl)
   try simp only [sT,Act.put]
  refine ax ?_;simp only [ai,sT];refine ay [5] (by rfl) (by kernel_rfl) (fun _ _ _ _ _ h=>h) hHeld ?_
  iterate 1
   refine yk ?_ rfl (Or.inl ⟨by rfl,?_⟩) ?_;rotate_left
   ·intro w9 hSw;have pj:w9.cell? ⟨w.heap.size,0,none⟩=some (.int .i64 v.c):=hSw.cell 0 rfl;go_simp;(try with_reducible rfl)
   try simp only [sT,Act.put]
  refine ax ?_;simp only [ai,sT];refine ay [6,7,8,9] (by rfl) (by kernel_rfl) (fun _ _ _ _ _ h=>h) hHeld ?_
  iterate 4
   refine yk ?_ rfl (Or.inl ⟨by rfl,?_⟩) ?_;rotate_left
   ·intro w9 hSw;go_simp;(try with_reducible rfl)
   try simp only [sT,Act.put]
  refine ax ?_;simp only [ai,sT];refine ay [10] (by rfl) (by kernel_rfl) (fun _ _ _ _ _ h=>h) hHeld ?_
  iterate 1
   refine yk ?_ rfl (Or.inl ⟨by rfl,?_⟩) ?_;rotate_left
   ·intro w9 hSw;have pj:w9.cell? ⟨w.heap.size,1,none⟩=some (.int .i64 v.s):=hSw.cell 1 rfl;go_simp;(try with_reducible rfl)
   try simp only [sT,Act.put]
  refine ax ?_;simp only [ai,sT];refine cd 11 (by kernel_rfl) rfl (fun K0 hK0=>?_);go_simp;refine (aV _ v.s).mono ?_;rw [HGs.out];rintro _ W0 ⟨rfl,hW0⟩;obtain rfl:=hW0.symm;(go_wp2_with fail);refine hK0.out _ _ (HB.out.kept (ab.refl [] _).drew (by simp)) (fun hHeld=>?_);clear hK0 K0;(try simp only [sT,Act.put]);refine ay [12,13,14,15] (by rfl) (by kernel_rfl) (fun _ _ _ _ _ h=>h) hHeld ?_
  iterate 4
   refine yk ?_ rfl (Or.inl ⟨by rfl,?_⟩) ?_;rotate_left
   ·intro w9 hSw;go_simp;(try with_reducible rfl)
   try simp only [sT,Act.put]
  refine ax ?_;simp only [ai,sT];refine ay [16] (by rfl) (by kernel_rfl) (fun _ _ _ _ _ h=>h) hHeld ?_
  iterate 1
   refine yk ?_ rfl (Or.inl ⟨by rfl,?_⟩) ?_;rotate_left
   ·intro w9 hSw;have pj:w9.cell? ⟨w.heap.size,2,none⟩=some (.int .i64 v.r):=hSw.cell 2 rfl;go_simp;(try with_reducible rfl)
   try simp only [sT,Act.put]
  refine ax ?_;simp only [ai,sT];refine cd 17 (by kernel_rfl) rfl (fun K0 hK0=>?_);go_simp;refine (aV _ v.r).mono ?_;rw [HGr.out];rintro _ W0 ⟨rfl,hW0⟩;obtain rfl:=hW0.symm;(go_wp2_with fail);refine hK0.out _ _ (HB.out.kept (ab.refl [] _).drew (by simp)) (fun hHeld=>?_);clear hK0 K0;(try simp only [sT,Act.put]);refine ay [18,19,20] (by rfl) (by kernel_rfl) (fun _ _ _ _ _ h=>h) hHeld ?_
  iterate 3
   refine yk ?_ rfl (Or.inl ⟨by rfl,?_⟩) ?_;rotate_left
   ·intro w9 hSw;go_simp;(try with_reducible rfl)
   try simp only [sT,Act.put]
  refine ax ?_;simp only [ai,sT];refine ay [21,22,23,24] (by rfl) (by kernel_rfl) (fun _ _ _ _ _ h=>h) hHeld ?_
  iterate 4
   refine yk undef rfl (Or.inr ⟨by rfl,rfl⟩) ?_;try simp only [sT,Act.put]
  refine ax ?_;simp only [ai,sT];refine ay [25,26] (by rfl) (by kernel_rfl) (fun _ _ _ _ _ h=>h) hHeld ?_
  iterate 2
   refine yk ?_ rfl (Or.inl ⟨by rfl,?_⟩) ?_;rotate_left
   ·intro w9 hSw;go_simp;(try with_reducible rfl)
   try simp only [sT,Act.put]
  refine ax ?_;simp only [ai,sT];refine ay [27,28,29,30] (by rfl) (by kernel_rfl) (fun _ _ _ _ _ h=>h) hHeld ?_
  iterate 4
   refine yk undef rfl (Or.inr ⟨by rfl,rfl⟩) ?_;try simp only [sT,Act.put]
  refine ax ?_;simp only [ai,sT];refine ay [31,32] (by rfl) (by kernel_rfl) (fun _ _ _ _ _ h=>h) hHeld ?_
  iterate 2
   refine yk ?_ rfl (Or.inl ⟨by rfl,?_⟩) ?_;rotate_left
   ·intro w9 hSw;go_simp;(try with_reducible rfl)
   try simp only [sT,Act.put]
  refine ax ?_;simp only [ai,sT];refine ay [33,34,35,36] (by rfl) (by kernel_rfl) (fun _ _ _ _ _ h=>h) hHeld ?_
  iterate 4
   refine yk undef rfl (Or.inr ⟨by rfl,rfl⟩) ?_;try simp only [sT,Act.put]
  refine ax ?_;simp only [ai,sT];refine ay [37,38] (by rfl) (by kernel_rfl) (fun _ _ _ _ _ h=>h) hHeld ?_
  iterate 2
   refine yk ?_ rfl (Or.inl ⟨by rfl,?_⟩) ?_;rotate_left
   ·intro w9 hSw;go_simp;(try with_reducible rfl)
   try simp only [sT,Act.put]
  refine ax ?_;simp only [ai,sT];refine ay [39,40,41,42,43] (by rfl) (by kernel_rfl) (fun _ _ _ _ _ h=>h) hHeld ?_
  iterate 5
   refine yk undef rfl (Or.inr ⟨by rfl,rfl⟩) ?_;try simp only [sT,Act.put]
  refine ax ?_;simp only [ai,sT];refine ay [44] (by rfl) (by kernel_rfl) (fun _ _ _ _ _ h=>h) hHeld ?_
  iterate 1
   refine yk ?_ rfl (Or.inl ⟨by rfl,?_⟩) ?_;rotate_left
   ·intro w9 hSw;go_simp;(try with_reducible rfl)
   try simp only [sT,Act.put]
  refine ax ?_;simp only [ai,sT];(try simp only [sT,Act.put]);refine wpAnyH_done (by kernel_rfl) ?_ _;clear hHeld;(go_wp2_with fail);go_ret
  rw [HC.out];exact ⟨rfl,HK.out.drew⟩
 have HGr:=aa hgr;clear hgr;by_cases hgm:ah v.m=true
 rotate_left
 ·rw [Bool.not_eq_true] at hgm;have HGm:=aa hgm;clear hgm;refine wp_region_held_drew (S:=fun w9=>Bx w9 w.heap.size 34 (au v (.slice uo un uc))) (by kernel_rfl) (HB.out.kept (ab.refl [] _).drew (by simp)) (fun hHeld=>?_);refine cw (fuel':=45) (l':=#[false,false,false,false,false,false,false,false,false,false,false,false,false,false,false,false,false,false,false,false,false,false,false,false,false,false,false,false,false,false,false,false,false,false,false,false,false,false,false,false,false,false,false,false,false]) (by rfl) (by rfl) ?_;refine ay [0] (by rfl) (by kernel_rfl) (fun _ _ _ _ _ h=>h) hHeld ?_
  iterate 1
   refine yk ?_ rfl (Or.inl ⟨by rfl,?_⟩) ?_;rotate_left
   ·intro w9 hSw;go_simp;(try with_reducible rfl)
   try simp only [sT,Act.put]
  refine ax ?_;simp only [ai,sT];refine ay [1] (by rfl) (by kernel_rfl) (fun _ _ _ _ _ h=>h) hHeld ?_
  iterate 1
   refine yk ?_ rfl (Or.inl ⟨by rfl,?_⟩) ?_;rotate_left
   ·intro w9 hSw;have pj:w9.cell? ⟨w.heap.size,0,none⟩=some (.int .i64 v.c):=hSw.cell 0 rfl;go_simp;(try with_reducible rfl)
   try simp only [sT,Act.put]
  refine ax ?_;simp only [ai,sT];refine ay [2,3,4] (by rfl) (by kernel_rfl) (fun _ _ _ _ _ h=>h) hHeld ?_
  iterate 3
   refine yk ?_ rfl (Or.inl ⟨by rfl,?_⟩) ?_;rotate_left
   ·intro w9 hSw;go_simp;(try with_reducible rfl)
   try simp only [sT,Act.put]
  refine ax ?_;simp only [ai,sT];refine ay [5] (by rfl) (by kernel_rfl) (fun _ _ _ _ _ h=>h) hHeld ?_
  iterate 1
   refine yk ?_ rfl (Or.inl ⟨by rfl,?_⟩) ?_;rotate_left
   ·intro w9 hSw;have pj:w9.cell? ⟨w.heap.size,0,none⟩=some (.int .i64 v.c):=hSw.cell 0 rfl;go_simp;(try with_reducible rfl)
   try simp only [sT,Act.put]
  refine ax ?_;simp only [ai,sT];refine ay [6,7,8,9] (by rfl) (by kernel_rfl) (fun _ _ _ _ _ h=>h) hHeld ?_
  iterate 4
   refine yk ?_ rfl (Or.inl ⟨by rfl,?_⟩) ?_;rotate_left
   ·intro w9 hSw;go_simp;(try with_reducible rfl)
   try simp only [sT,Act.put]
  refine ax ?_;simp only [ai,sT];refine ay [10] (by rfl) (by kernel_rfl) (fun _ _ _ _ _ h=>h) hHeld ?_
  iterate 1
   refine yk ?_ rfl (Or.inl ⟨by rfl,?_⟩) ?_;rotate_left
   ·intro w9 hSw;have pj:w9.cell? ⟨w.heap.size,1,none⟩=some (.int .i64 v.s):=hSw.cell 1 rfl;go_simp;(try with_reducible rfl)
   try simp only [sT,Act.put]
  refine ax ?_;simp only [ai,sT];refine cd 11 (by kernel_rfl) rfl (fun K0 hK0=>?_);go_simp;refine (aV _ v.s).mono ?_;rw [HGs.out];rintro _ W0 ⟨rfl,hW0⟩;obtain rfl:=hW0.symm;(go_wp2_with fail);refine hK0.out _ _ (HB.out.kept (ab.refl [] _).drew (by simp)) (fun hHeld=>?_);clear hK0 K0;(try simp only [sT,Act.put]);refine ay [12,13,14,15] (by rfl) (by kernel_rfl) (fun _ _ _ _ _ h=>h) hHeld ?_
  iterate 4
   refine yk ?_ rfl (Or.inl ⟨by rfl,?_⟩) ?_;rotate_left
   ·intro w9 hSw;go_simp;(try with_reducible rfl)
   try simp only [sT,Act.put]
  refine ax ?_;simp only [ai,sT];refine ay [16] (by rfl) (by kernel_rfl) (fun _ _ _ _ _ h=>h) hHeld ?_
  iterate 1
   refine yk ?_ rfl (Or.inl ⟨by rfl,?_⟩) ?_;rotate_left
   ·intro w9 hSw;have pj:w9.cell? ⟨w.heap.size,2,none⟩=some (.int .i64 v.r):=hSw.cell 2 rfl;go_simp;(try with_reducible rfl)
   try simp only [sT,Act.put]
  refine ax ?_;simp only [ai,sT];refine cd 17 (by kernel_rfl) rfl (fun K0 hK0=>?_);go_simp;refine (aV _ v.r).mono ?_;rw [HGr.out];rintro _ W0 ⟨rfl,hW0⟩;obtain rfl:=hW0.symm;(go_wp2_with fail);refine hK0.out _ _ (HB.out.kept (ab.refl [] _).drew (by simp)) (fun hHeld=>?_);clear hK0 K0;(try simp only [sT,Act.put]);refine ay [18,19,20,21] (by rfl) (by kernel_rfl) (fun _ _ _ _ _ h=>h) hHeld ?_
  iterate 4
   refine yk ?_ rfl (Or.inl ⟨by rfl,?_⟩) ?_;rotate_left
   ·intro w9 hSw;go_simp;(try with_reducible rfl)
   try simp only [sT,Act.put]
  refine ax ?_;simp only [ai,sT];refine ay [22] (by rfl) (by kernel_rfl) (fun _ _ _ _ _ h=>h) hHeld ?_
  iterate 1
   refine yk ?_ rfl (Or.inl ⟨by rfl,?_⟩) ?_;rotate_left
   ·intro w9 hSw;have pj:w9.cell? ⟨w.heap.size,6,none⟩=some (.int .i64 v.m):=hSw.cell 6 rfl;go_simp;(try with_reducible rfl)
   try simp only [sT,Act.put]
  refine ax ?_;simp only [ai,sT];refine cd 23 (by kernel_rfl) rfl (fun K0 hK0=>?_);go_simp;refine (aV _ v.m).mono ?_;rw [HGm.out];rintro _ W0 ⟨rfl,hW0⟩;obtain rfl:=hW0.symm;(go_wp2_with fail);refine hK0.out _ _ (HB.out.kept (ab.refl [] _).drew (by simp)) (fun hHeld=>?_);clear hK0 K0;(try simp only [sT,Act.put]);refine ay [24,25,26] (by rfl) (by kernel_rfl) (fun _ _ _ _ _ h=>h) hHeld ?_
  iterate 3
   refine yk ?_ rfl (Or.inl ⟨by rfl,?_⟩) ?_;rotate_left
   ·intro w9 hSw;go_simp;(try with_reducible rfl)
   try simp only [sT,Act.put]
  refine ax ?_;simp only [ai,sT];refine ay [27,28,29,30] (by rfl) (by kernel_rfl) (fun _ _ _ _ _ h=>h) hHeld ?_
  iterate 4
   refine yk undef rfl (Or.inr ⟨by rfl,rfl⟩) ?_;try simp only [sT,Act.put]
  refine ax ?_;simp only [ai,sT];refine ay [31,32] (by rfl) (by kernel_rfl) (fun _ _ _ _ _ h=>h) hHeld ?_
  iterate 2
   refine yk ?_ rfl (Or.inl ⟨by rfl,?_⟩) ?_;rotate_left
   ·intro w9 hSw;go_simp;(try with_reducible rfl)
   try simp only [sT,Act.put]
  refine ax ?_;simp only [ai,sT];refine ay [33,34,35,36] (by rfl) (by kernel_rfl) (fun _ _ _ _ _ h=>h) hHeld ?_
  iterate 4
   refine yk undef rfl (Or.inr ⟨by rfl,rfl⟩) ?_;try simp only [sT,Act.put]
  refine ax ?_;simp only [ai,sT];refine ay [37,38] (by rfl) (by kernel_rfl) (fun _ _ _ _ _ h=>h) hHeld ?_
  iterate 2
   refine yk ?_ rfl (Or.inl ⟨by rfl,?_⟩) ?_;rotate_left
   ·intro w9 hSw;go_simp;(try with_reducible rfl)
   try simp only [sT,Act.put]
  refine ax ?_;simp only [ai,sT];refine ay [39,40,41,42,43] (by rfl) (by kernel_rfl) (fun _ _ _ _ _ h=>h) hHeld ?_
  iterate 5
   refine yk undef rfl (Or.inr ⟨by rfl,rfl⟩) ?_;try simp only [sT,Act.put]
  refine ax ?_;simp only [ai,sT];refine ay [44] (by rfl) (by kernel_rfl) (fun _ _ _ _ _ h=>h) hHeld ?_
  iterate 1
   refine yk ?_ rfl (Or.inl ⟨by rfl,?_⟩) ?_;rotate_left
   ·intro w9 hSw;go_simp;(try with_reducible rfl)
   try simp only [sT,Act.put]
  refine ax ?_;simp only [ai,sT];(try simp only [sT,Act.put]);refine wpAnyH_done (by kernel_rfl) ?_ _;clear hHeld;(go_wp2_with fail);go_ret
  rw [HC.out];exact ⟨rfl,HK.out.drew⟩
 have HGm:=aa hgm;clear hgm;by_cases hp:255 < v.p.length
 ·have HPB:Hid (decide ((255:Int) < (v.p.length:Int))=true):=decide_eq_true (by omega);refine wp_region_held_drew (S:=fun w9=>Bx w9 w.heap.size 34 (au v (.slice uo un uc))) (by kernel_rfl) (HB.out.kept (ab.refl [] _).drew (by simp)) (fun hHeld=>?_);refine cw (fuel':=45) (l':=#[false,false,false,false,false,false,false,false,false,false,false,false,false,false,false,false,false,false,false,false,false,false,false,false,false,false,false,false,false,false,false,false,false,false,false,false,false,false,false,false,false,false,false,false,false]) (by rfl) (by rfl) ?_;refine ay [0] (by rfl) (by kernel_rfl) (fun _ _ _ _ _ h=>h) hHeld ?_
  iterate 1
   refine yk ?_ rfl (Or.inl ⟨by rfl,?_⟩) ?_;rotate_left
   ·intro w9 hSw;go_simp;(try with_reducible rfl)
   try simp only [sT,Act.put]
  refine ax ?_;simp only [ai,sT];refine ay [1] (by rfl) (by kernel_rfl) (fun _ _ _ _ _ h=>h) hHeld ?_
  iterate 1
   refine yk ?_ rfl (Or.inl ⟨by rfl,?_⟩) ?_;rotate_left
   ·intro w9 hSw;have pj:w9.cell? ⟨w.heap.size,0,none⟩=some (.int .i64 v.c):=hSw.cell 0 rfl;go_simp;(try with_reducible rfl)
   try simp only [sT,Act.put]
  refine ax ?_;simp only [ai,sT];refine ay [2,3,4] (by rfl) (by kernel_rfl) (fun _ _ _ _ _ h=>h) hHeld ?_
  iterate 3
   refine yk ?_ rfl (Or.inl ⟨by rfl,?_⟩) ?_;rotate_left
   ·intro w9 hSw;go_simp;(try with_reducible rfl)
   try simp only [sT,Act.put]
  refine ax ?_;simp only [ai,sT];refine ay [5] (by rfl) (by kernel_rfl) (fun _ _ _ _ _ h=>h) hHeld ?_
  iterate 1
   refine yk ?_ rfl (Or.inl ⟨by rfl,?_⟩) ?_;rotate_left
   ·intro w9 hSw;have pj:w9.cell? ⟨w.heap.size,0,none⟩=some (.int .i64 v.c):=hSw.cell 0 rfl;go_simp;(try with_reducible rfl)
   try simp only [sT,Act.put]
  refine ax ?_;simp only [ai,sT];refine ay [6,7,8,9] (by rfl) (by kernel_rfl) (fun _ _ _ _ _ h=>h) hHeld ?_
  iterate 4
   refine yk ?_ rfl (Or.inl ⟨by rfl,?_⟩) ?_;rotate_left
   ·intro w9 hSw;go_simp;(try with_reducible rfl)
   try simp only [sT,Act.put]
  refine ax ?_;simp only [ai,sT];refine ay [10] (by rfl) (by kernel_rfl) (fun _ _ _ _ _ h=>h) hHeld ?_
  iterate 1
   refine yk ?_ rfl (Or.inl ⟨by rfl,?_⟩) ?_;rotate_left
   ·intro w9 hSw;have pj:w9.cell? ⟨w.heap.size,1,none⟩=some (.int .i64 v.s):=hSw.cell 1 rfl;go_simp;(try with_reducible rfl)
   try simp only [sT,Act.put]
  refine ax ?_;simp only [ai,sT];refine cd 11 (by kernel_rfl) rfl (fun K0 hK0=>?_);go_simp;refine (aV _ v.s).mono ?_;rw [HGs.out];rintro _ W0 ⟨rfl,hW0⟩;obtain rfl:=hW0.symm;(go_wp2_with fail);refine hK0.out _ _ (HB.out.kept (ab.refl [] _).drew (by simp)) (fun hHeld=>?_);clear hK0 K0;(try simp only [sT,Act.put]);refine ay [12,13,14,15] (by rfl) (by kernel_rfl) (fun _ _ _ _ _ h=>h) hHeld ?_
  iterate 4
   refine yk ?_ rfl (Or.inl ⟨by rfl,?_⟩) ?_;rotate_left
   ·intro w9 hSw;go_simp;(try with_reducible rfl)
   try simp only [sT,Act.put]
  refine ax ?_;simp only [ai,sT];refine ay [16] (by rfl) (by kernel_rfl) (fun _ _ _ _ _ h=>h) hHeld ?_
  iterate 1
   refine yk ?_ rfl (Or.inl ⟨by rfl,?_⟩) ?_;rotate_left
   ·intro w9 hSw;have pj:w9.cell? ⟨w.heap.size,2,none⟩=some (.int .i64 v.r):=hSw.cell 2 rfl;go_simp;(try with_reducible rfl)
   try simp only [sT,Act.put]
  refine ax ?_;simp only [ai,sT];refine cd 17 (by kernel_rfl) rfl (fun K0 hK0=>?_);go_simp;refine (aV _ v.r).mono ?_;rw [HGr.out];rintro _ W0 ⟨rfl,hW0⟩;obtain rfl:=hW0.symm;(go_wp2_with fail);refine hK0.out _ _ (HB.out.kept (ab.refl [] _).drew (by simp)) (fun hHeld=>?_);clear hK0 K0;(try simp only [sT,Act.put]);refine ay [18,19,20,21] (by rfl) (by kernel_rfl) (fun _ _ _ _ _ h=>h) hHeld ?_
  iterate 4
   refine yk ?_ rfl (Or.inl ⟨by rfl,?_⟩) ?_;rotate_left
   ·intro w9 hSw;go_simp;(try with_reducible rfl)
   try simp only [sT,Act.put]
  refine ax ?_;simp only [ai,sT];refine ay [22] (by rfl) (by kernel_rfl) (fun _ _ _ _ _ h=>h) hHeld ?_
  iterate 1
   refine yk ?_ rfl (Or.inl ⟨by rfl,?_⟩) ?_;rotate_left
   ·intro w9 hSw;have pj:w9.cell? ⟨w.heap.size,6,none⟩=some (.int .i64 v.m):=hSw.cell 6 rfl;go_simp;(try with_reducible rfl)
   try simp only [sT,Act.put]
  refine ax ?_;simp only [ai,sT];refine cd 23 (by kernel_rfl) rfl (fun K0 hK0=>?_);go_simp;refine (aV _ v.m).mono ?_;rw [HGm.out];rintro _ W0 ⟨rfl,hW0⟩;obtain rfl:=hW0.symm;(go_wp2_with fail);refine hK0.out _ _ (HB.out.kept (ab.refl [] _).drew (by simp)) (fun hHeld=>?_);clear hK0 K0;(try simp only [sT,Act.put]);refine ay [24,25,26,27] (by rfl) (by kernel_rfl) (fun _ _ _ _ _ h=>h) hHeld ?_
  iterate 4
   refine yk ?_ rfl (Or.inl ⟨by rfl,?_⟩) ?_;rotate_left
   ·intro w9 hSw;go_simp;(try with_reducible rfl)
   try simp only [sT,Act.put]
  refine ax ?_;simp only [ai,sT];refine ay [28] (by rfl) (by kernel_rfl) (fun _ _ _ _ _ h=>h) hHeld ?_
  iterate 1
   refine yk ?_ rfl (Or.inl ⟨by rfl,?_⟩) ?_;rotate_left
   ·intro w9 hSw;have pj:w9.cell? ⟨w.heap.size,3,none⟩=some (.string (ae v.p)):=hSw.cell 3 rfl;go_simp;(try with_reducible rfl)
   try simp only [sT,Act.put]
  refine ax ?_;simp only [ai,sT];refine ay [29] (by rfl) (by kernel_rfl) (fun _ _ _ _ _ h=>h) hHeld ?_
  iterate 1
   refine yk ?_ rfl (Or.inl ⟨by rfl,?_⟩) ?_;rotate_left
   ·intro w9 hSw;go_simp;(try with_reducible rfl)
   try simp only [sT,Act.put]
  refine ax ?_;simp only [ai,sT];refine ay [30] (by rfl) (by kernel_rfl) (fun _ _ _ _ _ h=>h) hHeld ?_
  iterate 1
   refine yk ?_ rfl (Or.inl ⟨by rfl,?_⟩) ?_;rotate_left
   ·intro w9 hSw;have hq:=HPB.out;go_simp;(try with_reducible rfl)
   try simp only [sT,Act.put]
  refine ax ?_;simp only [ai,sT];refine ay [31,32] (by rfl) (by kernel_rfl) (fun _ _ _ _ _ h=>h) hHeld ?_
  iterate 2
   refine yk ?_ rfl (Or.inl ⟨by rfl,?_⟩) ?_;rotate_left
   ·intro w9 hSw;go_simp;(try with_reducible rfl)
   try simp only [sT,Act.put]
  refine ax ?_;simp only [ai,sT];refine ay [33,34,35,36] (by rfl) (by kernel_rfl) (fun _ _ _ _ _ h=>h) hHeld ?_
  iterate 4
   refine yk undef rfl (Or.inr ⟨by rfl,rfl⟩) ?_;try simp only [sT,Act.put]
  refine ax ?_;simp only [ai,sT];refine ay [37,38] (by rfl) (by kernel_rfl) (fun _ _ _ _ _ h=>h) hHeld ?_
  iterate 2
   refine yk ?_ rfl (Or.inl ⟨by rfl,?_⟩) ?_;rotate_left
   ·intro w9 hSw;go_simp;(try with_reducible rfl)
   try simp only [sT,Act.put]
  refine ax ?_;simp only [ai,sT];refine ay [39,40,41,42,43] (by rfl) (by kernel_rfl) (fun _ _ _ _ _ h=>h) hHeld ?_
  iterate 5
   refine yk undef rfl (Or.inr ⟨by rfl,rfl⟩) ?_;try simp only [sT,Act.put]
  refine ax ?_;simp only [ai,sT];refine ay [44] (by rfl) (by kernel_rfl) (fun _ _ _ _ _ h=>h) hHeld ?_
  iterate 1
   refine yk ?_ rfl (Or.inl ⟨by rfl,?_⟩) ?_;rotate_left
   ·intro w9 hSw;go_simp;(try with_reducible rfl)
   try simp only [sT,Act.put]
  refine ax ?_;simp only [ai,sT];(try simp only [sT,Act.put]);refine wpAnyH_done (by kernel_rfl) ?_ _;clear hHeld;(go_wp2_with fail);go_ret
  rw [HC.out];exact ⟨rfl,HK.out.drew⟩
 have HPB:Hid (decide ((255:Int) < (v.p.length:Int))=false):=decide_eq_false (by omega);by_cases hl:32 < un
 ·have HLB:Hid (decide ((32:Int) < (un:Int))=true):=decide_eq_true (by omega);refine wp_region_held_drew (S:=fun w9=>Bx w9 w.heap.size 34 (au v (.slice uo un uc))) (by kernel_rfl) (HB.out.kept (ab.refl [] _).drew (by simp)) (fun hHeld=>?_);refine cw (fuel':=45) (l':=#[false,false,false,false,false,false,false,false,false,false,false,false,false,false,false,false,false,false,false,false,false,false,false,false,false,false,false,false,false,false,false,false,false,false,false,false,false,false,false,false,false,false,false,false,false]) (by rfl) (by rfl) ?_;refine ay [0] (by rfl) (by kernel_rfl) (fun _ _ _ _ _ h=>h) hHeld ?_
  iterate 1
   refine yk ?_ rfl (Or.inl ⟨by rfl,?_⟩) ?_;rotate_left
   ·intro w9 hSw;go_simp;(try with_reducible rfl)
   try simp only [sT,Act.put]
  refine ax ?_;simp only [ai,sT];refine ay [1] (by rfl) (by kernel_rfl) (fun _ _ _ _ _ h=>h) hHeld ?_
  iterate 1
   refine yk ?_ rfl (Or.inl ⟨by rfl,?_⟩) ?_;rotate_left
   ·intro w9 hSw;have pj:w9.cell? ⟨w.heap.size,0,none⟩=some (.int .i64 v.c):=hSw.cell 0 rfl;go_simp;(try with_reducible rfl)
   try simp only [sT,Act.put]
  refine ax ?_;simp only [ai,sT];refine ay [2,3,4] (by rfl) (by kernel_rfl) (fun _ _ _ _ _ h=>h) hHeld ?_
  iterate 3
   refine yk ?_ rfl (Or.inl ⟨by rfl,?_⟩) ?_;rotate_left
   ·intro w9 hSw;go_simp;(try with_reducible rfl)
   try simp only [sT,Act.put]
  refine ax ?_;simp only [ai,sT];refine ay [5] (by rfl) (by kernel_rfl) (fun _ _ _ _ _ h=>h) hHeld ?_
  iterate 1
   refine yk ?_ rfl (Or.inl ⟨by rfl,?_⟩) ?_;rotate_left
   ·intro w9 hSw;have pj:w9.cell? ⟨w.heap.size,0,none⟩=some (.int .i64 v.c):=hSw.cell 0 rfl;go_simp;(try with_reducible rfl)
   try simp only [sT,Act.put]
  refine ax ?_;simp only [ai,sT];refine ay [6,7,8,9] (by rfl) (by kernel_rfl) (fun _ _ _ _ _ h=>h) hHeld ?_
  iterate 4
   refine yk ?_ rfl (Or.inl ⟨by rfl,?_⟩) ?_;rotate_left
   ·intro w9 hSw;go_simp;(try with_reducible rfl)
   try simp only [sT,Act.put]
  refine ax ?_;simp only [ai,sT];refine ay [10] (by rfl) (by kernel_rfl) (fun _ _ _ _ _ h=>h) hHeld ?_
  iterate 1
   refine yk ?_ rfl (Or.inl ⟨by rfl,?_⟩) ?_;rotate_left
   ·intro w9 hSw;have pj:w9.cell? ⟨w.heap.size,1,none⟩=some (.int .i64 v.s):=hSw.cell 1 rfl;go_simp;(try with_reducible rfl)
   try simp only [sT,Act.put]
  refine ax ?_;simp only [ai,sT];refine cd 11 (by kernel_rfl) rfl (fun K0 hK0=>?_);go_simp;refine (aV _ v.s).mono ?_;rw [HGs.out];rintro _ W0 ⟨rfl,hW0⟩;obtain rfl:=hW0.symm;(go_wp2_with fail);refine hK0.out _ _ (HB.out.kept (ab.refl [] _).drew (by simp)) (fun hHeld=>?_);clear hK0 K0;(try simp only [sT,Act.put]);refine ay [12,13,14,15] (by rfl) (by kernel_rfl) (fun _ _ _ _ _ h=>h) hHeld ?_
  iterate 4
   refine yk ?_ rfl (Or.inl ⟨by rfl,?_⟩) ?_;rotate_left
   ·intro w9 hSw;go_simp;(try with_reducible rfl)
   try simp only [sT,Act.put]
  refine ax ?_;simp only [ai,sT];refine ay [16] (by rfl) (by kernel_rfl) (fun _ _ _ _ _ h=>h) hHeld ?_
  iterate 1
   refine yk ?_ rfl (Or.inl ⟨by rfl,?_⟩) ?_;rotate_left
   ·intro w9 hSw;have pj:w9.cell? ⟨w.heap.size,2,none⟩=some (.int .i64 v.r):=hSw.cell 2 rfl;go_simp;(try with_reducible rfl)
   try simp only [sT,Act.put]
  refine ax ?_;simp only [ai,sT];refine cd 17 (by kernel_rfl) rfl (fun K0 hK0=>?_);go_simp;refine (aV _ v.r).mono ?_;rw [HGr.out];rintro _ W0 ⟨rfl,hW0⟩;obtain rfl:=hW0.symm;(go_wp2_with fail);refine hK0.out _ _ (HB.out.kept (ab.refl [] _).drew (by simp)) (fun hHeld=>?_);clear hK0 K0;(try simp only [sT,Act.put]);refine ay [18,19,20,21] (by rfl) (by kernel_rfl) (fun _ _ _ _ _ h=>h) hHeld ?_
  iterate 4
   refine yk ?_ rfl (Or.inl ⟨by rfl,?_⟩) ?_;rotate_left
   ·intro w9 hSw;go_simp;(try with_reducible rfl)
   try simp only [sT,Act.put]
  refine ax ?_;simp only [ai,sT];refine ay [22] (by rfl) (by kernel_rfl) (fun _ _ _ _ _ h=>h) hHeld ?_
  iterate 1
   refine yk ?_ rfl (Or.inl ⟨by rfl,?_⟩) ?_;rotate_left
   ·intro w9 hSw;have pj:w9.cell? ⟨w.heap.size,6,none⟩=some (.int .i64 v.m):=hSw.cell 6 rfl;go_simp;(try with_reducible rfl)
   try simp only [sT,Act.put]
  refine ax ?_;simp only [ai,sT];refine cd 23 (by kernel_rfl) rfl (fun K0 hK0=>?_);go_simp;refine (aV _ v.m).mono ?_;rw [HGm.out];rintro _ W0 ⟨rfl,hW0⟩;obtain rfl:=hW0.symm;(go_wp2_with fail);refine hK0.out _ _ (HB.out.kept (ab.refl [] _).drew (by simp)) (fun hHeld=>?_);clear hK0 K0;(try simp only [sT,Act.put]);refine ay [24,25,26,27] (by rfl) (by kernel_rfl) (fun _ _ _ _ _ h=>h) hHeld ?_
  iterate 4
   refine yk ?_ rfl (Or.inl ⟨by rfl,?_⟩) ?_;rotate_left
   ·intro w9 hSw;go_simp;(try with_reducible rfl)
   try simp only [sT,Act.put]
  refine ax ?_;simp only [ai,sT];refine ay [28] (by rfl) (by kernel_rfl) (fun _ _ _ _ _ h=>h) hHeld ?_
  iterate 1
   refine yk ?_ rfl (Or.inl ⟨by rfl,?_⟩) ?_;rotate_left
   ·intro w9 hSw;have pj:w9.cell? ⟨w.heap.size,3,none⟩=some (.string (ae v.p)):=hSw.cell 3 rfl;go_simp;(try with_reducible rfl)
   try simp only [sT,Act.put]
  refine ax ?_;simp only [ai,sT];refine ay [29] (by rfl) (by kernel_rfl) (fun _ _ _ _ _ h=>h) hHeld ?_
  iterate 1
   refine yk ?_ rfl (Or.inl ⟨by rfl,?_⟩) ?_;rotate_left
   ·intro w9 hSw;go_simp;(try with_reducible rfl)
   try simp only [sT,Act.put]
  refine ax ?_;simp only [ai,sT];refine ay [30] (by rfl) (by kernel_rfl) (fun _ _ _ _ _ h=>h) hHeld ?_
  iterate 1
   refine yk ?_ rfl (Or.inl ⟨by rfl,?_⟩) ?_;rotate_left
   ·intro w9 hSw;have hq:=HPB.out;go_simp;(try with_reducible rfl)
   try simp only [sT,Act.put]
  refine ax ?_;simp only [ai,sT];refine ay [31,32,33] (by rfl) (by kernel_rfl) (fun _ _ _ _ _ h=>h) hHeld ?_
  iterate 3
   refine yk ?_ rfl (Or.inl ⟨by rfl,?_⟩) ?_;rotate_left
   ·intro w9 hSw;go_simp;(try with_reducible rfl)
   try simp only [sT,Act.put]
  refine ax ?_;simp only [ai,sT];refine ay [34] (by rfl) (by kernel_rfl) (fun _ _ _ _ _ h=>h) hHeld ?_
  iterate 1
   refine yk ?_ rfl (Or.inl ⟨by rfl,?_⟩) ?_;rotate_left
   ·intro w9 hSw;have pj:w9.cell? ⟨w.heap.size,5,none⟩=some (.slice uo un uc):=hSw.cell 5 rfl;go_simp;(try with_reducible rfl)
   try simp only [sT,Act.put]
  refine ax ?_;simp only [ai,sT];refine ay [35] (by rfl) (by kernel_rfl) (fun _ _ _ _ _ h=>h) hHeld ?_
  iterate 1
   refine yk ?_ rfl (Or.inl ⟨by rfl,?_⟩) ?_;rotate_left
   ·intro w9 hSw;go_simp;(try with_reducible rfl)
   try simp only [sT,Act.put]
  refine ax ?_;simp only [ai,sT];refine ay [36] (by rfl) (by kernel_rfl) (fun _ _ _ _ _ h=>h) hHeld ?_
  iterate 1
   refine yk ?_ rfl (Or.inl ⟨by rfl,?_⟩) ?_;rotate_left
   ·intro w9 hSw;have hq:=HLB.out;go_simp;(try with_reducible rfl)
   try simp only [sT,Act.put]
  refine ax ?_;simp only [ai,sT];refine ay [37,38] (by rfl) (by kernel_rfl) (fun _ _ _ _ _ h=>h) hHeld ?_
  iterate 2
   refine yk ?_ rfl (Or.inl ⟨by rfl,?_⟩) ?_;rotate_left
   ·intro w9 hSw;go_simp;(try with_reducible rfl)
   try simp only [sT,Act.put]
  refine ax ?_;simp only [ai,sT];refine ay [39,40,41,42,43] (by rfl) (by kernel_rfl) (fun _ _ _ _ _ h=>h) hHeld ?_
  iterate 5
   refine yk undef rfl (Or.inr ⟨by rfl,rfl⟩) ?_;try simp only [sT,Act.put]
  refine ax ?_;simp only [ai,sT];refine ay [44] (by rfl) (by kernel_rfl) (fun _ _ _ _ _ h=>h) hHeld ?_
  iterate 1
   refine yk ?_ rfl (Or.inl ⟨by rfl,?_⟩) ?_;rotate_left
   ·intro w9 hSw;go_simp;(try with_reducible rfl)
   try simp only [sT,Act.put]
  refine ax ?_;simp only [ai,sT];(try simp only [sT,Act.put]);refine wpAnyH_done (by kernel_rfl) ?_ _;clear hHeld;(go_wp2_with fail);go_ret
  rw [HC.out];exact ⟨rfl,HK.out.drew⟩
 have HLB:Hid (decide ((32:Int) < (un:Int))=false):=decide_eq_false (by omega);by_cases how:v=jV v
 rotate_left
 ·have HOW:=aa (decide_eq_false how);clear how;refine wp_region_held_drew (S:=fun w9=>Bx w9 w.heap.size 34 (au v (.slice uo un uc))) (by kernel_rfl) (HB.out.kept (ab.refl [] _).drew (by simp)) (fun hHeld=>?_);refine cw (fuel':=45) (l':=#[false,false,false,false,false,false,false,false,false,false,false,false,false,false,false,false,false,false,false,false,false,false,false,false,false,false,false,false,false,false,false,false,false,false,false,false,false,false,false,false,false,false,false,false,false]) (by rfl) (by rfl) ?_;refine ay [0] (by rfl) (by kernel_rfl) (fun _ _ _ _ _ h=>h) hHeld ?_
  iterate 1
   refine yk ?_ rfl (Or.inl ⟨by rfl,?_⟩) ?_;rotate_left
   ·intro w9 hSw;go_simp;(try with_reducible rfl)
   try simp only [sT,Act.put]
  refine ax ?_;simp only [ai,sT];refine ay [1] (by rfl) (by kernel_rfl) (fun _ _ _ _ _ h=>h) hHeld ?_
  iterate 1
   refine yk ?_ rfl (Or.inl ⟨by rfl,?_⟩) ?_;rotate_left
   ·intro w9 hSw;have pj:w9.cell? ⟨w.heap.size,0,none⟩=some (.int .i64 v.c):=hSw.cell 0 rfl;go_simp;(try with_reducible rfl)
   try simp only [sT,Act.put]
  refine ax ?_;simp only [ai,sT];refine ay [2,3,4] (by rfl) (by kernel_rfl) (fun _ _ _ _ _ h=>h) hHeld ?_
  iterate 3
   refine yk ?_ rfl (Or.inl ⟨by rfl,?_⟩) ?_;rotate_left
   ·intro w9 hSw;go_simp;(try with_reducible rfl)
   try simp only [sT,Act.put]
  refine ax ?_;simp only [ai,sT];refine ay [5] (by rfl) (by kernel_rfl) (fun _ _ _ _ _ h=>h) hHeld ?_
  iterate 1
   refine yk ?_ rfl (Or.inl ⟨by rfl,?_⟩) ?_;rotate_left
   ·intro w9 hSw;have pj:w9.cell? ⟨w.heap.size,0,none⟩=some (.int .i64 v.c):=hSw.cell 0 rfl;go_simp;(try with_reducible rfl)
   try simp only [sT,Act.put]
  refine ax ?_;simp only [ai,sT];refine ay [6,7,8,9] (by rfl) (by kernel_rfl) (fun _ _ _ _ _ h=>h) hHeld ?_
  iterate 4
   refine yk ?_ rfl (Or.inl ⟨by rfl,?_⟩) ?_;rotate_left
   ·intro w9 hSw;go_simp;(try with_reducible rfl)
   try simp only [sT,Act.put]
  refine ax ?_;simp only [ai,sT];refine ay [10] (by rfl) (by kernel_rfl) (fun _ _ _ _ _ h=>h) hHeld ?_
  iterate 1
   refine yk ?_ rfl (Or.inl ⟨by rfl,?_⟩) ?_;rotate_left
   ·intro w9 hSw;have pj:w9.cell? ⟨w.heap.size,1,none⟩=some (.int .i64 v.s):=hSw.cell 1 rfl;go_simp;(try with_reducible rfl)
   try simp only [sT,Act.put]
  refine ax ?_;simp only [ai,sT];refine cd 11 (by kernel_rfl) rfl (fun K0 hK0=>?_);go_simp;refine (aV _ v.s).mono ?_;rw [HGs.out];rintro _ W0 ⟨rfl,hW0⟩;obtain rfl:=hW0.symm;(go_wp2_with fail);refine hK0.out _ _ (HB.out.kept (ab.refl [] _).drew (by simp)) (fun hHeld=>?_);clear hK0 K0;(try simp only [sT,Act.put]);refine ay [12,13,14,15] (by rfl) (by kernel_rfl) (fun _ _ _ _ _ h=>h) hHeld ?_
  iterate 4
   refine yk ?_ rfl (Or.inl ⟨by rfl,?_⟩) ?_;rotate_left
   ·intro w9 hSw;go_simp;(try with_reducible rfl)
   try simp only [sT,Act.put]
  refine ax ?_;simp only [ai,sT];refine ay [16] (by rfl) (by kernel_rfl) (fun _ _ _ _ _ h=>h) hHeld ?_
  iterate 1
   refine yk ?_ rfl (Or.inl ⟨by rfl,?_⟩) ?_;rotate_left
   ·intro w9 hSw;have pj:w9.cell? ⟨w.heap.size,2,none⟩=some (.int .i64 v.r):=hSw.cell 2 rfl;go_simp;(try with_reducible rfl)
   try simp only [sT,Act.put]
  refine ax ?_;simp only [ai,sT];refine cd 17 (by kernel_rfl) rfl (fun K0 hK0=>?_);go_simp;refine (aV _ v.r).mono ?_;rw [HGr.out];rintro _ W0 ⟨rfl,hW0⟩;obtain rfl:=hW0.symm;(go_wp2_with fail);refine hK0.out _ _ (HB.out.kept (ab.refl [] _).drew (by simp)) (fun hHeld=>?_);clear hK0 K0;(try simp only [sT,Act.put]);refine ay [18,19,20,21] (by rfl) (by kernel_rfl) (fun _ _ _ _ _ h=>h) hHeld ?_
  iterate 4
   refine yk ?_ rfl (Or.inl ⟨by rfl,?_⟩) ?_;rotate_left
   ·intro w9 hSw;go_simp;(try with_reducible rfl)
   try simp only [sT,Act.put]
  refine ax ?_;simp only [ai,sT];refine ay [22] (by rfl) (by kernel_rfl) (fun _ _ _ _ _ h=>h) hHeld ?_
  iterate 1
   refine yk ?_ rfl (Or.inl ⟨by rfl,?_⟩) ?_;rotate_left
   ·intro w9 hSw;have pj:w9.cell? ⟨w.heap.size,6,none⟩=some (.int .i64 v.m):=hSw.cell 6 rfl;go_simp;(try with_reducible rfl)
   try simp only [sT,Act.put]
  refine ax ?_;simp only [ai,sT];refine cd 23 (by kernel_rfl) rfl (fun K0 hK0=>?_);go_simp;refine (aV _ v.m).mono ?_;rw [HGm.out];rintro _ W0 ⟨rfl,hW0⟩;obtain rfl:=hW0.symm;(go_wp2_with fail);refine hK0.out _ _ (HB.out.kept (ab.refl [] _).drew (by simp)) (fun hHeld=>?_);clear hK0 K0;(try simp only [sT,Act.put]);refine ay [24,25,26,27] (by rfl) (by kernel_rfl) (fun _ _ _ _ _ h=>h) hHeld ?_
  iterate 4
   refine yk ?_ rfl (Or.inl ⟨by rfl,?_⟩) ?_;rotate_left
   ·intro w9 hSw;go_simp;(try with_reducible rfl)
   try simp only [sT,Act.put]
  refine ax ?_;simp only [ai,sT];refine ay [28] (by rfl) (by kernel_rfl) (fun _ _ _ _ _ h=>h) hHeld ?_
  iterate 1
   refine yk ?_ rfl (Or.inl ⟨by rfl,?_⟩) ?_;rotate_left
   ·intro w9 hSw;have pj:w9.cell? ⟨w.heap.size,3,none⟩=some (.string (ae v.p)):=hSw.cell 3 rfl;go_simp;(try with_reducible rfl)
   try simp only [sT,Act.put]
  refine ax ?_;simp only [ai,sT];refine ay [29] (by rfl) (by kernel_rfl) (fun _ _ _ _ _ h=>h) hHeld ?_
  iterate 1
   refine yk ?_ rfl (Or.inl ⟨by rfl,?_⟩) ?_;rotate_left
   ·intro w9 hSw;go_simp;(try with_reducible rfl)
   try simp only [sT,Act.put]
  refine ax ?_;simp only [ai,sT];refine ay [30] (by rfl) (by kernel_rfl) (fun _ _ _ _ _ h=>h) hHeld ?_
  iterate 1
   refine yk ?_ rfl (Or.inl ⟨by rfl,?_⟩) ?_;rotate_left
   ·intro w9 hSw;have hq:=HPB.out;go_simp;(try with_reducible rfl)
   try simp only [sT,Act.put]
  refine ax ?_;simp only [ai,sT];refine ay [31,32,33] (by rfl) (by kernel_rfl) (fun _ _ _ _ _ h=>h) hHeld ?_
  iterate 3
   refine yk ?_ rfl (Or.inl ⟨by rfl,?_⟩) ?_;rotate_left
   ·intro w9 hSw;go_simp;(try with_reducible rfl)
   try simp only [sT,Act.put]
  refine ax ?_;simp only [ai,sT];refine ay [34] (by rfl) (by kernel_rfl) (fun _ _ _ _ _ h=>h) hHeld ?_
  iterate 1
   refine yk ?_ rfl (Or.inl ⟨by rfl,?_⟩) ?_;rotate_left
   ·intro w9 hSw;have pj:w9.cell? ⟨w.heap.size,5,none⟩=some (.slice uo un uc):=hSw.cell 5 rfl;go_simp;(try with_reducible rfl)
   try simp only [sT,Act.put]
  refine ax ?_;simp only [ai,sT];refine ay [35] (by rfl) (by kernel_rfl) (fun _ _ _ _ _ h=>h) hHeld ?_
  iterate 1
   refine yk ?_ rfl (Or.inl ⟨by rfl,?_⟩) ?_;rotate_left
   ·intro w9 hSw;go_simp;(try with_reducible rfl)
   try simp only [sT,Act.put]
  refine ax ?_;simp only [ai,sT];refine ay [36] (by rfl) (by kernel_rfl) (fun _ _ _ _ _ h=>h) hHeld ?_
  iterate 1
   refine yk ?_ rfl (Or.inl ⟨by rfl,?_⟩) ?_;rotate_left
   ·intro w9 hSw;have hq:=HLB.out;go_simp;(try with_reducible rfl)
   try simp only [sT,Act.put]
  refine ax ?_;simp only [ai,sT];refine ay [37,38] (by rfl) (by kernel_rfl) (fun _ _ _ _ _ h=>h) hHeld ?_
  iterate 2
   refine yk ?_ rfl (Or.inl ⟨by rfl,?_⟩) ?_;rotate_left
   ·intro w9 hSw;go_simp;(try with_reducible rfl)
   try simp only [sT,Act.put]
  refine ax ?_;simp only [ai,sT];refine wpAnyH_take (i:=39) (v:=.agg (au v (.slice uo un uc)).toArray) rfl (by kernel_rfl) (by kernel_rfl) (by kernel_rfl) (fun _ _ _ h=>h) (yieldsIf_load_mid (by rfl) _ _ rfl w.heap.size 0 rfl (au v (.slice uo un uc)) _ (fun w9 hSw=>hSw.range) Tryz.underlying34 rfl dH) hHeld ?_;(try simp only [sT,Act.put]);refine wpAnyH_take (i:=40) (v:=.agg (au v (.slice uo un uc)).toArray) rfl (by kernel_rfl) (by kernel_rfl) (by kernel_rfl) (fun _ _ _ h=>h) (yieldsIf_load_mid (by rfl) _ _ rfl w.heap.size 0 rfl (au v (.slice uo un uc)) _ (fun w9 hSw=>hSw.range) Tryz.underlying34 rfl dH) hHeld ?_;(try simp only [sT,Act.put]);refine cd 41 (by kernel_rfl) rfl (fun K0 hK0=>?_);go_simp;refine (ki _ v uo un uc).mono ?_;rintro _ w2 ⟨u2,rfl,hu2,hk2⟩;have HK2:=aa ((ab.refl [] W).drew.trans hk2 (by simp));clear hk2;(go_wp2_with fail);refine hK0.out _ _ (HB.out.kept HK2.out (by simp)) (fun hHeld=>?_);clear hK0 K0;(try simp only [sT,Act.put]);refine cd 42 (by kernel_rfl) rfl (fun K0 hK0=>?_);go_simp;have cS:=lB w2 v (.slice uo un uc) u2 hu2 (HV.out.kept HK2.out);rw [HOW.out] at cS;refine cS.mono ?_;clear cS;rintro _ w3 ⟨rfl,hk3⟩;have HK3:=aa (HK2.out.trans hk3 (by simp));clear hk3;(go_wp2_with fail);refine hK0.out _ _ (HB.out.kept HK3.out (by simp)) (fun hHeld=>?_);clear hK0 K0;(try simp only [sT,Act.put]);refine ay [43,44] (by rfl) (by kernel_rfl) (fun _ _ _ _ _ h=>h) hHeld ?_
  iterate 2
   refine yk ?_ rfl (Or.inl ⟨by rfl,?_⟩) ?_;rotate_left
   ·intro w9 hSw;go_simp;(try with_reducible rfl)
   try simp only [sT,Act.put]
  refine ax ?_;simp only [ai,sT];(try simp only [sT,Act.put]);refine wpAnyH_done (by kernel_rfl) ?_ _;clear hHeld;(go_wp2_with fail);go_ret
  rw [HC.out];exact ⟨rfl,HK.out.trans HK3.out (by simp)⟩
 exfalso
 have h:=HHB.out;unfold j3 at h;rw [decide_eq_true hc0,decide_eq_true hc15,HGs.out,HGr.out,HGm.out,show eS v.p=true from decide_eq_true (by omega),show decide (v.k.length≤32)=true from decide_eq_true (by omega),decide_eq_true how] at h;cases h
end Go.Proofs.YtakafmejllilnaaGreat
