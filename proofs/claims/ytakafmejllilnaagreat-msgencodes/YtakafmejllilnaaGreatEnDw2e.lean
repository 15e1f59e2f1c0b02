/-
  The document's Put, Encode of requests. (Written by mk/mkdput.py.)
-/
import Derived.Test.YtakafmejllilnaaGreatW9e
import Derived.Test.YtakafmejllilnaaGreatEnDc3e
set_option maxHeartbeats 8000000
set_option maxRecDepth 100000
namespace Go.Proofs.YtakafmejllilnaaGreat
open Go.RowKit
def vw (s:List Int × Int) (r:Rq):List Int × Int:=if bY r=true then aK s (bR r) else ne s
theorem dJ:cb true=0:=rfl
theorem nX:cb false=1:=rfl
theorem vD (p:Nat) (w:World) (O:List Nat) (s:List Int × Int) (m:Nat) (x:Rm) (hk:x.r.k=0) (hS:dd w x.mo x.m x.mc x.r.c) (hd:0 < x.m→∀ k∈bO x.mo,k < w.heap.size∧k ∉ O) (hch:bY x.r=true) (hA:co p w O s (m+210)) :
 Calls Tryz.prog 28 #[.pointer (some ⟨p,0,none⟩),dv x] w (fI p w O (aK s (ag 0)) m):=by
 have k1:ab [] w (w.alloc (.cells #[.int .i64 x.r.k,.string (ac x.r.n),.int .i64 x.r.s,.int .i64 x.r.q,.int .i64 x.r.b,.string (ac x.r.f),.slice x.mo x.m x.mc,.string (ac x.r.p),.int .i64 x.r.fr,.int .i64 x.r.mn,.int .i64 x.r.mb] 29)):=(ab.refl _ _).alloc _;obtain ⟨W,hW⟩:∃ W,W=w.alloc (.cells #[.int .i64 x.r.k,.string (ac x.r.n),.int .i64 x.r.s,.int .i64 x.r.q,.int .i64 x.r.b,.string (ac x.r.f),.slice x.mo x.m x.mc,.string (ac x.r.p),.int .i64 x.r.fr,.int .i64 x.r.mn,.int .i64 x.r.mb] 29):=⟨_,rfl⟩;rw [← hW] at k1;have HW:=aa hW;have HB:Hid (Bx W w.heap.size 29 (aR x)):=by rw [hW];exact Bx.new w _ (aR x)
 have HT:Hid (av Tryz.prog 29 (aR x).length):=au;have HSz:Hid (W.heap.size=w.heap.size+1):=by rw [hW];show _=_;simp
 have HO:=aa hA.lt;have HA:=aa (hA.kept k1 (by simp));have HS:=aa hS;have HD:=aa hd;have HK:=aa k1
 have cC:Calls Tryz.prog 39 #[.agg (aR x).toArray] W fun e w'=>e=.returned (.int .i64 0)∧ab [] W w':=by
  have h:=cd W x (hS.kept k1 (by simp));rw [hch,dJ] at h;exact h
 have HC:=aa cC;have HKK:=aa hk;clear hW k1 hA hS hd hch cC hk;unfold dv;go_enter Tryz.func28,Tryz.ntmps28;go_upto_region 1 with fail
 rw [← HW.out];go_upto_region 3 with (first | ((with_reducible refine ai HB.out HT.out ?_ ?_);rfl) | (go_at_call 39;refine HC.out.mono ?_;clear HC;rintro _ w1 ⟨rfl,hk1⟩;have HK1:=aa hk1;clear hk1))
 have hno:w.heap.size ∉ O:=fun hm=>by have:=HO.out _ hm;omega
 have hlt:w.heap.size < W.heap.size:=by rw [HSz.out];omega
 have HB1:Hid (WB p W O w.heap.size 29 (aR x) s (m+210) w1):=⟨⟨O,HA.out.kept HK1.out (by simp),HK1.out.mono (by simp),fun k hk=>.inl hk⟩,HB.out.kept HK1.out (by simp)⟩;have c0:w1.cell? ⟨w.heap.size,0,none⟩=some (.int .i64 0):=by rw [← HKK.out];exact HB1.out.2.cell 0 rfl
 have cN:=ay HB1.out hlt hno (fun O' _ _ h=>aD p w1 O' _ (m+209) 0 (by decide) h);have HN:=aa cN;clear cN;go_wp2_with fail
 refine HN.out.mono ?_;clear HN;rintro _ w2 ⟨rfl,hB⟩;have HB2:=aa hB;clear hB c0;have c0:w2.cell? ⟨w.heap.size,0,none⟩=some (.int .i64 0):=by rw [← HKK.out];exact HB2.out.2.cell 0 rfl
 go_wp2_with fail
 go_end0
 obtain ⟨O1,hA1,hk1,hn1⟩:=HB2.out.1;refine ⟨rfl,O1,?_,(HK.out.mono (by simp)).trans hk1 (fun i hi=>.inl hi),fun i hi=>?_⟩
 ·have h2:=hA1.less (m':=m) (by omega);exact h2
 ·rcases hn1 i hi with h1 | h1
  ·exact .inl h1
  ·exact .inr (by omega)
theorem vF (p:Nat) (w:World) (O:List Nat) (s:List Int × Int) (m:Nat) (x:Rm) (hk:x.r.k=1) (hS:dd w x.mo x.m x.mc x.r.c) (hd:0 < x.m→∀ k∈bO x.mo,k < w.heap.size∧k ∉ O) (t_n:dY x.r.n=true) (hch:bY x.r=true) (hA:co p w O s (m+210)) :
 Calls Tryz.prog 28 #[.pointer (some ⟨p,0,none⟩),dv x] w (fI p w O (aK s (ag 1++(bT x.r.n))) m):=by
 have k1:ab [] w (w.alloc (.cells #[.int .i64 x.r.k,.string (ac x.r.n),.int .i64 x.r.s,.int .i64 x.r.q,.int .i64 x.r.b,.string (ac x.r.f),.slice x.mo x.m x.mc,.string (ac x.r.p),.int .i64 x.r.fr,.int .i64 x.r.mn,.int .i64 x.r.mb] 29)):=(ab.refl _ _).alloc _;obtain ⟨W,hW⟩:∃ W,W=w.alloc (.cells #[.int .i64 x.r.k,.string (ac x.r.n),.int .i64 x.r.s,.int .i64 x.r.q,.int .i64 x.r.b,.string (ac x.r.f),.slice x.mo x.m x.mc,.string (ac x.r.p),.int .i64 x.r.fr,.int .i64 x.r.mn,.int .i64 x.r.mb] 29):=⟨_,rfl⟩;rw [← hW] at k1;have HW:=aa hW;have HB:Hid (Bx W w.heap.size 29 (aR x)):=by rw [hW];exact Bx.new w _ (aR x)
 have HT:Hid (av Tryz.prog 29 (aR x).length):=au;have HSz:Hid (W.heap.size=w.heap.size+1):=by rw [hW];show _=_;simp
 have HO:=aa hA.lt;have HA:=aa (hA.kept k1 (by simp));have HS:=aa hS;have HD:=aa hd;have HK:=aa k1
 have cC:Calls Tryz.prog 39 #[.agg (aR x).toArray] W fun e w'=>e=.returned (.int .i64 0)∧ab [] W w':=by
  have h:=cd W x (hS.kept k1 (by simp));rw [hch,dJ] at h;exact h
 have HC:=aa cC;have HKK:=aa hk;clear hW k1 hA hS hd hch cC hk;unfold dv;go_enter Tryz.func28,Tryz.ntmps28;go_upto_region 1 with fail
 rw [← HW.out];go_upto_region 3 with (first | ((with_reducible refine ai HB.out HT.out ?_ ?_);rfl) | (go_at_call 39;refine HC.out.mono ?_;clear HC;rintro _ w1 ⟨rfl,hk1⟩;have HK1:=aa hk1;clear hk1))
 have hno:w.heap.size ∉ O:=fun hm=>by have:=HO.out _ hm;omega
 have hlt:w.heap.size < W.heap.size:=by rw [HSz.out];omega
 have HB1:Hid (WB p W O w.heap.size 29 (aR x) s (m+210) w1):=⟨⟨O,HA.out.kept HK1.out (by simp),HK1.out.mono (by simp),fun k hk=>.inl hk⟩,HB.out.kept HK1.out (by simp)⟩;have c0:w1.cell? ⟨w.heap.size,0,none⟩=some (.int .i64 1):=by rw [← HKK.out];exact HB1.out.2.cell 0 rfl
 have cN:=ay HB1.out hlt hno (fun O' _ _ h=>aD p w1 O' _ (m+209) 1 (by decide) h);have HN:=aa cN;clear cN;go_wp2_with fail
 refine HN.out.mono ?_;clear HN;rintro _ w2 ⟨rfl,hB⟩;have HB2:=aa hB;clear hB c0;have c0:w2.cell? ⟨w.heap.size,0,none⟩=some (.int .i64 1):=by rw [← HKK.out];exact HB2.out.2.cell 0 rfl
 have cv:w2.cell? ⟨w.heap.size,1,none⟩=some (.string (ac x.r.n)):=HB2.out.2.cell 1 rfl;have cN:=ay HB2.out hlt hno (fun O' _ _ h=>fk p w2 O' _ (m+208) x.r.n t_n h);have HN:=aa cN;clear cN;go_wp2_with fail
 refine HN.out.mono ?_;clear HN;rintro _ w3 ⟨rfl,hB⟩;have HB3:=aa hB;clear hB c0 cv;have c0:w3.cell? ⟨w.heap.size,0,none⟩=some (.int .i64 1):=by rw [← HKK.out];exact HB3.out.2.cell 0 rfl
 go_wp2_with fail
 go_end0
 obtain ⟨O1,hA1,hk1,hn1⟩:=HB3.out.1;refine ⟨rfl,O1,?_,(HK.out.mono (by simp)).trans hk1 (fun i hi=>.inl hi),fun i hi=>?_⟩
 ·have h2:=hA1.less (m':=m) (by omega);simp only [aB] at h2;exact h2
 ·rcases hn1 i hi with h1 | h1
  ·exact .inl h1
  ·exact .inr (by omega)
theorem vR (p:Nat) (w:World) (O:List Nat) (s:List Int × Int) (m:Nat) (x:Rm) (hk:x.r.k=2) (hS:dd w x.mo x.m x.mc x.r.c) (hd:0 < x.m→∀ k∈bO x.mo,k < w.heap.size∧k ∉ O) (g_s:aj x.r.s=true) (g_q:aj x.r.q=true) (g_b:aj x.r.b=true) (t_f:dY x.r.f=true) (hc:eZ x.r.c) (hch:bY x.r=true) (hA:co p w O s (m+210)) :
 Calls Tryz.prog 28 #[.pointer (some ⟨p,0,none⟩),dv x] w (fI p w O (aK s (ag 2++(ag x.r.s++(ag x.r.q++(ag x.r.b++(bT x.r.f++(np x.r.c))))))) m):=by
 have k1:ab [] w (w.alloc (.cells #[.int .i64 x.r.k,.string (ac x.r.n),.int .i64 x.r.s,.int .i64 x.r.q,.int .i64 x.r.b,.string (ac x.r.f),.slice x.mo x.m x.mc,.string (ac x.r.p),.int .i64 x.r.fr,.int .i64 x.r.mn,.int .i64 x.r.mb] 29)):=(ab.refl _ _).alloc _;obtain ⟨W,hW⟩:∃ W,W=w.alloc (.cells #[.int .i64 x.r.k,.string (ac x.r.n),.int .i64 x.r.s,.int .i64 x.r.q,.int .i64 x.r.b,.string (ac x.r.f),.slice x.mo x.m x.mc,.string (ac x.r.p),.int .i64 x.r.fr,.int .i64 x.r.mn,.int .i64 x.r.mb] 29):=⟨_,rfl⟩;rw [← hW] at k1;have HW:=aa hW;have HB:Hid (Bx W w.heap.size 29 (aR x)):=by rw [hW];exact Bx.new w _ (aR x)
 have HT:Hid (av Tryz.prog 29 (aR x).length):=au;have HSz:Hid (W.heap.size=w.heap.size+1):=by rw [hW];show _=_;simp
 have HO:=aa hA.lt;have HA:=aa (hA.kept k1 (by simp));have HS:=aa hS;have HD:=aa hd;have HK:=aa k1
 have cC:Calls Tryz.prog 39 #[.agg (aR x).toArray] W fun e w'=>e=.returned (.int .i64 0)∧ab [] W w':=by
  have h:=cd W x (hS.kept k1 (by simp));rw [hch,dJ] at h;exact h
 have HC:=aa cC;have HKK:=aa hk;clear hW k1 hA hS hd hch cC hk;unfold dv;go_enter Tryz.func28,Tryz.ntmps28;go_upto_region 1 with fail
 rw [← HW.out];go_upto_region 3 with (first | ((with_reducible refine ai HB.out HT.out ?_ ?_);rfl) | (go_at_call 39;refine HC.out.mono ?_;clear HC;rintro _ w1 ⟨rfl,hk1⟩;have HK1:=aa hk1;clear hk1))
 have hno:w.heap.size ∉ O:=fun hm=>by have:=HO.out _ hm;omega
 have hlt:w.heap.size < W.heap.size:=by rw [HSz.out];omega
 have HB1:Hid (WB p W O w.heap.size 29 (aR x) s (m+210) w1):=⟨⟨O,HA.out.kept HK1.out (by simp),HK1.out.mono (by simp),fun k hk=>.inl hk⟩,HB.out.kept HK1.out (by simp)⟩;have c0:w1.cell? ⟨w.heap.size,0,none⟩=some (.int .i64 2):=by rw [← HKK.out];exact HB1.out.2.cell 0 rfl
 have cN:=ay HB1.out hlt hno (fun O' _ _ h=>aD p w1 O' _ (m+209) 2 (by decide) h);have HN:=aa cN;clear cN;go_wp2_with fail
 refine HN.out.mono ?_;clear HN;rintro _ w2 ⟨rfl,hB⟩;have HB2:=aa hB;clear hB c0;have c0:w2.cell? ⟨w.heap.size,0,none⟩=some (.int .i64 2):=by rw [← HKK.out];exact HB2.out.2.cell 0 rfl
 have cv:w2.cell? ⟨w.heap.size,2,none⟩=some (.int .i64 x.r.s):=HB2.out.2.cell 2 rfl;have cN:=ay HB2.out hlt hno (fun O' _ _ h=>aD p w2 O' _ (m+208) x.r.s g_s h);have HN:=aa cN;clear cN;go_wp2_with fail
 refine HN.out.mono ?_;clear HN;rintro _ w3 ⟨rfl,hB⟩;have HB3:=aa hB;clear hB c0 cv;have c0:w3.cell? ⟨w.heap.size,0,none⟩=some (.int .i64 2):=by rw [← HKK.out];exact HB3.out.2.cell 0 rfl
 have cv:w3.cell? ⟨w.heap.size,3,none⟩=some (.int .i64 x.r.q):=HB3.out.2.cell 3 rfl;have cN:=ay HB3.out hlt hno (fun O' _ _ h=>aD p w3 O' _ (m+207) x.r.q g_q h);have HN:=aa cN;clear cN;go_wp2_with fail
 refine HN.out.mono ?_;clear HN;rintro _ w4 ⟨rfl,hB⟩;have HB4:=aa hB;clear hB c0 cv;have c0:w4.cell? ⟨w.heap.size,0,none⟩=some (.int .i64 2):=by rw [← HKK.out];exact HB4.out.2.cell 0 rfl
 have cv:w4.cell? ⟨w.heap.size,4,none⟩=some (.int .i64 x.r.b):=HB4.out.2.cell 4 rfl;have cN:=ay HB4.out hlt hno (fun O' _ _ h=>aD p w4 O' _ (m+206) x.r.b g_b h);have HN:=aa cN;clear cN;go_wp2_with fail
 refine HN.out.mono ?_;clear HN;rintro _ w5 ⟨rfl,hB⟩;have HB5:=aa hB;clear hB c0 cv;have c0:w5.cell? ⟨w.heap.size,0,none⟩=some (.int .i64 2):=by rw [← HKK.out];exact HB5.out.2.cell 0 rfl
 have cv:w5.cell? ⟨w.heap.size,5,none⟩=some (.string (ac x.r.f)):=HB5.out.2.cell 5 rfl;have cN:=ay HB5.out hlt hno (fun O' _ _ h=>fk p w5 O' _ (m+205) x.r.f t_f h);have HN:=aa cN;clear cN;go_wp2_with fail
 refine HN.out.mono ?_;clear HN;rintro _ w6 ⟨rfl,hB⟩;have HB6:=aa hB;clear hB c0 cv;have c0:w6.cell? ⟨w.heap.size,0,none⟩=some (.int .i64 2):=by rw [← HKK.out];exact HB6.out.2.cell 0 rfl
 have cv:w6.cell? ⟨w.heap.size,6,none⟩=some (.slice x.mo x.m x.mc):=HB6.out.2.cell 6 rfl;have cN:=ay HB6.out hlt hno (fun O' hn hk h=>k9 p w6 O' _ (m+5) x.mo x.m x.mc x.r.c ((HS.out.kept HK.out (by simp)).kept0 hk (fun h0 g hg=>(HD.out h0 g hg).2)) (fun h0 g hg hm=>by rcases hn g hm with h1 | h1;exact (HD.out h0 g hg).2 h1;have:=(HD.out h0 g hg).1;omega) hc h);have HN:=aa cN;clear cN;go_wp2_with fail
 refine HN.out.mono ?_;clear HN;rintro _ w7 ⟨rfl,hB⟩;have HB7:=aa hB;clear hB c0 cv;have c0:w7.cell? ⟨w.heap.size,0,none⟩=some (.int .i64 2):=by rw [← HKK.out];exact HB7.out.2.cell 0 rfl
 go_wp2_with fail
 go_end0
 obtain ⟨O1,hA1,hk1,hn1⟩:=HB7.out.1;refine ⟨rfl,O1,?_,(HK.out.mono (by simp)).trans hk1 (fun i hi=>.inl hi),fun i hi=>?_⟩
 ·have h2:=hA1.less (m':=m) (by omega);simp only [aB,List.append_assoc] at h2;exact h2
 ·rcases hn1 i hi with h1 | h1
  ·exact .inl h1
  ·exact .inr (by omega)
theorem vU (p:Nat) (w:World) (O:List Nat) (s:List Int × Int) (m:Nat) (x:Rm) (hk:x.r.k=3) (hS:dd w x.mo x.m x.mc x.r.c) (hd:0 < x.m→∀ k∈bO x.mo,k < w.heap.size∧k ∉ O) (g_s:aj x.r.s=true) (g_q:aj x.r.q=true) (hch:bY x.r=true) (hA:co p w O s (m+210)) :
 Calls Tryz.prog 28 #[.pointer (some ⟨p,0,none⟩),dv x] w (fI p w O (aK s (ag 3++(ag x.r.s++(ag x.r.q)))) m):=by
 have k1:ab [] w (w.alloc (.cells #[.int .i64 x.r.k,.string (ac x.r.n),.int .i64 x.r.s,.int .i64 x.r.q,.int .i64 x.r.b,.string (ac x.r.f),.slice x.mo x.m x.mc,.string (ac x.r.p),.int .i64 x.r.fr,.int .i64 x.r.mn,.int .i64 x.r.mb] 29)):=(ab.refl _ _).alloc _;obtain ⟨W,hW⟩:∃ W,W=w.alloc (.cells #[.int .i64 x.r.k,.string (ac x.r.n),.int .i64 x.r.s,.int .i64 x.r.q,.int .i64 x.r.b,.string (ac x.r.f),.slice x.mo x.m x.mc,.string (ac x.r.p),.int .i64 x.r.fr,.int .i64 x.r.mn,.int .i64 x.r.mb] 29):=⟨_,rfl⟩;rw [← hW] at k1;have HW:=aa hW;have HB:Hid (Bx W w.heap.size 29 (aR x)):=by rw [hW];exact Bx.new w _ (aR x)
 have HT:Hid (av Tryz.prog 29 (aR x).length):=au;have HSz:Hid (W.heap.size=w.heap.size+1):=by rw [hW];show _=_;simp
 have HO:=aa hA.lt;have HA:=aa (hA.kept k1 (by simp));have HS:=aa hS;have HD:=aa hd;have HK:=aa k1
 have cC:Calls Tryz.prog 39 #[.agg (aR x).toArray] W fun e w'=>e=.returned (.int .i64 0)∧ab [] W w':=by
  have h:=cd W x (hS.kept k1 (by simp));rw [hch,dJ] at h;exact h
 have HC:=aa cC;have HKK:=aa hk;clear hW k1 hA hS hd hch cC hk;unfold dv;go_enter Tryz.func28,Tryz.ntmps28;go_upto_region 1 with fail
 rw [← HW.out];go_upto_region 3 with (first | ((with_reducible refine ai HB.out HT.out ?_ ?_);rfl) | (go_at_call 39;refine HC.out.mono ?_;clear HC;rintro _ w1 ⟨rfl,hk1⟩;have HK1:=aa hk1;clear hk1))
 have hno:w.heap.size ∉ O:=fun hm=>by have:=HO.out _ hm;omega
 have hlt:w.heap.size < W.heap.size:=by rw [HSz.out];omega
 have HB1:Hid (WB p W O w.heap.size 29 (aR x) s (m+210) w1):=⟨⟨O,HA.out.kept HK1.out (by simp),HK1.out.mono (by simp),fun k hk=>.inl hk⟩,HB.out.kept HK1.out (by simp)⟩;have c0:w1.cell? ⟨w.heap.size,0,none⟩=some (.int .i64 3):=by rw [← HKK.out];exact HB1.out.2.cell 0 rfl
 have cN:=ay HB1.out hlt hno (fun O' _ _ h=>aD p w1 O' _ (m+209) 3 (by decide) h);have HN:=aa cN;clear cN;go_wp2_with fail
 refine HN.out.mono ?_;clear HN;rintro _ w2 ⟨rfl,hB⟩;have HB2:=aa hB;clear hB c0;have c0:w2.cell? ⟨w.heap.size,0,none⟩=some (.int .i64 3):=by rw [← HKK.out];exact HB2.out.2.cell 0 rfl
 have cv:w2.cell? ⟨w.heap.size,2,none⟩=some (.int .i64 x.r.s):=HB2.out.2.cell 2 rfl;have cN:=ay HB2.out hlt hno (fun O' _ _ h=>aD p w2 O' _ (m+208) x.r.s g_s h);have HN:=aa cN;clear cN;go_wp2_with fail
 refine HN.out.mono ?_;clear HN;rintro _ w3 ⟨rfl,hB⟩;have HB3:=aa hB;clear hB c0 cv;have c0:w3.cell? ⟨w.heap.size,0,none⟩=some (.int .i64 3):=by rw [← HKK.out];exact HB3.out.2.cell 0 rfl
 have cv:w3.cell? ⟨w.heap.size,3,none⟩=some (.int .i64 x.r.q):=HB3.out.2.cell 3 rfl;have cN:=ay HB3.out hlt hno (fun O' _ _ h=>aD p w3 O' _ (m+207) x.r.q g_q h);have HN:=aa cN;clear cN;go_wp2_with fail
 refine HN.out.mono ?_;clear HN;rintro _ w4 ⟨rfl,hB⟩;have HB4:=aa hB;clear hB c0 cv;have c0:w4.cell? ⟨w.heap.size,0,none⟩=some (.int .i64 3):=by rw [← HKK.out];exact HB4.out.2.cell 0 rfl
 go_wp2_with fail
 go_end0
 obtain ⟨O1,hA1,hk1,hn1⟩:=HB4.out.1;refine ⟨rfl,O1,?_,(HK.out.mono (by simp)).trans hk1 (fun i hi=>.inl hi),fun i hi=>?_⟩
 ·have h2:=hA1.less (m':=m) (by omega);simp only [aB,List.append_assoc] at h2;exact h2
 ·rcases hn1 i hi with h1 | h1
  ·exact .inl h1
  ·exact .inr (by omega)
theorem u5 (p:Nat) (w:World) (O:List Nat) (s:List Int × Int) (m:Nat) (x:Rm) (hk:x.r.k=4) (hS:dd w x.mo x.m x.mc x.r.c) (hd:0 < x.m→∀ k∈bO x.mo,k < w.heap.size∧k ∉ O) (g_s:aj x.r.s=true) (g_q:aj x.r.q=true) (t_p:dY x.r.p=true) (hch:bY x.r=true) (hA:co p w O s (m+210)) :
 Calls Tryz.prog 28 #[.pointer (some ⟨p,0,none⟩),dv x] w (fI p w O (aK s (ag 4++(ag x.r.s++(ag x.r.q++(bT x.r.p))))) m):=by
 have k1:ab [] w (w.alloc (.cells #[.int .i64 x.r.k,.string (ac x.r.n),.int .i64 x.r.s,.int .i64 x.r.q,.int .i64 x.r.b,.string (ac x.r.f),.slice x.mo x.m x.mc,.string (ac x.r.p),.int .i64 x.r.fr,.int .i64 x.r.mn,.int .i64 x.r.mb] 29)):=(ab.refl _ _).alloc _;obtain ⟨W,hW⟩:∃ W,W=w.alloc (.cells #[.int .i64 x.r.k,.string (ac x.r.n),.int .i64 x.r.s,.int .i64 x.r.q,.int .i64 x.r.b,.string (ac x.r.f),.slice x.mo x.m x.mc,.string (ac x.r.p),.int .i64 x.r.fr,.int .i64 x.r.mn,.int .i64 x.r.mb] 29):=⟨_,rfl⟩;rw [← hW] at k1;have HW:=aa hW;have HB:Hid (Bx W w.heap.size 29 (aR x)):=by rw [hW];exact Bx.new w _ (aR x)
 have HT:Hid (av Tryz.prog 29 (aR x).length):=au;have HSz:Hid (W.heap.size=w.heap.size+1):=by rw [hW];show _=_;simp
 have HO:=aa hA.lt;have HA:=aa (hA.kept k1 (by simp));have HS:=aa hS;have HD:=aa hd;have HK:=aa k1
 have cC:Calls Tryz.prog 39 #[.agg (aR x).toArray] W fun e w'=>e=.returned (.int .i64 0)∧ab [] W w':=by
  have h:=cd W x (hS.kept k1 (by simp));rw [hch,dJ] at h;exact h
 have HC:=aa cC;have HKK:=aa hk;clear hW k1 hA hS hd hch cC hk;unfold dv;go_enter Tryz.func28,Tryz.ntmps28;go_upto_region 1 with fail
 rw [← HW.out];go_upto_region 3 with (first | ((with_reducible refine ai HB.out HT.out ?_ ?_);rfl) | (go_at_call 39;refine HC.out.mono ?_;clear HC;rintro _ w1 ⟨rfl,hk1⟩;have HK1:=aa hk1;clear hk1))
 have hno:w.heap.size ∉ O:=fun hm=>by have:=HO.out _ hm;omega
 have hlt:w.heap.size < W.heap.size:=by rw [HSz.out];omega
 have HB1:Hid (WB p W O w.heap.size 29 (aR x) s (m+210) w1):=⟨⟨O,HA.out.kept HK1.out (by simp),HK1.out.mono (by simp),fun k hk=>.inl hk⟩,HB.out.kept HK1.out (by simp)⟩;have c0:w1.cell? ⟨w.heap.size,0,none⟩=some (.int .i64 4):=by rw [← HKK.out];exact HB1.out.2.cell 0 rfl
 have cN:=ay HB1.out hlt hno (fun O' _ _ h=>aD p w1 O' _ (m+209) 4 (by decide) h);have HN:=aa cN;clear cN;go_wp2_with fail
 refine HN.out.mono ?_;clear HN;rintro _ w2 ⟨rfl,hB⟩;have HB2:=aa hB;clear hB c0;have c0:w2.cell? ⟨w.heap.size,0,none⟩=some (.int .i64 4):=by rw [← HKK.out];exact HB2.out.2.cell 0 rfl
 have cv:w2.cell? ⟨w.heap.size,2,none⟩=some (.int .i64 x.r.s):=HB2.out.2.cell 2 rfl;have cN:=ay HB2.out hlt hno (fun O' _ _ h=>aD p w2 O' _ (m+208) x.r.s g_s h);have HN:=aa cN;clear cN;go_wp2_with fail
 refine HN.out.mono ?_;clear HN;rintro _ w3 ⟨rfl,hB⟩;have HB3:=aa hB;clear hB c0 cv;have c0:w3.cell? ⟨w.heap.size,0,none⟩=some (.int .i64 4):=by rw [← HKK.out];exact HB3.out.2.cell 0 rfl
 have cv:w3.cell? ⟨w.heap.size,3,none⟩=some (.int .i64 x.r.q):=HB3.out.2.cell 3 rfl;have cN:=ay HB3.out hlt hno (fun O' _ _ h=>aD p w3 O' _ (m+207) x.r.q g_q h);have HN:=aa cN;clear cN;go_wp2_with fail
 refine HN.out.mono ?_;clear HN;rintro _ w4 ⟨rfl,hB⟩;have HB4:=aa hB;clear hB c0 cv;have c0:w4.cell? ⟨w.heap.size,0,none⟩=some (.int .i64 4):=by rw [← HKK.out];exact HB4.out.2.cell 0 rfl
 have cv:w4.cell? ⟨w.heap.size,7,none⟩=some (.string (ac x.r.p)):=HB4.out.2.cell 7 rfl;have cN:=ay HB4.out hlt hno (fun O' _ _ h=>fk p w4 O' _ (m+206) x.r.p t_p h);have HN:=aa cN;clear cN;go_wp2_with fail
 refine HN.out.mono ?_;clear HN;rintro _ w5 ⟨rfl,hB⟩;have HB5:=aa hB;clear hB c0 cv;have c0:w5.cell? ⟨w.heap.size,0,none⟩=some (.int .i64 4):=by rw [← HKK.out];exact HB5.out.2.cell 0 rfl
 go_wp2_with fail
 go_end0
 obtain ⟨O1,hA1,hk1,hn1⟩:=HB5.out.1;refine ⟨rfl,O1,?_,(HK.out.mono (by simp)).trans hk1 (fun i hi=>.inl hi),fun i hi=>?_⟩
 ·have h2:=hA1.less (m':=m) (by omega);simp only [aB,List.append_assoc] at h2;exact h2
 ·rcases hn1 i hi with h1 | h1
  ·exact .inl h1
  ·exact .inr (by omega)
theorem vi (p:Nat) (w:World) (O:List Nat) (s:List Int × Int) (m:Nat) (x:Rm) (hk:x.r.k=5) (hS:dd w x.mo x.m x.mc x.r.c) (hd:0 < x.m→∀ k∈bO x.mo,k < w.heap.size∧k ∉ O) (g_s:aj x.r.s=true) (g_q:aj x.r.q=true) (g_fr:aj x.r.fr=true) (g_mn:aj x.r.mn=true) (hch:bY x.r=true) (hA:co p w O s (m+210)) :
 Calls Tryz.prog 28 #[.pointer (some ⟨p,0,none⟩),dv x] w (fI p w O (aK s (ag 5++(ag x.r.s++(ag x.r.q++(ag x.r.fr++(ag x.r.mn)))))) m):=by
 have k1:ab [] w (w.alloc (.cells #[.int .i64 x.r.k,.string (ac x.r.n),.int .i64 x.r.s,.int .i64 x.r.q,.int .i64 x.r.b,.string (ac x.r.f),.slice x.mo x.m x.mc,.string (ac x.r.p),.int .i64 x.r.fr,.int .i64 x.r.mn,.int .i64 x.r.mb] 29)):=(ab.refl _ _).alloc _;obtain ⟨W,hW⟩:∃ W,W=w.alloc (.cells #[.int .i64 x.r.k,.string (ac x.r.n),.int .i64 x.r.s,.int .i64 x.r.q,.int .i64 x.r.b,.string (ac x.r.f),.slice x.mo x.m x.mc,.string (ac x.r.p),.int .i64 x.r.fr,.int .i64 x.r.mn,.int .i64 x.r.mb] 29):=⟨_,rfl⟩;rw [← hW] at k1;have HW:=aa hW;have HB:Hid (Bx W w.heap.size 29 (aR x)):=by rw [hW];exact Bx.new w _ (aR x)
 have HT:Hid (av Tryz.prog 29 (aR x).length):=au;have HSz:Hid (W.heap.size=w.heap.size+1):=by rw [hW];show _=_;simp
 have HO:=aa hA.lt;have HA:=aa (hA.kept k1 (by simp));have HS:=aa hS;have HD:=aa hd;have HK:=aa k1
 have cC:Calls Tryz.prog 39 #[.agg (aR x).toArray] W fun e w'=>e=.returned (.int .i64 0)∧ab [] W w':=by
  have h:=cd W x (hS.kept k1 (by simp));rw [hch,dJ] at h;exact h
 have HC:=aa cC;have HKK:=aa hk;clear hW k1 hA hS hd hch cC hk;unfold dv;go_enter Tryz.func28,Tryz.ntmps28;go_upto_region 1 with fail
 rw [← HW.out];go_upto_region 3 with (first | ((with_reducible refine ai HB.out HT.out ?_ ?_);rfl) | (go_at_call 39;refine HC.out.mono ?_;clear HC;rintro _ w1 ⟨rfl,hk1⟩;have HK1:=aa hk1;clear hk1))
 have hno:w.heap.size ∉ O:=fun hm=>by have:=HO.out _ hm;omega
 have hlt:w.heap.size < W.heap.size:=by rw [HSz.out];omega
 have HB1:Hid (WB p W O w.heap.size 29 (aR x) s (m+210) w1):=⟨⟨O,HA.out.kept HK1.out (by simp),HK1.out.mono (by simp),fun k hk=>.inl hk⟩,HB.out.kept HK1.out (by simp)⟩;have c0:w1.cell? ⟨w.heap.size,0,none⟩=some (.int .i64 5):=by rw [← HKK.out];exact HB1.out.2.cell 0 rfl
 have cN:=ay HB1.out hlt hno (fun O' _ _ h=>aD p w1 O' _ (m+209) 5 (by decide) h);have HN:=aa cN;clear cN;go_wp2_with fail
 refine HN.out.mono ?_;clear HN;rintro _ w2 ⟨rfl,hB⟩;have HB2:=aa hB;clear hB c0;have c0:w2.cell? ⟨w.heap.size,0,none⟩=some (.int .i64 5):=by rw [← HKK.out];exact HB2.out.2.cell 0 rfl
 have cv:w2.cell? ⟨w.heap.size,2,none⟩=some (.int .i64 x.r.s):=HB2.out.2.cell 2 rfl;have cN:=ay HB2.out hlt hno (fun O' _ _ h=>aD p w2 O' _ (m+208) x.r.s g_s h);have HN:=aa cN;clear cN;go_wp2_with fail
 refine HN.out.mono ?_;clear HN;rintro _ w3 ⟨rfl,hB⟩;have HB3:=aa hB;clear hB c0 cv;have c0:w3.cell? ⟨w.heap.size,0,none⟩=some (.int .i64 5):=by rw [← HKK.out];exact HB3.out.2.cell 0 rfl
 have cv:w3.cell? ⟨w.heap.size,3,none⟩=some (.int .i64 x.r.q):=HB3.out.2.cell 3 rfl;have cN:=ay HB3.out hlt hno (fun O' _ _ h=>aD p w3 O' _ (m+207) x.r.q g_q h);have HN:=aa cN;clear cN;go_wp2_with fail
 refine HN.out.mono ?_;clear HN;rintro _ w4 ⟨rfl,hB⟩;have HB4:=aa hB;clear hB c0 cv;have c0:w4.cell? ⟨w.heap.size,0,none⟩=some (.int .i64 5):=by rw [← HKK.out];exact HB4.out.2.cell 0 rfl
 have cv:w4.cell? ⟨w.heap.size,8,none⟩=some (.int .i64 x.r.fr):=HB4.out.2.cell 8 rfl;have cN:=ay HB4.out hlt hno (fun O' _ _ h=>aD p w4 O' _ (m+206) x.r.fr g_fr h);have HN:=aa cN;clear cN;go_wp2_with fail
 refine HN.out.mono ?_;clear HN;rintro _ w5 ⟨rfl,hB⟩;have HB5:=aa hB;clear hB c0 cv;have c0:w5.cell? ⟨w.heap.size,0,none⟩=some (.int .i64 5):=by rw [← HKK.out];exact HB5.out.2.cell 0 rfl
 have cv:w5.cell? ⟨w.heap.size,9,none⟩=some (.int .i64 x.r.mn):=HB5.out.2.cell 9 rfl;have cN:=ay HB5.out hlt hno (fun O' _ _ h=>aD p w5 O' _ (m+205) x.r.mn g_mn h);have HN:=aa cN;clear cN;go_wp2_with fail
 refine HN.out.mono ?_;clear HN;rintro _ w6 ⟨rfl,hB⟩;have HB6:=aa hB;clear hB c0 cv;have c0:w6.cell? ⟨w.heap.size,0,none⟩=some (.int .i64 5):=by rw [← HKK.out];exact HB6.out.2.cell 0 rfl
 go_wp2_with fail
 go_end0
 obtain ⟨O1,hA1,hk1,hn1⟩:=HB6.out.1;refine ⟨rfl,O1,?_,(HK.out.mono (by simp)).trans hk1 (fun i hi=>.inl hi),fun i hi=>?_⟩
 ·have h2:=hA1.less (m':=m) (by omega);simp only [aB,List.append_assoc] at h2;exact h2
 ·rcases hn1 i hi with h1 | h1
  ·exact .inl h1
  ·exact .inr (by omega)
theorem vu (p:Nat) (w:World) (O:List Nat) (s:List Int × Int) (m:Nat) (x:Rm) (hk:x.r.k=6) (hS:dd w x.mo x.m x.mc x.r.c) (hd:0 < x.m→∀ k∈bO x.mo,k < w.heap.size∧k ∉ O) (g_s:aj x.r.s=true) (g_q:aj x.r.q=true) (g_mb:aj x.r.mb=true) (hch:bY x.r=true) (hA:co p w O s (m+210)) :
 Calls Tryz.prog 28 #[.pointer (some ⟨p,0,none⟩),dv x] w (fI p w O (aK s (ag 6++(ag x.r.s++(ag x.r.q++(ag x.r.mb))))) m):=by
 have k1:ab [] w (w.alloc (.cells #[.int .i64 x.r.k,.string (ac x.r.n),.int .i64 x.r.s,.int .i64 x.r.q,.int .i64 x.r.b,.string (ac x.r.f),.slice x.mo x.m x.mc,.string (ac x.r.p),.int .i64 x.r.fr,.int .i64 x.r.mn,.int .i64 x.r.mb] 29)):=(ab.refl _ _).alloc _;obtain ⟨W,hW⟩:∃ W,W=w.alloc (.cells #[.int .i64 x.r.k,.string (ac x.r.n),.int .i64 x.r.s,.int .i64 x.r.q,.int .i64 x.r.b,.string (ac x.r.f),.slice x.mo x.m x.mc,.string (ac x.r.p),.int .i64 x.r.fr,.int .i64 x.r.mn,.int .i64 x.r.mb] 29):=⟨_,rfl⟩;rw [← hW] at k1;have HW:=aa hW;have HB:Hid (Bx W w.heap.size 29 (aR x)):=by rw [hW];exact Bx.new w _ (aR x)
 have HT:Hid (av Tryz.prog 29 (aR x).length):=au;have HSz:Hid (W.heap.size=w.heap.size+1):=by rw [hW];show _=_;simp
 have HO:=aa hA.lt;have HA:=aa (hA.kept k1 (by simp));have HS:=aa hS;have HD:=aa hd;have HK:=aa k1
 have cC:Calls Tryz.prog 39 #[.agg (aR x).toArray] W fun e w'=>e=.returned (.int .i64 0)∧ab [] W w':=by
  have h:=cd W x (hS.kept k1 (by simp));rw [hch,dJ] at h;exact h
 have HC:=aa cC;have HKK:=aa hk;clear hW k1 hA hS hd hch cC hk;unfold dv;go_enter Tryz.func28,Tryz.ntmps28;go_upto_region 1 with fail
 rw [← HW.out];go_upto_region 3 with (first | ((with_reducible refine ai HB.out HT.out ?_ ?_);rfl) | (go_at_call 39;refine HC.out.mono ?_;clear HC;rintro _ w1 ⟨rfl,hk1⟩;have HK1:=aa hk1;clear hk1))
 have hno:w.heap.size ∉ O:=fun hm=>by have:=HO.out _ hm;omega
 have hlt:w.heap.size < W.heap.size:=by rw [HSz.out];omega
 have HB1:Hid (WB p W O w.heap.size 29 (aR x) s (m+210) w1):=⟨⟨O,HA.out.kept HK1.out (by simp),HK1.out.mono (by simp),fun k hk=>.inl hk⟩,HB.out.kept HK1.out (by simp)⟩;have c0:w1.cell? ⟨w.heap.size,0,none⟩=some (.int .i64 6):=by rw [← HKK.out];exact HB1.out.2.cell 0 rfl
 have cN:=ay HB1.out hlt hno (fun O' _ _ h=>aD p w1 O' _ (m+209) 6 (by decide) h);have HN:=aa cN;clear cN;go_wp2_with fail
 refine HN.out.mono ?_;clear HN;rintro _ w2 ⟨rfl,hB⟩;have HB2:=aa hB;clear hB c0;have c0:w2.cell? ⟨w.heap.size,0,none⟩=some (.int .i64 6):=by rw [← HKK.out];exact HB2.out.2.cell 0 rfl
 have cv:w2.cell? ⟨w.heap.size,2,none⟩=some (.int .i64 x.r.s):=HB2.out.2.cell 2 rfl;have cN:=ay HB2.out hlt hno (fun O' _ _ h=>aD p w2 O' _ (m+208) x.r.s g_s h);have HN:=aa cN;clear cN;go_wp2_with fail
 refine HN.out.mono ?_;clear HN;rintro _ w3 ⟨rfl,hB⟩;have HB3:=aa hB;clear hB c0 cv;have c0:w3.cell? ⟨w.heap.size,0,none⟩=some (.int .i64 6):=by rw [← HKK.out];exact HB3.out.2.cell 0 rfl
 have cv:w3.cell? ⟨w.heap.size,3,none⟩=some (.int .i64 x.r.q):=HB3.out.2.cell 3 rfl;have cN:=ay HB3.out hlt hno (fun O' _ _ h=>aD p w3 O' _ (m+207) x.r.q g_q h);have HN:=aa cN;clear cN;go_wp2_with fail
 refine HN.out.mono ?_;clear HN;rintro _ w4 ⟨rfl,hB⟩;have HB4:=aa hB;clear hB c0 cv;have c0:w4.cell? ⟨w.heap.size,0,none⟩=some (.int .i64 6):=by rw [← HKK.out];exact HB4.out.2.cell 0 rfl
 have cv:w4.cell? ⟨w.heap.size,10,none⟩=some (.int .i64 x.r.mb):=HB4.out.2.cell 10 rfl;have cN:=ay HB4.out hlt hno (fun O' _ _ h=>aD p w4 O' _ (m+206) x.r.mb g_mb h);have HN:=aa cN;clear cN;go_wp2_with fail
 refine HN.out.mono ?_;clear HN;rintro _ w5 ⟨rfl,hB⟩;have HB5:=aa hB;clear hB c0 cv;have c0:w5.cell? ⟨w.heap.size,0,none⟩=some (.int .i64 6):=by rw [← HKK.out];exact HB5.out.2.cell 0 rfl
 go_wp2_with fail
 go_end0
 obtain ⟨O1,hA1,hk1,hn1⟩:=HB5.out.1;refine ⟨rfl,O1,?_,(HK.out.mono (by simp)).trans hk1 (fun i hi=>.inl hi),fun i hi=>?_⟩
 ·have h2:=hA1.less (m':=m) (by omega);simp only [aB,List.append_assoc] at h2;exact h2
 ·rcases hn1 i hi with h1 | h1
  ·exact .inl h1
  ·exact .inr (by omega)
theorem vH (p:Nat) (w:World) (O:List Nat) (s:List Int × Int) (m:Nat) (x:Rm) (hk:x.r.k=7) (hS:dd w x.mo x.m x.mc x.r.c) (hd:0 < x.m→∀ k∈bO x.mo,k < w.heap.size∧k ∉ O) (g_s:aj x.r.s=true) (g_q:aj x.r.q=true) (g_mb:aj x.r.mb=true) (hch:bY x.r=true) (hA:co p w O s (m+210)) :
 Calls Tryz.prog 28 #[.pointer (some ⟨p,0,none⟩),dv x] w (fI p w O (aK s (ag 7++(ag x.r.s++(ag x.r.q++(ag x.r.mb))))) m):=by
 have k1:ab [] w (w.alloc (.cells #[.int .i64 x.r.k,.string (ac x.r.n),.int .i64 x.r.s,.int .i64 x.r.q,.int .i64 x.r.b,.string (ac x.r.f),.slice x.mo x.m x.mc,.string (ac x.r.p),.int .i64 x.r.fr,.int .i64 x.r.mn,.int .i64 x.r.mb] 29)):=(ab.refl _ _).alloc _;obtain ⟨W,hW⟩:∃ W,W=w.alloc (.cells #[.int .i64 x.r.k,.string (ac x.r.n),.int .i64 x.r.s,.int .i64 x.r.q,.int .i64 x.r.b,.string (ac x.r.f),.slice x.mo x.m x.mc,.string (ac x.r.p),.int .i64 x.r.fr,.int .i64 x.r.mn,.int .i64 x.r.mb] 29):=⟨_,rfl⟩;rw [← hW] at k1;have HW:=aa hW;have HB:Hid (Bx W w.heap.size 29 (aR x)):=by rw [hW];exact Bx.new w _ (aR x)
 have HT:Hid (av Tryz.prog 29 (aR x).length):=au;have HSz:Hid (W.heap.size=w.heap.size+1):=by rw [hW];show _=_;simp
 have HO:=aa hA.lt;have HA:=aa (hA.kept k1 (by simp));have HS:=aa hS;have HD:=aa hd;have HK:=aa k1
 have cC:Calls Tryz.prog 39 #[.agg (aR x).toArray] W fun e w'=>e=.returned (.int .i64 0)∧ab [] W w':=by
  have h:=cd W x (hS.kept k1 (by simp));rw [hch,dJ] at h;exact h
 have HC:=aa cC;have HKK:=aa hk;clear hW k1 hA hS hd hch cC hk;unfold dv;go_enter Tryz.func28,Tryz.ntmps28;go_upto_region 1 with fail
 rw [← HW.out];go_upto_region 3 with (first | ((with_reducible refine ai HB.out HT.out ?_ ?_);rfl) | (go_at_call 39;refine HC.out.mono ?_;clear HC;rintro _ w1 ⟨rfl,hk1⟩;have HK1:=aa hk1;clear hk1))
 have hno:w.heap.size ∉ O:=fun hm=>by have:=HO.out _ hm;omega
 have hlt:w.heap.size < W.heap.size:=by rw [HSz.out];omega
 have HB1:Hid (WB p W O w.heap.size 29 (aR x) s (m+210) w1):=⟨⟨O,HA.out.kept HK1.out (by simp),HK1.out.mono (by simp),fun k hk=>.inl hk⟩,HB.out.kept HK1.out (by simp)⟩;have c0:w1.cell? ⟨w.heap.size,0,none⟩=some (.int .i64 7):=by rw [← HKK.out];exact HB1.out.2.cell 0 rfl
 have cN:=ay HB1.out hlt hno (fun O' _ _ h=>aD p w1 O' _ (m+209) 7 (by decide) h);have HN:=aa cN;clear cN;go_wp2_with fail
 refine HN.out.mono ?_;clear HN;rintro _ w2 ⟨rfl,hB⟩;have HB2:=aa hB;clear hB c0;have c0:w2.cell? ⟨w.heap.size,0,none⟩=some (.int .i64 7):=by rw [← HKK.out];exact HB2.out.2.cell 0 rfl
 have cv:w2.cell? ⟨w.heap.size,2,none⟩=some (.int .i64 x.r.s):=HB2.out.2.cell 2 rfl;have cN:=ay HB2.out hlt hno (fun O' _ _ h=>aD p w2 O' _ (m+208) x.r.s g_s h);have HN:=aa cN;clear cN;go_wp2_with fail
 refine HN.out.mono ?_;clear HN;rintro _ w3 ⟨rfl,hB⟩;have HB3:=aa hB;clear hB c0 cv;have c0:w3.cell? ⟨w.heap.size,0,none⟩=some (.int .i64 7):=by rw [← HKK.out];exact HB3.out.2.cell 0 rfl
 have cv:w3.cell? ⟨w.heap.size,3,none⟩=some (.int .i64 x.r.q):=HB3.out.2.cell 3 rfl;have cN:=ay HB3.out hlt hno (fun O' _ _ h=>aD p w3 O' _ (m+207) x.r.q g_q h);have HN:=aa cN;clear cN;go_wp2_with fail
 refine HN.out.mono ?_;clear HN;rintro _ w4 ⟨rfl,hB⟩;have HB4:=aa hB;clear hB c0 cv;have c0:w4.cell? ⟨w.heap.size,0,none⟩=some (.int .i64 7):=by rw [← HKK.out];exact HB4.out.2.cell 0 rfl
 have cv:w4.cell? ⟨w.heap.size,10,none⟩=some (.int .i64 x.r.mb):=HB4.out.2.cell 10 rfl;have cN:=ay HB4.out hlt hno (fun O' _ _ h=>aD p w4 O' _ (m+206) x.r.mb g_mb h);have HN:=aa cN;clear cN;go_wp2_with fail
 refine HN.out.mono ?_;clear HN;rintro _ w5 ⟨rfl,hB⟩;have HB5:=aa hB;clear hB c0 cv;have c0:w5.cell? ⟨w.heap.size,0,none⟩=some (.int .i64 7):=by rw [← HKK.out];exact HB5.out.2.cell 0 rfl
 go_wp2_with fail
 go_end0
 obtain ⟨O1,hA1,hk1,hn1⟩:=HB5.out.1;refine ⟨rfl,O1,?_,(HK.out.mono (by simp)).trans hk1 (fun i hi=>.inl hi),fun i hi=>?_⟩
 ·have h2:=hA1.less (m':=m) (by omega);simp only [aB,List.append_assoc] at h2;exact h2
 ·rcases hn1 i hi with h1 | h1
  ·exact .inl h1
  ·exact .inr (by omega)
theorem uE (p:Nat) (w:World) (O:List Nat) (s:List Int × Int) (m:Nat) (x:Rm) (hS:dd w x.mo x.m x.mc x.r.c) (hch:bY x.r=false) (hA:co p w O s (m+210)) :
 Calls Tryz.prog 28 #[.pointer (some ⟨p,0,none⟩),dv x] w (fI p w O (ne s) m):=by
 have k1:ab [] w (w.alloc (.cells #[.int .i64 x.r.k,.string (ac x.r.n),.int .i64 x.r.s,.int .i64 x.r.q,.int .i64 x.r.b,.string (ac x.r.f),.slice x.mo x.m x.mc,.string (ac x.r.p),.int .i64 x.r.fr,.int .i64 x.r.mn,.int .i64 x.r.mb] 29)):=(ab.refl _ _).alloc _;obtain ⟨W,hW⟩:∃ W,W=w.alloc (.cells #[.int .i64 x.r.k,.string (ac x.r.n),.int .i64 x.r.s,.int .i64 x.r.q,.int .i64 x.r.b,.string (ac x.r.f),.slice x.mo x.m x.mc,.string (ac x.r.p),.int .i64 x.r.fr,.int .i64 x.r.mn,.int .i64 x.r.mb] 29):=⟨_,rfl⟩;rw [← hW] at k1;have HW:=aa hW;have HB:Hid (Bx W w.heap.size 29 (aR x)):=by rw [hW];exact Bx.new w _ (aR x)
 have HT:Hid (av Tryz.prog 29 (aR x).length):=au;have HA:=aa (hA.kept k1 (by simp));have HK:=aa k1
 have cC:Calls Tryz.prog 39 #[.agg (aR x).toArray] W fun e w'=>e=.returned (.int .i64 1)∧ab [] W w':=by
  have h:=cd W x (hS.kept k1 (by simp));rw [hch,nX] at h;exact h
 have HC:=aa cC;clear hW k1 hA hS hch cC;unfold dv;go_enter Tryz.func28,Tryz.ntmps28;go_upto_region 1 with fail
 rw [← HW.out];go_upto_region 2 with (first | ((with_reducible refine ai HB.out HT.out ?_ ?_);rfl) | (go_at_call 39;refine HC.out.mono ?_;clear HC;rintro _ w1 ⟨rfl,hk1⟩;have HK1:=aa hk1;clear hk1))
 have HN:=aa (ls p w1 O s (m+210) (HA.out.kept HK1.out (by simp)));go_wp2_with fail
 refine HN.out.mono ?_;clear HN;rintro _ w2 ⟨rfl,hW2⟩;have HW2:=aa hW2;clear hW2;go_wp2_with fail
 go_end0
 obtain ⟨O1,hA1,hk1,hn1⟩:=HW2.out;refine ⟨rfl,O1,hA1.less (by omega),(((HK.out.trans HK1.out (by simp)).mono (by simp)).trans hk1 (fun i hi=>.inl hi)),fun i hi=>?_⟩;rcases hn1 i hi with h1 | h1
 ·exact .inl h1
 ·exact .inr (by have:=HK.out.size;have:=HK1.out.size;omega)
theorem ql (p:Nat) (w:World) (O:List Nat) (s:List Int × Int) (m:Nat) (x:Rm) (hS:dd w x.mo x.m x.mc x.r.c) (hd:0 < x.m→∀ k∈bO x.mo,k < w.heap.size∧k ∉ O) (hu:ei x.r.c) (hA:co p w O s (m+210)) :
 Calls Tryz.prog 28 #[.pointer (some ⟨p,0,none⟩),dv x] w (fI p w O (vw s x.r) m):=by
 unfold vw;by_cases hch:bY x.r=true
 rotate_left
 ·rw [if_neg hch];exact uE p w O s m x hS (by simpa using hch) hA
 rw [if_pos hch];have hok:=(ie x.r hu).1 hch;rw [j1 hok];obtain ⟨⟨hk0,hk7⟩,hf⟩:=hok;have hk0':=((aG _).1 hk0).1;unfold jW at hf;unfold uJ;by_cases h0:x.r.k=0
 ·rw [if_pos h0,List.append_nil,h0];exact vD p w O s m x h0 hS hd hch hA
 rw [if_neg h0] at hf ⊢;by_cases h1:x.r.k=1
 ·rw [if_pos h1] at hf ⊢;rw [h1];exact vF p w O s m x h1 hS hd hf.1 hch hA
 rw [if_neg h1] at hf ⊢;by_cases h2:x.r.k=2
 ·rw [if_pos h2] at hf ⊢;rw [h2];exact vR p w O s m x h2 hS hd hf.1.1 hf.1.2.1 hf.1.2.2.1 hf.1.2.2.2.1 hf.1.2.2.2.2 hch hA
 rw [if_neg h2] at hf ⊢;by_cases h4:x.r.k=4
 ·rw [if_pos h4] at hf ⊢;rw [h4];exact u5 p w O s m x h4 hS hd hf.1.1 hf.1.2.1 hf.1.2.2 hch hA
 rw [if_neg h4] at hf ⊢;by_cases h5:x.r.k=5
 ·rw [if_pos h5] at hf ⊢;rw [h5];exact vi p w O s m x h5 hS hd hf.1.1 hf.1.2.1 hf.1.2.2.1 hf.1.2.2.2 hch hA
 rw [if_neg h5] at hf ⊢;by_cases h6:x.r.k=6
 ·rw [if_pos (.inl h6)] at hf ⊢;rw [h6];exact vu p w O s m x h6 hS hd hf.1.1 hf.1.2.1 hf.1.2.2 hch hA
 by_cases h7:x.r.k=7
 ·rw [if_pos (.inr h7)] at hf ⊢;rw [h7];exact vH p w O s m x h7 hS hd hf.1.1 hf.1.2.1 hf.1.2.2 hch hA
 rw [if_neg (by omega)] at hf ⊢;have h3:x.r.k=3:=by omega
 rw [h3];exact vU p w O s m x h3 hS hd hf.1.1 hf.1.2 hch hA
def u7 (w:World) (q:List Int × Int) (r:Ending) (w':World):Prop :=
 ∃ a n c,r=.returned (.tuple #[.slice a n c,.int .i64 q.2])∧Sl w' a n c q.1∧(∀ k∈bO a,w.heap.size≤k∧k < w'.heap.size)∧ab [] w w'
end Go.Proofs.YtakafmejllilnaaGreat
