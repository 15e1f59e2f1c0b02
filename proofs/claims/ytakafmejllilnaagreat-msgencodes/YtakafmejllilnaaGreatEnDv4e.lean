/-
  The document's Told, EncodeVerdict. (Written by mk/mkdtold.py.)
-/
import Derived.Test.YtakafmejllilnaaGreatEnDw2e
import Derived.Test.YtakafmejllilnaaGreatEnDv5e
import Derived.Test.YtakafmejllilnaaGreatF8e
set_option maxHeartbeats 8000000
set_option maxRecDepth 100000
namespace Go.Proofs.YtakafmejllilnaaGreat
open Go.RowKit
def qN (s:List Int × Int) (v:Vt):List Int × Int:=if fh v=true then aK s (bV v) else ne s
theorem bX.ko {O:List Nat}{w:World}{x:Vt}{u:Value}(h:bX O w x u):ku w u x.k:=by
 obtain ⟨uo,un,uc,KK,e,hD,hK⟩:=h.u;exact ⟨uo,un,uc,KK,e,hD.sl,hK,hD.2.2.2.1⟩
theorem sU (p:Nat) (w:World) (O:List Nat) (s:List Int × Int) (m:Nat) (v:Vt) (u:Value) (hx:bX O w v u) (hk:v.c=1) (g_s:aj v.s=true) (hch:fh v=true) (hA:co p w O s (m+7000)) :
 Calls Tryz.prog 30 #[.pointer (some ⟨p,0,none⟩),bS v u] w (fI p w O (aK s (ag 1++(ag v.s))) m):=by
 obtain ⟨uo,un,uc,KK,rfl,hKD,hKK⟩:=hx.u;have k1:ab [] w (w.alloc (.cells #[.int .i64 v.c,.int .i64 v.s,.int .i64 v.r,.string (ac v.p),.int .u64 v.d,.slice uo un uc,.int .i64 v.m] 34)):=(ab.refl _ _).alloc _;obtain ⟨W,hW⟩:∃ W,W=w.alloc (.cells #[.int .i64 v.c,.int .i64 v.s,.int .i64 v.r,.string (ac v.p),.int .u64 v.d,.slice uo un uc,.int .i64 v.m] 34):=⟨_,rfl⟩;rw [← hW] at k1;have HW:=aa hW;have HB:Hid (Bx W w.heap.size 34 (ak v (.slice uo un uc))):=by rw [hW];exact Bx.new w _ (ak v (.slice uo un uc))
 have HT:Hid (av Tryz.prog 34 (ak v (.slice uo un uc)).length):=am;have HSz:Hid (W.heap.size=w.heap.size+1):=by rw [hW];show _=_;simp
 have HO:=aa hA.lt;have HA:=aa (hA.kept k1 (by simp));have HK:=aa k1;have HKD:=aa (hKD.on (k1.mono (by simp)) (O':=O) (fun k hk=>.inl hk));have HKK:=aa hKK
 have cC:Calls Tryz.prog 40 #[.agg (ak v (.slice uo un uc)).toArray] W fun e w'=>e=.returned (.bool true)∧ab [] W w':=by
  have h:=cl W v _ (hx.ko.kept k1);rw [hch] at h;exact h
 have HC:=aa cC;have HKc:=aa hk;clear hW k1 hA hx hch cC hKD hKK hk;unfold bS;go_enter Tryz.func30,Tryz.ntmps30;go_upto_region 1 with fail
 rw [← HW.out];go_upto_region 3 with (first | ((with_reducible refine ai HB.out HT.out ?_ ?_);rfl) | (go_at_call 40;refine HC.out.mono ?_;clear HC;rintro _ w1 ⟨rfl,hk1⟩;have HK1:=aa hk1;clear hk1))
 have hno:w.heap.size ∉ O:=fun hm=>by have:=HO.out _ hm;omega
 have hlt:w.heap.size < W.heap.size:=by rw [HSz.out];omega
 have HB1:Hid (WB p W O w.heap.size 34 (ak v (.slice uo un uc)) s (m+7000) w1):=⟨⟨O,HA.out.kept HK1.out (by simp),HK1.out.mono (by simp),fun k hk=>.inl hk⟩,HB.out.kept HK1.out (by simp)⟩;have c0:w1.cell? ⟨w.heap.size,0,none⟩=some (.int .i64 1):=by rw [← HKc.out];exact HB1.out.2.cell 0 rfl
 have cN:=ay HB1.out hlt hno (fun O' _ _ h=>aD p w1 O' _ (m+6999) 1 (by decide) h);have HN:=aa cN;clear cN;go_wp2_with fail
 refine HN.out.mono ?_;clear HN;rintro _ w2 ⟨rfl,hB⟩;have HB2:=aa hB;clear hB c0;have c0:w2.cell? ⟨w.heap.size,0,none⟩=some (.int .i64 1):=by rw [← HKc.out];exact HB2.out.2.cell 0 rfl
 have cv:w2.cell? ⟨w.heap.size,1,none⟩=some (.int .i64 v.s):=HB2.out.2.cell 1 rfl;have cN:=ay HB2.out hlt hno (fun O' _ _ h=>aD p w2 O' _ (m+6998) v.s g_s h);have HN:=aa cN;clear cN;go_wp2_with fail
 refine HN.out.mono ?_;clear HN;rintro _ w3 ⟨rfl,hB⟩;have HB3:=aa hB;clear hB c0 cv;have c0:w3.cell? ⟨w.heap.size,0,none⟩=some (.int .i64 1):=by rw [← HKc.out];exact HB3.out.2.cell 0 rfl
 go_wp2_with fail
 go_end0
 obtain ⟨O1,hA1,hk1,hn1⟩:=HB3.out.1;refine ⟨rfl,O1,?_,(HK.out.mono (by simp)).trans hk1 (fun i hi=>.inl hi),fun i hi=>?_⟩
 ·have h2:=hA1.less (m':=m) (by omega);simp only [aB] at h2;exact h2
 ·rcases hn1 i hi with h1 | h1
  ·exact .inl h1
  ·exact .inr (by omega)
theorem uF (p:Nat) (w:World) (O:List Nat) (s:List Int × Int) (m:Nat) (v:Vt) (u:Value) (hx:bX O w v u) (hk:v.c=2) (g_r:aj v.r=true) (hch:fh v=true) (hA:co p w O s (m+7000)) :
 Calls Tryz.prog 30 #[.pointer (some ⟨p,0,none⟩),bS v u] w (fI p w O (aK s (ag 2++(ag v.r))) m):=by
 obtain ⟨uo,un,uc,KK,rfl,hKD,hKK⟩:=hx.u;have k1:ab [] w (w.alloc (.cells #[.int .i64 v.c,.int .i64 v.s,.int .i64 v.r,.string (ac v.p),.int .u64 v.d,.slice uo un uc,.int .i64 v.m] 34)):=(ab.refl _ _).alloc _;obtain ⟨W,hW⟩:∃ W,W=w.alloc (.cells #[.int .i64 v.c,.int .i64 v.s,.int .i64 v.r,.string (ac v.p),.int .u64 v.d,.slice uo un uc,.int .i64 v.m] 34):=⟨_,rfl⟩;rw [← hW] at k1;have HW:=aa hW;have HB:Hid (Bx W w.heap.size 34 (ak v (.slice uo un uc))):=by rw [hW];exact Bx.new w _ (ak v (.slice uo un uc))
 have HT:Hid (av Tryz.prog 34 (ak v (.slice uo un uc)).length):=am;have HSz:Hid (W.heap.size=w.heap.size+1):=by rw [hW];show _=_;simp
 have HO:=aa hA.lt;have HA:=aa (hA.kept k1 (by simp));have HK:=aa k1;have HKD:=aa (hKD.on (k1.mono (by simp)) (O':=O) (fun k hk=>.inl hk));have HKK:=aa hKK
 have cC:Calls Tryz.prog 40 #[.agg (ak v (.slice uo un uc)).toArray] W fun e w'=>e=.returned (.bool true)∧ab [] W w':=by
  have h:=cl W v _ (hx.ko.kept k1);rw [hch] at h;exact h
 have HC:=aa cC;have HKc:=aa hk;clear hW k1 hA hx hch cC hKD hKK hk;unfold bS;go_enter Tryz.func30,Tryz.ntmps30;go_upto_region 1 with fail
 rw [← HW.out];go_upto_region 3 with (first | ((with_reducible refine ai HB.out HT.out ?_ ?_);rfl) | (go_at_call 40;refine HC.out.mono ?_;clear HC;rintro _ w1 ⟨rfl,hk1⟩;have HK1:=aa hk1;clear hk1))
 have hno:w.heap.size ∉ O:=fun hm=>by have:=HO.out _ hm;omega
 have hlt:w.heap.size < W.heap.size:=by rw [HSz.out];omega
 have HB1:Hid (WB p W O w.heap.size 34 (ak v (.slice uo un uc)) s (m+7000) w1):=⟨⟨O,HA.out.kept HK1.out (by simp),HK1.out.mono (by simp),fun k hk=>.inl hk⟩,HB.out.kept HK1.out (by simp)⟩;have c0:w1.cell? ⟨w.heap.size,0,none⟩=some (.int .i64 2):=by rw [← HKc.out];exact HB1.out.2.cell 0 rfl
 have cN:=ay HB1.out hlt hno (fun O' _ _ h=>aD p w1 O' _ (m+6999) 2 (by decide) h);have HN:=aa cN;clear cN;go_wp2_with fail
 refine HN.out.mono ?_;clear HN;rintro _ w2 ⟨rfl,hB⟩;have HB2:=aa hB;clear hB c0;have c0:w2.cell? ⟨w.heap.size,0,none⟩=some (.int .i64 2):=by rw [← HKc.out];exact HB2.out.2.cell 0 rfl
 have cv:w2.cell? ⟨w.heap.size,2,none⟩=some (.int .i64 v.r):=HB2.out.2.cell 2 rfl;have cN:=ay HB2.out hlt hno (fun O' _ _ h=>aD p w2 O' _ (m+6998) v.r g_r h);have HN:=aa cN;clear cN;go_wp2_with fail
 refine HN.out.mono ?_;clear HN;rintro _ w3 ⟨rfl,hB⟩;have HB3:=aa hB;clear hB c0 cv;have c0:w3.cell? ⟨w.heap.size,0,none⟩=some (.int .i64 2):=by rw [← HKc.out];exact HB3.out.2.cell 0 rfl
 go_wp2_with fail
 go_end0
 obtain ⟨O1,hA1,hk1,hn1⟩:=HB3.out.1;refine ⟨rfl,O1,?_,(HK.out.mono (by simp)).trans hk1 (fun i hi=>.inl hi),fun i hi=>?_⟩
 ·have h2:=hA1.less (m':=m) (by omega);simp only [aB] at h2;exact h2
 ·rcases hn1 i hi with h1 | h1
  ·exact .inl h1
  ·exact .inr (by omega)
theorem ub (p:Nat) (w:World) (O:List Nat) (s:List Int × Int) (m:Nat) (v:Vt) (u:Value) (hx:bX O w v u) (hk:v.c=4) (g_r:aj v.r=true) (hch:fh v=true) (hA:co p w O s (m+7000)) :
 Calls Tryz.prog 30 #[.pointer (some ⟨p,0,none⟩),bS v u] w (fI p w O (aK s (ag 4++(ag v.r))) m):=by
 obtain ⟨uo,un,uc,KK,rfl,hKD,hKK⟩:=hx.u;have k1:ab [] w (w.alloc (.cells #[.int .i64 v.c,.int .i64 v.s,.int .i64 v.r,.string (ac v.p),.int .u64 v.d,.slice uo un uc,.int .i64 v.m] 34)):=(ab.refl _ _).alloc _;obtain ⟨W,hW⟩:∃ W,W=w.alloc (.cells #[.int .i64 v.c,.int .i64 v.s,.int .i64 v.r,.string (ac v.p),.int .u64 v.d,.slice uo un uc,.int .i64 v.m] 34):=⟨_,rfl⟩;rw [← hW] at k1;have HW:=aa hW;have HB:Hid (Bx W w.heap.size 34 (ak v (.slice uo un uc))):=by rw [hW];exact Bx.new w _ (ak v (.slice uo un uc))
 have HT:Hid (av Tryz.prog 34 (ak v (.slice uo un uc)).length):=am;have HSz:Hid (W.heap.size=w.heap.size+1):=by rw [hW];show _=_;simp
 have HO:=aa hA.lt;have HA:=aa (hA.kept k1 (by simp));have HK:=aa k1;have HKD:=aa (hKD.on (k1.mono (by simp)) (O':=O) (fun k hk=>.inl hk));have HKK:=aa hKK
 have cC:Calls Tryz.prog 40 #[.agg (ak v (.slice uo un uc)).toArray] W fun e w'=>e=.returned (.bool true)∧ab [] W w':=by
  have h:=cl W v _ (hx.ko.kept k1);rw [hch] at h;exact h
 have HC:=aa cC;have HKc:=aa hk;clear hW k1 hA hx hch cC hKD hKK hk;unfold bS;go_enter Tryz.func30,Tryz.ntmps30;go_upto_region 1 with fail
 rw [← HW.out];go_upto_region 3 with (first | ((with_reducible refine ai HB.out HT.out ?_ ?_);rfl) | (go_at_call 40;refine HC.out.mono ?_;clear HC;rintro _ w1 ⟨rfl,hk1⟩;have HK1:=aa hk1;clear hk1))
 have hno:w.heap.size ∉ O:=fun hm=>by have:=HO.out _ hm;omega
 have hlt:w.heap.size < W.heap.size:=by rw [HSz.out];omega
 have HB1:Hid (WB p W O w.heap.size 34 (ak v (.slice uo un uc)) s (m+7000) w1):=⟨⟨O,HA.out.kept HK1.out (by simp),HK1.out.mono (by simp),fun k hk=>.inl hk⟩,HB.out.kept HK1.out (by simp)⟩;have c0:w1.cell? ⟨w.heap.size,0,none⟩=some (.int .i64 4):=by rw [← HKc.out];exact HB1.out.2.cell 0 rfl
 have cN:=ay HB1.out hlt hno (fun O' _ _ h=>aD p w1 O' _ (m+6999) 4 (by decide) h);have HN:=aa cN;clear cN;go_wp2_with fail
 refine HN.out.mono ?_;clear HN;rintro _ w2 ⟨rfl,hB⟩;have HB2:=aa hB;clear hB c0;have c0:w2.cell? ⟨w.heap.size,0,none⟩=some (.int .i64 4):=by rw [← HKc.out];exact HB2.out.2.cell 0 rfl
 have cv:w2.cell? ⟨w.heap.size,2,none⟩=some (.int .i64 v.r):=HB2.out.2.cell 2 rfl;have cN:=ay HB2.out hlt hno (fun O' _ _ h=>aD p w2 O' _ (m+6998) v.r g_r h);have HN:=aa cN;clear cN;go_wp2_with fail
 refine HN.out.mono ?_;clear HN;rintro _ w3 ⟨rfl,hB⟩;have HB3:=aa hB;clear hB c0 cv;have c0:w3.cell? ⟨w.heap.size,0,none⟩=some (.int .i64 4):=by rw [← HKc.out];exact HB3.out.2.cell 0 rfl
 go_wp2_with fail
 go_end0
 obtain ⟨O1,hA1,hk1,hn1⟩:=HB3.out.1;refine ⟨rfl,O1,?_,(HK.out.mono (by simp)).trans hk1 (fun i hi=>.inl hi),fun i hi=>?_⟩
 ·have h2:=hA1.less (m':=m) (by omega);simp only [aB] at h2;exact h2
 ·rcases hn1 i hi with h1 | h1
  ·exact .inl h1
  ·exact .inr (by omega)
theorem sS (p:Nat) (w:World) (O:List Nat) (s:List Int × Int) (m:Nat) (v:Vt) (u:Value) (hx:bX O w v u) (hk:v.c=8) (g_r:aj v.r=true) (hch:fh v=true) (hA:co p w O s (m+7000)) :
 Calls Tryz.prog 30 #[.pointer (some ⟨p,0,none⟩),bS v u] w (fI p w O (aK s (ag 8++(ag v.r))) m):=by
 obtain ⟨uo,un,uc,KK,rfl,hKD,hKK⟩:=hx.u;have k1:ab [] w (w.alloc (.cells #[.int .i64 v.c,.int .i64 v.s,.int .i64 v.r,.string (ac v.p),.int .u64 v.d,.slice uo un uc,.int .i64 v.m] 34)):=(ab.refl _ _).alloc _;obtain ⟨W,hW⟩:∃ W,W=w.alloc (.cells #[.int .i64 v.c,.int .i64 v.s,.int .i64 v.r,.string (ac v.p),.int .u64 v.d,.slice uo un uc,.int .i64 v.m] 34):=⟨_,rfl⟩;rw [← hW] at k1;have HW:=aa hW;have HB:Hid (Bx W w.heap.size 34 (ak v (.slice uo un uc))):=by rw [hW];exact Bx.new w _ (ak v (.slice uo un uc))
 have HT:Hid (av Tryz.prog 34 (ak v (.slice uo un uc)).length):=am;have HSz:Hid (W.heap.size=w.heap.size+1):=by rw [hW];show _=_;simp
 have HO:=aa hA.lt;have HA:=aa (hA.kept k1 (by simp));have HK:=aa k1;have HKD:=aa (hKD.on (k1.mono (by simp)) (O':=O) (fun k hk=>.inl hk));have HKK:=aa hKK
 have cC:Calls Tryz.prog 40 #[.agg (ak v (.slice uo un uc)).toArray] W fun e w'=>e=.returned (.bool true)∧ab [] W w':=by
  have h:=cl W v _ (hx.ko.kept k1);rw [hch] at h;exact h
 have HC:=aa cC;have HKc:=aa hk;clear hW k1 hA hx hch cC hKD hKK hk;unfold bS;go_enter Tryz.func30,Tryz.ntmps30;go_upto_region 1 with fail
 rw [← HW.out];go_upto_region 3 with (first | ((with_reducible refine ai HB.out HT.out ?_ ?_);rfl) | (go_at_call 40;refine HC.out.mono ?_;clear HC;rintro _ w1 ⟨rfl,hk1⟩;have HK1:=aa hk1;clear hk1))
 have hno:w.heap.size ∉ O:=fun hm=>by have:=HO.out _ hm;omega
 have hlt:w.heap.size < W.heap.size:=by rw [HSz.out];omega
 have HB1:Hid (WB p W O w.heap.size 34 (ak v (.slice uo un uc)) s (m+7000) w1):=⟨⟨O,HA.out.kept HK1.out (by simp),HK1.out.mono (by simp),fun k hk=>.inl hk⟩,HB.out.kept HK1.out (by simp)⟩;have c0:w1.cell? ⟨w.heap.size,0,none⟩=some (.int .i64 8):=by rw [← HKc.out];exact HB1.out.2.cell 0 rfl
 have cN:=ay HB1.out hlt hno (fun O' _ _ h=>aD p w1 O' _ (m+6999) 8 (by decide) h);have HN:=aa cN;clear cN;go_wp2_with fail
 refine HN.out.mono ?_;clear HN;rintro _ w2 ⟨rfl,hB⟩;have HB2:=aa hB;clear hB c0;have c0:w2.cell? ⟨w.heap.size,0,none⟩=some (.int .i64 8):=by rw [← HKc.out];exact HB2.out.2.cell 0 rfl
 have cv:w2.cell? ⟨w.heap.size,2,none⟩=some (.int .i64 v.r):=HB2.out.2.cell 2 rfl;have cN:=ay HB2.out hlt hno (fun O' _ _ h=>aD p w2 O' _ (m+6998) v.r g_r h);have HN:=aa cN;clear cN;go_wp2_with fail
 refine HN.out.mono ?_;clear HN;rintro _ w3 ⟨rfl,hB⟩;have HB3:=aa hB;clear hB c0 cv;have c0:w3.cell? ⟨w.heap.size,0,none⟩=some (.int .i64 8):=by rw [← HKc.out];exact HB3.out.2.cell 0 rfl
 go_wp2_with fail
 go_end0
 obtain ⟨O1,hA1,hk1,hn1⟩:=HB3.out.1;refine ⟨rfl,O1,?_,(HK.out.mono (by simp)).trans hk1 (fun i hi=>.inl hi),fun i hi=>?_⟩
 ·have h2:=hA1.less (m':=m) (by omega);simp only [aB] at h2;exact h2
 ·rcases hn1 i hi with h1 | h1
  ·exact .inl h1
  ·exact .inr (by omega)
theorem tg (p:Nat) (w:World) (O:List Nat) (s:List Int × Int) (m:Nat) (v:Vt) (u:Value) (hx:bX O w v u) (hk:v.c=3) (t_p:dY v.p=true) (g_r:aj v.r=true) (hch:fh v=true) (hA:co p w O s (m+7000)) :
 Calls Tryz.prog 30 #[.pointer (some ⟨p,0,none⟩),bS v u] w (fI p w O (aK s (ag 3++(bT v.p++(ag v.r)))) m):=by
 obtain ⟨uo,un,uc,KK,rfl,hKD,hKK⟩:=hx.u;have k1:ab [] w (w.alloc (.cells #[.int .i64 v.c,.int .i64 v.s,.int .i64 v.r,.string (ac v.p),.int .u64 v.d,.slice uo un uc,.int .i64 v.m] 34)):=(ab.refl _ _).alloc _;obtain ⟨W,hW⟩:∃ W,W=w.alloc (.cells #[.int .i64 v.c,.int .i64 v.s,.int .i64 v.r,.string (ac v.p),.int .u64 v.d,.slice uo un uc,.int .i64 v.m] 34):=⟨_,rfl⟩;rw [← hW] at k1;have HW:=aa hW;have HB:Hid (Bx W w.heap.size 34 (ak v (.slice uo un uc))):=by rw [hW];exact Bx.new w _ (ak v (.slice uo un uc))
 have HT:Hid (av Tryz.prog 34 (ak v (.slice uo un uc)).length):=am;have HSz:Hid (W.heap.size=w.heap.size+1):=by rw [hW];show _=_;simp
 have HO:=aa hA.lt;have HA:=aa (hA.kept k1 (by simp));have HK:=aa k1;have HKD:=aa (hKD.on (k1.mono (by simp)) (O':=O) (fun k hk=>.inl hk));have HKK:=aa hKK
 have cC:Calls Tryz.prog 40 #[.agg (ak v (.slice uo un uc)).toArray] W fun e w'=>e=.returned (.bool true)∧ab [] W w':=by
  have h:=cl W v _ (hx.ko.kept k1);rw [hch] at h;exact h
 have HC:=aa cC;have HKc:=aa hk;clear hW k1 hA hx hch cC hKD hKK hk;unfold bS;go_enter Tryz.func30,Tryz.ntmps30;go_upto_region 1 with fail
 rw [← HW.out];go_upto_region 3 with (first | ((with_reducible refine ai HB.out HT.out ?_ ?_);rfl) | (go_at_call 40;refine HC.out.mono ?_;clear HC;rintro _ w1 ⟨rfl,hk1⟩;have HK1:=aa hk1;clear hk1))
 have hno:w.heap.size ∉ O:=fun hm=>by have:=HO.out _ hm;omega
 have hlt:w.heap.size < W.heap.size:=by rw [HSz.out];omega
 have HB1:Hid (WB p W O w.heap.size 34 (ak v (.slice uo un uc)) s (m+7000) w1):=⟨⟨O,HA.out.kept HK1.out (by simp),HK1.out.mono (by simp),fun k hk=>.inl hk⟩,HB.out.kept HK1.out (by simp)⟩;have c0:w1.cell? ⟨w.heap.size,0,none⟩=some (.int .i64 3):=by rw [← HKc.out];exact HB1.out.2.cell 0 rfl
 have cN:=ay HB1.out hlt hno (fun O' _ _ h=>aD p w1 O' _ (m+6999) 3 (by decide) h);have HN:=aa cN;clear cN;go_wp2_with fail
 refine HN.out.mono ?_;clear HN;rintro _ w2 ⟨rfl,hB⟩;have HB2:=aa hB;clear hB c0;have c0:w2.cell? ⟨w.heap.size,0,none⟩=some (.int .i64 3):=by rw [← HKc.out];exact HB2.out.2.cell 0 rfl
 have cv:w2.cell? ⟨w.heap.size,3,none⟩=some (.string (ac v.p)):=HB2.out.2.cell 3 rfl;have cN:=ay HB2.out hlt hno (fun O' _ _ h=>fk p w2 O' _ (m+6998) v.p t_p h);have HN:=aa cN;clear cN;go_wp2_with fail
 refine HN.out.mono ?_;clear HN;rintro _ w3 ⟨rfl,hB⟩;have HB3:=aa hB;clear hB c0 cv;have c0:w3.cell? ⟨w.heap.size,0,none⟩=some (.int .i64 3):=by rw [← HKc.out];exact HB3.out.2.cell 0 rfl
 have cv:w3.cell? ⟨w.heap.size,2,none⟩=some (.int .i64 v.r):=HB3.out.2.cell 2 rfl;have cN:=ay HB3.out hlt hno (fun O' _ _ h=>aD p w3 O' _ (m+6997) v.r g_r h);have HN:=aa cN;clear cN;go_wp2_with fail
 refine HN.out.mono ?_;clear HN;rintro _ w4 ⟨rfl,hB⟩;have HB4:=aa hB;clear hB c0 cv;have c0:w4.cell? ⟨w.heap.size,0,none⟩=some (.int .i64 3):=by rw [← HKc.out];exact HB4.out.2.cell 0 rfl
 go_wp2_with fail
 go_end0
 obtain ⟨O1,hA1,hk1,hn1⟩:=HB4.out.1;refine ⟨rfl,O1,?_,(HK.out.mono (by simp)).trans hk1 (fun i hi=>.inl hi),fun i hi=>?_⟩
 ·have h2:=hA1.less (m':=m) (by omega);simp only [aB,List.append_assoc] at h2;exact h2
 ·rcases hn1 i hi with h1 | h1
  ·exact .inl h1
  ·exact .inr (by omega)
theorem tE (p:Nat) (w:World) (O:List Nat) (s:List Int × Int) (m:Nat) (v:Vt) (u:Value) (hx:bX O w v u) (hk:v.c=9) (t_p:dY v.p=true) (g_r:aj v.r=true) (hch:fh v=true) (hA:co p w O s (m+7000)) :
 Calls Tryz.prog 30 #[.pointer (some ⟨p,0,none⟩),bS v u] w (fI p w O (aK s (ag 9++(bT v.p++(dA 8 v.d++(ag v.r))))) m):=by
 obtain ⟨uo,un,uc,KK,rfl,hKD,hKK⟩:=hx.u;have k1:ab [] w (w.alloc (.cells #[.int .i64 v.c,.int .i64 v.s,.int .i64 v.r,.string (ac v.p),.int .u64 v.d,.slice uo un uc,.int .i64 v.m] 34)):=(ab.refl _ _).alloc _;obtain ⟨W,hW⟩:∃ W,W=w.alloc (.cells #[.int .i64 v.c,.int .i64 v.s,.int .i64 v.r,.string (ac v.p),.int .u64 v.d,.slice uo un uc,.int .i64 v.m] 34):=⟨_,rfl⟩;rw [← hW] at k1;have HW:=aa hW;have HB:Hid (Bx W w.heap.size 34 (ak v (.slice uo un uc))):=by rw [hW];exact Bx.new w _ (ak v (.slice uo un uc))
 have HT:Hid (av Tryz.prog 34 (ak v (.slice uo un uc)).length):=am;have HSz:Hid (W.heap.size=w.heap.size+1):=by rw [hW];show _=_;simp
 have HO:=aa hA.lt;have HA:=aa (hA.kept k1 (by simp));have HK:=aa k1;have HKD:=aa (hKD.on (k1.mono (by simp)) (O':=O) (fun k hk=>.inl hk));have HKK:=aa hKK
 have cC:Calls Tryz.prog 40 #[.agg (ak v (.slice uo un uc)).toArray] W fun e w'=>e=.returned (.bool true)∧ab [] W w':=by
  have h:=cl W v _ (hx.ko.kept k1);rw [hch] at h;exact h
 have HC:=aa cC;have HKc:=aa hk;clear hW k1 hA hx hch cC hKD hKK hk;unfold bS;go_enter Tryz.func30,Tryz.ntmps30;go_upto_region 1 with fail
 rw [← HW.out];go_upto_region 3 with (first | ((with_reducible refine ai HB.out HT.out ?_ ?_);rfl) | (go_at_call 40;refine HC.out.mono ?_;clear HC;rintro _ w1 ⟨rfl,hk1⟩;have HK1:=aa hk1;clear hk1))
 have hno:w.heap.size ∉ O:=fun hm=>by have:=HO.out _ hm;omega
 have hlt:w.heap.size < W.heap.size:=by rw [HSz.out];omega
 have HB1:Hid (WB p W O w.heap.size 34 (ak v (.slice uo un uc)) s (m+7000) w1):=⟨⟨O,HA.out.kept HK1.out (by simp),HK1.out.mono (by simp),fun k hk=>.inl hk⟩,HB.out.kept HK1.out (by simp)⟩;have c0:w1.cell? ⟨w.heap.size,0,none⟩=some (.int .i64 9):=by rw [← HKc.out];exact HB1.out.2.cell 0 rfl
 have cN:=ay HB1.out hlt hno (fun O' _ _ h=>aD p w1 O' _ (m+6999) 9 (by decide) h);have HN:=aa cN;clear cN;go_wp2_with fail
 refine HN.out.mono ?_;clear HN;rintro _ w2 ⟨rfl,hB⟩;have HB2:=aa hB;clear hB c0;have c0:w2.cell? ⟨w.heap.size,0,none⟩=some (.int .i64 9):=by rw [← HKc.out];exact HB2.out.2.cell 0 rfl
 have cv:w2.cell? ⟨w.heap.size,3,none⟩=some (.string (ac v.p)):=HB2.out.2.cell 3 rfl;have cN:=ay HB2.out hlt hno (fun O' _ _ h=>fk p w2 O' _ (m+6998) v.p t_p h);have HN:=aa cN;clear cN;go_wp2_with fail
 refine HN.out.mono ?_;clear HN;rintro _ w3 ⟨rfl,hB⟩;have HB3:=aa hB;clear hB c0 cv;have c0:w3.cell? ⟨w.heap.size,0,none⟩=some (.int .i64 9):=by rw [← HKc.out];exact HB3.out.2.cell 0 rfl
 have cv:w3.cell? ⟨w.heap.size,4,none⟩=some (.int .u64 v.d):=HB3.out.2.cell 4 rfl;have cN:=ay HB3.out hlt hno (fun O' _ _ h=>o7 p w3 O' _ (m+6997) v.d h);have HN:=aa cN;clear cN;go_wp2_with fail
 refine HN.out.mono ?_;clear HN;rintro _ w4 ⟨rfl,hB⟩;have HB4:=aa hB;clear hB c0 cv;have c0:w4.cell? ⟨w.heap.size,0,none⟩=some (.int .i64 9):=by rw [← HKc.out];exact HB4.out.2.cell 0 rfl
 have cv:w4.cell? ⟨w.heap.size,2,none⟩=some (.int .i64 v.r):=HB4.out.2.cell 2 rfl;have cN:=ay HB4.out hlt hno (fun O' _ _ h=>aD p w4 O' _ (m+6996) v.r g_r h);have HN:=aa cN;clear cN;go_wp2_with fail
 refine HN.out.mono ?_;clear HN;rintro _ w5 ⟨rfl,hB⟩;have HB5:=aa hB;clear hB c0 cv;have c0:w5.cell? ⟨w.heap.size,0,none⟩=some (.int .i64 9):=by rw [← HKc.out];exact HB5.out.2.cell 0 rfl
 go_wp2_with fail
 go_end0
 obtain ⟨O1,hA1,hk1,hn1⟩:=HB5.out.1;refine ⟨rfl,O1,?_,(HK.out.mono (by simp)).trans hk1 (fun i hi=>.inl hi),fun i hi=>?_⟩
 ·have h2:=hA1.less (m':=m) (by omega);simp only [aB,List.append_assoc] at h2;exact h2
 ·rcases hn1 i hi with h1 | h1
  ·exact .inl h1
  ·exact .inr (by omega)
theorem qJ (p:Nat) (w:World) (O:List Nat) (s:List Int × Int) (m:Nat) (v:Vt) (u:Value) (hx:bX O w v u) (hk:v.c=10) (t_p:dY v.p=true) (hch:fh v=true) (hA:co p w O s (m+7000)) :
 Calls Tryz.prog 30 #[.pointer (some ⟨p,0,none⟩),bS v u] w (fI p w O (aK s (ag 10++(bT v.p))) m):=by
 obtain ⟨uo,un,uc,KK,rfl,hKD,hKK⟩:=hx.u;have k1:ab [] w (w.alloc (.cells #[.int .i64 v.c,.int .i64 v.s,.int .i64 v.r,.string (ac v.p),.int .u64 v.d,.slice uo un uc,.int .i64 v.m] 34)):=(ab.refl _ _).alloc _;obtain ⟨W,hW⟩:∃ W,W=w.alloc (.cells #[.int .i64 v.c,.int .i64 v.s,.int .i64 v.r,.string (ac v.p),.int .u64 v.d,.slice uo un uc,.int .i64 v.m] 34):=⟨_,rfl⟩;rw [← hW] at k1;have HW:=aa hW;have HB:Hid (Bx W w.heap.size 34 (ak v (.slice uo un uc))):=by rw [hW];exact Bx.new w _ (ak v (.slice uo un uc))
 have HT:Hid (av Tryz.prog 34 (ak v (.slice uo un uc)).length):=am;have HSz:Hid (W.heap.size=w.heap.size+1):=by rw [hW];show _=_;simp
 have HO:=aa hA.lt;have HA:=aa (hA.kept k1 (by simp));have HK:=aa k1;have HKD:=aa (hKD.on (k1.mono (by simp)) (O':=O) (fun k hk=>.inl hk));have HKK:=aa hKK
 have cC:Calls Tryz.prog 40 #[.agg (ak v (.slice uo un uc)).toArray] W fun e w'=>e=.returned (.bool true)∧ab [] W w':=by
  have h:=cl W v _ (hx.ko.kept k1);rw [hch] at h;exact h
 have HC:=aa cC;have HKc:=aa hk;clear hW k1 hA hx hch cC hKD hKK hk;unfold bS;go_enter Tryz.func30,Tryz.ntmps30;go_upto_region 1 with fail
 rw [← HW.out];go_upto_region 3 with (first | ((with_reducible refine ai HB.out HT.out ?_ ?_);rfl) | (go_at_call 40;refine HC.out.mono ?_;clear HC;rintro _ w1 ⟨rfl,hk1⟩;have HK1:=aa hk1;clear hk1))
 have hno:w.heap.size ∉ O:=fun hm=>by have:=HO.out _ hm;omega
 have hlt:w.heap.size < W.heap.size:=by rw [HSz.out];omega
 have HB1:Hid (WB p W O w.heap.size 34 (ak v (.slice uo un uc)) s (m+7000) w1):=⟨⟨O,HA.out.kept HK1.out (by simp),HK1.out.mono (by simp),fun k hk=>.inl hk⟩,HB.out.kept HK1.out (by simp)⟩;have c0:w1.cell? ⟨w.heap.size,0,none⟩=some (.int .i64 10):=by rw [← HKc.out];exact HB1.out.2.cell 0 rfl
 have cN:=ay HB1.out hlt hno (fun O' _ _ h=>aD p w1 O' _ (m+6999) 10 (by decide) h);have HN:=aa cN;clear cN;go_wp2_with fail
 refine HN.out.mono ?_;clear HN;rintro _ w2 ⟨rfl,hB⟩;have HB2:=aa hB;clear hB c0;have c0:w2.cell? ⟨w.heap.size,0,none⟩=some (.int .i64 10):=by rw [← HKc.out];exact HB2.out.2.cell 0 rfl
 have cv:w2.cell? ⟨w.heap.size,3,none⟩=some (.string (ac v.p)):=HB2.out.2.cell 3 rfl;have cN:=ay HB2.out hlt hno (fun O' _ _ h=>fk p w2 O' _ (m+6998) v.p t_p h);have HN:=aa cN;clear cN;go_wp2_with fail
 refine HN.out.mono ?_;clear HN;rintro _ w3 ⟨rfl,hB⟩;have HB3:=aa hB;clear hB c0 cv;have c0:w3.cell? ⟨w.heap.size,0,none⟩=some (.int .i64 10):=by rw [← HKc.out];exact HB3.out.2.cell 0 rfl
 go_wp2_with fail
 go_end0
 obtain ⟨O1,hA1,hk1,hn1⟩:=HB3.out.1;refine ⟨rfl,O1,?_,(HK.out.mono (by simp)).trans hk1 (fun i hi=>.inl hi),fun i hi=>?_⟩
 ·have h2:=hA1.less (m':=m) (by omega);simp only [aB] at h2;exact h2
 ·rcases hn1 i hi with h1 | h1
  ·exact .inl h1
  ·exact .inr (by omega)
theorem rb (p:Nat) (w:World) (O:List Nat) (s:List Int × Int) (m:Nat) (v:Vt) (u:Value) (hx:bX O w v u) (hk:v.c=12) (g_m:aj v.m=true) (hch:fh v=true) (hA:co p w O s (m+7000)) :
 Calls Tryz.prog 30 #[.pointer (some ⟨p,0,none⟩),bS v u] w (fI p w O (aK s (ag 12++(ag v.m))) m):=by
 obtain ⟨uo,un,uc,KK,rfl,hKD,hKK⟩:=hx.u;have k1:ab [] w (w.alloc (.cells #[.int .i64 v.c,.int .i64 v.s,.int .i64 v.r,.string (ac v.p),.int .u64 v.d,.slice uo un uc,.int .i64 v.m] 34)):=(ab.refl _ _).alloc _;obtain ⟨W,hW⟩:∃ W,W=w.alloc (.cells #[.int .i64 v.c,.int .i64 v.s,.int .i64 v.r,.string (ac v.p),.int .u64 v.d,.slice uo un uc,.int .i64 v.m] 34):=⟨_,rfl⟩;rw [← hW] at k1;have HW:=aa hW;have HB:Hid (Bx W w.heap.size 34 (ak v (.slice uo un uc))):=by rw [hW];exact Bx.new w _ (ak v (.slice uo un uc))
 have HT:Hid (av Tryz.prog 34 (ak v (.slice uo un uc)).length):=am;have HSz:Hid (W.heap.size=w.heap.size+1):=by rw [hW];show _=_;simp
 have HO:=aa hA.lt;have HA:=aa (hA.kept k1 (by simp));have HK:=aa k1;have HKD:=aa (hKD.on (k1.mono (by simp)) (O':=O) (fun k hk=>.inl hk));have HKK:=aa hKK
 have cC:Calls Tryz.prog 40 #[.agg (ak v (.slice uo un uc)).toArray] W fun e w'=>e=.returned (.bool true)∧ab [] W w':=by
  have h:=cl W v _ (hx.ko.kept k1);rw [hch] at h;exact h
 have HC:=aa cC;have HKc:=aa hk;clear hW k1 hA hx hch cC hKD hKK hk;unfold bS;go_enter Tryz.func30,Tryz.ntmps30;go_upto_region 1 with fail
 rw [← HW.out];go_upto_region 3 with (first | ((with_reducible refine ai HB.out HT.out ?_ ?_);rfl) | (go_at_call 40;refine HC.out.mono ?_;clear HC;rintro _ w1 ⟨rfl,hk1⟩;have HK1:=aa hk1;clear hk1))
 have hno:w.heap.size ∉ O:=fun hm=>by have:=HO.out _ hm;omega
 have hlt:w.heap.size < W.heap.size:=by rw [HSz.out];omega
 have HB1:Hid (WB p W O w.heap.size 34 (ak v (.slice uo un uc)) s (m+7000) w1):=⟨⟨O,HA.out.kept HK1.out (by simp),HK1.out.mono (by simp),fun k hk=>.inl hk⟩,HB.out.kept HK1.out (by simp)⟩;have c0:w1.cell? ⟨w.heap.size,0,none⟩=some (.int .i64 12):=by rw [← HKc.out];exact HB1.out.2.cell 0 rfl
 have cN:=ay HB1.out hlt hno (fun O' _ _ h=>aD p w1 O' _ (m+6999) 12 (by decide) h);have HN:=aa cN;clear cN;go_wp2_with fail
 refine HN.out.mono ?_;clear HN;rintro _ w2 ⟨rfl,hB⟩;have HB2:=aa hB;clear hB c0;have c0:w2.cell? ⟨w.heap.size,0,none⟩=some (.int .i64 12):=by rw [← HKc.out];exact HB2.out.2.cell 0 rfl
 have cv:w2.cell? ⟨w.heap.size,6,none⟩=some (.int .i64 v.m):=HB2.out.2.cell 6 rfl;have cN:=ay HB2.out hlt hno (fun O' _ _ h=>aD p w2 O' _ (m+6998) v.m g_m h);have HN:=aa cN;clear cN;go_wp2_with fail
 refine HN.out.mono ?_;clear HN;rintro _ w3 ⟨rfl,hB⟩;have HB3:=aa hB;clear hB c0 cv;have c0:w3.cell? ⟨w.heap.size,0,none⟩=some (.int .i64 12):=by rw [← HKc.out];exact HB3.out.2.cell 0 rfl
 go_wp2_with fail
 go_end0
 obtain ⟨O1,hA1,hk1,hn1⟩:=HB3.out.1;refine ⟨rfl,O1,?_,(HK.out.mono (by simp)).trans hk1 (fun i hi=>.inl hi),fun i hi=>?_⟩
 ·have h2:=hA1.less (m':=m) (by omega);simp only [aB] at h2;exact h2
 ·rcases hn1 i hi with h1 | h1
  ·exact .inl h1
  ·exact .inr (by omega)
theorem rU (p:Nat) (w:World) (O:List Nat) (s:List Int × Int) (m:Nat) (v:Vt) (u:Value) (hx:bX O w v u) (hk:v.c=13) (g_m:aj v.m=true) (hch:fh v=true) (hA:co p w O s (m+7000)) :
 Calls Tryz.prog 30 #[.pointer (some ⟨p,0,none⟩),bS v u] w (fI p w O (aK s (ag 13++(ag v.m))) m):=by
 obtain ⟨uo,un,uc,KK,rfl,hKD,hKK⟩:=hx.u;have k1:ab [] w (w.alloc (.cells #[.int .i64 v.c,.int .i64 v.s,.int .i64 v.r,.string (ac v.p),.int .u64 v.d,.slice uo un uc,.int .i64 v.m] 34)):=(ab.refl _ _).alloc _;obtain ⟨W,hW⟩:∃ W,W=w.alloc (.cells #[.int .i64 v.c,.int .i64 v.s,.int .i64 v.r,.string (ac v.p),.int .u64 v.d,.slice uo un uc,.int .i64 v.m] 34):=⟨_,rfl⟩;rw [← hW] at k1;have HW:=aa hW;have HB:Hid (Bx W w.heap.size 34 (ak v (.slice uo un uc))):=by rw [hW];exact Bx.new w _ (ak v (.slice uo un uc))
 have HT:Hid (av Tryz.prog 34 (ak v (.slice uo un uc)).length):=am;have HSz:Hid (W.heap.size=w.heap.size+1):=by rw [hW];show _=_;simp
 have HO:=aa hA.lt;have HA:=aa (hA.kept k1 (by simp));have HK:=aa k1;have HKD:=aa (hKD.on (k1.mono (by simp)) (O':=O) (fun k hk=>.inl hk));have HKK:=aa hKK
 have cC:Calls Tryz.prog 40 #[.agg (ak v (.slice uo un uc)).toArray] W fun e w'=>e=.returned (.bool true)∧ab [] W w':=by
  have h:=cl W v _ (hx.ko.kept k1);rw [hch] at h;exact h
 have HC:=aa cC;have HKc:=aa hk;clear hW k1 hA hx hch cC hKD hKK hk;unfold bS;go_enter Tryz.func30,Tryz.ntmps30;go_upto_region 1 with fail
 rw [← HW.out];go_upto_region 3 with (first | ((with_reducible refine ai HB.out HT.out ?_ ?_);rfl) | (go_at_call 40;refine HC.out.mono ?_;clear HC;rintro _ w1 ⟨rfl,hk1⟩;have HK1:=aa hk1;clear hk1))
 have hno:w.heap.size ∉ O:=fun hm=>by have:=HO.out _ hm;omega
 have hlt:w.heap.size < W.heap.size:=by rw [HSz.out];omega
 have HB1:Hid (WB p W O w.heap.size 34 (ak v (.slice uo un uc)) s (m+7000) w1):=⟨⟨O,HA.out.kept HK1.out (by simp),HK1.out.mono (by simp),fun k hk=>.inl hk⟩,HB.out.kept HK1.out (by simp)⟩;have c0:w1.cell? ⟨w.heap.size,0,none⟩=some (.int .i64 13):=by rw [← HKc.out];exact HB1.out.2.cell 0 rfl
 have cN:=ay HB1.out hlt hno (fun O' _ _ h=>aD p w1 O' _ (m+6999) 13 (by decide) h);have HN:=aa cN;clear cN;go_wp2_with fail
 refine HN.out.mono ?_;clear HN;rintro _ w2 ⟨rfl,hB⟩;have HB2:=aa hB;clear hB c0;have c0:w2.cell? ⟨w.heap.size,0,none⟩=some (.int .i64 13):=by rw [← HKc.out];exact HB2.out.2.cell 0 rfl
 have cv:w2.cell? ⟨w.heap.size,6,none⟩=some (.int .i64 v.m):=HB2.out.2.cell 6 rfl;have cN:=ay HB2.out hlt hno (fun O' _ _ h=>aD p w2 O' _ (m+6998) v.m g_m h);have HN:=aa cN;clear cN;go_wp2_with fail
 refine HN.out.mono ?_;clear HN;rintro _ w3 ⟨rfl,hB⟩;have HB3:=aa hB;clear hB c0 cv;have c0:w3.cell? ⟨w.heap.size,0,none⟩=some (.int .i64 13):=by rw [← HKc.out];exact HB3.out.2.cell 0 rfl
 go_wp2_with fail
 go_end0
 obtain ⟨O1,hA1,hk1,hn1⟩:=HB3.out.1;refine ⟨rfl,O1,?_,(HK.out.mono (by simp)).trans hk1 (fun i hi=>.inl hi),fun i hi=>?_⟩
 ·have h2:=hA1.less (m':=m) (by omega);simp only [aB] at h2;exact h2
 ·rcases hn1 i hi with h1 | h1
  ·exact .inl h1
  ·exact .inr (by omega)
theorem ra (p:Nat) (w:World) (O:List Nat) (s:List Int × Int) (m:Nat) (v:Vt) (u:Value) (hx:bX O w v u) (hk:v.c=14) (g_m:aj v.m=true) (hch:fh v=true) (hA:co p w O s (m+7000)) :
 Calls Tryz.prog 30 #[.pointer (some ⟨p,0,none⟩),bS v u] w (fI p w O (aK s (ag 14++(ag v.m))) m):=by
 obtain ⟨uo,un,uc,KK,rfl,hKD,hKK⟩:=hx.u;have k1:ab [] w (w.alloc (.cells #[.int .i64 v.c,.int .i64 v.s,.int .i64 v.r,.string (ac v.p),.int .u64 v.d,.slice uo un uc,.int .i64 v.m] 34)):=(ab.refl _ _).alloc _;obtain ⟨W,hW⟩:∃ W,W=w.alloc (.cells #[.int .i64 v.c,.int .i64 v.s,.int .i64 v.r,.string (ac v.p),.int .u64 v.d,.slice uo un uc,.int .i64 v.m] 34):=⟨_,rfl⟩;rw [← hW] at k1;have HW:=aa hW;have HB:Hid (Bx W w.heap.size 34 (ak v (.slice uo un uc))):=by rw [hW];exact Bx.new w _ (ak v (.slice uo un uc))
 have HT:Hid (av Tryz.prog 34 (ak v (.slice uo un uc)).length):=am;have HSz:Hid (W.heap.size=w.heap.size+1):=by rw [hW];show _=_;simp
 have HO:=aa hA.lt;have HA:=aa (hA.kept k1 (by simp));have HK:=aa k1;have HKD:=aa (hKD.on (k1.mono (by simp)) (O':=O) (fun k hk=>.inl hk));have HKK:=aa hKK
 have cC:Calls Tryz.prog 40 #[.agg (ak v (.slice uo un uc)).toArray] W fun e w'=>e=.returned (.bool true)∧ab [] W w':=by
  have h:=cl W v _ (hx.ko.kept k1);rw [hch] at h;exact h
 have HC:=aa cC;have HKc:=aa hk;clear hW k1 hA hx hch cC hKD hKK hk;unfold bS;go_enter Tryz.func30,Tryz.ntmps30;go_upto_region 1 with fail
 rw [← HW.out];go_upto_region 3 with (first | ((with_reducible refine ai HB.out HT.out ?_ ?_);rfl) | (go_at_call 40;refine HC.out.mono ?_;clear HC;rintro _ w1 ⟨rfl,hk1⟩;have HK1:=aa hk1;clear hk1))
 have hno:w.heap.size ∉ O:=fun hm=>by have:=HO.out _ hm;omega
 have hlt:w.heap.size < W.heap.size:=by rw [HSz.out];omega
 have HB1:Hid (WB p W O w.heap.size 34 (ak v (.slice uo un uc)) s (m+7000) w1):=⟨⟨O,HA.out.kept HK1.out (by simp),HK1.out.mono (by simp),fun k hk=>.inl hk⟩,HB.out.kept HK1.out (by simp)⟩;have c0:w1.cell? ⟨w.heap.size,0,none⟩=some (.int .i64 14):=by rw [← HKc.out];exact HB1.out.2.cell 0 rfl
 have cN:=ay HB1.out hlt hno (fun O' _ _ h=>aD p w1 O' _ (m+6999) 14 (by decide) h);have HN:=aa cN;clear cN;go_wp2_with fail
 refine HN.out.mono ?_;clear HN;rintro _ w2 ⟨rfl,hB⟩;have HB2:=aa hB;clear hB c0;have c0:w2.cell? ⟨w.heap.size,0,none⟩=some (.int .i64 14):=by rw [← HKc.out];exact HB2.out.2.cell 0 rfl
 have cv:w2.cell? ⟨w.heap.size,6,none⟩=some (.int .i64 v.m):=HB2.out.2.cell 6 rfl;have cN:=ay HB2.out hlt hno (fun O' _ _ h=>aD p w2 O' _ (m+6998) v.m g_m h);have HN:=aa cN;clear cN;go_wp2_with fail
 refine HN.out.mono ?_;clear HN;rintro _ w3 ⟨rfl,hB⟩;have HB3:=aa hB;clear hB c0 cv;have c0:w3.cell? ⟨w.heap.size,0,none⟩=some (.int .i64 14):=by rw [← HKc.out];exact HB3.out.2.cell 0 rfl
 go_wp2_with fail
 go_end0
 obtain ⟨O1,hA1,hk1,hn1⟩:=HB3.out.1;refine ⟨rfl,O1,?_,(HK.out.mono (by simp)).trans hk1 (fun i hi=>.inl hi),fun i hi=>?_⟩
 ·have h2:=hA1.less (m':=m) (by omega);simp only [aB] at h2;exact h2
 ·rcases hn1 i hi with h1 | h1
  ·exact .inl h1
  ·exact .inr (by omega)
theorem uq (p:Nat) (w:World) (O:List Nat) (s:List Int × Int) (m:Nat) (v:Vt) (u:Value) (hx:bX O w v u) (hk:v.c=0) (hch:fh v=true) (hA:co p w O s (m+7000)) :
 Calls Tryz.prog 30 #[.pointer (some ⟨p,0,none⟩),bS v u] w (fI p w O (aK s (ag 0)) m):=by
 obtain ⟨uo,un,uc,KK,rfl,hKD,hKK⟩:=hx.u;have k1:ab [] w (w.alloc (.cells #[.int .i64 v.c,.int .i64 v.s,.int .i64 v.r,.string (ac v.p),.int .u64 v.d,.slice uo un uc,.int .i64 v.m] 34)):=(ab.refl _ _).alloc _;obtain ⟨W,hW⟩:∃ W,W=w.alloc (.cells #[.int .i64 v.c,.int .i64 v.s,.int .i64 v.r,.string (ac v.p),.int .u64 v.d,.slice uo un uc,.int .i64 v.m] 34):=⟨_,rfl⟩;rw [← hW] at k1;have HW:=aa hW;have HB:Hid (Bx W w.heap.size 34 (ak v (.slice uo un uc))):=by rw [hW];exact Bx.new w _ (ak v (.slice uo un uc))
 have HT:Hid (av Tryz.prog 34 (ak v (.slice uo un uc)).length):=am;have HSz:Hid (W.heap.size=w.heap.size+1):=by rw [hW];show _=_;simp
 have HO:=aa hA.lt;have HA:=aa (hA.kept k1 (by simp));have HK:=aa k1;have HKD:=aa (hKD.on (k1.mono (by simp)) (O':=O) (fun k hk=>.inl hk));have HKK:=aa hKK
 have cC:Calls Tryz.prog 40 #[.agg (ak v (.slice uo un uc)).toArray] W fun e w'=>e=.returned (.bool true)∧ab [] W w':=by
  have h:=cl W v _ (hx.ko.kept k1);rw [hch] at h;exact h
 have HC:=aa cC;have HKc:=aa hk;clear hW k1 hA hx hch cC hKD hKK hk;unfold bS;go_enter Tryz.func30,Tryz.ntmps30;go_upto_region 1 with fail
 rw [← HW.out];go_upto_region 3 with (first | ((with_reducible refine ai HB.out HT.out ?_ ?_);rfl) | (go_at_call 40;refine HC.out.mono ?_;clear HC;rintro _ w1 ⟨rfl,hk1⟩;have HK1:=aa hk1;clear hk1))
 have hno:w.heap.size ∉ O:=fun hm=>by have:=HO.out _ hm;omega
 have hlt:w.heap.size < W.heap.size:=by rw [HSz.out];omega
 have HB1:Hid (WB p W O w.heap.size 34 (ak v (.slice uo un uc)) s (m+7000) w1):=⟨⟨O,HA.out.kept HK1.out (by simp),HK1.out.mono (by simp),fun k hk=>.inl hk⟩,HB.out.kept HK1.out (by simp)⟩;have c0:w1.cell? ⟨w.heap.size,0,none⟩=some (.int .i64 0):=by rw [← HKc.out];exact HB1.out.2.cell 0 rfl
 have cN:=ay HB1.out hlt hno (fun O' _ _ h=>aD p w1 O' _ (m+6999) 0 (by decide) h);have HN:=aa cN;clear cN;go_wp2_with fail
 refine HN.out.mono ?_;clear HN;rintro _ w2 ⟨rfl,hB⟩;have HB2:=aa hB;clear hB c0;have c0:w2.cell? ⟨w.heap.size,0,none⟩=some (.int .i64 0):=by rw [← HKc.out];exact HB2.out.2.cell 0 rfl
 go_wp2_with fail
 go_end0
 obtain ⟨O1,hA1,hk1,hn1⟩:=HB2.out.1;refine ⟨rfl,O1,?_,(HK.out.mono (by simp)).trans hk1 (fun i hi=>.inl hi),fun i hi=>?_⟩
 ·have h2:=hA1.less (m':=m) (by omega);exact h2
 ·rcases hn1 i hi with h1 | h1
  ·exact .inl h1
  ·exact .inr (by omega)
theorem tF (p:Nat) (w:World) (O:List Nat) (s:List Int × Int) (m:Nat) (v:Vt) (u:Value) (hx:bX O w v u) (hk:v.c=5) (hch:fh v=true) (hA:co p w O s (m+7000)) :
 Calls Tryz.prog 30 #[.pointer (some ⟨p,0,none⟩),bS v u] w (fI p w O (aK s (ag 5)) m):=by
 obtain ⟨uo,un,uc,KK,rfl,hKD,hKK⟩:=hx.u;have k1:ab [] w (w.alloc (.cells #[.int .i64 v.c,.int .i64 v.s,.int .i64 v.r,.string (ac v.p),.int .u64 v.d,.slice uo un uc,.int .i64 v.m] 34)):=(ab.refl _ _).alloc _;obtain ⟨W,hW⟩:∃ W,W=w.alloc (.cells #[.int .i64 v.c,.int .i64 v.s,.int .i64 v.r,.string (ac v.p),.int .u64 v.d,.slice uo un uc,.int .i64 v.m] 34):=⟨_,rfl⟩;rw [← hW] at k1;have HW:=aa hW;have HB:Hid (Bx W w.heap.size 34 (ak v (.slice uo un uc))):=by rw [hW];exact Bx.new w _ (ak v (.slice uo un uc))
 have HT:Hid (av Tryz.prog 34 (ak v (.slice uo un uc)).length):=am;have HSz:Hid (W.heap.size=w.heap.size+1):=by rw [hW];show _=_;simp
 have HO:=aa hA.lt;have HA:=aa (hA.kept k1 (by simp));have HK:=aa k1;have HKD:=aa (hKD.on (k1.mono (by simp)) (O':=O) (fun k hk=>.inl hk));have HKK:=aa hKK
 have cC:Calls Tryz.prog 40 #[.agg (ak v (.slice uo un uc)).toArray] W fun e w'=>e=.returned (.bool true)∧ab [] W w':=by
  have h:=cl W v _ (hx.ko.kept k1);rw [hch] at h;exact h
 have HC:=aa cC;have HKc:=aa hk;clear hW k1 hA hx hch cC hKD hKK hk;unfold bS;go_enter Tryz.func30,Tryz.ntmps30;go_upto_region 1 with fail
 rw [← HW.out];go_upto_region 3 with (first | ((with_reducible refine ai HB.out HT.out ?_ ?_);rfl) | (go_at_call 40;refine HC.out.mono ?_;clear HC;rintro _ w1 ⟨rfl,hk1⟩;have HK1:=aa hk1;clear hk1))
 have hno:w.heap.size ∉ O:=fun hm=>by have:=HO.out _ hm;omega
 have hlt:w.heap.size < W.heap.size:=by rw [HSz.out];omega
 have HB1:Hid (WB p W O w.heap.size 34 (ak v (.slice uo un uc)) s (m+7000) w1):=⟨⟨O,HA.out.kept HK1.out (by simp),HK1.out.mono (by simp),fun k hk=>.inl hk⟩,HB.out.kept HK1.out (by simp)⟩;have c0:w1.cell? ⟨w.heap.size,0,none⟩=some (.int .i64 5):=by rw [← HKc.out];exact HB1.out.2.cell 0 rfl
 have cN:=ay HB1.out hlt hno (fun O' _ _ h=>aD p w1 O' _ (m+6999) 5 (by decide) h);have HN:=aa cN;clear cN;go_wp2_with fail
 refine HN.out.mono ?_;clear HN;rintro _ w2 ⟨rfl,hB⟩;have HB2:=aa hB;clear hB c0;have c0:w2.cell? ⟨w.heap.size,0,none⟩=some (.int .i64 5):=by rw [← HKc.out];exact HB2.out.2.cell 0 rfl
 go_wp2_with fail
 go_end0
 obtain ⟨O1,hA1,hk1,hn1⟩:=HB2.out.1;refine ⟨rfl,O1,?_,(HK.out.mono (by simp)).trans hk1 (fun i hi=>.inl hi),fun i hi=>?_⟩
 ·have h2:=hA1.less (m':=m) (by omega);exact h2
 ·rcases hn1 i hi with h1 | h1
  ·exact .inl h1
  ·exact .inr (by omega)
theorem tW (p:Nat) (w:World) (O:List Nat) (s:List Int × Int) (m:Nat) (v:Vt) (u:Value) (hx:bX O w v u) (hk:v.c=6) (hch:fh v=true) (hA:co p w O s (m+7000)) :
 Calls Tryz.prog 30 #[.pointer (some ⟨p,0,none⟩),bS v u] w (fI p w O (aK s (ag 6)) m):=by
 obtain ⟨uo,un,uc,KK,rfl,hKD,hKK⟩:=hx.u;have k1:ab [] w (w.alloc (.cells #[.int .i64 v.c,.int .i64 v.s,.int .i64 v.r,.string (ac v.p),.int .u64 v.d,.slice uo un uc,.int .i64 v.m] 34)):=(ab.refl _ _).alloc _;obtain ⟨W,hW⟩:∃ W,W=w.alloc (.cells #[.int .i64 v.c,.int .i64 v.s,.int .i64 v.r,.string (ac v.p),.int .u64 v.d,.slice uo un uc,.int .i64 v.m] 34):=⟨_,rfl⟩;rw [← hW] at k1;have HW:=aa hW;have HB:Hid (Bx W w.heap.size 34 (ak v (.slice uo un uc))):=by rw [hW];exact Bx.new w _ (ak v (.slice uo un uc))
 have HT:Hid (av Tryz.prog 34 (ak v (.slice uo un uc)).length):=am;have HSz:Hid (W.heap.size=w.heap.size+1):=by rw [hW];show _=_;simp
 have HO:=aa hA.lt;have HA:=aa (hA.kept k1 (by simp));have HK:=aa k1;have HKD:=aa (hKD.on (k1.mono (by simp)) (O':=O) (fun k hk=>.inl hk));have HKK:=aa hKK
 have cC:Calls Tryz.prog 40 #[.agg (ak v (.slice uo un uc)).toArray] W fun e w'=>e=.returned (.bool true)∧ab [] W w':=by
  have h:=cl W v _ (hx.ko.kept k1);rw [hch] at h;exact h
 have HC:=aa cC;have HKc:=aa hk;clear hW k1 hA hx hch cC hKD hKK hk;unfold bS;go_enter Tryz.func30,Tryz.ntmps30;go_upto_region 1 with fail
 rw [← HW.out];go_upto_region 3 with (first | ((with_reducible refine ai HB.out HT.out ?_ ?_);rfl) | (go_at_call 40;refine HC.out.mono ?_;clear HC;rintro _ w1 ⟨rfl,hk1⟩;have HK1:=aa hk1;clear hk1))
 have hno:w.heap.size ∉ O:=fun hm=>by have:=HO.out _ hm;omega
 have hlt:w.heap.size < W.heap.size:=by rw [HSz.out];omega
 have HB1:Hid (WB p W O w.heap.size 34 (ak v (.slice uo un uc)) s (m+7000) w1):=⟨⟨O,HA.out.kept HK1.out (by simp),HK1.out.mono (by simp),fun k hk=>.inl hk⟩,HB.out.kept HK1.out (by simp)⟩;have c0:w1.cell? ⟨w.heap.size,0,none⟩=some (.int .i64 6):=by rw [← HKc.out];exact HB1.out.2.cell 0 rfl
 have cN:=ay HB1.out hlt hno (fun O' _ _ h=>aD p w1 O' _ (m+6999) 6 (by decide) h);have HN:=aa cN;clear cN;go_wp2_with fail
 refine HN.out.mono ?_;clear HN;rintro _ w2 ⟨rfl,hB⟩;have HB2:=aa hB;clear hB c0;have c0:w2.cell? ⟨w.heap.size,0,none⟩=some (.int .i64 6):=by rw [← HKc.out];exact HB2.out.2.cell 0 rfl
 go_wp2_with fail
 go_end0
 obtain ⟨O1,hA1,hk1,hn1⟩:=HB2.out.1;refine ⟨rfl,O1,?_,(HK.out.mono (by simp)).trans hk1 (fun i hi=>.inl hi),fun i hi=>?_⟩
 ·have h2:=hA1.less (m':=m) (by omega);exact h2
 ·rcases hn1 i hi with h1 | h1
  ·exact .inl h1
  ·exact .inr (by omega)
theorem uj (p:Nat) (w:World) (O:List Nat) (s:List Int × Int) (m:Nat) (v:Vt) (u:Value) (hx:bX O w v u) (hk:v.c=7) (hch:fh v=true) (hA:co p w O s (m+7000)) :
 Calls Tryz.prog 30 #[.pointer (some ⟨p,0,none⟩),bS v u] w (fI p w O (aK s (ag 7)) m):=by
 obtain ⟨uo,un,uc,KK,rfl,hKD,hKK⟩:=hx.u;have k1:ab [] w (w.alloc (.cells #[.int .i64 v.c,.int .i64 v.s,.int .i64 v.r,.string (ac v.p),.int .u64 v.d,.slice uo un uc,.int .i64 v.m] 34)):=(ab.refl _ _).alloc _;obtain ⟨W,hW⟩:∃ W,W=w.alloc (.cells #[.int .i64 v.c,.int .i64 v.s,.int .i64 v.r,.string (ac v.p),.int .u64 v.d,.slice uo un uc,.int .i64 v.m] 34):=⟨_,rfl⟩;rw [← hW] at k1;have HW:=aa hW;have HB:Hid (Bx W w.heap.size 34 (ak v (.slice uo un uc))):=by rw [hW];exact Bx.new w _ (ak v (.slice uo un uc))
 have HT:Hid (av Tryz.prog 34 (ak v (.slice uo un uc)).length):=am;have HSz:Hid (W.heap.size=w.heap.size+1):=by rw [hW];show _=_;simp
 have HO:=aa hA.lt;have HA:=aa (hA.kept k1 (by simp));have HK:=aa k1;have HKD:=aa (hKD.on (k1.mono (by simp)) (O':=O) (fun k hk=>.inl hk));have HKK:=aa hKK
 have cC:Calls Tryz.prog 40 #[.agg (ak v (.slice uo un uc)).toArray] W fun e w'=>e=.returned (.bool true)∧ab [] W w':=by
  have h:=cl W v _ (hx.ko.kept k1);rw [hch] at h;exact h
 have HC:=aa cC;have HKc:=aa hk;clear hW k1 hA hx hch cC hKD hKK hk;unfold bS;go_enter Tryz.func30,Tryz.ntmps30;go_upto_region 1 with fail
 rw [← HW.out];go_upto_region 3 with (first | ((with_reducible refine ai HB.out HT.out ?_ ?_);rfl) | (go_at_call 40;refine HC.out.mono ?_;clear HC;rintro _ w1 ⟨rfl,hk1⟩;have HK1:=aa hk1;clear hk1))
 have hno:w.heap.size ∉ O:=fun hm=>by have:=HO.out _ hm;omega
 have hlt:w.heap.size < W.heap.size:=by rw [HSz.out];omega
 have HB1:Hid (WB p W O w.heap.size 34 (ak v (.slice uo un uc)) s (m+7000) w1):=⟨⟨O,HA.out.kept HK1.out (by simp),HK1.out.mono (by simp),fun k hk=>.inl hk⟩,HB.out.kept HK1.out (by simp)⟩;have c0:w1.cell? ⟨w.heap.size,0,none⟩=some (.int .i64 7):=by rw [← HKc.out];exact HB1.out.2.cell 0 rfl
 have cN:=ay HB1.out hlt hno (fun O' _ _ h=>aD p w1 O' _ (m+6999) 7 (by decide) h);have HN:=aa cN;clear cN;go_wp2_with fail
 refine HN.out.mono ?_;clear HN;rintro _ w2 ⟨rfl,hB⟩;have HB2:=aa hB;clear hB c0;have c0:w2.cell? ⟨w.heap.size,0,none⟩=some (.int .i64 7):=by rw [← HKc.out];exact HB2.out.2.cell 0 rfl
 go_wp2_with fail
 go_end0
 obtain ⟨O1,hA1,hk1,hn1⟩:=HB2.out.1;refine ⟨rfl,O1,?_,(HK.out.mono (by simp)).trans hk1 (fun i hi=>.inl hi),fun i hi=>?_⟩
 ·have h2:=hA1.less (m':=m) (by omega);exact h2
 ·rcases hn1 i hi with h1 | h1
  ·exact .inl h1
  ·exact .inr (by omega)
theorem qQ (p:Nat) (w:World) (O:List Nat) (s:List Int × Int) (m:Nat) (v:Vt) (u:Value) (hx:bX O w v u) (hch:fh v=false) (hA:co p w O s (m+7000)) :
 Calls Tryz.prog 30 #[.pointer (some ⟨p,0,none⟩),bS v u] w (fI p w O (ne s) m):=by
 obtain ⟨uo,un,uc,KK,rfl,hKD,hKK⟩:=hx.u;have k1:ab [] w (w.alloc (.cells #[.int .i64 v.c,.int .i64 v.s,.int .i64 v.r,.string (ac v.p),.int .u64 v.d,.slice uo un uc,.int .i64 v.m] 34)):=(ab.refl _ _).alloc _;obtain ⟨W,hW⟩:∃ W,W=w.alloc (.cells #[.int .i64 v.c,.int .i64 v.s,.int .i64 v.r,.string (ac v.p),.int .u64 v.d,.slice uo un uc,.int .i64 v.m] 34):=⟨_,rfl⟩;rw [← hW] at k1;have HW:=aa hW;have HB:Hid (Bx W w.heap.size 34 (ak v (.slice uo un uc))):=by rw [hW];exact Bx.new w _ (ak v (.slice uo un uc))
 have HT:Hid (av Tryz.prog 34 (ak v (.slice uo un uc)).length):=am;have HSz:Hid (W.heap.size=w.heap.size+1):=by rw [hW];show _=_;simp
 have HO:=aa hA.lt;have HA:=aa (hA.kept k1 (by simp));have HK:=aa k1;have HKD:=aa (hKD.on (k1.mono (by simp)) (O':=O) (fun k hk=>.inl hk));have HKK:=aa hKK
 have cC:Calls Tryz.prog 40 #[.agg (ak v (.slice uo un uc)).toArray] W fun e w'=>e=.returned (.bool false)∧ab [] W w':=by
  have h:=cl W v _ (hx.ko.kept k1);rw [hch] at h;exact h
 have HC:=aa cC;clear hW k1 hA hx hch cC hKD hKK;unfold bS;go_enter Tryz.func30,Tryz.ntmps30;go_upto_region 1 with fail
 rw [← HW.out];go_upto_region 2 with (first | ((with_reducible refine ai HB.out HT.out ?_ ?_);rfl) | (go_at_call 40;refine HC.out.mono ?_;clear HC;rintro _ w1 ⟨rfl,hk1⟩;have HK1:=aa hk1;clear hk1))
 have HN:=aa (ls p w1 O s (m+7000) (HA.out.kept HK1.out (by simp)));clear HKD HKK;go_wp2_with fail
 refine HN.out.mono ?_;clear HN;rintro _ w2 ⟨rfl,hW2⟩;have HW2:=aa hW2;clear hW2;go_wp2_with fail
 go_end0
 obtain ⟨O1,hA1,hk1,hn1⟩:=HW2.out;refine ⟨rfl,O1,hA1.less (by omega),(((HK.out.trans HK1.out (by simp)).mono (by simp)).trans hk1 (fun i hi=>.inl hi)),fun i hi=>?_⟩;rcases hn1 i hi with h1 | h1
 ·exact .inl h1
 ·exact .inr (by have:=HK.out.size;have:=HK1.out.size;omega)
def x8 (p:Nat) (W:World) (O:List Nat) (b:Nat) (cs:List Value) (s:List Int × Int) (m n:Nat) (L:List ch) (iv:Value) (wr:World):Prop :=
 ∃ i:Nat,iv=.int .i64 (i:Int)∧i≤n∧Hid (WB p W O b 34 cs (aK s (ag 11++(ag n++(L.take i).flatMap bK))) (m+6998 - 203*i) wr)
theorem rf (p:Nat) (w:World) (O:List Nat) (s:List Int × Int) (m:Nat) (v:Vt) (u:Value) (hx:bX O w v u) (hk:v.c=11) (hks:gu v.k) (hch:fh v=true) (hA:co p w O s (m+7000)) :
 Calls Tryz.prog 30 #[.pointer (some ⟨p,0,none⟩),bS v u] w (fI p w O (aK s (ag 11++qy v.k)) m):=by
 obtain ⟨uo,un,uc,KK,rfl,hKD,hKK⟩:=hx.u;have k1:ab [] w (w.alloc (.cells #[.int .i64 v.c,.int .i64 v.s,.int .i64 v.r,.string (ac v.p),.int .u64 v.d,.slice uo un uc,.int .i64 v.m] 34)):=(ab.refl _ _).alloc _;obtain ⟨W,hW⟩:∃ W,W=w.alloc (.cells #[.int .i64 v.c,.int .i64 v.s,.int .i64 v.r,.string (ac v.p),.int .u64 v.d,.slice uo un uc,.int .i64 v.m] 34):=⟨_,rfl⟩;rw [← hW] at k1;have HW:=aa hW;have HB:Hid (Bx W w.heap.size 34 (ak v (.slice uo un uc))):=by rw [hW];exact Bx.new w _ (ak v (.slice uo un uc))
 have HT:Hid (av Tryz.prog 34 (ak v (.slice uo un uc)).length):=am;have HSz:Hid (W.heap.size=w.heap.size+1):=by rw [hW];show _=_;simp
 have HO:=aa hA.lt;have HA:=aa (hA.kept k1 (by simp));have HK:=aa k1;have HKD:=aa (hKD.on (k1.mono (by simp)) (O':=O) (fun k hk=>.inl hk));have HKK:=aa hKK
 have cC:Calls Tryz.prog 40 #[.agg (ak v (.slice uo un uc)).toArray] W fun e w'=>e=.returned (.bool true)∧ab [] W w':=by
  have h:=cl W v _ (hx.ko.kept k1);rw [hch] at h;exact h
 have HC:=aa cC;have HKc:=aa hk;have HOK:=aa hks;have h32:=hks.1;have hlk:v.k.length=un:=by rw [← hKK,List.length_map,hKD.1]
 have hum:=hKD.2.2.1;have huc:=hKD.2.1;unfold maxLen at hum;have HBB:Hid (qy v.k=ag un++v.k.flatMap bK):=by show qy v.k=_;unfold qy bL;rw [if_pos h32,hlk]
 clear hW k1 hA hx hch cC hKD hKK hk hks;unfold bS;go_enter Tryz.func30,Tryz.ntmps30;go_upto_region 1 with fail
 rw [← HW.out];go_upto_region 3 with (first | ((with_reducible refine ai HB.out HT.out ?_ ?_);rfl) | (go_at_call 40;refine HC.out.mono ?_;clear HC;rintro _ w1 ⟨rfl,hk1⟩;have HK1:=aa hk1;clear hk1))
 have hno:w.heap.size ∉ O:=fun hm=>by have:=HO.out _ hm;omega
 have hlt:w.heap.size < W.heap.size:=by rw [HSz.out];omega
 have HB1:Hid (WB p W O w.heap.size 34 (ak v (.slice uo un uc)) s (m+7000) w1):=⟨⟨O,HA.out.kept HK1.out (by simp),HK1.out.mono (by simp),fun k hk=>.inl hk⟩,HB.out.kept HK1.out (by simp)⟩;have c0:w1.cell? ⟨w.heap.size,0,none⟩=some (.int .i64 11):=by rw [← HKc.out];exact HB1.out.2.cell 0 rfl
 have cN:=ay HB1.out hlt hno (fun O' _ _ h=>aD p w1 O' _ (m+6999) 11 (by decide) h);have HN:=aa cN;clear cN;go_wp2_with fail
 refine HN.out.mono ?_;clear HN;rintro _ w2 ⟨rfl,hB⟩;have HB2:=aa hB;clear hB c0;have c0:w2.cell? ⟨w.heap.size,0,none⟩=some (.int .i64 11):=by rw [← HKc.out];exact HB2.out.2.cell 0 rfl
 have cv:w2.cell? ⟨w.heap.size,5,none⟩=some (.slice uo un uc):=HB2.out.2.cell 5 rfl;have cN:=ay HB2.out hlt hno (fun O' _ _ h=>aD p w2 O' _ (m+6998) (un:Int) ((aG _).2 (by omega)) h);have HN:=aa cN;clear cN;go_wp2_with fail
 refine HN.out.mono ?_;clear HN;rintro _ w3 ⟨rfl,hB⟩
 have HB3:Hid (WB p W O w.heap.size 34 (ak v (.slice uo un uc)) (aK s (ag 11++(ag un++(v.k.take 0).flatMap bK))) (m+6998 - 203*0) w3):=by
  show WB _ _ _ _ _ _ _ _ _;rw [aB] at hB;simpa using hB
 clear hB c0 cv;go_wp2_with fail
 go_loopw [4] (fun iv wr=>x8 p W O w.heap.size (ak v (.slice uo un uc)) s m un v.k iv wr) (fun iv _=>un - (intOf iv).toNat)
 case atStart=>exact ⟨0,rfl,Nat.zero_le _,HB3⟩
 case round =>
  obtain ⟨i,rfl,hi,HR⟩:=hrel;have cr5:wr.cell? ⟨w.heap.size,5,none⟩=some (.slice uo un uc):=HR.out.2.cell 5 rfl;by_cases hlt2:i < un
  ·have hlt2':(i:Int) < un:=by omega
   have hic:i≤uc:=by omega
   have hiK:i < KK.length:=by rw [HKD.out.1];exact hlt2
   have hiL:i < v.k.length:=by omega
   obtain ⟨g,o,rfl,_⟩:=HKD.out.2.2.2.2.1 i hiK
   have HG:Hid (∀ (wq:World) (sq:List Int × Int) (mq:Nat),WB p W O w.heap.size 34 (ak v (.slice (some ⟨g,o,none⟩) un uc)) sq mq wq→mg wq g (o+i*4) KK[i]):=fun wq sq mq hq=>by
    obtain ⟨⟨O1,_,hk1,hn1⟩,_⟩:=hq;obtain ⟨b',o',e',h'⟩:=(HKD.out.on hk1 hn1).2.2.2.2.1 i hiK;cases e'
    exact h'
   have HH:Hid (∀ (wq:World) (O1:List Nat),ab O W wq→(∀ k∈O1,k∈O∨W.heap.size≤k)→ph O1 wq KK[i].2 KK[i].1.c):=fun wq O1 hk1 hn1=>(HKD.out.on hk1 hn1).2.2.2.2.2.2 _ (List.getElem_mem hiK)
   have hyc:v.k[i]=KK[i].1:=by
    have h1:(KK.map Prod.fst)[i]'(by simpa using hiK)=v.k[i]:=by simp only [HKK.out]
    rw [← h1];simp
   have hxo:=HOK.out.2 _ (List.getElem_mem hiL);have HF:=aa (kS bK v.k i hiL);rw [hyc] at hxo HF;obtain ⟨mo,mm,mc,e1,_⟩:=HKD.out.2.2.2.2.2.2 _ (List.getElem_mem hiK);generalize KK[i]=y at *;obtain ⟨y1,y2⟩:=y;simp only at e1 hxo HF HH;subst e1;obtain ⟨ho1,ho2,ho3,ho4⟩:=hxo;have e3:m+6998 - 203*i=m+6998 - 203*(i+1)+200+3:=by omega
   have hR:=HR.out;rw [e3] at hR;have HR0:=aa hR;clear hR e3 hyc;obtain ⟨x0,_,_,_⟩:=HG.out _ _ _ HR0.out;have cN:=ay HR0.out hlt hno (fun O' _ _ h=>aD p wr O' _ (m+6998 - 203*(i+1)+200+2) y1.r ho1 h);have HN:=aa cN;clear cN;go_upto_region 26 with (go_at_call 26;refine HN.out.mono ?_;clear HN;rintro _ w4 ⟨rfl,hB⟩;have HB4:=aa hB;clear hB)
   clear x0 cr5;have cr5:w4.cell? ⟨w.heap.size,5,none⟩=some (.slice (some ⟨g,o,none⟩) un uc):=HB4.out.2.cell 5 rfl;obtain ⟨_,x1,_,_⟩:=HG.out _ _ _ HB4.out;have cN:=ay HB4.out hlt hno (fun O' _ _ h=>aD p w4 O' _ (m+6998 - 203*(i+1)+200+1) y1.b ho2 h);have HN:=aa cN;clear cN;go_upto_region 27 with (go_at_call 26;refine HN.out.mono ?_;clear HN;rintro _ w5 ⟨rfl,hB⟩;have HB5:=aa hB;clear hB)
   clear x1 cr5;have cr5:w5.cell? ⟨w.heap.size,5,none⟩=some (.slice (some ⟨g,o,none⟩) un uc):=HB5.out.2.cell 5 rfl;obtain ⟨_,_,x2,_⟩:=HG.out _ _ _ HB5.out;have cN:=ay HB5.out hlt hno (fun O' _ _ h=>fk p w5 O' _ (m+6998 - 203*(i+1)+200) y1.n ho3 h);have HN:=aa cN;clear cN;go_upto_region 28 with (go_at_call 68;refine HN.out.mono ?_;clear HN;rintro _ w6 ⟨rfl,hB⟩;have HB6:=aa hB;clear hB)
   clear x2 cr5;have cr5:w6.cell? ⟨w.heap.size,5,none⟩=some (.slice (some ⟨g,o,none⟩) un uc):=HB6.out.2.cell 5 rfl;obtain ⟨_,_,_,x3⟩:=HG.out _ _ _ HB6.out
   have cN:=ay HB6.out hlt hno (fun O' hn hk h=>by
    obtain ⟨mo',n',c',e',hS',_,hd'⟩:=HH.out w6 O' hk hn;cases e'
    exact k9 p w6 O' _ (m+6998 - 203*(i+1)) mo mm mc y1.c hS' (fun h0 k hk=>(hd' h0 k hk).2) ho4 h)
   have HN:=aa cN
   have HFin:Hid (∀ wq,WB p W O w.heap.size 34 (ak v (.slice (some ⟨g,o,none⟩) un uc)) (aK (aK (aK (aK (aK s (ag 11++(ag un++(v.k.take i).flatMap bK))) (ag y1.r)) (ag y1.b)) (bT y1.n)) (np y1.c)) (m+6998 - 203*(i+1)) wq→WB p W O w.heap.size 34 (ak v (.slice (some ⟨g,o,none⟩) un uc)) (aK s (ag 11++(ag un++(v.k.take (i+1)).flatMap bK))) (m+6998 - 203*(i+1)) wq):=fun wq hq=>by
    rw [aB,aB,aB,aB] at hq;have e:bK y1=ag y1.r++ag y1.b++bT y1.n++np y1.c:=rfl;rw [HF.out,e];simpa [List.append_assoc] using hq
   clear cN;(go_wp2_with (go_at_call 69;refine HN.out.mono ?_;clear HN;rintro _ w7 ⟨rfl,hB⟩;have HB7:=aa (HFin.out _ hB);clear hB));go_roundw
   case rel=>exact ⟨i+1,by go_num,by omega,HB7⟩
   case measure=>simp [intOf];omega
  ·have hlt2':¬ (i:Int) < un:=by omega
   (go_wp2_with fail);go_end0
   obtain ⟨O1,hA1,hk1,hn1⟩:=HR.out.1;refine ⟨rfl,O1,?_,(HK.out.mono (by simp)).trans hk1 (fun i hi=>.inl hi),fun i hi=>?_⟩
   ·rw [List.take_of_length_le (by omega),← HBB.out] at hA1;exact hA1.less (by omega)
   ·rcases hn1 i hi with h1 | h1
    ·exact .inl h1
    ·exact .inr (by omega)
theorem nP (p:Nat) (w:World) (O:List Nat) (s:List Int × Int) (m:Nat) (v:Vt) (u:Value) (hx:bX O w v u) (hu:lU v) (hA:co p w O s (m+7000)) :
 Calls Tryz.prog 30 #[.pointer (some ⟨p,0,none⟩),bS v u] w (fI p w O (qN s v) m):=by
 unfold qN;by_cases hch:fh v=true
 rotate_left
 ·rw [if_neg hch];exact qQ p w O s m v u hx (by simpa using hch) hA
 rw [if_pos hch];have hok:=(mO v hu).1 hch;rw [i5 hok];obtain ⟨⟨hk0,hk14⟩,hf⟩:=hok;have hk0':=((aG _).1 hk0).1;unfold sn at hf;unfold bG;by_cases h1:v.c=1
 ·rw [if_pos h1] at hf ⊢;rw [h1];exact sU p w O s m v u hx h1 hf.1 hch hA
 rw [if_neg h1] at hf ⊢;by_cases h2:v.c=2∨v.c=4∨v.c=8
 ·rw [if_pos h2] at hf ⊢;rcases h2 with h2 | h2 | h2
  ·rw [h2];exact uF p w O s m v u hx h2 hf.1 hch hA
  ·rw [h2];exact ub p w O s m v u hx h2 hf.1 hch hA
  ·rw [h2];exact sS p w O s m v u hx h2 hf.1 hch hA
 rw [if_neg h2] at hf ⊢;by_cases h3:v.c=3
 ·rw [if_pos h3] at hf ⊢;rw [h3];exact tg p w O s m v u hx h3 hf.1.1 hf.1.2 hch hA
 rw [if_neg h3] at hf ⊢;by_cases h9:v.c=9
 ·rw [if_pos h9] at hf ⊢;rw [h9];exact tE p w O s m v u hx h9 hf.1.1 hf.1.2.2 hch hA
 rw [if_neg h9] at hf ⊢;by_cases h10:v.c=10
 ·rw [if_pos h10] at hf ⊢;rw [h10];exact qJ p w O s m v u hx h10 hf.1 hch hA
 rw [if_neg h10] at hf ⊢;by_cases h11:v.c=11
 ·rw [if_pos h11] at hf ⊢;rw [h11];exact rf p w O s m v u hx h11 hf.1 hch hA
 rw [if_neg h11] at hf ⊢;by_cases h12:v.c=12∨v.c=13∨v.c=14
 ·rw [if_pos h12] at hf ⊢;rcases h12 with h2 | h2 | h2
  ·rw [h2];exact rb p w O s m v u hx h2 hf.1 hch hA
  ·rw [h2];exact rU p w O s m v u hx h2 hf.1 hch hA
  ·rw [h2];exact ra p w O s m v u hx h2 hf.1 hch hA
 rw [if_neg h12,List.append_nil];have hor:v.c=0∨v.c=5∨v.c=6∨v.c=7:=by omega
 rcases hor with h | h | h | h
 ·rw [h];exact uq p w O s m v u hx h hch hA
 ·rw [h];exact tF p w O s m v u hx h hch hA
 ·rw [h];exact tW p w O s m v u hx h hch hA
 ·rw [h];exact uj p w O s m v u hx h hch hA
end Go.Proofs.YtakafmejllilnaaGreat
