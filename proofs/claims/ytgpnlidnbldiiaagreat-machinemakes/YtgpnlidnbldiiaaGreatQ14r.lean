/-
  Texts laid as one.
-/
import Derived.Test.YtgpnlidnbldiiaaGreatQ13r
import Derived.Test.YtgpnlidnbldiiaaGreatQ2r
set_option maxHeartbeats 8000000
set_option maxRecDepth 100000
/-
 New,All,Clone,Find,Ask.
-/
namespace Go.Proofs.YtgpnlidnbldiiaaGreat
open Go.RowKit
variable {P : Nat → Prop}
theorem fJ.keepT {w w':World}{b sz:Nat}{v:Value}{X:List (Se × Value)}{L:List Se}(h:fJ P w b sz v X L) {S:List Nat}{Ts:List TypeId}(k:aa S w w') (hT:aJ w S Ts) (h0:126 ∉ Ts) (h1:155 ∉ Ts) (h2:137 ∉ Ts) (h3:60 ∉ Ts):fJ P w' b sz v X L :=
 ⟨k.typed hT h.at_ h0,h.pos,h.row.typed k hT h1,fun x hx=>(h.own x hx).keep k hT h2 h3,h.ses⟩
def CD (w:World) (size:Int) (e:Ending) (w':World):Prop :=
 (1≤size∧size≤16∧e=.returned (.tuple #[.pointer (some ⟨w.heap.size,0,none⟩),.int .i64 0])∧w'=w.alloc (.cells #[.int .i64 size,.slice none 0 0] 126)) ∨
 (¬ (1≤size∧size≤16)∧e=.returned (.tuple #[.pointer none,.int .i64 1])∧w'=w)
theorem kX (w:World) (size:Int) :
 Calls Tryz.prog 30 #[.int .i64 size] w fun e w'=>CD w size e w':=by
 by_cases h1:size < 1
 ·go_enter Tryz.func30,Tryz.ntmps30;go_wp2
  go_ret2
  exact .inr ⟨by omega,rfl,rfl⟩
 ·by_cases h2:16 < size
  ·go_enter Tryz.func30,Tryz.ntmps30;go_wp2
   go_ret2
   exact .inr ⟨by omega,rfl,rfl⟩
  ·go_enter Tryz.func30,Tryz.ntmps30;go_wp2
   go_ret2
   exact .inl ⟨by omega,by omega,rfl,rfl⟩
theorem fJ.new (w:World) (sz:Nat) (h:1≤sz):fJ P (w.alloc (.cells #[.int .i64 sz,.slice none 0 0] 126)) w.heap.size sz (.slice none 0 0) [] [] :=
 ⟨heap_alloc_new w _,h,.inl ⟨rfl,rfl⟩,(fun _ hx=>by cases hx),rfl⟩
theorem ze {w:World}{b sz:Nat}{v:Value}{X:List (Se × Value)}{L:List Se}(h:fJ P w b sz v X L) (hl:L.length≤100000) (hok:∀ x∈L,jZ x) :
 Calls Tryz.prog 57 #[.pointer (some ⟨b,0,none⟩)] w fun e w'=>A9 w L e w':=by
 obtain ⟨c0,c1⟩:=h.cells;obtain ⟨ao,c,hv,hS⟩:=h.sl;subst hv;have cM:=dQ h;have cC:=jX w ao X.length c X L hS h.ses (by rw [h.len];exact hl) hok;clear hS h;go_enter Tryz.func57,Tryz.ntmps57;go_wp2_with fail
 refine cM.mono ?_;rintro _ W ⟨rfl,hW0⟩;obtain rfl:=hW0.symm;go_wp2_with fail
 refine cC.mono ?_;rintro _ w2 ⟨v2,X2,rfl,h1,h2,h3,h4⟩;go_wp2_with fail
 go_ret
 exact ⟨_,X2,rfl,h1,h2,h3,h4⟩
def D6 (P:Nat→Prop) (w:World) (b sz:Nat) (v:Value) (id seq:Int) (L:List Se) (e:Ending) (w':World):Prop :=
 ∃ u,e=.returned (.tuple #[gA (aZ id seq L).1 u,.bool (aZ id seq L).2])∧cw w.heap.size w' u (aZ id seq L).1.k∧BX P w b sz v (ct id L) w'
theorem ks {w w4 w5:World}{b sz:Nat}{v v4:Value}{X4:List (Se × Value)}{L4:List Se}{vs:Array Value}(hT:fJ P w4 b sz v4 X4 L4) (hK:aa [b] w w4) (hv:∀ k,v4.ownBlock=some k→v.ownBlock=some k∨w.heap.size≤k) (hKe:aa [w.heap.size] w4 w5) (hZ:w4.heap[w.heap.size]?=some (.cells vs 39 (0,0))):BX P w b sz v L4 w5 :=
 ⟨v4,X4,hT.keepT hKe (dw hZ) (by decide) (by decide) (by decide) (by decide),hK.trans hKe (fun k hk=>.inr (by simp at hk;omega)),hv⟩
theorem Ab {w:World}{b sz:Nat}{v:Value}{X:List (Se × Value)}{L:List Se}(h:fJ P w b sz v X L) (hl:L.length≤100000) (hok:∀ x∈L,jZ x) (id seq:Int) :
 Calls Tryz.prog 123 #[.pointer (some ⟨b,0,none⟩),.int .i64 id,.int .i64 seq] w fun e w'=>D6 P w b sz v id seq L e w':=by
 have hKz:aa [] w (w.alloc (.cells #[.int .i64 0,.int .i64 0,.int .i64 0,.string ⟨#[]⟩,.int .u64 0,.slice none 0 0,.int .i64 0] 39)):=(aa.refl [] w).alloc _;have HKz:=ah hKz;have HZ:=ah (heap_alloc_new w (.cells #[.int .i64 0,.int .i64 0,.int .i64 0,.string ⟨#[]⟩,.int .u64 0,.slice none 0 0,.int .i64 0] 39));have hT1:=h.kept hKz;have cM:=dQ hT1;have cI:=gI hT1 hl id;have HT:=ah h;have hblt:=aq h.at_;cases hI:ir id L with
 | none =>
   have HV:Hid (aZ id seq L=(cq 6,true)):=by show _=_;unfold aZ;rw [hI]
   have HLs:Hid (ct id L=L):=by show _=_;unfold ct;rw [hI]
   rw [hI] at cI;simp only [kI] at cI;clear hT1 h;go_enter Tryz.func123,Tryz.ntmps123;(go_wp2_with fail);refine cM.mono ?_;rintro _ W ⟨rfl,hW0⟩;obtain rfl:=hW0.symm;(go_wp2_with fail);refine cI.mono ?_;rintro _ w2 ⟨rfl,hK2⟩;obtain ⟨w4,hw4⟩:∃ w4,w4=w2:=⟨_,rfl⟩;rw [← hw4] at hK2 ⊢;have HZ4:=ah (hK2.at HZ.out (by simp));have HT4:=ah ((HT.out.kept HKz.out).kept hK2);have HK4:Hid (aa [b] w w4):=(HKz.out.trans hK2 (by simp)).mono (by simp);have HV4:Hid (∀ k,v.ownBlock=some k→v.ownBlock=some k∨w.heap.size≤k):=fun k hk=>.inl hk;clear hK2 cI cM hw4 hKz;have hZ4:=HZ4.out;have r0:=ag (k:=0) hZ4 rfl;have r1:=ag (k:=1) hZ4 rfl;have r2:=ag (k:=2) hZ4 rfl;have r3:=ag (k:=3) hZ4 rfl;have r4:=ag (k:=4) hZ4 rfl;have r5:=ag (k:=5) hZ4 rfl;have r6:=ag (k:=6) hZ4 rfl;have fr0:=aj hZ4 0;have fr1:=aj hZ4 1;have fr2:=aj hZ4 2;have fr3:=aj hZ4 3;have fr4:=aj hZ4 4;have fr5:=aj hZ4 5;have fr6:=aj hZ4 6;clear hZ4;(go_wp2_with fail);have HKe:=ah (az (aa.refl [w.heap.size] w4) (b:=w.heap.size) (by simp) (.int .i64 6) (.int .i64 0) (.int .i64 0) (.string ⟨#[]⟩) (.int .u64 0) (.slice none 0 0) (.int .i64 0));refine bodyPost_ret (fB (by rfl) _ (by rfl) (aD HZ4.out rfl _ _ _ _ _ _ _) rfl) rfl ?_;exact ⟨.slice none 0 0,by rw [HV.out];rfl,by rw [HV.out];exact cw.nil _ _,by rw [HLs.out];exact ks HT4.out HK4.out HV4.out HKe.out HZ4.out⟩
 | some i =>
   obtain ⟨hi,_⟩:=eo hI;have HLs:Hid (ct id L=fN L i):=by show _=_;unfold ct;rw [hI]
   have HV0:Hid (aZ id seq L=gN seq (L.getD i sJ)):=by show _=_;unfold aZ;rw [hI]
   have HOx:Hid (jZ (L.getD i sJ)):=by show jZ _;rw [cy hi];exact hok _ (List.getElem_mem hi)
   rw [hI] at cI;simp only [kI] at cI;have cU:=fun W (hk:aa [] (w.alloc (.cells #[.int .i64 0,.int .i64 0,.int .i64 0,.string ⟨#[]⟩,.int .u64 0,.slice none 0 0,.int .i64 0] 39)) W)=>rL (hT1.kept hk) hl i hi;unfold jN at cU;generalize L.getD i sJ=x at *;have hi0:¬ (i:Int) < 0:=by omega
   clear hT1 h;go_enter Tryz.func123,Tryz.ntmps123;(go_wp2_with fail);refine cM.mono ?_;rintro _ W ⟨rfl,hW0⟩;obtain rfl:=hW0.symm;(go_wp2_with fail);refine cI.mono ?_;rintro _ w2 ⟨rfl,hK2⟩;(go_wp2_with fail);refine (cU _ hK2).mono ?_;rintro _ w3 ⟨u3,rfl,hO3,v3,X3,hT3,hK3,hv3⟩;obtain ⟨a3,n3,c3,rfl⟩:=hO3.ko.one;have HK3:Hid (aa [b] w w3):=((HKz.out.trans hK2 (by simp)).mono (by simp)).trans hK3 (by simp);have HZ3:=ah (hK3.at (hK2.at HZ.out (by simp)) (by simp;omega));have HV3:Hid (∀ k,v3.ownBlock=some k→v.ownBlock=some k∨w.heap.size≤k):=fun k hk=>(hv3 k hk).imp (fun e=>e) (fun e=>Nat.le_trans (Nat.le_trans HKz.out.size hK2.size) e);obtain ⟨w4,hw4⟩:∃ w4,w4=w3.alloc (.cells #[.int .i64 x.i,.int .i64 x.q,.string (ak x.n),.int .i64 x.v.c,.int .i64 x.v.s,.int .i64 x.v.r,.string (ak x.v.p),.int .u64 x.v.d,.slice a3 n3 c3,.int .i64 x.v.m] 155):=⟨_,rfl⟩;have hKa:aa [] w3 w4:=by rw [hw4];exact (aa.refl _ _).alloc _
   have HB4:Hid (w4.heap[w3.heap.size]?=some (.cells #[.int .i64 x.i,.int .i64 x.q,.string (ak x.n),.int .i64 x.v.c,.int .i64 x.v.s,.int .i64 x.v.r,.string (ak x.v.p),.int .u64 x.v.d,.slice a3 n3 c3,.int .i64 x.v.m] 155 (0,0))):=by show _=_;rw [hw4];exact heap_alloc_new w3 _
   have HT4:=ah (hT3.kept hKa);have HZ4:=ah (hKa.at HZ3.out (by simp));have HK4:Hid (aa [b] w w4):=HK3.out.trans hKa (by simp);have HV4:=HV3;have HO4:=ah (hO3.kept hKa);clear hT3 hK3 hv3 hO3 hK2 cU cI cM hKa hKz;go_upto_region 7 with fail
   rw [← hw4];clear hw4;by_cases h1:seq < 1
   ·have HV:Hid (aZ id seq L=(cq 5,true)):=by show _=_;rw [HV0.out];unfold gN;rw [if_pos h1]
    have hZ4:=HZ4.out;have r0:=ag (k:=0) hZ4 rfl;have r1:=ag (k:=1) hZ4 rfl;have r2:=ag (k:=2) hZ4 rfl;have r3:=ag (k:=3) hZ4 rfl;have r4:=ag (k:=4) hZ4 rfl;have r5:=ag (k:=5) hZ4 rfl;have r6:=ag (k:=6) hZ4 rfl;have fr0:=aj hZ4 0;have fr1:=aj hZ4 1;have fr2:=aj hZ4 2;have fr3:=aj hZ4 3;have fr4:=aj hZ4 4;have fr5:=aj hZ4 5;have fr6:=aj hZ4 6;clear hZ4;(go_wp2_with fail);have HKe:=ah (az (aa.refl [w.heap.size] w4) (b:=w.heap.size) (by simp) (.int .i64 5) (.int .i64 0) (.int .i64 0) (.string ⟨#[]⟩) (.int .u64 0) (.slice none 0 0) (.int .i64 0));refine bodyPost_ret (fB (by rfl) _ (by rfl) (aD HZ4.out rfl _ _ _ _ _ _ _) rfl) rfl ?_;exact ⟨.slice none 0 0,by rw [HV.out];rfl,by rw [HV.out];exact cw.nil _ _,by rw [HLs.out];exact ks HT4.out HK4.out HV4.out HKe.out HZ4.out⟩
   ·have q1:=ag (k:=1) HB4.out rfl;by_cases h2:seq < x.q
    ·have HV:Hid (aZ id seq L=(cq 7,true)):=by show _=_;rw [HV0.out];unfold gN;rw [if_neg h1,if_pos h2]
     have hZ4:=HZ4.out;have r0:=ag (k:=0) hZ4 rfl;have r1:=ag (k:=1) hZ4 rfl;have r2:=ag (k:=2) hZ4 rfl;have r3:=ag (k:=3) hZ4 rfl;have r4:=ag (k:=4) hZ4 rfl;have r5:=ag (k:=5) hZ4 rfl;have r6:=ag (k:=6) hZ4 rfl;have fr0:=aj hZ4 0;have fr1:=aj hZ4 1;have fr2:=aj hZ4 2;have fr3:=aj hZ4 3;have fr4:=aj hZ4 4;have fr5:=aj hZ4 5;have fr6:=aj hZ4 6;clear hZ4;(go_wp2_with fail);have HKe:=ah (az (aa.refl [w.heap.size] w4) (b:=w.heap.size) (by simp) (.int .i64 7) (.int .i64 0) (.int .i64 0) (.string ⟨#[]⟩) (.int .u64 0) (.slice none 0 0) (.int .i64 0));refine bodyPost_ret (fB (by rfl) _ (by rfl) (aD HZ4.out rfl _ _ _ _ _ _ _) rfl) rfl ?_;exact ⟨.slice none 0 0,by rw [HV.out];rfl,by rw [HV.out];exact cw.nil _ _,by rw [HLs.out];exact ks HT4.out HK4.out HV4.out HKe.out HZ4.out⟩
    ·by_cases h3:seq=x.q
     ·have HV:Hid (aZ id seq L=(x.v,true)):=by show _=_;rw [HV0.out];unfold gN;rw [if_neg h1,if_neg h2,if_pos h3]
      have q3:=ag (k:=3) HB4.out rfl;have q4:=ag (k:=4) HB4.out rfl;have q5:=ag (k:=5) HB4.out rfl;have q6:=ag (k:=6) HB4.out rfl;have q7:=ag (k:=7) HB4.out rfl;have q8:=ag (k:=8) HB4.out rfl;have q9:=ag (k:=9) HB4.out rfl;have cV:=fu w4 x.v _ HO4.out.ko HOx.out.2;unfold gA at cV;have hsw:w.heap.size≤w4.heap.size:=HK4.out.size;(go_wp2_with fail);refine cV.mono ?_;rintro _ w5 ⟨u5,rfl,hO5,hK5⟩;obtain ⟨a5,n5,c5,rfl⟩:=hO5.ko.one;have HZ5:=ah (hK5.at HZ4.out (by simp));have HT5:=ah (HT4.out.kept hK5);have HK5:=ah (HK4.out.trans hK5 (by simp));have HO5:=ah (hO5.mono hsw);clear hO5 hK5 cV q1 q3 q4 q5 q6 q7 q8 q9;have hZ5:=HZ5.out;have r0:=ag (k:=0) hZ5 rfl;have r1:=ag (k:=1) hZ5 rfl;have r2:=ag (k:=2) hZ5 rfl;have r3:=ag (k:=3) hZ5 rfl;have r4:=ag (k:=4) hZ5 rfl;have r5:=ag (k:=5) hZ5 rfl;have r6:=ag (k:=6) hZ5 rfl;have fr0:=aj hZ5 0;have fr1:=aj hZ5 1;have fr2:=aj hZ5 2;have fr3:=aj hZ5 3;have fr4:=aj hZ5 4;have fr5:=aj hZ5 5;have fr6:=aj hZ5 6;clear hZ5;(go_wp2_with fail);have HKe:=ah (az (aa.refl [w.heap.size] w5) (b:=w.heap.size) (by simp) (.int .i64 x.v.c) (.int .i64 x.v.s) (.int .i64 x.v.r) (.string (ak x.v.p)) (.int .u64 x.v.d) (.slice a5 n5 c5) (.int .i64 x.v.m));refine bodyPost_ret (fB (by rfl) _ (by rfl) (aD HZ5.out rfl _ _ _ _ _ _ _) rfl) rfl ?_;exact ⟨_,by rw [HV.out];rfl,by rw [HV.out];exact HO5.out.keep HKe.out (dw HZ5.out) (by decide) (by decide),by rw [HLs.out];exact ks HT5.out HK5.out HV4.out HKe.out HZ5.out⟩
     ·have HV:Hid (aZ id seq L=(cq 0,false)):=by show _=_;rw [HV0.out];unfold gN;rw [if_neg h1,if_neg h2,if_neg h3]
      have hZ4:=HZ4.out;have r0:=ag (k:=0) hZ4 rfl;have r1:=ag (k:=1) hZ4 rfl;have r2:=ag (k:=2) hZ4 rfl;have r3:=ag (k:=3) hZ4 rfl;have r4:=ag (k:=4) hZ4 rfl;have r5:=ag (k:=5) hZ4 rfl;have r6:=ag (k:=6) hZ4 rfl;have fr0:=aj hZ4 0;have fr1:=aj hZ4 1;have fr2:=aj hZ4 2;have fr3:=aj hZ4 3;have fr4:=aj hZ4 4;have fr5:=aj hZ4 5;have fr6:=aj hZ4 6;clear hZ4;(go_wp2_with fail);have HKe:=ah (az (aa.refl [w.heap.size] w4) (b:=w.heap.size) (by simp) (.int .i64 0) (.int .i64 0) (.int .i64 0) (.string ⟨#[]⟩) (.int .u64 0) (.slice none 0 0) (.int .i64 0));refine bodyPost_ret (fB (by rfl) _ (by rfl) (aD HZ4.out rfl _ _ _ _ _ _ _) rfl) rfl ?_;exact ⟨.slice none 0 0,by rw [HV.out];rfl,by rw [HV.out];exact cw.nil _ _,by rw [HLs.out];exact ks HT4.out HK4.out HV4.out HKe.out HZ4.out⟩
end Go.Proofs.YtgpnlidnbldiiaaGreat
namespace Go.Proofs.YtgpnlidnbldiiaaGreat
open Go.RowKit
variable {P : Nat → Prop}
def BM (P:Nat→Prop) (w:World) (b sz:Nat) (v:Value) (id seq:Int) (d:Vt) (L:List Se) (e:Ending) (w':World):Prop :=
 e=.returned (.bool (dz id seq L).isSome)∧BX P w b sz v (bZ id seq d L) w'
theorem xV {α:Type}{X:List α}{i:Nat}(hi:i < X.length) (y:α):X.set i y=X.take i++[y]++X.drop (i+1):=by
 rw [List.set_eq_take_append_cons_drop,if_pos hi];simp
theorem kT {B:Nat}{w:World}{g n c:Nat}{X:List (Se × Value)}(h:bp B w (.slice (some ⟨g,0,none⟩) n c) X):n≤c:=by
 rcases h.t with ⟨h,_⟩ | ⟨g',c',cur,hv,_,h1,_⟩
 ·cases h
 ·obtain ⟨_,rfl,rfl⟩:g=g'∧n=X.length∧c=c':=by simpa using hv
  exact h1
theorem eJ {B:Nat}{w:World}{v:Value}{X:List (Se × Value)}(h:bp B w v X) (hp:0 < X.length):∃ g n c,v=.slice (some ⟨g,0,none⟩) n c:=by
 obtain ⟨g,c,he,_⟩:=World.ownsRow.form h hp;exact ⟨g,_,c,he⟩
theorem eP {w w5 w8:World}{b sz i g n c:Nat}{v:Value}{X8:List (Se × Value)}{id seq:Int}{d:Vt}{L:List Se}(hD:dz id seq L=some i) (hT:fJ P w8 b sz (.slice (some ⟨g,0,none⟩) n c) X8 (bZ id seq d L)) (hK5:aa [] w w5) (hK8:aa [b] w5 w8) (hg:w5.heap.size≤g) :
 BM P w b sz v id seq d L (.returned (.bool true)) w8 :=
 ⟨by rw [hD];rfl,_,_,hT,(hK5.mono (by simp)).trans hK8 (by simp),fun k hk=>.inr (by cases hk;exact Nat.le_trans hK5.size hg)⟩
set_option linter.unusedSimpArgs false in
theorem xK {w:World}{b sz:Nat}{v:Value}{X:List (Se × Value)}{L:List Se}(h:fJ P w b sz v X L) (hl:L.length≤100000) (id seq:Int) (d:Vt) (u:Value) (hu:nU w u d.k) (hd:vh d) (hP:∀ k,w.heap.size≤k→P k) :
 Calls Tryz.prog 125 #[.pointer (some ⟨b,0,none⟩),.int .i64 id,.int .i64 seq,gA d u] w fun e w'=>BM P w b sz v id seq d L e w':=by
 obtain ⟨ao,n,c,rfl⟩:=hu.one;have HPf:=ah hP;clear hP;have hKz:aa [] w (w.alloc (.cells #[.int .i64 d.c,.int .i64 d.s,.int .i64 d.r,.string (ak d.p),.int .u64 d.d,.slice ao n c,.int .i64 d.m] 39)):=(aa.refl [] w).alloc _;have HKz:=ah hKz;have HZ:=ah (heap_alloc_new w (.cells #[.int .i64 d.c,.int .i64 d.s,.int .i64 d.r,.string (ak d.p),.int .u64 d.d,.slice ao n c,.int .i64 d.m] 39));have hT1:=h.kept hKz;have cI:=gI hT1 hl id;obtain ⟨vao,vc,hve,hvc,hvm,_,hat⟩:=h.row.shape;subst hve;unfold maxLen at hvm;have HT:=ah h;have hblt:=aq h.at_;unfold gA;cases hI:ir id L with
 | none =>
   have HD:Hid (dz id seq L=none):=by show _=_;unfold dz;rw [hI]
   have HL:Hid (bZ id seq d L=L):=by show _=_;unfold bZ;rw [HD.out]
   rw [hI] at cI;simp only [kI] at cI;clear hT1 h hat;go_enter Tryz.func125,Tryz.ntmps125;(go_wp2_with fail);refine cI.mono ?_;rintro _ w2 ⟨rfl,hK2⟩;have HK2:=ah (HKz.out.trans hK2 (by simp));clear hK2 cI hKz;(go_wp2_with fail);go_ret
   exact ⟨by rw [HD.out];rfl,_,X,by rw [HL.out];exact HT.out.kept HK2.out,HK2.out.mono (by simp),fun k hk=>.inl hk⟩
 | some i =>
   obtain ⟨hi,_⟩:=eo hI;have hiX:i < X.length:=by rw [h.len];exact hi
   obtain ⟨g,he,hx⟩:=hat i hiX;subst he;have hCk:=dm h.ses hiX hi;obtain ⟨mo,mm,mc,hm2⟩:=(h.own _ (List.getElem_mem hiX)).ko.one
   have hxc:∀ W,aa [] w W→jl W g (i*10) (L[i],.slice mo mm mc):=fun W hk=>by
    have h1:=hx.kept hk (by simp);have e:X[i]=(L[i],.slice mo mm mc):=Prod.ext hCk hm2;rw [e] at h1;exact h1
   have HXc:=ah hxc;have HD0:Hid (dz id seq L=if L[i].q < seq then some i else none):=by show _=_;unfold dz;rw [hI];simp only [cy hi]
   have HL0:Hid (dz id seq L=some i→bZ id seq d L=L.set i (dx seq d L[i])):=fun e=>by unfold bZ;rw [e];simp only [cy hi]
   obtain ⟨x,hxe⟩:∃ x,x=L[i]:=⟨_,rfl⟩;rw [← hxe] at HXc HD0 HL0;rw [hI] at cI;simp only [kI] at cI;have hii:(i:Int) < X.length:=by omega
   have hic:i≤vc:=by omega
   have hi0:¬ (i:Int) < 0:=by omega
   clear hT1 h hx hCk hm2 hxc hxe hat;by_cases hq:x.q < seq
   ·have HD:Hid (dz id seq L=some i):=by show _=_;rw [HD0.out,if_pos hq]
    have HL:=ah (HL0.out HD.out);have hq':¬ seq≤x.q:=by omega
    have HH1:Hid (∀ y∈X,y.2.oneCell'=true):=fun y hy=>by obtain ⟨_,_,_,e⟩:=(HT.out.own y hy).ko.one;rw [e];rfl
    go_enter Tryz.func125,Tryz.ntmps125;(go_wp2_with fail);refine cI.mono ?_;rintro _ w2 ⟨rfl,hK2⟩;have HK2:=ah (HKz.out.trans hK2 (by simp));have HZ2:=ah (hK2.at HZ.out (by simp));have hT2:=HT.out.kept HK2.out;obtain ⟨c0,c1⟩:=hT2.cells;obtain ⟨h0,h1,h2,h3,h4,h5,h6,h7,h8,h9⟩:=HXc.out w2 HK2.out;have hKa:aa [] w2 (w2.alloc (.cells #[.int .i64 x.i,.int .i64 x.q,.string (ak x.n),.int .i64 x.v.c,.int .i64 x.v.s,.int .i64 x.v.r,.string (ak x.v.p),.int .u64 x.v.d,.slice mo mm mc,.int .i64 x.v.m] 155)):=(aa.refl [] w2).alloc _;have HKa:=ah hKa;have HB3:=ah (heap_alloc_new w2 (.cells #[.int .i64 x.i,.int .i64 x.q,.string (ak x.n),.int .i64 x.v.c,.int .i64 x.v.s,.int .i64 x.v.r,.string (ak x.v.p),.int .u64 x.v.d,.slice mo mm mc,.int .i64 x.v.m] 155));have hZ3:=hKa.at HZ2.out (by simp);have z0:=ag (k:=0) hZ3 rfl;have z1:=ag (k:=1) hZ3 rfl;have z2:=ag (k:=2) hZ3 rfl;have z3:=ag (k:=3) hZ3 rfl;have z4:=ag (k:=4) hZ3 rfl;have z5:=ag (k:=5) hZ3 rfl;have z6:=ag (k:=6) hZ3 rfl;have cV:=fu (w2.alloc (.cells #[.int .i64 x.i,.int .i64 x.q,.string (ak x.n),.int .i64 x.v.c,.int .i64 x.v.s,.int .i64 x.v.r,.string (ak x.v.p),.int .u64 x.v.d,.slice mo mm mc,.int .i64 x.v.m] 155)) d _ ((hu.kept HK2.out).kept hKa) hd;unfold gA at cV;clear hK2 cI hT2 hKa hZ3 hKz;(go_wp2_with fail);refine cV.mono ?_;rintro _ w4 ⟨u4,rfl,hO4,hK4⟩;obtain ⟨a4,n4,c4,rfl⟩:=hO4.ko.one;clear h0 h1 h2 h3 h4 h5 h6 h7 h8 h9 z0 z1 z2 z3 z4 z5 z6 cV c0 c1;have hB4:=hK4.at HB3.out (by simp);have q1:=ag (k:=1) hB4 rfl;have q3:=ag (k:=3) hB4 rfl;have q4:=ag (k:=4) hB4 rfl;have q5:=ag (k:=5) hB4 rfl;have q6:=ag (k:=6) hB4 rfl;have q7:=ag (k:=7) hB4 rfl;have q8:=ag (k:=8) hB4 rfl;have q9:=ag (k:=9) hB4 rfl;have fq1:=aj hB4 1;have fq3:=aj hB4 3;have fq4:=aj hB4 4;have fq5:=aj hB4 5;have fq6:=aj hB4 6;have fq7:=aj hB4 7;have fq8:=aj hB4 8;have fq9:=aj hB4 9;obtain ⟨w5,hw5⟩:∃ w5,w5=((((((((w4.setCell ⟨w2.heap.size,1,none⟩ (.int .i64 seq)).setCell ⟨w2.heap.size,3,none⟩ (.int .i64 d.c)).setCell ⟨w2.heap.size,4,none⟩ (.int .i64 d.s)).setCell ⟨w2.heap.size,5,none⟩ (.int .i64 d.r)).setCell ⟨w2.heap.size,6,none⟩ (.string (ak d.p))).setCell ⟨w2.heap.size,7,none⟩ (.int .u64 d.d)).setCell ⟨w2.heap.size,8,none⟩ (.slice a4 n4 c4)).setCell ⟨w2.heap.size,9,none⟩ (.int .i64 d.m)):=⟨_,rfl⟩
    have HB5:Hid (w5.heap[w2.heap.size]?=some (.cells #[.int .i64 x.i,.int .i64 seq,.string (ak x.n),.int .i64 d.c,.int .i64 d.s,.int .i64 d.r,.string (ak d.p),.int .u64 d.d,.slice a4 n4 c4,.int .i64 d.m] 155 (0,0))):=by
     show _=_;rw [hw5];exact l8 (heap_setCell_same w4 _ 1 _ _ _ hB4) _ _ _ _ _ _ _
    have hK5b:aa [w2.heap.size] w4 w5:=by rw [hw5];exact jJ ((aa.refl _ w4).setCell (by simp) _) (by simp) _ _ _ _ _ _ _
    have hs2:w.heap.size≤w2.heap.size:=HK2.out.size;have HK4:=ah ((HK2.out.trans HKa.out (by simp)).trans hK4 (by simp));have HK5:Hid (aa [] w w5):=HK4.out.trans hK5b (fun k hk=>.inr (by simp at hk;omega));have HO5:Hid (io P w5 (.slice a4 n4 c4) d.k):=(hO4.toP (P:=P) (fun j hj=>HPf.out j (by have:=HKa.out.size;omega))).keep hK5b (dw hB4) (by decide) (by decide);have HS2:Hid (w2.heap.size < w5.heap.size):=aq HB5.out;clear hB4 hK4 hO4;go_upto_region 6 with fail
    rw [← hw5];clear hw5 q1 q3 q4 q5 q6 q7 q8 q9 fq1 fq3 fq4 fq5 fq6 fq7 fq8 fq9 hK5b;have hT5:=HT.out.kept HK5.out;have t1:=hT5.cells.2;have HR5:=ah hT5.row;have HT5:=ah hT5;clear hT5;have b0:=ag (k:=0) HB5.out rfl;have b1:=ag (k:=1) HB5.out rfl;have b2:=ag (k:=2) HB5.out rfl;have b3:=ag (k:=3) HB5.out rfl;have b4:=ag (k:=4) HB5.out rfl;have b5:=ag (k:=5) HB5.out rfl;have b6:=ag (k:=6) HB5.out rfl;have b7:=ag (k:=7) HB5.out rfl;have b8:=ag (k:=8) HB5.out rfl;have b9:=ag (k:=9) HB5.out rfl;have cB:=fun W (hk:aa [] w5 W)=>jF W _ _ ((HR5.out.kept hk).part (k:=i) (by omega)) (dx seq d x) (.slice a4 n4 c4) ⟨_,_,_,rfl⟩ (by simp;omega);unfold jN dx at cB;simp only at cB
    have HE:Hid (∀ w8 v8,aa [] w5 w8→dj w8 v8 (X.take i++[(dx seq d x,.slice a4 n4 c4)]++X.drop (i+1))→fJ P (w8.setCell ⟨b,1,none⟩ v8) b sz v8 (X.take i++[(dx seq d x,.slice a4 n4 c4)]++X.drop (i+1)) (bZ id seq d L)):=fun w8 v8 hK8 hR8=>by
     refine HT5.out.store hK8 hR8 (fun y hy=>?_) ?_
     ·rcases List.mem_append.1 hy with hy | hy
      ·rcases List.mem_append.1 hy with hy | hy
       ·exact (HT5.out.own y (List.mem_of_mem_take hy)).kept hK8
       ·simp at hy;subst hy;exact HO5.out.kept hK8
      ·exact (HT5.out.own y (List.mem_of_mem_drop hy)).kept hK8
     ·rw [HL.out,← xV hiX,List.map_set,HT5.out.ses]
    obtain ⟨i0,hi0i,_⟩:=info_parts dW;have HI0:=ah hi0i;have qc:(i:Int)≤vc:=by omega
    have qa:(0:Int)≤(i:Int)+1:=by omega
    have hw:IntKind.i64.wrap ((i:Int)+1)=((i+1:Nat):Int):=by rw [IntWalk.i64_in _ (by omega)];omega
    clear hi0i;have hXl:X.length≤100000:=by rw [HT5.out.len];exact hl
    by_cases hlast:i+1=X.length
    ·have HDr:Hid (X.drop (i+1)=[]):=List.drop_of_length_le (by omega);have qb:(i:Int)+1≤X.length:=by omega
     have qz:X.length - (i+1)=0:=by omega
     by_cases hcap:vc=i+1
     ·have hcapT:(vc=i+1)=True:=eq_true hcap;have qv:vc - (i+1)=0:=by omega
      clear hlast hcap;refine wp_region_held_drew (S:=fun w'=>w'.cell? ⟨w2.heap.size,0,none⟩=some (.int .i64 x.i)∧w'.cell? ⟨w2.heap.size,1,none⟩=some (.int .i64 seq)∧w'.cell? ⟨w2.heap.size,2,none⟩=some (.string (ak x.n))∧w'.cell? ⟨w2.heap.size,3,none⟩=some (.int .i64 d.c)∧w'.cell? ⟨w2.heap.size,4,none⟩=some (.int .i64 d.s)∧w'.cell? ⟨w2.heap.size,5,none⟩=some (.int .i64 d.r)∧w'.cell? ⟨w2.heap.size,6,none⟩=some (.string (ak d.p))∧w'.cell? ⟨w2.heap.size,7,none⟩=some (.int .u64 d.d)∧w'.cell? ⟨w2.heap.size,8,none⟩=some (.slice a4 n4 c4)∧w'.cell? ⟨w2.heap.size,9,none⟩=some (.int .i64 d.m)) (by kernel_rfl) ⟨b0,b1,b2,b3,b4,b5,b6,b7,b8,b9⟩ (fun hHeld=>?_);refine aU [0,1,2,3,5,7,9,10,11,13,14] (by rfl) (by kernel_rfl) (fun _ _ _ _ _ h=>h) hHeld ?_
      iterate 11
       refine yk ?_ rfl (Or.inl ⟨by rfl,?_⟩) ?_;rotate_left
       ·intro w9 hSw;(try dsimp only at hSw);go_simp;(try with_reducible rfl)
       try simp only [sT,Act.put]
      refine aT ?_;simp only [au,sT];refine wpAnyH_ready (rs:=[4,12]) (by kernel_rfl) (by simp) (AllReadyH.cons rfl (fun K0 hK0=>?_) (AllReadyH.cons rfl (fun K0 hK0=>?_) AllReadyH.nil))
      ·go_simp;refine hK0.out _ _ hHeld (fun hHeld=>?_);clear hK0 K0;(try simp only [sT,Act.put]);refine aU [6] (by rfl) (by kernel_rfl) (fun _ _ _ _ _ h=>h) hHeld ?_
       iterate 1
        refine yk ?_ rfl (Or.inl ⟨by rfl,?_⟩) ?_;rotate_left
        ·intro w9 hSw;(try dsimp only at hSw);go_simp;(try with_reducible rfl)
        try simp only [sT,Act.put]
       refine aT ?_;simp only [au,sT];refine wpAnyH_ready (rs:=[8,12]) (by kernel_rfl) (by simp) (AllReadyH.cons rfl (fun K0 hK0=>?_) (AllReadyH.cons rfl (fun K0 hK0=>?_) AllReadyH.nil))
       ·go_simp;refine (cB _ (aa.refl [] _).drew).mono ?_;rintro _ w6 ⟨v6,rfl,hR6,hK6⟩;replace hR6:bp w5.heap.size w6 v6 (X.take i++[(dx seq d x,.slice a4 n4 c4)]):=hR6;replace hK6:=(aa.refl [] w5).drew.trans hK6 (by simp);obtain ⟨g6,n6,c6,rfl⟩:=eJ hR6 (by simp);have HR6:=ah hR6;have HK6:=ah hK6;have hT6:=HT5.out.kept hK6;have t6:=hT6.cells.2;clear hR6 hK6 hT6;(go_wp2_with fail);refine hK0.out _ _ ⟨HK6.out.cell b0 (by simp),HK6.out.cell b1 (by simp),HK6.out.cell b2 (by simp),HK6.out.cell b3 (by simp),HK6.out.cell b4 (by simp),HK6.out.cell b5 (by simp),HK6.out.cell b6 (by simp),HK6.out.cell b7 (by simp),HK6.out.cell b8 (by simp),HK6.out.cell b9 (by simp)⟩ (fun hHeld=>?_);clear hK0 K0;(try simp only [sT,Act.put]);refine aH 12 (by kernel_rfl) rfl (fun K0 hK0=>?_);go_simp;refine hK0.out _ _ hHeld (fun hHeld=>?_);clear hK0 K0;(try simp only [sT,Act.put]);refine aU [15] (by rfl) (by kernel_rfl) (fun _ _ _ _ _ h=>h) hHeld ?_
        iterate 1
         refine yk ?_ rfl (Or.inl ⟨by rfl,?_⟩) ?_;rotate_left
         ·intro w9 hSw;(try dsimp only at hSw);go_simp;(try with_reducible rfl)
         try simp only [sT,Act.put]
        refine aT ?_;simp only [au,sT];refine aH 16 (by kernel_rfl) rfl (fun K0 hK0=>?_);refine eu (by rfl) _ _ 51 (by rfl) 155 i0 Tryz.underlying51 HI0.out (some ⟨g6,0,none⟩) n6 c6 (kT HR6.out) (by simp [Act.eval]) ⟨g,0,none⟩ 0 (by simp [Act.eval,qz,qv]) ?_;refine hK0.out _ _ ⟨HK6.out.cell b0 (by simp),HK6.out.cell b1 (by simp),HK6.out.cell b2 (by simp),HK6.out.cell b3 (by simp),HK6.out.cell b4 (by simp),HK6.out.cell b5 (by simp),HK6.out.cell b6 (by simp),HK6.out.cell b7 (by simp),HK6.out.cell b8 (by simp),HK6.out.cell b9 (by simp)⟩ (fun hHeld=>?_);have HE7:=ah (HE.out w6 _ HK6.out (by rw [HDr.out,List.append_nil];exact HR6.out.t));have HK7:=HK6;have HB7:Hid (w5.heap.size≤g6):=(World.ownsRow.lt HR6.out g6 rfl).1;clear hK0 K0;(try simp only [sT,Act.put]);refine aU [17,18] (by rfl) (by kernel_rfl) (fun _ _ _ _ _ h=>h) hHeld ?_
        iterate 2
         refine yk ?_ rfl (Or.inl ⟨by rfl,?_⟩) ?_;rotate_left
         ·intro w9 hSw;(try dsimp only at hSw);go_simp;(try with_reducible rfl)
         try simp only [sT,Act.put]
        refine aT ?_;simp only [au,sT];have fz:=aj (HK7.out.at HT5.out.at_ (by simp)) 1;refine aH 19 (by kernel_rfl) rfl (fun K0 hK0=>?_);go_simp;have hK8:aa [b] w5 (w6.setCell ⟨b,1,none⟩ (.slice (some ⟨g6,0,none⟩) n6 c6)):=(HK7.out.mono (by simp)).setCell (by simp) _;refine hK0.out _ _ ⟨hK8.cell b0 (by simp;omega),hK8.cell b1 (by simp;omega),hK8.cell b2 (by simp;omega),hK8.cell b3 (by simp;omega),hK8.cell b4 (by simp;omega),hK8.cell b5 (by simp;omega),hK8.cell b6 (by simp;omega),hK8.cell b7 (by simp;omega),hK8.cell b8 (by simp;omega),hK8.cell b9 (by simp;omega)⟩ (fun hHeld=>?_);refine wpAnyH_done (by kernel_rfl) ?_ _;clear hK0 K0;all_goals go_wp2_with fail
        all_goals go_ret
        all_goals exact eP HD.out HE7.out HK5.out hK8 HB7.out
       ·go_simp;refine hK0.out _ _ hHeld (fun hHeld=>?_);clear hK0 K0;(try simp only [sT,Act.put]);refine aU [15] (by rfl) (by kernel_rfl) (fun _ _ _ _ _ h=>h) hHeld ?_
        iterate 1
         refine yk ?_ rfl (Or.inl ⟨by rfl,?_⟩) ?_;rotate_left
         ·intro w9 hSw;(try dsimp only at hSw);go_simp;(try with_reducible rfl)
         try simp only [sT,Act.put]
        refine aT ?_;simp only [au,sT];refine aH 8 (by kernel_rfl) rfl (fun K0 hK0=>?_);go_simp;refine (cB _ (aa.refl [] _).drew).mono ?_;rintro _ w6 ⟨v6,rfl,hR6,hK6⟩;replace hR6:bp w5.heap.size w6 v6 (X.take i++[(dx seq d x,.slice a4 n4 c4)]):=hR6;replace hK6:=(aa.refl [] w5).drew.trans hK6 (by simp);obtain ⟨g6,n6,c6,rfl⟩:=eJ hR6 (by simp);have HR6:=ah hR6;have HK6:=ah hK6;have hT6:=HT5.out.kept hK6;have t6:=hT6.cells.2;clear hR6 hK6 hT6;(go_wp2_with fail);refine hK0.out _ _ ⟨HK6.out.cell b0 (by simp),HK6.out.cell b1 (by simp),HK6.out.cell b2 (by simp),HK6.out.cell b3 (by simp),HK6.out.cell b4 (by simp),HK6.out.cell b5 (by simp),HK6.out.cell b6 (by simp),HK6.out.cell b7 (by simp),HK6.out.cell b8 (by simp),HK6.out.cell b9 (by simp)⟩ (fun hHeld=>?_);clear hK0 K0;(try simp only [sT,Act.put]);refine aH 16 (by kernel_rfl) rfl (fun K0 hK0=>?_);refine eu (by rfl) _ _ 51 (by rfl) 155 i0 Tryz.underlying51 HI0.out (some ⟨g6,0,none⟩) n6 c6 (kT HR6.out) (by simp [Act.eval]) ⟨g,0,none⟩ 0 (by simp [Act.eval,qz,qv]) ?_;refine hK0.out _ _ ⟨HK6.out.cell b0 (by simp),HK6.out.cell b1 (by simp),HK6.out.cell b2 (by simp),HK6.out.cell b3 (by simp),HK6.out.cell b4 (by simp),HK6.out.cell b5 (by simp),HK6.out.cell b6 (by simp),HK6.out.cell b7 (by simp),HK6.out.cell b8 (by simp),HK6.out.cell b9 (by simp)⟩ (fun hHeld=>?_);have HE7:=ah (HE.out w6 _ HK6.out (by rw [HDr.out,List.append_nil];exact HR6.out.t));have HK7:=HK6;have HB7:Hid (w5.heap.size≤g6):=(World.ownsRow.lt HR6.out g6 rfl).1;clear hK0 K0;(try simp only [sT,Act.put]);refine aU [17,18] (by rfl) (by kernel_rfl) (fun _ _ _ _ _ h=>h) hHeld ?_
        iterate 2
         refine yk ?_ rfl (Or.inl ⟨by rfl,?_⟩) ?_;rotate_left
         ·intro w9 hSw;(try dsimp only at hSw);go_simp;(try with_reducible rfl)
         try simp only [sT,Act.put]
        refine aT ?_;simp only [au,sT];have fz:=aj (HK7.out.at HT5.out.at_ (by simp)) 1;refine aH 19 (by kernel_rfl) rfl (fun K0 hK0=>?_);go_simp;have hK8:aa [b] w5 (w6.setCell ⟨b,1,none⟩ (.slice (some ⟨g6,0,none⟩) n6 c6)):=(HK7.out.mono (by simp)).setCell (by simp) _;refine hK0.out _ _ ⟨hK8.cell b0 (by simp;omega),hK8.cell b1 (by simp;omega),hK8.cell b2 (by simp;omega),hK8.cell b3 (by simp;omega),hK8.cell b4 (by simp;omega),hK8.cell b5 (by simp;omega),hK8.cell b6 (by simp;omega),hK8.cell b7 (by simp;omega),hK8.cell b8 (by simp;omega),hK8.cell b9 (by simp;omega)⟩ (fun hHeld=>?_);refine wpAnyH_done (by kernel_rfl) ?_ _;clear hK0 K0;all_goals go_wp2_with fail
        all_goals go_ret
        all_goals exact eP HD.out HE7.out HK5.out hK8 HB7.out
      ·go_simp;refine hK0.out _ _ hHeld (fun hHeld=>?_);clear hK0 K0;(try simp only [sT,Act.put]);refine aU [15] (by rfl) (by kernel_rfl) (fun _ _ _ _ _ h=>h) hHeld ?_
       iterate 1
        refine yk ?_ rfl (Or.inl ⟨by rfl,?_⟩) ?_;rotate_left
        ·intro w9 hSw;(try dsimp only at hSw);go_simp;(try with_reducible rfl)
        try simp only [sT,Act.put]
       refine aT ?_;simp only [au,sT];refine aH 4 (by kernel_rfl) rfl (fun K0 hK0=>?_);go_simp;refine hK0.out _ _ hHeld (fun hHeld=>?_);clear hK0 K0;(try simp only [sT,Act.put]);refine aU [6] (by rfl) (by kernel_rfl) (fun _ _ _ _ _ h=>h) hHeld ?_
       iterate 1
        refine yk ?_ rfl (Or.inl ⟨by rfl,?_⟩) ?_;rotate_left
        ·intro w9 hSw;(try dsimp only at hSw);go_simp;(try with_reducible rfl)
        try simp only [sT,Act.put]
       refine aT ?_;simp only [au,sT];refine aH 8 (by kernel_rfl) rfl (fun K0 hK0=>?_);go_simp;refine (cB _ (aa.refl [] _).drew).mono ?_;rintro _ w6 ⟨v6,rfl,hR6,hK6⟩;replace hR6:bp w5.heap.size w6 v6 (X.take i++[(dx seq d x,.slice a4 n4 c4)]):=hR6;replace hK6:=(aa.refl [] w5).drew.trans hK6 (by simp);obtain ⟨g6,n6,c6,rfl⟩:=eJ hR6 (by simp);have HR6:=ah hR6;have HK6:=ah hK6;have hT6:=HT5.out.kept hK6;have t6:=hT6.cells.2;clear hR6 hK6 hT6;(go_wp2_with fail);refine hK0.out _ _ ⟨HK6.out.cell b0 (by simp),HK6.out.cell b1 (by simp),HK6.out.cell b2 (by simp),HK6.out.cell b3 (by simp),HK6.out.cell b4 (by simp),HK6.out.cell b5 (by simp),HK6.out.cell b6 (by simp),HK6.out.cell b7 (by simp),HK6.out.cell b8 (by simp),HK6.out.cell b9 (by simp)⟩ (fun hHeld=>?_);clear hK0 K0;(try simp only [sT,Act.put]);refine aH 16 (by kernel_rfl) rfl (fun K0 hK0=>?_);refine eu (by rfl) _ _ 51 (by rfl) 155 i0 Tryz.underlying51 HI0.out (some ⟨g6,0,none⟩) n6 c6 (kT HR6.out) (by simp [Act.eval]) ⟨g,0,none⟩ 0 (by simp [Act.eval,qz,qv]) ?_;refine hK0.out _ _ ⟨HK6.out.cell b0 (by simp),HK6.out.cell b1 (by simp),HK6.out.cell b2 (by simp),HK6.out.cell b3 (by simp),HK6.out.cell b4 (by simp),HK6.out.cell b5 (by simp),HK6.out.cell b6 (by simp),HK6.out.cell b7 (by simp),HK6.out.cell b8 (by simp),HK6.out.cell b9 (by simp)⟩ (fun hHeld=>?_);have HE7:=ah (HE.out w6 _ HK6.out (by rw [HDr.out,List.append_nil];exact HR6.out.t));have HK7:=HK6;have HB7:Hid (w5.heap.size≤g6):=(World.ownsRow.lt HR6.out g6 rfl).1;clear hK0 K0;(try simp only [sT,Act.put]);refine aU [17,18] (by rfl) (by kernel_rfl) (fun _ _ _ _ _ h=>h) hHeld ?_
       iterate 2
        refine yk ?_ rfl (Or.inl ⟨by rfl,?_⟩) ?_;rotate_left
        ·intro w9 hSw;(try dsimp only at hSw);go_simp;(try with_reducible rfl)
        try simp only [sT,Act.put]
       refine aT ?_;simp only [au,sT];have fz:=aj (HK7.out.at HT5.out.at_ (by simp)) 1;refine aH 19 (by kernel_rfl) rfl (fun K0 hK0=>?_);go_simp;have hK8:aa [b] w5 (w6.setCell ⟨b,1,none⟩ (.slice (some ⟨g6,0,none⟩) n6 c6)):=(HK7.out.mono (by simp)).setCell (by simp) _;refine hK0.out _ _ ⟨hK8.cell b0 (by simp;omega),hK8.cell b1 (by simp;omega),hK8.cell b2 (by simp;omega),hK8.cell b3 (by simp;omega),hK8.cell b4 (by simp;omega),hK8.cell b5 (by simp;omega),hK8.cell b6 (by simp;omega),hK8.cell b7 (by simp;omega),hK8.cell b8 (by simp;omega),hK8.cell b9 (by simp;omega)⟩ (fun hHeld=>?_);refine wpAnyH_done (by kernel_rfl) ?_ _;clear hK0 K0;all_goals go_wp2_with fail
       all_goals go_ret
       all_goals exact eP HD.out HE7.out HK5.out hK8 HB7.out
     ·clear hlast;refine wp_region_held_drew (S:=fun w'=>w'.cell? ⟨w2.heap.size,0,none⟩=some (.int .i64 x.i)∧w'.cell? ⟨w2.heap.size,1,none⟩=some (.int .i64 seq)∧w'.cell? ⟨w2.heap.size,2,none⟩=some (.string (ak x.n))∧w'.cell? ⟨w2.heap.size,3,none⟩=some (.int .i64 d.c)∧w'.cell? ⟨w2.heap.size,4,none⟩=some (.int .i64 d.s)∧w'.cell? ⟨w2.heap.size,5,none⟩=some (.int .i64 d.r)∧w'.cell? ⟨w2.heap.size,6,none⟩=some (.string (ak d.p))∧w'.cell? ⟨w2.heap.size,7,none⟩=some (.int .u64 d.d)∧w'.cell? ⟨w2.heap.size,8,none⟩=some (.slice a4 n4 c4)∧w'.cell? ⟨w2.heap.size,9,none⟩=some (.int .i64 d.m)) (by kernel_rfl) ⟨b0,b1,b2,b3,b4,b5,b6,b7,b8,b9⟩ (fun hHeld=>?_);refine aU [0,1,2,3,5,7,9,10,11,13,14] (by rfl) (by kernel_rfl) (fun _ _ _ _ _ h=>h) hHeld ?_
      iterate 11
       refine yk ?_ rfl (Or.inl ⟨by rfl,?_⟩) ?_;rotate_left
       ·intro w9 hSw;(try dsimp only at hSw);go_simp;(try with_reducible rfl)
       try simp only [sT,Act.put]
      refine aT ?_;simp only [au,sT];refine wpAnyH_ready (rs:=[4,12]) (by kernel_rfl) (by simp) (AllReadyH.cons rfl (fun K0 hK0=>?_) (AllReadyH.cons rfl (fun K0 hK0=>?_) AllReadyH.nil))
      ·go_simp;refine hK0.out _ _ hHeld (fun hHeld=>?_);clear hK0 K0;(try simp only [sT,Act.put]);refine aU [6] (by rfl) (by kernel_rfl) (fun _ _ _ _ _ h=>h) hHeld ?_
       iterate 1
        refine yk ?_ rfl (Or.inl ⟨by rfl,?_⟩) ?_;rotate_left
        ·intro w9 hSw;(try dsimp only at hSw);go_simp;(try with_reducible rfl)
        try simp only [sT,Act.put]
       refine aT ?_;simp only [au,sT];refine wpAnyH_ready (rs:=[8,12]) (by kernel_rfl) (by simp) (AllReadyH.cons rfl (fun K0 hK0=>?_) (AllReadyH.cons rfl (fun K0 hK0=>?_) AllReadyH.nil))
       ·go_simp;refine (cB _ (aa.refl [] _).drew).mono ?_;rintro _ w6 ⟨v6,rfl,hR6,hK6⟩;replace hR6:bp w5.heap.size w6 v6 (X.take i++[(dx seq d x,.slice a4 n4 c4)]):=hR6;replace hK6:=(aa.refl [] w5).drew.trans hK6 (by simp);obtain ⟨g6,n6,c6,rfl⟩:=eJ hR6 (by simp);have HR6:=ah hR6;have HK6:=ah hK6;have hT6:=HT5.out.kept hK6;have t6:=hT6.cells.2;clear hR6 hK6 hT6;(go_wp2_with fail);refine hK0.out _ _ ⟨HK6.out.cell b0 (by simp),HK6.out.cell b1 (by simp),HK6.out.cell b2 (by simp),HK6.out.cell b3 (by simp),HK6.out.cell b4 (by simp),HK6.out.cell b5 (by simp),HK6.out.cell b6 (by simp),HK6.out.cell b7 (by simp),HK6.out.cell b8 (by simp),HK6.out.cell b9 (by simp)⟩ (fun hHeld=>?_);clear hK0 K0;(try simp only [sT,Act.put]);refine aH 12 (by kernel_rfl) rfl (fun K0 hK0=>?_);go_simp;refine hK0.out _ _ hHeld (fun hHeld=>?_);clear hK0 K0;(try simp only [sT,Act.put]);refine aU [15] (by rfl) (by kernel_rfl) (fun _ _ _ _ _ h=>h) hHeld ?_
        iterate 1
         refine yk ?_ rfl (Or.inl ⟨by rfl,?_⟩) ?_;rotate_left
         ·intro w9 hSw;(try dsimp only at hSw);go_simp;(try with_reducible rfl)
         try simp only [sT,Act.put]
        refine aT ?_;simp only [au,sT];refine aH 16 (by kernel_rfl) rfl (fun K0 hK0=>?_);refine eu (by rfl) _ _ 51 (by rfl) 155 i0 Tryz.underlying51 HI0.out (some ⟨g6,0,none⟩) n6 c6 (kT HR6.out) (by simp [Act.eval]) ⟨g,(i+1)*10,none⟩ (vc - (i+1)) (by simp [Act.eval,qz]) ?_;refine hK0.out _ _ ⟨HK6.out.cell b0 (by simp),HK6.out.cell b1 (by simp),HK6.out.cell b2 (by simp),HK6.out.cell b3 (by simp),HK6.out.cell b4 (by simp),HK6.out.cell b5 (by simp),HK6.out.cell b6 (by simp),HK6.out.cell b7 (by simp),HK6.out.cell b8 (by simp),HK6.out.cell b9 (by simp)⟩ (fun hHeld=>?_);have HE7:=ah (HE.out w6 _ HK6.out (by rw [HDr.out,List.append_nil];exact HR6.out.t));have HK7:=HK6;have HB7:Hid (w5.heap.size≤g6):=(World.ownsRow.lt HR6.out g6 rfl).1;clear hK0 K0;(try simp only [sT,Act.put]);refine aU [17,18] (by rfl) (by kernel_rfl) (fun _ _ _ _ _ h=>h) hHeld ?_
        iterate 2
         refine yk ?_ rfl (Or.inl ⟨by rfl,?_⟩) ?_;rotate_left
         ·intro w9 hSw;(try dsimp only at hSw);go_simp;(try with_reducible rfl)
         try simp only [sT,Act.put]
        refine aT ?_;simp only [au,sT];have fz:=aj (HK7.out.at HT5.out.at_ (by simp)) 1;refine aH 19 (by kernel_rfl) rfl (fun K0 hK0=>?_);go_simp;have hK8:aa [b] w5 (w6.setCell ⟨b,1,none⟩ (.slice (some ⟨g6,0,none⟩) n6 c6)):=(HK7.out.mono (by simp)).setCell (by simp) _;refine hK0.out _ _ ⟨hK8.cell b0 (by simp;omega),hK8.cell b1 (by simp;omega),hK8.cell b2 (by simp;omega),hK8.cell b3 (by simp;omega),hK8.cell b4 (by simp;omega),hK8.cell b5 (by simp;omega),hK8.cell b6 (by simp;omega),hK8.cell b7 (by simp;omega),hK8.cell b8 (by simp;omega),hK8.cell b9 (by simp;omega)⟩ (fun hHeld=>?_);refine wpAnyH_done (by kernel_rfl) ?_ _;clear hK0 K0;all_goals go_wp2_with fail
        all_goals go_ret
        all_goals exact eP HD.out HE7.out HK5.out hK8 HB7.out
       ·go_simp;refine hK0.out _ _ hHeld (fun hHeld=>?_);clear hK0 K0;(try simp only [sT,Act.put]);refine aU [15] (by rfl) (by kernel_rfl) (fun _ _ _ _ _ h=>h) hHeld ?_
        iterate 1
         refine yk ?_ rfl (Or.inl ⟨by rfl,?_⟩) ?_;rotate_left
         ·intro w9 hSw;(try dsimp only at hSw);go_simp;(try with_reducible rfl)
         try simp only [sT,Act.put]
        refine aT ?_;simp only [au,sT];refine aH 8 (by kernel_rfl) rfl (fun K0 hK0=>?_);go_simp;refine (cB _ (aa.refl [] _).drew).mono ?_;rintro _ w6 ⟨v6,rfl,hR6,hK6⟩;replace hR6:bp w5.heap.size w6 v6 (X.take i++[(dx seq d x,.slice a4 n4 c4)]):=hR6;replace hK6:=(aa.refl [] w5).drew.trans hK6 (by simp);obtain ⟨g6,n6,c6,rfl⟩:=eJ hR6 (by simp);have HR6:=ah hR6;have HK6:=ah hK6;have hT6:=HT5.out.kept hK6;have t6:=hT6.cells.2;clear hR6 hK6 hT6;(go_wp2_with fail);refine hK0.out _ _ ⟨HK6.out.cell b0 (by simp),HK6.out.cell b1 (by simp),HK6.out.cell b2 (by simp),HK6.out.cell b3 (by simp),HK6.out.cell b4 (by simp),HK6.out.cell b5 (by simp),HK6.out.cell b6 (by simp),HK6.out.cell b7 (by simp),HK6.out.cell b8 (by simp),HK6.out.cell b9 (by simp)⟩ (fun hHeld=>?_);clear hK0 K0;(try simp only [sT,Act.put]);refine aH 16 (by kernel_rfl) rfl (fun K0 hK0=>?_);refine eu (by rfl) _ _ 51 (by rfl) 155 i0 Tryz.underlying51 HI0.out (some ⟨g6,0,none⟩) n6 c6 (kT HR6.out) (by simp [Act.eval]) ⟨g,(i+1)*10,none⟩ (vc - (i+1)) (by simp [Act.eval,qz]) ?_;refine hK0.out _ _ ⟨HK6.out.cell b0 (by simp),HK6.out.cell b1 (by simp),HK6.out.cell b2 (by simp),HK6.out.cell b3 (by simp),HK6.out.cell b4 (by simp),HK6.out.cell b5 (by simp),HK6.out.cell b6 (by simp),HK6.out.cell b7 (by simp),HK6.out.cell b8 (by simp),HK6.out.cell b9 (by simp)⟩ (fun hHeld=>?_);have HE7:=ah (HE.out w6 _ HK6.out (by rw [HDr.out,List.append_nil];exact HR6.out.t));have HK7:=HK6;have HB7:Hid (w5.heap.size≤g6):=(World.ownsRow.lt HR6.out g6 rfl).1;clear hK0 K0;(try simp only [sT,Act.put]);refine aU [17,18] (by rfl) (by kernel_rfl) (fun _ _ _ _ _ h=>h) hHeld ?_
        iterate 2
         refine yk ?_ rfl (Or.inl ⟨by rfl,?_⟩) ?_;rotate_left
         ·intro w9 hSw;(try dsimp only at hSw);go_simp;(try with_reducible rfl)
         try simp only [sT,Act.put]
        refine aT ?_;simp only [au,sT];have fz:=aj (HK7.out.at HT5.out.at_ (by simp)) 1;refine aH 19 (by kernel_rfl) rfl (fun K0 hK0=>?_);go_simp;have hK8:aa [b] w5 (w6.setCell ⟨b,1,none⟩ (.slice (some ⟨g6,0,none⟩) n6 c6)):=(HK7.out.mono (by simp)).setCell (by simp) _;refine hK0.out _ _ ⟨hK8.cell b0 (by simp;omega),hK8.cell b1 (by simp;omega),hK8.cell b2 (by simp;omega),hK8.cell b3 (by simp;omega),hK8.cell b4 (by simp;omega),hK8.cell b5 (by simp;omega),hK8.cell b6 (by simp;omega),hK8.cell b7 (by simp;omega),hK8.cell b8 (by simp;omega),hK8.cell b9 (by simp;omega)⟩ (fun hHeld=>?_);refine wpAnyH_done (by kernel_rfl) ?_ _;clear hK0 K0;all_goals go_wp2_with fail
        all_goals go_ret
        all_goals exact eP HD.out HE7.out HK5.out hK8 HB7.out
      ·go_simp;refine hK0.out _ _ hHeld (fun hHeld=>?_);clear hK0 K0;(try simp only [sT,Act.put]);refine aU [15] (by rfl) (by kernel_rfl) (fun _ _ _ _ _ h=>h) hHeld ?_
       iterate 1
        refine yk ?_ rfl (Or.inl ⟨by rfl,?_⟩) ?_;rotate_left
        ·intro w9 hSw;(try dsimp only at hSw);go_simp;(try with_reducible rfl)
        try simp only [sT,Act.put]
       refine aT ?_;simp only [au,sT];refine aH 4 (by kernel_rfl) rfl (fun K0 hK0=>?_);go_simp;refine hK0.out _ _ hHeld (fun hHeld=>?_);clear hK0 K0;(try simp only [sT,Act.put]);refine aU [6] (by rfl) (by kernel_rfl) (fun _ _ _ _ _ h=>h) hHeld ?_
       iterate 1
        refine yk ?_ rfl (Or.inl ⟨by rfl,?_⟩) ?_;rotate_left
        ·intro w9 hSw;(try dsimp only at hSw);go_simp;(try with_reducible rfl)
        try simp only [sT,Act.put]
       refine aT ?_;simp only [au,sT];refine aH 8 (by kernel_rfl) rfl (fun K0 hK0=>?_);go_simp;refine (cB _ (aa.refl [] _).drew).mono ?_;rintro _ w6 ⟨v6,rfl,hR6,hK6⟩;replace hR6:bp w5.heap.size w6 v6 (X.take i++[(dx seq d x,.slice a4 n4 c4)]):=hR6;replace hK6:=(aa.refl [] w5).drew.trans hK6 (by simp);obtain ⟨g6,n6,c6,rfl⟩:=eJ hR6 (by simp);have HR6:=ah hR6;have HK6:=ah hK6;have hT6:=HT5.out.kept hK6;have t6:=hT6.cells.2;clear hR6 hK6 hT6;(go_wp2_with fail);refine hK0.out _ _ ⟨HK6.out.cell b0 (by simp),HK6.out.cell b1 (by simp),HK6.out.cell b2 (by simp),HK6.out.cell b3 (by simp),HK6.out.cell b4 (by simp),HK6.out.cell b5 (by simp),HK6.out.cell b6 (by simp),HK6.out.cell b7 (by simp),HK6.out.cell b8 (by simp),HK6.out.cell b9 (by simp)⟩ (fun hHeld=>?_);clear hK0 K0;(try simp only [sT,Act.put]);refine aH 16 (by kernel_rfl) rfl (fun K0 hK0=>?_);refine eu (by rfl) _ _ 51 (by rfl) 155 i0 Tryz.underlying51 HI0.out (some ⟨g6,0,none⟩) n6 c6 (kT HR6.out) (by simp [Act.eval]) ⟨g,(i+1)*10,none⟩ (vc - (i+1)) (by simp [Act.eval,qz]) ?_;refine hK0.out _ _ ⟨HK6.out.cell b0 (by simp),HK6.out.cell b1 (by simp),HK6.out.cell b2 (by simp),HK6.out.cell b3 (by simp),HK6.out.cell b4 (by simp),HK6.out.cell b5 (by simp),HK6.out.cell b6 (by simp),HK6.out.cell b7 (by simp),HK6.out.cell b8 (by simp),HK6.out.cell b9 (by simp)⟩ (fun hHeld=>?_);have HE7:=ah (HE.out w6 _ HK6.out (by rw [HDr.out,List.append_nil];exact HR6.out.t));have HK7:=HK6;have HB7:Hid (w5.heap.size≤g6):=(World.ownsRow.lt HR6.out g6 rfl).1;clear hK0 K0;(try simp only [sT,Act.put]);refine aU [17,18] (by rfl) (by kernel_rfl) (fun _ _ _ _ _ h=>h) hHeld ?_
       iterate 2
        refine yk ?_ rfl (Or.inl ⟨by rfl,?_⟩) ?_;rotate_left
        ·intro w9 hSw;(try dsimp only at hSw);go_simp;(try with_reducible rfl)
        try simp only [sT,Act.put]
       refine aT ?_;simp only [au,sT];have fz:=aj (HK7.out.at HT5.out.at_ (by simp)) 1;refine aH 19 (by kernel_rfl) rfl (fun K0 hK0=>?_);go_simp;have hK8:aa [b] w5 (w6.setCell ⟨b,1,none⟩ (.slice (some ⟨g6,0,none⟩) n6 c6)):=(HK7.out.mono (by simp)).setCell (by simp) _;refine hK0.out _ _ ⟨hK8.cell b0 (by simp;omega),hK8.cell b1 (by simp;omega),hK8.cell b2 (by simp;omega),hK8.cell b3 (by simp;omega),hK8.cell b4 (by simp;omega),hK8.cell b5 (by simp;omega),hK8.cell b6 (by simp;omega),hK8.cell b7 (by simp;omega),hK8.cell b8 (by simp;omega),hK8.cell b9 (by simp;omega)⟩ (fun hHeld=>?_);refine wpAnyH_done (by kernel_rfl) ?_ _;clear hK0 K0;all_goals go_wp2_with fail
       all_goals go_ret
       all_goals exact eP HD.out HE7.out HK5.out hK8 HB7.out
    ·have hne:¬ vc=i+1:=by omega
     have qb:(i:Int)+1≤X.length:=by omega
     refine wp_region_held_drew (S:=fun w'=>w'.cell? ⟨w2.heap.size,0,none⟩=some (.int .i64 x.i)∧w'.cell? ⟨w2.heap.size,1,none⟩=some (.int .i64 seq)∧w'.cell? ⟨w2.heap.size,2,none⟩=some (.string (ak x.n))∧w'.cell? ⟨w2.heap.size,3,none⟩=some (.int .i64 d.c)∧w'.cell? ⟨w2.heap.size,4,none⟩=some (.int .i64 d.s)∧w'.cell? ⟨w2.heap.size,5,none⟩=some (.int .i64 d.r)∧w'.cell? ⟨w2.heap.size,6,none⟩=some (.string (ak d.p))∧w'.cell? ⟨w2.heap.size,7,none⟩=some (.int .u64 d.d)∧w'.cell? ⟨w2.heap.size,8,none⟩=some (.slice a4 n4 c4)∧w'.cell? ⟨w2.heap.size,9,none⟩=some (.int .i64 d.m)) (by kernel_rfl) ⟨b0,b1,b2,b3,b4,b5,b6,b7,b8,b9⟩ (fun hHeld=>?_);refine aU [0,1,2,3,5,7,9,10,11,13,14] (by rfl) (by kernel_rfl) (fun _ _ _ _ _ h=>h) hHeld ?_
     iterate 11
      refine yk ?_ rfl (Or.inl ⟨by rfl,?_⟩) ?_;rotate_left
      ·intro w9 hSw;(try dsimp only at hSw);go_simp;(try with_reducible rfl)
      try simp only [sT,Act.put]
     refine aT ?_;simp only [au,sT];refine wpAnyH_ready (rs:=[4,12]) (by kernel_rfl) (by simp) (AllReadyH.cons rfl (fun K0 hK0=>?_) (AllReadyH.cons rfl (fun K0 hK0=>?_) AllReadyH.nil))
     ·go_simp;refine hK0.out _ _ hHeld (fun hHeld=>?_);clear hK0 K0;(try simp only [sT,Act.put]);refine aU [6] (by rfl) (by kernel_rfl) (fun _ _ _ _ _ h=>h) hHeld ?_
      iterate 1
       refine yk ?_ rfl (Or.inl ⟨by rfl,?_⟩) ?_;rotate_left
       ·intro w9 hSw;(try dsimp only at hSw);go_simp;(try with_reducible rfl)
       try simp only [sT,Act.put]
      refine aT ?_;simp only [au,sT];refine wpAnyH_ready (rs:=[8,12]) (by kernel_rfl) (by simp) (AllReadyH.cons rfl (fun K0 hK0=>?_) (AllReadyH.cons rfl (fun K0 hK0=>?_) AllReadyH.nil))
      ·go_simp;refine (cB _ (aa.refl [] _).drew).mono ?_;rintro _ w6 ⟨v6,rfl,hR6,hK6⟩;replace hR6:bp w5.heap.size w6 v6 (X.take i++[(dx seq d x,.slice a4 n4 c4)]):=hR6;replace hK6:=(aa.refl [] w5).drew.trans hK6 (by simp);obtain ⟨g6,n6,c6,rfl⟩:=eJ hR6 (by simp);have HR6:=ah hR6;have HK6:=ah hK6;have hT6:=HT5.out.kept hK6;have t6:=hT6.cells.2;clear hR6 hK6 hT6;(go_wp2_with fail);refine hK0.out _ _ ⟨HK6.out.cell b0 (by simp),HK6.out.cell b1 (by simp),HK6.out.cell b2 (by simp),HK6.out.cell b3 (by simp),HK6.out.cell b4 (by simp),HK6.out.cell b5 (by simp),HK6.out.cell b6 (by simp),HK6.out.cell b7 (by simp),HK6.out.cell b8 (by simp),HK6.out.cell b9 (by simp)⟩ (fun hHeld=>?_);clear hK0 K0;(try simp only [sT,Act.put]);refine aH 12 (by kernel_rfl) rfl (fun K0 hK0=>?_);go_simp;refine hK0.out _ _ hHeld (fun hHeld=>?_);clear hK0 K0;(try simp only [sT,Act.put]);refine aU [15] (by rfl) (by kernel_rfl) (fun _ _ _ _ _ h=>h) hHeld ?_
       iterate 1
        refine yk ?_ rfl (Or.inl ⟨by rfl,?_⟩) ?_;rotate_left
        ·intro w9 hSw;(try dsimp only at hSw);go_simp;(try with_reducible rfl)
        try simp only [sT,Act.put]
       refine aT ?_;simp only [au,sT];refine aH 16 (by kernel_rfl) rfl (fun K0 hK0=>?_);refine fO (by rfl) _ _ (by rfl) w5.heap.size _ (X.take i++[(dx seq d x,.slice a4 n4 c4)]) (by simp [Act.eval]) HR6.out ⟨g,(i+1)*10,none⟩ (X.length - (i+1)) (vc - (i+1)) (X.drop (i+1)) (by simp [Act.eval]) (by simp) ((HR5.out.kept HK6.out).runs (i+1)) (fun y hy=>HH1.out y (List.mem_of_mem_drop hy)) (by omega) (by simp;omega) HK6.out.size ?_;intro g7 n7 c7 w7 hR7 hg7 hat7;have HK7:Hid (aa [] w5 w7):=HK6.out.grown hg7 fun k hk=>.inr (World.ownsRow.lt HR6.out k hk).1;have HE7:=ah (HE.out w7 _ HK7.out hR7.t);have HB7:Hid (w5.heap.size≤g7):=(World.ownsRow.lt hR7 g7 rfl).1;have t7:=(HT5.out.kept HK7.out).cells.2;refine hK0.out _ _ ⟨HK7.out.cell b0 (by simp),HK7.out.cell b1 (by simp),HK7.out.cell b2 (by simp),HK7.out.cell b3 (by simp),HK7.out.cell b4 (by simp),HK7.out.cell b5 (by simp),HK7.out.cell b6 (by simp),HK7.out.cell b7 (by simp),HK7.out.cell b8 (by simp),HK7.out.cell b9 (by simp)⟩ (fun hHeld=>?_);clear hK0 K0 hR7 hg7 hat7;(try simp only [sT,Act.put]);refine aU [17,18] (by rfl) (by kernel_rfl) (fun _ _ _ _ _ h=>h) hHeld ?_
       iterate 2
        refine yk ?_ rfl (Or.inl ⟨by rfl,?_⟩) ?_;rotate_left
        ·intro w9 hSw;(try dsimp only at hSw);go_simp;(try with_reducible rfl)
        try simp only [sT,Act.put]
       refine aT ?_;simp only [au,sT];have fz:=aj (HK7.out.at HT5.out.at_ (by simp)) 1;refine aH 19 (by kernel_rfl) rfl (fun K0 hK0=>?_);go_simp;have hK8:aa [b] w5 (w7.setCell ⟨b,1,none⟩ (.slice (some ⟨g7,0,none⟩) n7 c7)):=(HK7.out.mono (by simp)).setCell (by simp) _;refine hK0.out _ _ ⟨hK8.cell b0 (by simp;omega),hK8.cell b1 (by simp;omega),hK8.cell b2 (by simp;omega),hK8.cell b3 (by simp;omega),hK8.cell b4 (by simp;omega),hK8.cell b5 (by simp;omega),hK8.cell b6 (by simp;omega),hK8.cell b7 (by simp;omega),hK8.cell b8 (by simp;omega),hK8.cell b9 (by simp;omega)⟩ (fun hHeld=>?_);refine wpAnyH_done (by kernel_rfl) ?_ _;clear hK0 K0;all_goals go_wp2_with fail
       all_goals go_ret
       all_goals exact eP HD.out HE7.out HK5.out hK8 HB7.out
      ·go_simp;refine hK0.out _ _ hHeld (fun hHeld=>?_);clear hK0 K0;(try simp only [sT,Act.put]);refine aU [15] (by rfl) (by kernel_rfl) (fun _ _ _ _ _ h=>h) hHeld ?_
       iterate 1
        refine yk ?_ rfl (Or.inl ⟨by rfl,?_⟩) ?_;rotate_left
        ·intro w9 hSw;(try dsimp only at hSw);go_simp;(try with_reducible rfl)
        try simp only [sT,Act.put]
       refine aT ?_;simp only [au,sT];refine aH 8 (by kernel_rfl) rfl (fun K0 hK0=>?_);go_simp;refine (cB _ (aa.refl [] _).drew).mono ?_;rintro _ w6 ⟨v6,rfl,hR6,hK6⟩;replace hR6:bp w5.heap.size w6 v6 (X.take i++[(dx seq d x,.slice a4 n4 c4)]):=hR6;replace hK6:=(aa.refl [] w5).drew.trans hK6 (by simp);obtain ⟨g6,n6,c6,rfl⟩:=eJ hR6 (by simp);have HR6:=ah hR6;have HK6:=ah hK6;have hT6:=HT5.out.kept hK6;have t6:=hT6.cells.2;clear hR6 hK6 hT6;(go_wp2_with fail);refine hK0.out _ _ ⟨HK6.out.cell b0 (by simp),HK6.out.cell b1 (by simp),HK6.out.cell b2 (by simp),HK6.out.cell b3 (by simp),HK6.out.cell b4 (by simp),HK6.out.cell b5 (by simp),HK6.out.cell b6 (by simp),HK6.out.cell b7 (by simp),HK6.out.cell b8 (by simp),HK6.out.cell b9 (by simp)⟩ (fun hHeld=>?_);clear hK0 K0;(try simp only [sT,Act.put]);refine aH 16 (by kernel_rfl) rfl (fun K0 hK0=>?_);refine fO (by rfl) _ _ (by rfl) w5.heap.size _ (X.take i++[(dx seq d x,.slice a4 n4 c4)]) (by simp [Act.eval]) HR6.out ⟨g,(i+1)*10,none⟩ (X.length - (i+1)) (vc - (i+1)) (X.drop (i+1)) (by simp [Act.eval]) (by simp) ((HR5.out.kept HK6.out).runs (i+1)) (fun y hy=>HH1.out y (List.mem_of_mem_drop hy)) (by omega) (by simp;omega) HK6.out.size ?_;intro g7 n7 c7 w7 hR7 hg7 hat7;have HK7:Hid (aa [] w5 w7):=HK6.out.grown hg7 fun k hk=>.inr (World.ownsRow.lt HR6.out k hk).1;have HE7:=ah (HE.out w7 _ HK7.out hR7.t);have HB7:Hid (w5.heap.size≤g7):=(World.ownsRow.lt hR7 g7 rfl).1;have t7:=(HT5.out.kept HK7.out).cells.2;refine hK0.out _ _ ⟨HK7.out.cell b0 (by simp),HK7.out.cell b1 (by simp),HK7.out.cell b2 (by simp),HK7.out.cell b3 (by simp),HK7.out.cell b4 (by simp),HK7.out.cell b5 (by simp),HK7.out.cell b6 (by simp),HK7.out.cell b7 (by simp),HK7.out.cell b8 (by simp),HK7.out.cell b9 (by simp)⟩ (fun hHeld=>?_);clear hK0 K0 hR7 hg7 hat7;(try simp only [sT,Act.put]);refine aU [17,18] (by rfl) (by kernel_rfl) (fun _ _ _ _ _ h=>h) hHeld ?_
       iterate 2
        refine yk ?_ rfl (Or.inl ⟨by rfl,?_⟩) ?_;rotate_left
        ·intro w9 hSw;(try dsimp only at hSw);go_simp;(try with_reducible rfl)
        try simp only [sT,Act.put]
       refine aT ?_;simp only [au,sT];have fz:=aj (HK7.out.at HT5.out.at_ (by simp)) 1;refine aH 19 (by kernel_rfl) rfl (fun K0 hK0=>?_);go_simp;have hK8:aa [b] w5 (w7.setCell ⟨b,1,none⟩ (.slice (some ⟨g7,0,none⟩) n7 c7)):=(HK7.out.mono (by simp)).setCell (by simp) _;refine hK0.out _ _ ⟨hK8.cell b0 (by simp;omega),hK8.cell b1 (by simp;omega),hK8.cell b2 (by simp;omega),hK8.cell b3 (by simp;omega),hK8.cell b4 (by simp;omega),hK8.cell b5 (by simp;omega),hK8.cell b6 (by simp;omega),hK8.cell b7 (by simp;omega),hK8.cell b8 (by simp;omega),hK8.cell b9 (by simp;omega)⟩ (fun hHeld=>?_);refine wpAnyH_done (by kernel_rfl) ?_ _;clear hK0 K0;all_goals go_wp2_with fail
       all_goals go_ret
       all_goals exact eP HD.out HE7.out HK5.out hK8 HB7.out
     ·go_simp;refine hK0.out _ _ hHeld (fun hHeld=>?_);clear hK0 K0;(try simp only [sT,Act.put]);refine aU [15] (by rfl) (by kernel_rfl) (fun _ _ _ _ _ h=>h) hHeld ?_
      iterate 1
       refine yk ?_ rfl (Or.inl ⟨by rfl,?_⟩) ?_;rotate_left
       ·intro w9 hSw;(try dsimp only at hSw);go_simp;(try with_reducible rfl)
       try simp only [sT,Act.put]
      refine aT ?_;simp only [au,sT];refine aH 4 (by kernel_rfl) rfl (fun K0 hK0=>?_);go_simp;refine hK0.out _ _ hHeld (fun hHeld=>?_);clear hK0 K0;(try simp only [sT,Act.put]);refine aU [6] (by rfl) (by kernel_rfl) (fun _ _ _ _ _ h=>h) hHeld ?_
      iterate 1
       refine yk ?_ rfl (Or.inl ⟨by rfl,?_⟩) ?_;rotate_left
       ·intro w9 hSw;(try dsimp only at hSw);go_simp;(try with_reducible rfl)
       try simp only [sT,Act.put]
      refine aT ?_;simp only [au,sT];refine aH 8 (by kernel_rfl) rfl (fun K0 hK0=>?_);go_simp;refine (cB _ (aa.refl [] _).drew).mono ?_;rintro _ w6 ⟨v6,rfl,hR6,hK6⟩;replace hR6:bp w5.heap.size w6 v6 (X.take i++[(dx seq d x,.slice a4 n4 c4)]):=hR6;replace hK6:=(aa.refl [] w5).drew.trans hK6 (by simp);obtain ⟨g6,n6,c6,rfl⟩:=eJ hR6 (by simp);have HR6:=ah hR6;have HK6:=ah hK6;have hT6:=HT5.out.kept hK6;have t6:=hT6.cells.2;clear hR6 hK6 hT6;(go_wp2_with fail);refine hK0.out _ _ ⟨HK6.out.cell b0 (by simp),HK6.out.cell b1 (by simp),HK6.out.cell b2 (by simp),HK6.out.cell b3 (by simp),HK6.out.cell b4 (by simp),HK6.out.cell b5 (by simp),HK6.out.cell b6 (by simp),HK6.out.cell b7 (by simp),HK6.out.cell b8 (by simp),HK6.out.cell b9 (by simp)⟩ (fun hHeld=>?_);clear hK0 K0;(try simp only [sT,Act.put]);refine aH 16 (by kernel_rfl) rfl (fun K0 hK0=>?_);refine fO (by rfl) _ _ (by rfl) w5.heap.size _ (X.take i++[(dx seq d x,.slice a4 n4 c4)]) (by simp [Act.eval]) HR6.out ⟨g,(i+1)*10,none⟩ (X.length - (i+1)) (vc - (i+1)) (X.drop (i+1)) (by simp [Act.eval]) (by simp) ((HR5.out.kept HK6.out).runs (i+1)) (fun y hy=>HH1.out y (List.mem_of_mem_drop hy)) (by omega) (by simp;omega) HK6.out.size ?_;intro g7 n7 c7 w7 hR7 hg7 hat7;have HK7:Hid (aa [] w5 w7):=HK6.out.grown hg7 fun k hk=>.inr (World.ownsRow.lt HR6.out k hk).1;have HE7:=ah (HE.out w7 _ HK7.out hR7.t);have HB7:Hid (w5.heap.size≤g7):=(World.ownsRow.lt hR7 g7 rfl).1;have t7:=(HT5.out.kept HK7.out).cells.2;refine hK0.out _ _ ⟨HK7.out.cell b0 (by simp),HK7.out.cell b1 (by simp),HK7.out.cell b2 (by simp),HK7.out.cell b3 (by simp),HK7.out.cell b4 (by simp),HK7.out.cell b5 (by simp),HK7.out.cell b6 (by simp),HK7.out.cell b7 (by simp),HK7.out.cell b8 (by simp),HK7.out.cell b9 (by simp)⟩ (fun hHeld=>?_);clear hK0 K0 hR7 hg7 hat7;(try simp only [sT,Act.put]);refine aU [17,18] (by rfl) (by kernel_rfl) (fun _ _ _ _ _ h=>h) hHeld ?_
      iterate 2
       refine yk ?_ rfl (Or.inl ⟨by rfl,?_⟩) ?_;rotate_left
       ·intro w9 hSw;(try dsimp only at hSw);go_simp;(try with_reducible rfl)
       try simp only [sT,Act.put]
      refine aT ?_;simp only [au,sT];have fz:=aj (HK7.out.at HT5.out.at_ (by simp)) 1;refine aH 19 (by kernel_rfl) rfl (fun K0 hK0=>?_);go_simp;have hK8:aa [b] w5 (w7.setCell ⟨b,1,none⟩ (.slice (some ⟨g7,0,none⟩) n7 c7)):=(HK7.out.mono (by simp)).setCell (by simp) _;refine hK0.out _ _ ⟨hK8.cell b0 (by simp;omega),hK8.cell b1 (by simp;omega),hK8.cell b2 (by simp;omega),hK8.cell b3 (by simp;omega),hK8.cell b4 (by simp;omega),hK8.cell b5 (by simp;omega),hK8.cell b6 (by simp;omega),hK8.cell b7 (by simp;omega),hK8.cell b8 (by simp;omega),hK8.cell b9 (by simp;omega)⟩ (fun hHeld=>?_);refine wpAnyH_done (by kernel_rfl) ?_ _;clear hK0 K0;all_goals go_wp2_with fail
      all_goals go_ret
      all_goals exact eP HD.out HE7.out HK5.out hK8 HB7.out
   ·have HD:Hid (dz id seq L=none):=by show _=_;rw [HD0.out,if_neg hq]
    have HL:Hid (bZ id seq d L=L):=by show _=_;unfold bZ;rw [HD.out]
    have hq':seq≤x.q:=by omega
    go_enter Tryz.func125,Tryz.ntmps125;(go_wp2_with fail);refine cI.mono ?_;rintro _ w2 ⟨rfl,hK2⟩;have HK2:=ah (HKz.out.trans hK2 (by simp));have hT2:=HT.out.kept HK2.out;obtain ⟨c0,c1⟩:=hT2.cells;have h1:=(HXc.out w2 HK2.out).c1;clear hK2 cI hT2 hKz;(go_wp2_with fail);go_ret
    exact ⟨by rw [HD.out];rfl,_,X,by rw [HL.out];exact HT.out.kept HK2.out,HK2.out.mono (by simp),fun k hk=>.inl hk⟩
end Go.Proofs.YtgpnlidnbldiiaaGreat
namespace Go.Proofs.YtgpnlidnbldiiaaGreat
open Go.RowKit
def ew (w0 w:World) (b sz:Nat) (L:List Se):Prop :=
 ∃ v X,fJ (fun k=>w0.heap.size≤k) w b sz v X L∧aa [] w0 w∧w0.heap.size≤b∧(∀ k,v.ownBlock=some k→w0.heap.size≤k)∧L.length≤sz∧sz≤16∧∀ x∈L,jZ x
theorem ew.kept {w0 w w':World}{b sz:Nat}{L:List Se}(h:ew w0 w b sz L) (k:aa [] w w'):ew w0 w' b sz L:=by
 obtain ⟨v,X,h1,h2,h3,h4,h5⟩:=h;exact ⟨v,X,h1.kept k,h2.trans k (by simp),h3,h4,h5⟩
theorem ew.keeps {w0 w:World}{b sz:Nat}{L:List Se}(h:ew w0 w b sz L):aa [] w0 w:=by
 obtain ⟨v,X,h1,h2,_⟩:=h;exact h2
theorem ew.lt {w0 w:World}{b sz:Nat}{L:List Se}(h:ew w0 w b sz L):b < w.heap.size:=by
 obtain ⟨v,X,h1,_⟩:=h;exact aq h1.at_
theorem ew.new (w:World) {sz:Nat}(h1:1≤sz) (h2:sz≤16):ew w (w.alloc (.cells #[.int .i64 sz,.slice none 0 0] 126)) w.heap.size sz [] :=
 ⟨_,[],fJ.new w sz h1,(aa.refl _ _).alloc _,Nat.le_refl _,fun k hk=>by simp [Value.ownBlock] at hk,Nat.zero_le _,h2,fun x hx=>by simp at hx⟩
theorem wS (w:World) (sz:Nat) (h1:1≤sz) (h2:sz≤16) :
 Calls Tryz.prog 30 #[.int .i64 sz] w fun e w'=>∃ b,e=.returned (.tuple #[.pointer (some ⟨b,0,none⟩),.int .i64 0])∧ew w w' b sz []:=by
 refine (kX w sz).mono fun e w' h=>?_;rcases h with ⟨_,_,he,rfl⟩ | ⟨h,_⟩
 ·exact ⟨_,he,ew.new w h1 h2⟩
 ·omega
theorem zP (w:World) (size:Int) (h:¬ (1≤size∧size≤16)) :
 Calls Tryz.prog 30 #[.int .i64 size] w fun e w'=>e=.returned (.tuple #[.pointer none,.int .i64 1])∧w'=w:=by
 refine (kX w size).mono fun e w' h2=>?_;rcases h2 with ⟨h3,h4,_⟩ | ⟨_,h3⟩
 ·exact absurd ⟨h3,h4⟩ h
 ·exact h3
end Go.Proofs.YtgpnlidnbldiiaaGreat
