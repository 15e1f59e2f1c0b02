/-
  The document's own table: Ask, Done.
-/
import Derived.Test.YtgpnlidnbldiiaaGreatMtOpenr
import Derived.Test.YtgpnlidnbldiiaaGreatQ14r
namespace Go.Proofs.YtgpnlidnbldiiaaGreat
open Go.RowKit
variable {P : Nat → Prop}
theorem eH.keepT {w w':World}{b sz:Nat}{v:Value}{X:List (Se × Value)}{L:List Se}(h:eH P w b sz v X L) {S:List Nat}{Ts:List TypeId}(k:aa S w w') (hT:aJ w S Ts) (h0:96 ∉ Ts) (h1:155 ∉ Ts) (h2:137 ∉ Ts) (h3:60 ∉ Ts):eH P w' b sz v X L :=
 ⟨k.typed hT h.at_ h0,ap k hT h.row h1,fun x hx=>(h.own x hx).keep k hT h2 h3,h.ses⟩
theorem iL {w w4 w5:World}{b sz:Nat}{v v4:Value}{X4:List (Se × Value)}{L4:List Se}{vs:Array Value}(hT:eH P w4 b sz v4 X4 L4) (hK:aa (aW b v) w w4) (hv:∀ k,v4.ownBlock=some k→v.ownBlock=some k∨w.heap.size≤k) (hKe:aa [w.heap.size] w4 w5) (hZ:w4.heap[w.heap.size]?=some (.cells vs 39 (0,0))):Bv P w b sz v L4 w5 :=
 ⟨v4,X4,hT.keepT hKe (dw hZ) (by decide) (by decide) (by decide) (by decide),hK.trans hKe (fun k hk=>.inr (by simp at hk;omega)),hv⟩
def Dp (P:Nat→Prop) (w:World) (b sz:Nat) (v:Value) (id seq:Int) (L:List Se) (e:Ending) (w':World):Prop :=
 ∃ u,e=.returned (.tuple #[gA (aZ id seq L).1 u,.bool (aZ id seq L).2])∧cw w.heap.size w' u (aZ id seq L).1.k∧Bv P w b sz v (ct id L) w'
set_option maxHeartbeats 8000000 in
set_option maxRecDepth 100000 in
theorem xN {w:World}{b sz:Nat}{v:Value}{X:List (Se × Value)}{L:List Se}(h:eH P w b sz v X L) (hl:L.length≤100000) (hok:∀ x∈L,jZ x) (id seq:Int) :
 Calls Tryz.prog 89 #[.pointer (some ⟨b,0,none⟩),.int .i64 id,.int .i64 seq] w fun e w'=>Dp P w b sz v id seq L e w':=by
 have hKz:aa [] w (w.alloc (.cells #[.int .i64 0,.int .i64 0,.int .i64 0,.string ⟨#[]⟩,.int .u64 0,.slice none 0 0,.int .i64 0] 39)):=(aa.refl [] w).alloc _;have HKz:=ah hKz;have HZ:=ah (heap_alloc_new w (.cells #[.int .i64 0,.int .i64 0,.int .i64 0,.string ⟨#[]⟩,.int .u64 0,.slice none 0 0,.int .i64 0] 39));have hT1:=h.kept hKz;have cI:=jQ hT1 hl id;have HT:=ah h;have HLt:=ah h.lt;obtain ⟨vao,vc,hve,hvc,hvm,_,hat⟩:=h.row.t.shape;subst hve;unfold maxLen at hvm;have hXl:X.length≤100000:=by rw [h.len];exact hl
 cases hI:ir id L with
 | none =>
   have HV:Hid (aZ id seq L=(cq 6,true)):=by show _=_;unfold aZ;rw [hI]
   have HLs:Hid (ct id L=L):=by show _=_;unfold ct;rw [hI]
   rw [hI] at cI;simp only [kI] at cI;clear hT1 h hat;go_enter Tryz.func89,Tryz.ntmps89;(go_wp2_with fail);refine cI.mono ?_;rintro _ w2 ⟨rfl,hK2⟩;obtain ⟨w4,hw4⟩:∃ w4,w4=w2:=⟨_,rfl⟩;rw [← hw4] at hK2 ⊢;have HZ4:=ah (hK2.at HZ.out (by simp));have HT4:=ah ((HT.out.kept HKz.out).kept hK2);have HK4:Hid (aa (aW b (.slice vao X.length vc)) w w4):=(HKz.out.trans hK2 (by simp)).mono (by simp);have HV4:Hid (∀ k,(Value.slice vao X.length vc).ownBlock=some k→(Value.slice vao X.length vc).ownBlock=some k∨w.heap.size≤k):=fun k hk=>.inl hk;clear hK2 cI hw4 hKz;have hZ4:=HZ4.out;have r0:=ag (k:=0) hZ4 rfl;have r1:=ag (k:=1) hZ4 rfl;have r2:=ag (k:=2) hZ4 rfl;have r3:=ag (k:=3) hZ4 rfl;have r4:=ag (k:=4) hZ4 rfl;have r5:=ag (k:=5) hZ4 rfl;have r6:=ag (k:=6) hZ4 rfl;have fr0:=aj hZ4 0;have fr1:=aj hZ4 1;have fr2:=aj hZ4 2;have fr3:=aj hZ4 3;have fr4:=aj hZ4 4;have fr5:=aj hZ4 5;have fr6:=aj hZ4 6;clear hZ4;(go_wp2_with fail);have HKe:=ah (az (aa.refl [w.heap.size] w4) (b:=w.heap.size) (by simp) (.int .i64 6) (.int .i64 0) (.int .i64 0) (.string ⟨#[]⟩) (.int .u64 0) (.slice none 0 0) (.int .i64 0));refine bodyPost_ret (fB (by rfl) _ (by rfl) (aD HZ4.out rfl _ _ _ _ _ _ _) rfl) rfl ?_;exact ⟨.slice none 0 0,by rw [HV.out];rfl,by rw [HV.out];exact cw.nil _ _,by rw [HLs.out];exact iL HT4.out HK4.out HV4.out HKe.out HZ4.out⟩
 | some i =>
   obtain ⟨hi,hid⟩:=eo hI;clear hid;have hiX:i < X.length:=by rw [h.len];exact hi
   obtain ⟨g,he,hx⟩:=hat i hiX;subst he;have hCk:=dm h.ses hiX hi;have hkoi:=h.own _ (List.getElem_mem hiX);obtain ⟨mo,mm,mc,hm2⟩:=hkoi.ko.one;rw [hm2,hCk] at hkoi
   have hxc:∀ W,aa [] w W→jl W g (i*10) (L[i],.slice mo mm mc):=fun W hk=>by
    have h1:=hx.kept hk (by simp);have e:X[i]=(L[i],.slice mo mm mc):=Prod.ext hCk hm2;rw [e] at h1;exact h1
   have HXc:=ah hxc;have HKoi:=ah hkoi;have HLs:Hid (ct id L=fN L i):=by show _=_;unfold ct;rw [hI]
   have HV0:Hid (aZ id seq L=gN seq L[i]):=by show _=_;unfold aZ;rw [hI];simp only [cy hi]
   have HOx:Hid (jZ L[i]):=hok _ (List.getElem_mem hi);rw [hI] at cI;simp only [kI] at cI;have cU:=fun W (hk:aa [] w W)=>mf (h.kept hk) hl i hi;generalize L[i]=x at *;have hi0:¬ (i:Int) < 0:=by omega
   have hii:(i:Int) < X.length:=by omega
   have hic:i≤vc:=by omega
   clear hT1 h hx hCk hkoi hm2 hxc hat;go_enter Tryz.func89,Tryz.ntmps89;(go_wp2_with fail);refine cI.mono ?_;rintro _ w2 ⟨rfl,hK2⟩;have HK2:=ah (HKz.out.trans hK2 (by simp));have HZ2:=ah (hK2.at HZ.out (by simp));obtain ⟨h0,h1,h2,h3,h4,h5,h6,h7,h8,h9⟩:=HXc.out w2 HK2.out;obtain ⟨c0,c1⟩:=(HT.out.kept HK2.out).cells;obtain ⟨w3,hw3⟩:∃ w3,w3=w2.alloc (.cells #[.int .i64 x.i,.int .i64 x.q,.string (ak x.n),.int .i64 x.v.c,.int .i64 x.v.s,.int .i64 x.v.r,.string (ak x.v.p),.int .u64 x.v.d,.slice mo mm mc,.int .i64 x.v.m] 155):=⟨_,rfl⟩;have hKa:aa [] w2 w3:=by rw [hw3];exact (aa.refl _ _).alloc _
   have HB3:Hid (w3.heap[w2.heap.size]?=some (.cells #[.int .i64 x.i,.int .i64 x.q,.string (ak x.n),.int .i64 x.v.c,.int .i64 x.v.s,.int .i64 x.v.r,.string (ak x.v.p),.int .u64 x.v.d,.slice mo mm mc,.int .i64 x.v.m] 155 (0,0))):=by show _=_;rw [hw3];exact heap_alloc_new w2 _
   have HZ3:=ah (hKa.at HZ2.out (by simp));have HK3:=ah (HK2.out.trans hKa (by simp));have HO3:=ah (HKoi.out.kept HK3.out);have hs2:w.heap.size < w2.heap.size:=aq HZ2.out;clear hK2 cI hKa hKz;go_upto_region 5 with fail
   rw [← hw3];clear hw3 h0 h1 h2 h3 h4 h5 h6 h7 h8 h9 c0 c1;(go_wp2_with fail);refine (cU _ HK3.out).mono ?_;rintro _ w4 ⟨rfl,v4,X4,hT4,hK4,hv4⟩;have hoff:∀ k,w.heap.size≤k→k ∉ aW b (.slice (some ⟨g,0,none⟩) X.length vc):=fun k hk hm=>by have:=HLt.out k hm;omega
   have HT4:=ah hT4;have HK4:Hid (aa (aW b (.slice (some ⟨g,0,none⟩) X.length vc)) w w4):=(HK3.out.mono (by simp)).trans hK4 (fun k hk=>.inl hk);have HV4:Hid (∀ k,v4.ownBlock=some k→(Value.slice (some ⟨g,0,none⟩) X.length vc).ownBlock=some k∨w.heap.size≤k):=fun k hk=>(hv4 k hk).imp (fun e=>e) (fun e=>Nat.le_trans HK3.out.size e);have HZ4:=ah (hK4.at HZ3.out (hoff _ (Nat.le_refl _)));have HB4:=ah (hK4.at HB3.out (hoff _ (by omega)));have hTy:aJ w3 (aW b (.slice (some ⟨g,0,none⟩) X.length vc)) [96,155]:=(HT.out.kept HK3.out).typed;have HO4:=ah (HO3.out.keep hK4 hTy (by decide) (by decide));clear hT4 hK4 hv4 cU hoff hTy;by_cases h1:seq < 1
   ·have HV:Hid (aZ id seq L=(cq 5,true)):=by show _=_;rw [HV0.out];unfold gN;rw [if_pos h1]
    have hZ4:=HZ4.out;have r0:=ag (k:=0) hZ4 rfl;have r1:=ag (k:=1) hZ4 rfl;have r2:=ag (k:=2) hZ4 rfl;have r3:=ag (k:=3) hZ4 rfl;have r4:=ag (k:=4) hZ4 rfl;have r5:=ag (k:=5) hZ4 rfl;have r6:=ag (k:=6) hZ4 rfl;have fr0:=aj hZ4 0;have fr1:=aj hZ4 1;have fr2:=aj hZ4 2;have fr3:=aj hZ4 3;have fr4:=aj hZ4 4;have fr5:=aj hZ4 5;have fr6:=aj hZ4 6;clear hZ4;(go_wp2_with fail);have HKe:=ah (az (aa.refl [w.heap.size] w4) (b:=w.heap.size) (by simp) (.int .i64 5) (.int .i64 0) (.int .i64 0) (.string ⟨#[]⟩) (.int .u64 0) (.slice none 0 0) (.int .i64 0));refine bodyPost_ret (fB (by rfl) _ (by rfl) (aD HZ4.out rfl _ _ _ _ _ _ _) rfl) rfl ?_;exact ⟨.slice none 0 0,by rw [HV.out];rfl,by rw [HV.out];exact cw.nil _ _,by rw [HLs.out];exact iL HT4.out HK4.out HV4.out HKe.out HZ4.out⟩
   ·have q1:=ag (k:=1) HB4.out rfl;by_cases h2:seq < x.q
    ·have HV:Hid (aZ id seq L=(cq 7,true)):=by show _=_;rw [HV0.out];unfold gN;rw [if_neg h1,if_pos h2]
     have hZ4:=HZ4.out;have r0:=ag (k:=0) hZ4 rfl;have r1:=ag (k:=1) hZ4 rfl;have r2:=ag (k:=2) hZ4 rfl;have r3:=ag (k:=3) hZ4 rfl;have r4:=ag (k:=4) hZ4 rfl;have r5:=ag (k:=5) hZ4 rfl;have r6:=ag (k:=6) hZ4 rfl;have fr0:=aj hZ4 0;have fr1:=aj hZ4 1;have fr2:=aj hZ4 2;have fr3:=aj hZ4 3;have fr4:=aj hZ4 4;have fr5:=aj hZ4 5;have fr6:=aj hZ4 6;clear hZ4;(go_wp2_with fail);have HKe:=ah (az (aa.refl [w.heap.size] w4) (b:=w.heap.size) (by simp) (.int .i64 7) (.int .i64 0) (.int .i64 0) (.string ⟨#[]⟩) (.int .u64 0) (.slice none 0 0) (.int .i64 0));refine bodyPost_ret (fB (by rfl) _ (by rfl) (aD HZ4.out rfl _ _ _ _ _ _ _) rfl) rfl ?_;exact ⟨.slice none 0 0,by rw [HV.out];rfl,by rw [HV.out];exact cw.nil _ _,by rw [HLs.out];exact iL HT4.out HK4.out HV4.out HKe.out HZ4.out⟩
    ·by_cases h3:seq=x.q
     ·have HV:Hid (aZ id seq L=(x.v,true)):=by show _=_;rw [HV0.out];unfold gN;rw [if_neg h1,if_neg h2,if_pos h3]
      have q3:=ag (k:=3) HB4.out rfl;have q4:=ag (k:=4) HB4.out rfl;have q5:=ag (k:=5) HB4.out rfl;have q6:=ag (k:=6) HB4.out rfl;have q7:=ag (k:=7) HB4.out rfl;have q8:=ag (k:=8) HB4.out rfl;have q9:=ag (k:=9) HB4.out rfl;have cV:=gp w4 x.v _ HO4.out.ko HOx.out.2;unfold gA at cV;have hsw:w.heap.size≤w4.heap.size:=HK4.out.size;(go_wp2_with fail);refine cV.mono ?_;rintro _ w5 ⟨u5,rfl,hO5,hK5⟩;obtain ⟨a5,n5,c5,rfl⟩:=hO5.ko.one;have HZ5:=ah (hK5.at HZ4.out (by simp));have HT5:=ah (HT4.out.kept hK5);have HK5:=ah (HK4.out.trans hK5 (by simp));have HO5:=ah (hO5.mono hsw);clear hO5 hK5 cV q1 q3 q4 q5 q6 q7 q8 q9;have hZ5:=HZ5.out;have r0:=ag (k:=0) hZ5 rfl;have r1:=ag (k:=1) hZ5 rfl;have r2:=ag (k:=2) hZ5 rfl;have r3:=ag (k:=3) hZ5 rfl;have r4:=ag (k:=4) hZ5 rfl;have r5:=ag (k:=5) hZ5 rfl;have r6:=ag (k:=6) hZ5 rfl;have fr0:=aj hZ5 0;have fr1:=aj hZ5 1;have fr2:=aj hZ5 2;have fr3:=aj hZ5 3;have fr4:=aj hZ5 4;have fr5:=aj hZ5 5;have fr6:=aj hZ5 6;clear hZ5;(go_wp2_with fail);have HKe:=ah (az (aa.refl [w.heap.size] w5) (b:=w.heap.size) (by simp) (.int .i64 x.v.c) (.int .i64 x.v.s) (.int .i64 x.v.r) (.string (ak x.v.p)) (.int .u64 x.v.d) (.slice a5 n5 c5) (.int .i64 x.v.m));refine bodyPost_ret (fB (by rfl) _ (by rfl) (aD HZ5.out rfl _ _ _ _ _ _ _) rfl) rfl ?_;exact ⟨_,by rw [HV.out];rfl,by rw [HV.out];exact HO5.out.keep HKe.out (dw HZ5.out) (by decide) (by decide),by rw [HLs.out];exact iL HT5.out HK5.out HV4.out HKe.out HZ5.out⟩
     ·have HV:Hid (aZ id seq L=(cq 0,false)):=by show _=_;rw [HV0.out];unfold gN;rw [if_neg h1,if_neg h2,if_neg h3]
      have hZ4:=HZ4.out;have r0:=ag (k:=0) hZ4 rfl;have r1:=ag (k:=1) hZ4 rfl;have r2:=ag (k:=2) hZ4 rfl;have r3:=ag (k:=3) hZ4 rfl;have r4:=ag (k:=4) hZ4 rfl;have r5:=ag (k:=5) hZ4 rfl;have r6:=ag (k:=6) hZ4 rfl;have fr0:=aj hZ4 0;have fr1:=aj hZ4 1;have fr2:=aj hZ4 2;have fr3:=aj hZ4 3;have fr4:=aj hZ4 4;have fr5:=aj hZ4 5;have fr6:=aj hZ4 6;clear hZ4;(go_wp2_with fail);have HKe:=ah (az (aa.refl [w.heap.size] w4) (b:=w.heap.size) (by simp) (.int .i64 0) (.int .i64 0) (.int .i64 0) (.string ⟨#[]⟩) (.int .u64 0) (.slice none 0 0) (.int .i64 0));refine bodyPost_ret (fB (by rfl) _ (by rfl) (aD HZ4.out rfl _ _ _ _ _ _ _) rfl) rfl ?_;exact ⟨.slice none 0 0,by rw [HV.out];rfl,by rw [HV.out];exact cw.nil _ _,by rw [HLs.out];exact iL HT4.out HK4.out HV4.out HKe.out HZ4.out⟩
theorem vk (X:List (Se × Value)) (i:Nat) (h:i < X.length) (y:Se × Value) (j:Nat) (hj:j < 10) (u:Value) (hy:dU y=(dU X[i]).set j u):(X.set i y).flatMap dU=(X.flatMap dU).set (i*10+j) u:=by
 induction X generalizing i with
 | nil=>simp at h
 | cons x X ih =>
   cases i with
   | zero =>
     simp only [List.set_cons_zero,List.flatMap_cons,Nat.zero_mul,Nat.zero_add];rw [List.set_append,if_pos (by simp [dU];omega)];simp only [List.getElem_cons_zero] at hy;rw [hy]
   | succ i =>
     simp only [List.set_cons_succ,List.flatMap_cons];rw [ih i (by simpa using h) (by simpa using hy),List.set_append,if_neg (by simp [dU];omega)];congr 2
     simp [dU];omega
theorem bp.setk {B:Nat}{w:World}{g n cap:Nat}{X:List (Se × Value)}(h:bp B w (.slice (some ⟨g,0,none⟩) n cap) X) {i:Nat}(hi:i < X.length) (y:Se × Value) (j:Nat) (hj:j < 10) (u:Value) (hy:dU y=(dU X[i]).set j u) :
 bp B (w.setCell ⟨g,i*10+j,none⟩ u) (.slice (some ⟨g,0,none⟩) n cap) (X.set i y):=by
 obtain ⟨h1,h2⟩:=h;rcases h2 with ⟨h2,_⟩ | ⟨g',cap',cur,hv,hg,hh,h3,h4,h5,h6⟩
 ·cases h2
 ·obtain ⟨rfl,rfl,rfl⟩:g=g'∧n=X.length∧cap=cap':=by simpa using hv
  refine ⟨by rw [vk X i hi y j hj u hy,List.length_set,List.length_set];exact h1,.inr ⟨g,cap,cur.setIfInBounds (i*10+j) u,by simp,hg,heap_setCell_same w g (i*10+j) cur _ u hh,by simpa using h3,h4,by simpa using h5,?_⟩⟩;rw [vk X i hi y j hj u hy,List.length_set,Array.toList_setIfInBounds,← h6];rw [List.take_set]
end Go.Proofs.YtgpnlidnbldiiaaGreat
