/-
  Texts laid as one.
-/
import Derived.Test.YtakafmejllilnaaGreatFr0e
import Derived.Test.YtakafmejllilnaaGreatW5e
import Derived.Test.YtakafmejllilnaaGreatMgDce
import Derived.Test.YtakafmejllilnaaGreatH3e
import Derived.Test.YtakafmejllilnaaGreatEnDw2e
import Derived.Test.YtakafmejllilnaaGreatEnDv4e
set_option maxHeartbeats 8000000
set_option maxRecDepth 100000
/-
 The document's own answer: Copy,four,back,Frame,Unframe,by their contracts.
-/
namespace Go.Proofs.YtakafmejllilnaaGreat
open Go.RowKit
theorem jb (w:World) (x:Int) (h0:0≤x) (h1:x≤4294967295) :
 Calls Tryz.prog 52 #[.int .u32 x] w fun r w'=>∃ v,r=.returned v∧ev w' v (dA 4 x)∧(∀ k,v.ownBlock=some k→w.heap.size≤k)∧ab [] w w':=by
 go_enter Tryz.func52,Tryz.ntmps52;go_wp2
 go_ret
 have e:x / 16777216 % 256=x / 16777216:=by omega
 refine ⟨_,rfl,?_,?_,(ab.refl _ _).alloc _⟩
 ·have h:=World.ownsRow_lit (base:=0) (e:=5) (size:=1) w #[Value.int .u8 (x / 16777216),Value.int .u8 (x / 65536 % 256),Value.int .u8 (x / 256 % 256),Value.int .u8 (x % 256)] 4 (Nat.zero_le _) (by decide) rfl;have h2:dA 4 x=[x / 16777216,x / 65536 % 256,x / 256 % 256,x % 256]:=by rw [wH,e]
  rw [h2];exact h
 ·intro k hk;cases hk
  exact Nat.le_refl _
theorem nD (w:World) (ao:Option Addr) (n c:Nat) (l:List Int) (hs:Sl w ao n c l) (ho:bh l) :
 Calls Tryz.prog 20 #[.slice ao n c] w fun r w'=>∃ a n' c',r=.returned (.tuple #[.slice a n' c',.int .i64 (de l).2])∧eC w a n' c' (de l).1 w':=by
 obtain ⟨i0,hi,hz0,hz1,hz2⟩:=info_parts fj;have hn:=hs.1;subst hn;have hm:=hs.2.2.1;have hc:=hs.2.1;unfold maxLen at hm;have HS:Hid (Sl w ao l.length c l):=hs;clear hs;by_cases hbig:1048576 < l.length
 ·have hb2:(1048576:Int) < (l.length:Int):=by omega
  have HE:Hid (de l=([],3)):=by show de l=([],3);unfold de;rw [if_neg (by omega)]
  go_enter Tryz.func20,Tryz.ntmps20;go_wp2
  go_ret2
  rw [HE.out];exact ⟨none,0,0,rfl,eC.nil (ab.refl _ _)⟩
 ·have hb2:¬ (1048576:Int) < (l.length:Int):=by omega
  have HE:Hid (de l=(dE l,0)):=by show de l=(dE l,0);unfold de;rw [if_pos (by omega)]
  go_enter Tryz.func20,Tryz.ntmps20;(go_wp2_with fail);refine (jb _ _ (by omega) (by omega)).mono ?_;have HE2:Hid (dE l=dA 4 (l.length:Int)++dA 4 (dB (dA 4 (l.length:Int)))++(l++dA 4 (dB l))):=rfl;have hA4:=bp 4 (l.length:Int);have hAo:=fK 4 (l.length:Int);generalize dA 4 (l.length:Int)=A at HE2 hA4 hAo ⊢;have HA4:Hid (A.length=4):=hA4;clear hA4;rintro _ w1 ⟨v1,rfl,hO1,hf1,hk1⟩;obtain ⟨a1,n1,c1,rfl,hs1,hb1⟩:=cr hO1;have hn1:n1≤4:=by have:=hs1.1;have:=HA4.out;omega
  (go_wp2_with fail);refine (k8 _ _ _ _ _ hs1 (by omega)).mono ?_;rintro _ w2 ⟨v2,rfl,hO2,hf2,hk2⟩;have hs12:=Sl.kept hk2 hs1 (by simp);have hcr1:=iz A;(go_wp2_with fail);refine (kO _ _ _ _ _ hs12 hAo).mono ?_;rintro _ _ ⟨rfl,rfl⟩;(go_wp2_with fail);refine (jb _ _ (by omega) (by omega)).mono ?_;have hB4:=bp 4 (dB A:Int);generalize dA 4 (dB A:Int)=B at HE2 hB4 ⊢;have HB4:Hid (B.length=4):=hB4;clear hB4;rintro _ w3 ⟨v3,rfl,hO3,hf3,hk3⟩;obtain ⟨a3,n3,c3,rfl,hs3,hb3⟩:=cr hO3;have hn3:n3≤4:=by have:=hs3.1;have:=HB4.out;omega
  have hO23:ev w3 v2 A:=hk3.ownsRow hO2 (by simp);have hw1:=hk1.size;have hw2:=hk2.size;have hw3:=hk3.size;clear hO1 hs1 hb1 hO2 hs12 hO3 hb3;(go_wp2_with (at_builtin;refine ey rfl _ _ rfl v2 A rfl hO23 a3 n3 c3 B rfl hs3 (by have:=HA4.out;omega) ?_));intro v4 w4 hO4 hf4 hk4
  have hF4:∀ k,v4.ownBlock=some k→w.heap.size≤k:=by
   intro k hk;rcases hf4 k hk with h5 | h5
   ·have:=hf2 k h5;omega
   ·omega
  have hK4:ab [] w w4:=((hk1.trans hk2 (by simp)).trans hk3 (by simp)).trans hk4 (by intro i hi;right;have:=hf2 i (by simpa using hi);omega);have hs4:=Sl.kept hK4 HS.out (by simp);have hAB:(A++B).length≤8:=by have:=HA4.out;have:=HB4.out;simp;omega
  generalize A++B=AB at HE2 hO4 hAB;clear hO23 hs3 hf4 hk4 hf2 hf3;(go_wp2_with (at_builtin;refine ey rfl _ _ rfl v4 AB rfl hO4 ao l.length c l rfl hs4 (by omega) ?_));intro v5 w5 hO5 hf5 hk5
  have hF5:∀ k,v5.ownBlock=some k→w.heap.size≤k:=by
   intro k hk;rcases hf5 k hk with h5 | h5
   ·exact hF4 k h5
   ·have:=hK4.size;omega
  have hK5:ab [] w w5:=hK4.trans hk5 (by intro i hi;right;exact hF4 i (by simpa using hi));have hs5:=Sl.kept hK5 HS.out (by simp);have hcr2:=iz l;clear hO4 hf5 hk5 hs4;(go_wp2_with fail);refine (kO _ _ _ _ _ hs5 ho).mono ?_;rintro _ _ ⟨rfl,rfl⟩;(go_wp2_with fail);refine (jb _ _ (by omega) (by omega)).mono ?_;have hD4:=bp 4 (dB l:Int);generalize dA 4 (dB l:Int)=D at HE2 hD4 ⊢;have HD4:Hid (D.length=4):=hD4;clear hD4;rintro _ w6 ⟨v6,rfl,hO6,hf6,hk6⟩;obtain ⟨a6,n6,c6,rfl,hs6,hb6⟩:=cr hO6;have hn6:n6≤4:=by have:=hs6.1;have:=HD4.out;omega
  have hO56:ev w6 v5 (AB++l):=hk6.ownsRow hO5 (by simp);have hK6:ab [] w w6:=hK5.trans hk6 (by simp);have hlen6:(AB++l).length≤1048584:=by simp;omega
  generalize hG:AB++l=G at hO56 hlen6;have HG:Hid (AB++l=G):=hG;clear hO5 hO6 hb6 hs5 hG;(go_wp2_with (at_builtin;refine ey rfl _ _ rfl v5 G rfl hO56 a6 n6 c6 D rfl hs6 (by omega) ?_));intro v7 w7 hO7 hf7 hk7;obtain ⟨a7,n7,c7,rfl,hs7,hb7⟩:=cr hO7
  have HM:Hid (eC w a7 n7 c7 (dE l) w7):=by
   refine ⟨?_,fun k hk=>⟨?_,(hb7 k hk).1⟩,hK6.trans hk7 (by intro i hi;right;exact hF5 i (by simpa using hi))⟩
   ·rw [HE2.out,← List.append_assoc,HG.out];exact hs7
   ·rcases hf7 k (hb7 k hk).2 with h5 | h5
    ·exact hF5 k h5
    ·have:=hK6.size;omega
  clear hO7 hs7 hb7 hf7 hk7 hO56 hs6;go_wp2
  go_ret2
  rw [HE.out];exact ⟨a7,n7,c7,rfl,HM.out⟩
theorem jO (l b:List Int):aK (l,0) b=(l++b,0):=if_pos rfl
theorem vk {w:World}{x:Rm}(hS:dd w x.mo x.m x.mc x.r.c):0 < x.m→∀ k∈bO x.mo,k < w.heap.size:=by
 intro h0 k hk;obtain ⟨b,o,e,hc⟩:=hS.some h0;rw [e] at hk;simp [bO] at hk
 subst hk;have h1:=(hc 0 (by rw [hS.1];exact h0)).c0;unfold World.cell? at h1;by_cases hlt:k < w.heap.size
 ·exact hlt
 ·rw [show w.heap[(⟨k,o+0*3,none⟩:Addr).block]?=none from Array.getElem?_eq_none (by show w.heap.size≤k;omega)] at h1;simp at h1
theorem ef (p:Nat) (w:World) (O:List Nat) (l:List Int) (m:Nat) (n:Int) (hg:aj n=true) (hA:co p w O (l,0) (m+1)) :
 Calls Tryz.prog 26 #[.pointer (some ⟨p,0,none⟩),.int .i64 n] w (fI p w O (l++ag n,0) m):=by
 have h:=aD p w O (l,0) m n hg hA;rw [jO] at h;exact h
theorem pm (p:Nat) (w:World) (O:List Nat) (l:List Int) (m:Nat) (x:Rm) (hx:dw O w x) (hu:ei x.r.c) (hc:eF x.r) (hA:co p w O (l,0) (m+210)) :
 Calls Tryz.prog 28 #[.pointer (some ⟨p,0,none⟩),.agg (aR x).toArray] w (fI p w O (l++bR x.r,0) m):=by
 have h:=ql p w O (l,0) m x hx.s (fun h k hk=>⟨vk (x:=x) hx.s h k hk,hx.d h k hk⟩) hu hA;unfold vw at h;rw [if_pos ((ie x.r hu).2 hc),jO] at h;exact h
theorem qM (p:Nat) (w:World) (O:List Nat) (l:List Int) (m:Nat) (v:Vt) (uo:Option Addr) (un uc:Nat) (hx:bX O w v (.slice uo un uc)) (hu:lU v) (hc:fi v) (hA:co p w O (l,0) (m+7000)) :
 Calls Tryz.prog 30 #[.pointer (some ⟨p,0,none⟩),.agg (ak v (.slice uo un uc)).toArray] w (fI p w O (l++bV v,0) m):=by
 have h:=nP p w O (l,0) m v (.slice uo un uc) hx hu hA;unfold qN at h;rw [if_pos ((mO v hu).2 hc),jO] at h;exact h
theorem pE (p:Nat) (w:World) (O:List Nat) (l:List Int) (m:Nat) (ao:Option Addr) (n c:Nat) (i:List Int) (hs:Sl w ao n c i) (hd:0 < n→∀ k∈bO ao,k ∉ O) (hi:i.length≤524288) (hA:co p w O (l,0) (m+5000)) :
 Calls Tryz.prog 29 #[.pointer (some ⟨p,0,none⟩),.slice ao n c] w (fI p w O (l++(ag i.length++i),0) m):=by
 obtain ⟨g,rfl,hw,hl⟩:=hA;simp only at hw hl;have h:=lw w p g l 0 ao n c i hw (by omega) hs hd;unfold cX at h;rw [if_pos rfl,if_pos (by omega)] at h;refine h.mono (fun r w' hr=>⟨hr.1,lO hr ?_⟩);have h1:=bn 5 (i.length:Int);show (l++(ag i.length++i)).length+300*m≤1000000000;rw [List.length_append,List.length_append];unfold ag;omega
theorem sZ (w:World):co w.heap.size (w.alloc (.cells #[.slice none 0 0,.int .i64 0] 63)) [w.heap.size] ([],0) 3000003 :=
 ⟨none,rfl,⟨.slice none 0 0,heap_alloc_new w _,⟨by rfl,.inl ⟨rfl,rfl⟩⟩,rfl,by simp⟩,by simp⟩
theorem oG (k:Int) (fs:List Fd) (hfs:bi k=fs) (T:ByteArray) (hT:T=ac (fc k)):T.size=fs.length∧∀ i (hi:i < fs.length) h,T[i]'h=up fs[i]:=by
 unfold fc at hT;rw [hfs] at hT;subst hT;refine ⟨by rw [bJ,List.length_map],fun i hi h=>?_⟩;have h1:(ac (fs.map up))[i]'h=(fs.map up)[i]'(by simpa using hi):=rfl;rw [h1,List.getElem_map]
def ye (w:World) (p:Nat) (fs:List Fd) (H:List Int) (y:Mm) (iv:Value) (wr:World):Prop :=
 ∃ (i:Nat) (Oi:List Nat),iv=.int .i64 (i:Int)∧i≤fs.length∧Hid (co p wr Oi (H++(fs.take i).flatMap (fun f=>dp f y.ms),0) (1000000*(fs.length - i)))∧Hid (Bx wr w.heap.size 36 (aJ y))∧Hid (ab [] w wr)∧Hid (∀ k∈Oi,w.heap.size < k)
theorem dO {w wr w9:World}{p m:Nat}{q:List Int × Int}{y:Mm}{Oi:List Nat}(HB:Bx wr w.heap.size 36 (aJ y)) (HK:ab [] w wr) (HN:∀ k∈Oi,w.heap.size < k) (hW:bj (co p) wr Oi q m w9) :
 ∃ O9,Hid (co p w9 O9 q m)∧Hid (Bx w9 w.heap.size 36 (aJ y))∧Hid (ab [] w w9)∧Hid (∀ k∈O9,w.heap.size < k):=by
 obtain ⟨O9,hA,hk,hn⟩:=hW;have hlt:=HB.lt
 exact ⟨O9,hA,HB.kept hk (fun h=>by have:=HN _ h;omega),HK.trans hk (fun k hk=>.inr (by have:=HN k hk;omega)),fun k hk=>by
  rcases hn k hk with h | h
  ·exact HN k h
  ·omega⟩
theorem ou {w:World}{b o:Nat}{pre cs post:List Value}(h:w.rangeAt b o (pre++(cs++post))):w.rangeAt b (o+pre.length) cs:=fun j v hv=>by
 have hj:j < cs.length:=by
  by_cases hl:j < cs.length
  ·exact hl
  ·rw [List.getElem?_eq_none (by omega)] at hv;cases hv
 have h1:=h (pre.length+j) v (by rw [List.getElem?_append_right (by omega),Nat.add_sub_cancel_left,List.getElem?_append_left hj];exact hv);rw [Nat.add_assoc];exact h1
theorem ow {G:List Int}{D:List Vm}{j:Nat}(h:j < D.length):G++((D.map Vm.v).take j).flatMap qj++ag D[j].s++ag D[j].b++bR D[j].x.r=G++((D.map Vm.v).take (j+1)).flatMap qj:=by
 rw [List.take_succ_eq_append_getElem (by rw [List.length_map];exact h),List.flatMap_append,List.getElem_map];simp [qj,Vm.v]
def xZ (w:World) (p M:Nat) (G:List Int) (y:Mm) (iv:Value) (wr:World):Prop :=
 ∃ (i:Nat) (Oi:List Nat),iv=.int .i64 (i:Int)∧i≤y.D.length∧Hid (co p wr Oi (G++((y.D.map Vm.v).take i).flatMap qj,0) (M+220*(y.D.length - i)))∧Hid (Bx wr w.heap.size 36 (aJ y))∧Hid (ab [] w wr)∧Hid (∀ k∈Oi,w.heap.size < k)
set_option linter.unusedSimpArgs false in
theorem oQ (w:World) (y:Mm) (hx:bH w y):Calls Tryz.prog 14 #[.agg (aJ y).toArray] w (u7 w (fp y.ms)):=by
 obtain ⟨W,hW⟩:∃ W,W=w.alloc (.cells (aJ y).toArray 36):=⟨_,rfl⟩;have hK:ab [] w W:=by rw [hW];exact (ab.refl _ _).alloc _
 have HK:=aa hK;have HB:Hid (Bx W w.heap.size 36 (aJ y)):=by rw [hW];exact Bx.new w _ _
 have HT:Hid (av Tryz.prog 36 (aJ y).length):=dm;have cC:=jN W y (hx.kept hK);unfold aJ at hW;have HW:=aa hW;clear hW hK;cases hm:bE y.ms
 ·have HQ:Hid (fp y.ms=([],1)):=by show _=_;unfold fp;rw [hm];rfl
  rw [hm] at cC;have HC:=aa cC;clear cC hx hm;unfold aJ;go_enter Tryz.func14,Tryz.ntmps14;go_upto_region 1 with fail
  rw [← HW.out];(go_wp2_with (first | ((with_reducible refine ai HB.out HT.out ?_ ?_);rfl) | (go_at_call 17;refine HC.out.mono ?_;rintro _ w1 ⟨rfl,hk1⟩;have HK1:=aa (HK.out.trans hk1 (by simp));clear hk1)));go_ret2
  rw [HQ.out];exact ⟨none,0,0,rfl,Sl.nil _,(fun k hk=>by cases hk),HK1.out⟩
 have hok:=(fC hx.ms).1 hm;have HO:=aa (rZ hx hok);have HOC:=aa (oj (fA hok));have HFD:=aa (fA hok).2.2.2.2.1;have HQ:Hid (fp y.ms=de (bM y.ms)):=by show _=_;unfold fp;rw [hm,if_pos rfl];rfl
 have HBM:Hid (bM y.ms=[]++ag y.k++ag y.f++ag y.t++(bi y.k).flatMap fun g=>dp g y.ms):=by
  show _=_;show ag y.k++(ag y.f++(ag y.t++_))=_;simp only [List.nil_append,List.append_assoc];rfl
 have HX:=aa hx;have hfl:=gC y.k;rw [hm] at cC;have HC:=aa cC;generalize fp y.ms=res at HQ ⊢;clear cC hx hm hok;unfold aJ;go_enter Tryz.func14,Tryz.ntmps14;go_upto_region 1 with fail
 rw [← HW.out];go_upto_region 4 with (first | ((with_reducible refine ai HB.out HT.out ?_ ?_);rfl) | (go_at_call 17;refine HC.out.mono ?_;rintro _ w0 ⟨rfl,hk1⟩;have HK0:=aa (HK.out.trans hk1 (by simp));have HB0:=aa (HB.out.kept hk1 (by simp));clear hk1))
 obtain ⟨w1,hw1⟩:∃ w1,w1=w0.alloc (.cells #[.slice none 0 0,.int .i64 0] 63):=⟨_,rfl⟩;have ka:ab [] w0 w1:=by rw [hw1];exact (ab.refl _ _).alloc _
 obtain ⟨p,hp⟩:∃ p,p=w0.heap.size:=⟨_,rfl⟩;obtain ⟨O1,hO1⟩:∃ O1,O1=[p]:=⟨_,rfl⟩;have hA1:co p w1 O1 ([],0) (3000002+1):=by rw [hw1,hO1,hp];exact sZ w0
 have HPb:Hid (w.heap.size < p):=by show _ < _;rw [hp];exact HB0.out.lt
 have HK1:=aa (HK0.out.trans ka (by simp));have HB1:=aa (HB0.out.kept ka (by simp));have HP:=aa hp;have HW1:=aa hw1;have d0:=HB1.out.cell 0 rfl;have cK:=aa (ef p w1 O1 [] 3000002 y.k HO.out.k hA1);have HN1:Hid (∀ k∈O1,w.heap.size < k):=fun k hk=>by rw [hO1] at hk;simp at hk;subst hk;exact HPb.out
 clear hA1 ka hp hw1 hO1;go_upto_region 5 with fail
 rw [← HW1.out,← HP.out];clear HK0 HB0;go_wp2_with fail
 refine cK.out.mono ?_;clear cK;rintro _ w2 ⟨rfl,O2,hA2,hk2,hn2⟩;have hb2:w.heap.size ∉ O1:=fun h=>by have:=HN1.out _ h;omega
 have HN2:Hid (∀ k∈O2,w.heap.size < k):=fun k hk=>by
  rcases hn2 k hk with h | h
  ·exact HN1.out k h
  ·have:=HB1.out.lt;omega
 have HB2:=aa (HB1.out.kept hk2 hb2);have HK2:=aa (HK1.out.trans hk2 (fun k hk=>.inr (by have:=HN1.out k hk;omega)));have cF:=aa (ef p w2 O2 _ (3000000+1) y.f HO.out.f hA2);clear hA2 hk2 hn2 hb2 d0;have d1:=HB2.out.cell 1 rfl;go_wp2_with fail
 refine cF.out.mono ?_;clear cF;rintro _ w3 ⟨rfl,O3,hA3,hk3,hn3⟩;have hb3:w.heap.size ∉ O2:=fun h=>by have:=HN2.out _ h;omega
 have HN3:Hid (∀ k∈O3,w.heap.size < k):=fun k hk=>by
  rcases hn3 k hk with h | h
  ·exact HN2.out k h
  ·have:=HB2.out.lt;omega
 have HB3:=aa (HB2.out.kept hk3 hb3);have HK3:=aa (HK2.out.trans hk3 (fun k hk=>.inr (by have:=HN2.out k hk;omega)));have cT:=aa (ef p w3 O3 _ (3000000+0) y.t HO.out.t hA3);clear hA3 hk3 hn3 hb3 d1;have d2:=HB3.out.cell 2 rfl;go_wp2_with fail
 refine cT.out.mono ?_;clear cT;rintro _ w4 ⟨rfl,O4,hA4,hk4,hn4⟩;have hb4:w.heap.size ∉ O3:=fun h=>by have:=HN3.out _ h;omega
 have HN4:Hid (∀ k∈O4,w.heap.size < k):=fun k hk=>by
  rcases hn4 k hk with h | h
  ·exact HN3.out k h
  ·have:=HB3.out.lt;omega
 have HB4:=aa (HB3.out.kept hk4 hb4);have HK4:=aa (HK3.out.trans hk4 (fun k hk=>.inr (by have:=HN3.out k hk;omega)));have cH:=aa (hY w4 y.k);clear d2 hk4 hn4 hb4;have d0:=HB4.out.cell 0 rfl;obtain ⟨H,hH⟩:∃ H,H=[]++ag y.k++ag y.f++ag y.t:=⟨_,rfl⟩;rw [← hH] at HBM hA4
 have HHL:Hid (H.length≤18):=by
  show _≤_;have h1:=bn 5 y.k;have h2:=bn 5 y.f;have h3:=bn 5 y.t;rw [hH];unfold ag;simp only [List.nil_append,List.length_append];omega
 obtain ⟨fs,hfs⟩:∃ fs,bi y.k=fs:=⟨_,rfl⟩
 have HA4:Hid (co p w4 O4 (H++(fs.take 0).flatMap (fun f=>dp f y.ms),0) (1000000*(fs.length - 0))):=by
  rw [hfs] at hfl;have h:=hA4.less (show 1000000*(fs.length - 0)≤3000000 by omega);show co p w4 O4 (H++[],0) _;rw [List.append_nil];exact h
 obtain ⟨T,hT⟩:∃ T,T=ac (fc y.k):=⟨_,rfl⟩;have hL:=oG y.k fs hfs T hT;rw [← hT] at cH;have hTs:=hL.1;have HG:=aa hL.2;have HFS:Hid (∀ f∈fs,fb f y.ms):=by rw [← hfs];exact HFD.out
 rw [hfs] at hfl HBM;clear hH hA4 hT hL hfs HFD;go_upto_region 9 with (go_at_call 27;refine cH.out.mono ?_;clear cH;rintro _ _ ⟨rfl,rfl⟩)
 clear d0 HK1 HK2 HK3 HB1 HB2 HB3 HN1 HN2 HN3 HW1 HC;go_wp2_with fail
 go_loopw [7] (fun iv wr=>ye w p fs H y iv wr) (fun iv _=>fs.length - (intOf iv).toNat)
 case atStart=>exact ⟨0,O4,rfl,Nat.zero_le _,HA4,HB4,HK4,HN4⟩
 case round =>
  obtain ⟨i,Oi,rfl,hi,HAi,HBi,HKi,HNi⟩:=hrel;by_cases hlt:i < fs.length
  ·have hlt':(i:Int) < fs.length:=by omega
   have hix:=HG.out i hlt;have hAi:co p wr Oi (H++(fs.take i).flatMap (fun f=>dp f y.ms),0) (1000000*(fs.length - (i+1))+1000000):=HAi.out.less (by omega);have HAI:=aa hAi;have hof:=HFS.out fs[i] (List.getElem_mem hlt)
   have HNX:Hid (H++(fs.take i).flatMap (fun f=>dp f y.ms)++dp fs[i] y.ms=H++(fs.take (i+1)).flatMap (fun f=>dp f y.ms)):=by
    show _=_;rw [List.take_succ_eq_append_getElem hlt,List.flatMap_append,List.append_assoc];simp
   have HE:Hid (oK w wr Oi y):=⟨HX.out,HKi.out,fun k hk=>by have:=HNi.out k hk;omega⟩;have hbi:w.heap.size ∉ Oi:=fun h=>by have:=HNi.out _ h;omega
   have HBI:=aa hbi;go_upto_region 13 with fail
   generalize fs[i]=f at hof HNX ⊢;generalize H++(fs.take i).flatMap (fun f=>dp f y.ms)=HH at HNX HAI;clear hAi hbi HAi;cases f with
   | B =>
     have cN:=aa (ef p wr Oi HH (1000000*(fs.length - (i+1))) y.b hof (HAI.out.less (by omega)));have d3:=HBi.out.cell 3 rfl;clear hof HAI HE HFS;(go_wp2_with fail);refine cN.out.mono ?_;clear cN d3;rintro _ w9 ⟨rfl,hW9⟩;obtain ⟨O9,HA9,HB9,HK9,HN9⟩:=dO HBi.out HKi.out HNi.out hW9;have HX9:Hid (co p w9 O9 (H++(fs.take (i+1)).flatMap (fun f=>dp f y.ms),0) (1000000*(fs.length - (i+1)))):=by show co _ _ _ _ _;rw [← HNX.out];exact HA9.out
     clear hW9 HA9;(go_wp2_with fail);go_roundw
     case rel=>exact ⟨i+1,O9,by go_num,by omega,HX9,HB9,HK9,HN9⟩
     case measure=>simp [intOf];omega
   | S =>
     have cN:=aa (ef p wr Oi HH (1000000*(fs.length - (i+1))) y.s hof (HAI.out.less (by omega)));have d3:=HBi.out.cell 4 rfl;clear hof HAI HE HFS;(go_wp2_with fail);refine cN.out.mono ?_;clear cN d3;rintro _ w9 ⟨rfl,hW9⟩;obtain ⟨O9,HA9,HB9,HK9,HN9⟩:=dO HBi.out HKi.out HNi.out hW9;have HX9:Hid (co p w9 O9 (H++(fs.take (i+1)).flatMap (fun f=>dp f y.ms),0) (1000000*(fs.length - (i+1)))):=by show co _ _ _ _ _;rw [← HNX.out];exact HA9.out
     clear hW9 HA9;(go_wp2_with fail);go_roundw
     case rel=>exact ⟨i+1,O9,by go_num,by omega,HX9,HB9,HK9,HN9⟩
     case measure=>simp [intOf];omega
   | T =>
     have cN:=aa (ef p wr Oi HH (1000000*(fs.length - (i+1))) y.m hof (HAI.out.less (by omega)));have d3:=HBi.out.cell 5 rfl;clear hof HAI HE HFS;(go_wp2_with fail);refine cN.out.mono ?_;clear cN d3;rintro _ w9 ⟨rfl,hW9⟩;obtain ⟨O9,HA9,HB9,HK9,HN9⟩:=dO HBi.out HKi.out HNi.out hW9;have HX9:Hid (co p w9 O9 (H++(fs.take (i+1)).flatMap (fun f=>dp f y.ms),0) (1000000*(fs.length - (i+1)))):=by show co _ _ _ _ _;rw [← HNX.out];exact HA9.out
     clear hW9 HA9;(go_wp2_with fail);go_roundw
     case rel=>exact ⟨i+1,O9,by go_num,by omega,HX9,HB9,HK9,HN9⟩
     case measure=>simp [intOf];omega
   | V =>
     have cN:=aa (pm p wr Oi HH (1000000*(fs.length - (i+1))) y.x HE.out.x HX.out.u hof (HAI.out.less (by omega)));have HR:=aa HBi.out.msx;have HTR:Hid (av Tryz.prog 29 (aR y.x).length):=au;clear hof HAI HE HFS;(go_wp2_with ((with_reducible refine aT HR.out HTR.out ?_ ?_);rfl));refine cN.out.mono ?_;clear cN;rintro _ w9 ⟨rfl,hW9⟩;obtain ⟨O9,HA9,HB9,HK9,HN9⟩:=dO HBi.out HKi.out HNi.out hW9;have HX9:Hid (co p w9 O9 (H++(fs.take (i+1)).flatMap (fun f=>dp f y.ms),0) (1000000*(fs.length - (i+1)))):=by show co _ _ _ _ _;rw [← HNX.out];exact HA9.out
     clear hW9 HA9;(go_wp2_with fail);go_roundw
     case rel=>exact ⟨i+1,O9,by go_num,by omega,HX9,HB9,HK9,HN9⟩
     case measure=>simp [intOf];omega
   | L =>
     have hl4:y.D.length≤4096:=by have h:=hof.1;simpa [Mm.ms] using h
     have HVK:Hid (∀ z∈y.D,aj z.s=true∧aj z.b=true∧eF z.x.r):=fun z hz=>hof.2 z.v (List.mem_map_of_mem hz);obtain ⟨M,hM⟩:∃ M,M=1000000*(fs.length - (i+1)):=⟨_,rfl⟩;rw [← hM] at HAI;have cN:=aa (ef p wr Oi HH (M+220*y.D.length) (y.D.length:Int) ((aG _).2 (by omega)) (HAI.out.less (by omega)));have d3:=HBi.out.cell 17 rfl
     have HNY:Hid (HH++ag y.D.length++((y.D.map Vm.v).take y.D.length).flatMap qj=H++(fs.take (i+1)).flatMap (fun f=>dp f y.ms)):=by
      show _=_;rw [← HNX.out];have e:(y.D.map Vm.v).take y.D.length=y.D.map Vm.v:=List.take_of_length_le (by rw [List.length_map];omega);rw [e];show _=HH++(ag (y.D.map Vm.v).length++(y.D.map Vm.v).flatMap qj);rw [List.length_map,List.append_assoc]
     clear hof HAI HE HFS HNX;(go_wp2_with fail);refine cN.out.mono ?_;clear cN d3;rintro _ wa ⟨rfl,hWa⟩;obtain ⟨Oa,HAa,HBa,HKa,HNa⟩:=dO HBi.out HKi.out HNi.out hWa;obtain ⟨G,hG⟩:∃ G,G=HH++ag y.D.length:=⟨_,rfl⟩;rw [← hG] at HAa HNY;have HAb:Hid (co p wa Oa (G++((y.D.map Vm.v).take 0).flatMap qj,0) (M+220*(y.D.length - 0))):=by show co p wa Oa (G++[],0) _;rw [List.append_nil];exact HAa.out
     clear hWa HAa hG HBi HKi HNi;rename World=>wb
     (go_wp2_with fail);go_loopw [8] (fun iv wr=>xZ w p M G y iv wr) (fun iv _=>y.D.length - (intOf iv).toNat)
     case atStart=>exact ⟨0,Oa,rfl,Nat.zero_le _,HAb,HBa,HKa,HNa⟩
     case round =>
      obtain ⟨j,Oj,rfl,hj,HAj,HBj,HKj,HNj⟩:=hrel;by_cases hjl:j < y.D.length
      ·have hjl':(j:Int) < y.D.length:=by omega
       obtain ⟨b1,o1,hvo,hel⟩:=HX.out.v.e j hjl;have hxv:=HX.out.v.x y.D[j] (List.getElem_mem hjl);obtain ⟨gs,gb,gr⟩:=HVK.out y.D[j] (List.getElem_mem hjl);have hux:=HX.out.uv y.D[j] (List.getElem_mem hjl);have hnx:=ow (G:=G) hjl;generalize y.D[j]=v at hel hxv gs gb gr hux hnx;have HEL:=aa hel;have HXV:=aa hxv;have HGR:=aa gr;have HUX:=aa hux;have HNZ:=aa hnx;have HTR:Hid (av Tryz.prog 29 (aR v.x).length):=au;have f0:wr.cell? ⟨b1,o1+j*13,none⟩=some (.int .i64 v.s):=(aQ hel HKj.out (by simp)) 0 _ rfl;have HBo:Hid (∀ w9,Bx w9 w.heap.size 36 (aJ y)→w9.cell? ⟨w.heap.size,17,none⟩=some (.slice (some ⟨b1,o1,none⟩) y.D.length y.vc)):=fun w9 h=>by rw [← hvo];exact h.cell 17 rfl
       have e0:=HBo.out _ HBj.out;have cS:=aa (ef p wr Oj _ (M+220*(y.D.length - (j+1))+215) v.s gs (HAj.out.less (by omega)));clear hel hxv gr hux hnx hvo HAj;(go_wp2_with fail);refine cS.out.mono ?_;clear cS f0 e0;rintro _ w5 ⟨rfl,hW5⟩;obtain ⟨O5,HA5,HB5,HK5,HN5⟩:=dO HBj.out HKj.out HNj.out hW5;have f0:w5.cell? ⟨b1,o1+j*13+1,none⟩=some (.int .i64 v.b):=(aQ HEL.out HK5.out (by simp)) 1 _ rfl;have e0:=HBo.out _ HB5.out;have cS:=aa (ef p w5 O5 _ (M+220*(y.D.length - (j+1))+212) v.b gb (HA5.out.less (by omega)));clear hW5 HA5;(go_wp2_with fail);refine cS.out.mono ?_;clear cS f0 e0;rintro _ w6 ⟨rfl,hW6⟩;obtain ⟨O6,HA6,HB6,HK6,HN6⟩:=dO HB5.out HK5.out HN5.out hW6;have HR6:Hid (w6.rangeAt b1 (o1+j*13+2) (aR v.x)):=ou (pre:=[.int .i64 v.s,.int .i64 v.b]) (post:=[]) (by rw [← qT];exact aQ HEL.out HK6.out (by simp));have e0:=HBo.out _ HB6.out;have cS:=aa (pm p w6 O6 _ (M+220*(y.D.length - (j+1))) v.x (HXV.out.on HK6.out (fun k hk=>.inr (by have:=HN6.out k hk;omega))) HUX.out HGR.out (HA6.out.less (by omega)));clear hW6 HA6;(go_wp2_with ((with_reducible refine aT HR6.out HTR.out ?_ ?_);rfl));refine cS.out.mono ?_;clear cS e0 HR6;rintro _ w7 ⟨rfl,hW7⟩;obtain ⟨O7,HA7,HB7,HK7,HN7⟩:=dO HB6.out HK6.out HN6.out hW7;have HX7:Hid (co p w7 O7 (G++((y.D.map Vm.v).take (j+1)).flatMap qj,0) (M+220*(y.D.length - (j+1)))):=by show co _ _ _ _ _;rw [← HNZ.out];exact HA7.out
       clear hW7 HA7;(go_wp2_with fail);go_roundw
       case rel=>exact ⟨j+1,O7,by go_num,by omega,HX7,HB7,HK7,HN7⟩
       case measure=>simp [intOf];omega
      ·have hjl':¬ (j:Int) < y.D.length:=by omega
       have hje:j=y.D.length:=by omega
       have e0:=HBj.out.cell 17 rfl
       have HX9:Hid (co p wr Oj (H++(fs.take (i+1)).flatMap (fun f=>dp f y.ms),0) (1000000*(fs.length - (i+1)))):=by
        show co _ _ _ _ _;rw [← HNY.out,← hM];have h:=HAj.out.less (show M≤M+220*(y.D.length - j) by omega);rw [hje] at h;exact h
       clear HAj;(go_wp2_with fail);go_roundw
       case rel=>exact ⟨i+1,Oj,by go_num,by omega,HX9,HBj,HKj,HNj⟩
       case measure=>simp [intOf];omega
   | I =>
     have cN:=aa (pE p wr Oi HH (1000000*(fs.length - (i+1))) y.io y.i.length y.ic y.i (Sl.kept HKi.out HX.out.i (by simp)) (fun h0 k hk hm=>by have h1:=rP HX.out.i h0 k hk;have h2:=HNi.out k hm;omega) hof.1 (HAI.out.less (by omega)));have d3:=HBi.out.cell 18 rfl;clear hof HAI HE HFS;(go_wp2_with fail);refine cN.out.mono ?_;clear cN;rintro _ w9 ⟨rfl,hW9⟩;obtain ⟨O9,HA9,HB9,HK9,HN9⟩:=dO HBi.out HKi.out HNi.out hW9;have HX9:Hid (co p w9 O9 (H++(fs.take (i+1)).flatMap (fun f=>dp f y.ms),0) (1000000*(fs.length - (i+1)))):=by show co _ _ _ _ _;rw [← HNX.out];exact HA9.out
     clear hW9 HA9;(go_wp2_with fail);go_roundw
     case rel=>exact ⟨i+1,O9,by go_num,by omega,HX9,HB9,HK9,HN9⟩
     case measure=>simp [intOf];omega
   | N =>
     have cN:=aa (ef p wr Oi HH (1000000*(fs.length - (i+1))) y.n hof (HAI.out.less (by omega)));have d3:=HBi.out.cell 19 rfl;clear hof HAI HE HFS;(go_wp2_with fail);refine cN.out.mono ?_;clear cN d3;rintro _ w9 ⟨rfl,hW9⟩;obtain ⟨O9,HA9,HB9,HK9,HN9⟩:=dO HBi.out HKi.out HNi.out hW9;have HX9:Hid (co p w9 O9 (H++(fs.take (i+1)).flatMap (fun f=>dp f y.ms),0) (1000000*(fs.length - (i+1)))):=by show co _ _ _ _ _;rw [← HNX.out];exact HA9.out
     clear hW9 HA9;(go_wp2_with fail);go_roundw
     case rel=>exact ⟨i+1,O9,by go_num,by omega,HX9,HB9,HK9,HN9⟩
     case measure=>simp [intOf];omega
   | R =>
     have cN:=aa (qM p wr Oi HH (1000000*(fs.length - (i+1))) y.r y.uo y.un y.uc HE.out.r HX.out.ur hof (HAI.out.less (by omega)));have HR:=aa HBi.out.msr;have HTR:Hid (av Tryz.prog 34 (ak y.r (.slice y.uo y.un y.uc)).length):=am;clear hof HAI HE HFS;(go_wp2_with ((with_reducible refine aT HR.out HTR.out ?_ ?_);rfl));refine cN.out.mono ?_;clear cN;rintro _ w9 ⟨rfl,hW9⟩;obtain ⟨O9,HA9,HB9,HK9,HN9⟩:=dO HBi.out HKi.out HNi.out hW9;have HX9:Hid (co p w9 O9 (H++(fs.take (i+1)).flatMap (fun f=>dp f y.ms),0) (1000000*(fs.length - (i+1)))):=by show co _ _ _ _ _;rw [← HNX.out];exact HA9.out
     clear hW9 HA9;(go_wp2_with fail);go_roundw
     case rel=>exact ⟨i+1,O9,by go_num,by omega,HX9,HB9,HK9,HN9⟩
     case measure=>simp [intOf];omega
  ·have hlt':¬ (i:Int) < fs.length:=by omega
   have hie:i=fs.length:=by omega
   have HA9:Hid (co p wr Oi (bM y.ms,0) 0):=by
    show co _ _ _ _ _;rw [HBM.out];have h:=HAi.out.less (Nat.zero_le _);rw [hie,List.take_length] at h;exact h
   clear HAi;obtain ⟨g9,e9,hw9,hl9⟩:=HA9.out;have cD:=aa (nG wr p g9 (bM y.ms) 0 hw9 (by simp only at hl9;omega));clear hw9 hl9 e9 HA9 HFS HG;(go_wp2_with fail);refine cD.out.mono ?_;clear cD;rintro _ w5 ⟨a5,n5,c5,rfl,hS5,hb5,hk5⟩;have cF:=aa (nD w5 a5 n5 c5 (bM y.ms) hS5 HOC.out);have HK5:=aa (HKi.out.trans hk5 (by simp));clear hS5 hb5 hk5;(go_wp2_with fail);refine cF.out.mono ?_;clear cF;rintro _ w6 ⟨a6,n6,c6,rfl,hM6⟩;rw [← HQ.out] at hM6 ⊢;have H6:Hid (u7 w res (.returned (.tuple #[.slice a6 n6 c6,.int .i64 res.2])) w6):=⟨a6,n6,c6,rfl,hM6.1,fun k hk=>⟨Nat.le_trans HK5.out.size (hM6.2.1 k hk).1,(hM6.2.1 k hk).2⟩,HK5.out.trans hM6.2.2 (by simp)⟩;clear hM6;(go_wp2_with fail);go_ret2
   exact H6.out
end Go.Proofs.YtakafmejllilnaaGreat
