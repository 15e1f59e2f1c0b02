/-
  Texts laid as one.
-/
import Derived.Test.YtakafmejllilnaaGreatW0r
import Derived.Test.YtakafmejllilnaaGreatMgPenr
import Derived.Test.YtakafmejllilnaaGreatW10r
import Derived.Test.YtakafmejllilnaaGreatW12r
set_option maxHeartbeats 8000000
set_option maxRecDepth 100000
/-
 The pen: votes;and whichever field.
-/
namespace Go.Proofs.YtakafmejllilnaaGreat
open Go.RowKit
def vS (s:List Int × Int) (L:List Vo) (i:Nat):List Int × Int:=bg s (ah L.length && (L.take i).all ge) (ap L.length++(L.take i).flatMap wZ)
theorem uz (s:List Int × Int) {L:List Vo}{i:Nat}(h:i < L.length):bg (bg (bg (vS s L i) (ah L[i].s) (ap L[i].s)) (ah L[i].b) (ap L[i].b)) (fe L[i].v) (bR L[i].v)=vS s L (i+1):=by
 unfold vS;rw [List.take_succ_eq_append_getElem h];simp only [dh,List.all_append,List.flatMap_append,List.all_cons,List.all_nil,List.flatMap_cons,List.flatMap_nil,Bool.and_true,List.append_nil,ge,wZ,Bool.and_assoc,List.append_assoc]
def x8 (p:Nat) (W:World) (O:List Nat) (s:List Int × Int) (m:Nat) (L:List Vo) (iv:Value) (wr:World):Prop :=
 ∃ (i:Nat) (Oi:List Nat),iv=.int .i64 (i:Int)∧i≤L.length∧Hid (ei p wr Oi (vS s L i) (m+202*(L.length - i)))∧Hid (ab O W wr)∧Hid (∀ k∈Oi,k∈O∨W.heap.size≤k)
set_option linter.unusedSimpArgs false in
theorem sy (p b:Nat) (w0 w:World) (O:List Nat) (s:List Int × Int) (m:Nat) (y:Mm) (hE:pi w0 w O y) (hi4:y.D.length≤4096) (hB:Bx w b 36 (aX y)) (hbO:b ∉ O) (hA:ei p w O s (m+1000000)):Calls Tryz.prog 165 #[gy p b] w (qK p w O s m y .L):=by
 have k0:=ct w 96 [.pointer (some ⟨p,0,none⟩),.pointer (some ⟨b,0,none⟩)];have k1:=k0.drew;have hP:=Bx.new w 96 [.pointer (some ⟨p,0,none⟩),.pointer (some ⟨b,0,none⟩)];have q0:=hP.cell 0 rfl;have q1:=hP.cell 1 rfl;have q2:=(hB.kept k0 (by simp)).cell 17 rfl;have hA1:=(aI p).kept hA k1 (by simp);obtain ⟨L,hL⟩:∃ L,L=y.D.map Vm.v:=⟨_,rfl⟩;have hLl:L.length=y.D.length:=by rw [hL,List.length_map]
 have cN:=aa (dQ p _ O s (m+202*y.D.length) (y.D.length:Int) ((aI p).le hA1 (by omega)))
 have HGO:Hid (qK p w O s m y .L=fun r w'=>r=.returned (.tuple #[])∧cg (ei p) w O (vS s L y.D.length) m w'):=by
  show _=_;unfold qK vS;have e:L.take y.D.length=L:=by rw [← hLl,List.take_length]
  rw [e,hL];rfl
 have HV0:Hid (bg s (ah y.D.length) (ap y.D.length)=vS s L 0):=by
  show _=_;unfold vS;rw [hLl];simp
 have HE:=aa (hE.on (k1.mono (by simp)) (fun k hk=>.inl hk));have HK1:=aa k1;have HlO:=aa ((aI p).lt hA);have HbO:=aa hbO;have HLL:=aa hLl;have HL:=aa hL;have hV:=hE.h.v;obtain ⟨ao,hao⟩:∃ ao,ao=y.vo:=⟨_,rfl⟩;rw [← hao] at hV q2;have HV:=aa hV;have HMX:=aa hE.h.v.mx;have HLE:=aa hE.h.v.le;clear k0 k1 hP hB hA hA1 hbO hE hLl hL hV hao;rw [HGO.out];clear HGO;unfold gy;go_enter Tryz.func165,Tryz.ntmps165;go_upto_region 1 with fail
 refine wp_region_held_drew (S:=fun w9=>w9.cell? ⟨w.heap.size,0,none⟩=some (.pointer (some ⟨p,0,none⟩))∧w9.cell? ⟨w.heap.size,1,none⟩=some (.pointer (some ⟨b,0,none⟩))∧w9.cell? ⟨b,17,none⟩=some (.slice ao y.D.length y.vc)) (by kernel_rfl) ⟨q0,q1,q2⟩ (fun hHeld=>?_);refine ay [0,1,2,3,4,5,6,7] (by rfl) (by kernel_rfl) (fun _ _ _ _ _ h=>h) hHeld ?_
 iterate 8
  refine yk ?_ rfl (Or.inl ⟨by rfl,?_⟩) ?_;rotate_left
  ·intro w9 hSw;obtain ⟨m0,m1,m2⟩:=hSw;go_simp;(try with_reducible rfl)
  try simp only [sT,Act.put]
 refine ax ?_;simp only [ai,sT];refine cd 8 (by kernel_rfl) rfl (fun K0 hK0=>?_);go_simp;refine cN.out.mono ?_;clear cN;rintro _ w1 ⟨rfl,O1,hA1,hk1,hn1⟩;rw [HV0.out] at hA1;have hwO:w.heap.size ∉ O:=fun h=>by have:=HlO.out _ h;omega
 have c0:=hk1.cell q0 hwO;have c1:=hk1.cell q1 hwO;have c2:=hk1.cell q2 HbO.out;have HC:=aa (And.intro c0 (And.intro c1 c2));have HA1:=aa hA1;have HKW:=aa hk1;have HN1:=aa hn1;have Q0:=aa q0;clear hk1 hn1 hA1 HV0 q0 q1 q2;go_wp2_with fail
 refine hK0.out _ _ HC.out (fun hHeld=>?_);clear hK0 K0;refine wpAnyH_done (by kernel_rfl) ?_ _;clear hHeld HC;have hle4:y.D.length≤4096:=hi4;clear hi4;obtain ⟨W,hW⟩:∃ W,W=(w.alloc (.cells #[.pointer (some ⟨p,0,none⟩),.pointer (some ⟨b,0,none⟩)] 96)).drew:=⟨_,rfl⟩;have HWs:Hid (W.heap.size=w.heap.size+1):=by show _=_;rw [hW];simp
 have hQW:W.cell? ⟨w.heap.size,0,none⟩=some (.pointer (some ⟨p,0,none⟩)):=by rw [hW];exact Q0.out
 have HQW:=aa hQW;clear Q0 hQW;rw [← hW] at HKW HN1 HE HK1;clear hW;have HA1':Hid (ei p w1 O1 (vS s L 0) (m+202*(L.length - 0))):=(aI p).le HA1.out (by have:=HLL.out;omega);go_wp2_with fail
 go_loopw [19] (fun iv wr=>x8 p W O s m L iv wr) (fun iv _=>y.D.length - (intOf iv).toNat)
 case atStart=>exact ⟨0,O1,rfl,Nat.zero_le _,HA1',HKW,HN1⟩
 case round =>
  obtain ⟨i,Oi,rfl,hi,HAi,HKi,HNi⟩:=hrel;clear c0 c1 c2
  have hwO2:w.heap.size ∉ Oi:=fun h=>by
   rcases HNi.out _ h with h1 | h1
   ·exact hwO h1
   ·have:=HWs.out;omega
  have c0:=HKi.out.cell HQW.out hwO;by_cases hlt:i < y.D.length
  ·have hlt':(i:Int) < y.D.length:=by omega
   obtain ⟨b0,o0,hvo,hel⟩:=HV.out.e i hlt;have hxy:=HV.out.x y.D[i] (List.getElem_mem hlt);have hiL:i < L.length:=by have:=HLL.out;omega
   have hnx:=uz s hiL;have hLi:L[i]=y.D[i].v:=by have h:=HL.out;subst h;rw [List.getElem_map]
   rw [hLi] at hnx;generalize y.D[i]=v at hel hxy hnx hLi;have hEi:=HE.out.on HKi.out HNi.out;have HEL:=aa (a8 hel hEi.k (by simp));have HNX:Hid (bg (bg (bg (vS s L i) (ah v.s) (ap v.s)) (ah v.b) (ap v.b)) (fe v.x.r) (bR v.x.r)=vS s L (i+1)):=hnx;have HXY:Hid (∀ w9 O9,ab Oi wr w9→(∀ k∈O9,k∈Oi∨wr.heap.size≤k)→dS O9 w9 v.x):=fun w9 O9 h1 h2=>hxy.on (hEi.k.trans h1 (fun k hk=>.inr (hEi.o k hk))) (fun k hk=>.inr ((hEi.on h1 h2).o k hk));have hca:ab [] wr (wr.alloc (.cells #[.int .i64 0,.int .i64 0,.int .i64 0,.string ⟨#[]⟩,.int .i64 0,.int .i64 0,.int .i64 0,.string ⟨#[]⟩,.slice none 0 0,.string ⟨#[]⟩,.int .i64 0,.int .i64 0,.int .i64 0] 55)):=(ab.refl _ _).alloc _;have HCA:=aa hca;have HBa:Hid (Bx (wr.alloc (.cells #[.int .i64 0,.int .i64 0,.int .i64 0,.string ⟨#[]⟩,.int .i64 0,.int .i64 0,.int .i64 0,.string ⟨#[]⟩,.slice none 0 0,.string ⟨#[]⟩,.int .i64 0,.int .i64 0,.int .i64 0] 55)) wr.heap.size 55 (cq kX)):=Bx.new wr _ (cq kX);have HLa:Hid ((cq v).length=(cq kX).length):=rfl;have HOa:=aa (fY v);have HTV:Hid (aq Tryz.prog 55 (cq v).length):=eR;have HTR:Hid (aq Tryz.prog 29 (bp v.x).length):=ar;have hlOi:=(aI p).lt HAi.out;have HlOi:=aa hlOi;have hgO:wr.heap.size ∉ Oi:=fun h=>by have:=hlOi _ h;omega
   have HGO:=aa hgO;clear hel hxy hnx hEi hca hlOi hgO;subst hvo;go_upto_region 5 with (first | ((with_reducible refine bf HEL.out HTV.out ?_ ?_);rfl) | ((with_reducible refine ac HBa.out HLa.out HOa.out HTV.out ?_ ?_ ?_);rfl;rfl;intro w5 HB5 HK5))
   have hk5:ab [wr.heap.size] wr w5:=(HCA.out.mono (by simp)).trans HK5.out (by simp);have hk5o:ab Oi wr w5:=(HCA.out.mono (by simp)).trans HK5.out (by simp);have hwlt:w.heap.size < wr.heap.size:=by have:=HKi.out.size;have:=HWs.out;omega
   have hglt:=HB5.out.lt;have d0:=hk5.cell c0 (by simp;omega);have e0:=HB5.out.cell 0 rfl;have hA5:=(aI p).kept HAi.out hk5 (by simpa using HGO.out);have cS:=aa (dQ p w5 Oi (vS s L i) (m+202*(L.length - (i+1))+201) v.s ((aI p).le hA5 (by omega)));have HK5o:=aa hk5o;have HWL:=aa hwlt;have HGL:=aa hglt;clear hA5 hk5 hk5o hwlt hglt c0;(go_wp2_with fail);refine cS.out.mono ?_;clear cS;rintro _ w6 ⟨rfl,O6,hA6,hk6,hn6⟩
   have hg6:wr.heap.size ∉ O6:=fun h=>by
    rcases hn6 _ h with h1 | h1
    ·exact HGO.out h1
    ·have:=HGL.out;omega
   have hw6:w.heap.size ∉ O6:=fun h=>by
    rcases hn6 _ h with h1 | h1
    ·exact hwO2 h1
    ·have:=HGL.out;have:=HWL.out;omega
   have f0:=hk6.cell d0 hwO2;have f1:=hk6.cell (HB5.out.cell 1 rfl) HGO.out;have HX6:=aa (a8 HB5.out.vox hk6 HGO.out);have HK6:=aa (HK5o.out.trans hk6 (fun k hk=>.inl hk))
   have HN6:Hid (∀ k∈O6,k∈Oi∨wr.heap.size≤k):=fun k hk=>by
    rcases hn6 k hk with h1 | h1
    ·exact .inl h1
    ·exact .inr (by have:=HGL.out;omega)
   have HGL6:Hid (wr.heap.size < w6.heap.size):=Nat.lt_of_lt_of_le HGL.out hk6.size;have cB:=aa (dQ p w6 O6 _ (m+202*(L.length - (i+1))+200) v.b hA6);clear hA6 hk6 hn6 d0 e0;(go_wp2_with fail);refine cB.out.mono ?_;clear cB;rintro _ w7 ⟨rfl,O7,hA7,hk7,hn7⟩;have g0:=hk7.cell f0 hw6;have HX7:=aa (a8 HX6.out hk7 hg6);have HK7:=aa (HK6.out.trans hk7 HN6.out)
   have HN7:Hid (∀ k∈O7,k∈Oi∨wr.heap.size≤k):=fun k hk=>by
    rcases hn7 k hk with h1 | h1
    ·exact HN6.out k h1
    ·exact .inr (by have:=HGL6.out;omega)
   have hP:=jm p w7 O7 _ (m+202*(L.length - (i+1))) v.x (HXY.out w7 O7 HK7.out HN7.out) hA7;rw [j1,HNX.out] at hP;have cP:Hid (Calls Tryz.prog 140 #[.pointer (some ⟨p,0,none⟩),.agg (bp v.x).toArray] w7 _):=hP;clear hA7 hk7 hn7 f0 f1 hP hw6 hg6;(go_wp2_with ((with_reducible refine bf HX7.out HTR.out ?_ ?_);rfl));refine cP.out.mono ?_;clear cP;rintro _ w8 ⟨rfl,O8,hA8,hk8,hn8⟩;have HK8:=aa (HKi.out.trans (HK7.out.trans hk8 HN7.out) HNi.out);have HA8:=aa hA8
   have HN8:Hid (∀ k∈O8,k∈O∨W.heap.size≤k):=fun k hk=>by
    have h0:=HKi.out.size;have h9:=HK7.out.size;rcases hn8 k hk with h1 | h1
    ·rcases HN7.out k h1 with h2 | h2
     ·exact HNi.out k h2
     ·exact .inr (by omega)
    ·exact .inr (by omega)
   clear hA8 hk8 hn8 g0;(go_wp2_with fail);go_roundw
   case rel=>exact ⟨i+1,O8,by go_num,by omega,HA8,HK8,HN8⟩
   case measure=>simp [intOf];omega
  ·have hlt':¬ (i:Int) < y.D.length:=by omega
   have hie:i=y.D.length:=by have:=HLL.out;omega
   have HA9:Hid (ei p wr Oi (vS s L y.D.length) m):=by have h:=(aI p).le HAi.out (show m≤m+202*(L.length - i) by omega);rw [hie] at h;exact h
   clear hie;(go_wp2_with fail);go_returns
   exact ⟨rfl,Oi,HA9.out,(HK1.out.mono (by simp)).trans HKi.out (fun k hk=>.inl hk),fun k hk=>by
    rcases HNi.out k hk with h1 | h1
    ·exact .inl h1
    ·exact .inr (by have:=HWs.out;omega)⟩
theorem uT (p b:Nat) (w0 w:World) (O:List Nat) (s:List Int × Int) (m:Nat) (y:Mm) (f:Fd) (fn:FuncId) (hfn:fn=match f with | .B=>158 | .S=>161 | .T=>162 | .V=>163 | .L=>165 | .I=>159 | .N=>160 | .R=>164)
 (hE:pi w0 w O y) (hi:y.i.length≤1048576) (hi4:y.D.length≤4096) (hB:Bx w b 36 (aX y)) (hbO:b ∉ O) (hA:ei p w O s (m+1000000)):Calls Tryz.prog fn #[gy p b] w (qK p w O s m y f):=by
 subst hfn;have le:∀ k,k≤1000000→ei p w O s (m+k):=fun k hk=>(aI p).le hA (by omega);cases f
 ·exact qX p b w O s m y hB hbO (le 1 (by omega))
 ·exact ss p b w O s m y hB hbO (le 1 (by omega))
 ·exact rJ p b w O s m y hB hbO (le 1 (by omega))
 ·exact rp p b w0 w O s m y hE hB hbO (le 200 (by omega))
 ·exact sy p b w0 w O s m y hE hi4 hB hbO hA
 ·exact rL p b w0 w O s m y hE hi hB hbO (le 5000 (by omega))
 ·exact rM p b w O s m y hB hbO (le 1 (by omega))
 ·exact qN p b w0 w O s m y hE hB hbO (le 7000 (by omega))
theorem mh (p:Nat) (w:World) (O:List Nat) (l:List Int) (m:Nat) (n:Int) (hg:ah n=true) (hA:ei p w O (l,0) (m+1)) :
 Calls Tryz.prog 55 #[.pointer (some ⟨p,0,none⟩),.int .i64 n] w fun r w'=>r=.returned (.tuple #[])∧cg (ei p) w O (l++ap n,0) m w':=by
 have h:=dQ p w O (l,0) m n hA;rw [hg] at h;exact h
theorem wD (p b:Nat) (w0 w:World) (O:List Nat) (l:List Int) (m:Nat) (y:Mm) (f:Fd) (fn:FuncId) (hfn:fn=match f with | .B=>158 | .S=>161 | .T=>162 | .V=>163 | .L=>165 | .I=>159 | .N=>160 | .R=>164)
 (hw:xu f y.ms=true) (hE:pi w0 w O y) (hi:y.i.length≤1048576) (hi4:y.D.length≤4096) (hB:Bx w b 36 (aX y)) (hbO:b ∉ O) (hA:ei p w O (l,0) (m+1000000)) :
 Calls Tryz.prog fn #[.agg #[.pointer (some ⟨p,0,none⟩),.pointer (some ⟨b,0,none⟩)]] w fun r w'=>r=.returned (.tuple #[])∧cg (ei p) w O (l++gi f y.ms,0) m w':=by
 have h:=uT p b w0 w O (l,0) m y f fn hfn hE hi hi4 hB hbO hA;unfold qK at h;rw [hw] at h;exact h
structure xH (y:Mm):Prop where
 k:ah y.k=true
 f:ah y.f=true
 t:ah y.t=true
 w:∀ g∈bc y.k,xu g y.ms=true
 i:y.i.length≤1048576
 l:y.D.length≤4096
 n:bc y.k≠[]
def xS (w:World) (p g:Nat) (fs:List Fd) (H:List Int) (y:Mm) (iv:Value) (wr:World):Prop :=
 ∃ (i:Nat) (Oi:List Nat),iv=.int .i64 (i:Int)∧i≤fs.length∧Hid (ei p wr Oi (H++(fs.take i).flatMap (fun f=>gi f y.ms),0) (1000000*(fs.length - i)))∧Hid (Bx wr w.heap.size 36 (aX y)) ∧
  Hid (Bx wr g 1 (fs.map (sX 96 (.agg #[.pointer (some ⟨p,0,none⟩),.pointer (some ⟨w.heap.size,0,none⟩)]))))∧Hid (ab [] w wr)∧Hid (∀ k∈Oi,w.heap.size < k∧k≠g)
theorem oX (w:World) (y:Mm) (hx:cb w y) (ho:xH y):Calls Tryz.prog 21 #[.agg (aX y).toArray] w (i7 w (bM y.ms,0)):=by
 obtain ⟨W,hW⟩:∃ W,W=w.alloc (.cells (aX y).toArray 36):=⟨_,rfl⟩;have hK:ab [] w W:=by rw [hW];exact (ab.refl _ _).alloc _
 have HK:=aa hK;have HB:Hid (Bx W w.heap.size 36 (aX y)):=by rw [hW];exact Bx.new w _ _
 have HWs:Hid (W.heap.size=w.heap.size+1):=by show _=_;rw [hW];simp
 have HX:=aa hx;have HO:=aa ho;have c0:=HB.out.cell 0 rfl;have c1:=HB.out.cell 1 rfl;have c2:=HB.out.cell 2 rfl;unfold aX at hW;have HW:=aa hW;have hfl:=hY y.k
 have HBM:Hid (bM y.ms=[]++ap y.k++ap y.f++ap y.t++(bc y.k).flatMap fun g=>gi g y.ms):=by
  show _=_;show ap y.k++(ap y.f++(ap y.t++_))=_;simp only [List.nil_append,List.append_assoc];rfl
 clear hx hW hK ho;unfold aX;go_enter Tryz.func21,Tryz.ntmps21;go_upto_region 1 with fail
 rw [← HW.out];go_wp2_with fail
 refine (eY W).mono ?_;rintro _ w1 ⟨rfl,hWr,hk1⟩;obtain ⟨p,hp⟩:∃ p,p=W.heap.size:=⟨_,rfl⟩;rw [← hp] at hWr ⊢;have HPb:Hid (w.heap.size < p):=by show _ < _;rw [hp,HWs.out];omega
 obtain ⟨O1,hO1⟩:∃ O1,O1=[p]:=⟨_,rfl⟩;have hA1:ei p w1 O1 ([],0) (3000000+2+1):=⟨none,hO1,hWr,by simp⟩;have d0:=hk1.cell c0 (by simp);have d1:=hk1.cell c1 (by simp);have d2:=hk1.cell c2 (by simp);have HK1:=aa (HK.out.trans hk1 (by simp));have HB1:=aa (HB.out.kept hk1 (by simp));have cK:=aa (mh p w1 O1 [] (3000000+2) y.k HO.out.k hA1);have HN1:Hid (∀ k∈O1,w.heap.size < k):=fun k hk=>by rw [hO1] at hk;simp at hk;subst hk;exact HPb.out
 clear hWr hA1 hk1 c0 c1 c2 hp hO1;go_wp2_with fail
 refine cK.out.mono ?_;clear cK;rintro _ w2 ⟨rfl,O2,hA2,hk2,hn2⟩;have hb2:w.heap.size ∉ O1:=fun h=>by have:=HN1.out _ h;omega
 have HN2:Hid (∀ k∈O2,w.heap.size < k):=fun k hk=>by
  rcases hn2 k hk with h | h
  ·exact HN1.out k h
  ·have:=HB1.out.lt;omega
 have HB2:=aa (HB1.out.kept hk2 hb2);have HK2:=aa (HK1.out.trans hk2 (fun k hk=>.inr (by have:=HN1.out k hk;omega)));have cF:=aa (mh p w2 O2 _ (3000000+1) y.f HO.out.f hA2);have d0:=HB2.out.cell 0 rfl;have d1:=HB2.out.cell 1 rfl;have d2:=HB2.out.cell 2 rfl;clear hA2 hk2 hn2 hb2;go_wp2_with fail
 refine cF.out.mono ?_;clear cF;rintro _ w3 ⟨rfl,O3,hA3,hk3,hn3⟩;have hb3:w.heap.size ∉ O2:=fun h=>by have:=HN2.out _ h;omega
 have HN3:Hid (∀ k∈O3,w.heap.size < k):=fun k hk=>by
  rcases hn3 k hk with h | h
  ·exact HN2.out k h
  ·have:=HB2.out.lt;omega
 have HB3:=aa (HB2.out.kept hk3 hb3);have HK3:=aa (HK2.out.trans hk3 (fun k hk=>.inr (by have:=HN2.out k hk;omega)));have cT:=aa (mh p w3 O3 _ (3000000+0) y.t HO.out.t hA3);have d0:=HB3.out.cell 0 rfl;have d1:=HB3.out.cell 1 rfl;have d2:=HB3.out.cell 2 rfl;clear hA3 hk3 hn3 hb3;go_wp2_with fail
 refine cT.out.mono ?_;clear cT;rintro _ w4 ⟨rfl,O4,hA4,hk4,hn4⟩;have hb4:w.heap.size ∉ O3:=fun h=>by have:=HN3.out _ h;omega
 have HN4:Hid (∀ k∈O4,w.heap.size < k):=fun k hk=>by
  rcases hn4 k hk with h | h
  ·exact HN3.out k h
  ·have:=HB3.out.lt;omega
 have HB4:=aa (HB3.out.kept hk4 hb4);have HK4:=aa (HK3.out.trans hk4 (fun k hk=>.inr (by have:=HN3.out k hk;omega)));have HA4:=aa hA4;have d0:=HB4.out.cell 0 rfl;have cO:=aa (iw w4 96 (.agg #[.pointer (some ⟨p,0,none⟩),.pointer (some ⟨w.heap.size,0,none⟩)]) y.k HO.out.n);have HWG:=aa HO.out.w;clear hA4 hk4 hn4 hb4;go_wp2_with fail
 refine cO.out.mono ?_;clear cO;rintro _ w5 ⟨rfl,hG,hk5⟩;have HG:=aa hG;have HB5:=aa (HB4.out.kept hk5 (by simp));have HK5:=aa (HK4.out.trans hk5 (by simp));have hA5:=(aI p).kept HA4.out hk5 (by simp);have hlt4:=(aI p).lt HA4.out;have HN5:Hid (∀ k∈O4,w.heap.size < k∧k≠w4.heap.size):=fun k hk=>⟨HN4.out k hk,by have:=hlt4 k hk;omega⟩;clear hG hk5 hlt4;generalize bc y.k=fs at hfl HBM HWG HG ⊢;obtain ⟨H,hH⟩:∃ H,H=[]++ap y.k++ap y.f++ap y.t:=⟨_,rfl⟩;rw [← hH] at HBM hA5
 have HA5:Hid (ei p w5 O4 (H++(fs.take 0).flatMap (fun f=>gi f y.ms),0) (1000000*(fs.length - 0))):=by
  have h:=(aI p).le hA5 (show 1000000*(fs.length - 0)≤3000000 by omega);show ei p w5 O4 (H++[],0) _;rw [List.append_nil];exact h
 clear hH hA5 d0 d1 d2;have hE1 : ∀ (x : Value) (w : World), (invoke (.fn (.method "wapentake/msg.ballot") #[]) #[.iface 96 x]).run Tryz.prog w = .ok (.enter 158 #[x]) w := fun _ _ => by kernel_rfl
 have hE2 : ∀ (x : Value) (w : World), (invoke (.fn (.method "wapentake/msg.slot") #[]) #[.iface 96 x]).run Tryz.prog w = .ok (.enter 161 #[x]) w := fun _ _ => by kernel_rfl
 have hE3 : ∀ (x : Value) (w : World), (invoke (.fn (.method "wapentake/msg.time") #[]) #[.iface 96 x]).run Tryz.prog w = .ok (.enter 162 #[x]) w := fun _ _ => by kernel_rfl
 have hE4 : ∀ (x : Value) (w : World), (invoke (.fn (.method "wapentake/msg.value") #[]) #[.iface 96 x]).run Tryz.prog w = .ok (.enter 163 #[x]) w := fun _ _ => by kernel_rfl
 have hE5 : ∀ (x : Value) (w : World), (invoke (.fn (.method "wapentake/msg.votes") #[]) #[.iface 96 x]).run Tryz.prog w = .ok (.enter 165 #[x]) w := fun _ _ => by kernel_rfl
 have hE6 : ∀ (x : Value) (w : World), (invoke (.fn (.method "wapentake/msg.image") #[]) #[.iface 96 x]).run Tryz.prog w = .ok (.enter 159 #[x]) w := fun _ _ => by kernel_rfl
 have hE7 : ∀ (x : Value) (w : World), (invoke (.fn (.method "wapentake/msg.number") #[]) #[.iface 96 x]).run Tryz.prog w = .ok (.enter 160 #[x]) w := fun _ _ => by kernel_rfl
 have hE8 : ∀ (x : Value) (w : World), (invoke (.fn (.method "wapentake/msg.verdict") #[]) #[.iface 96 x]).run Tryz.prog w = .ok (.enter 164 #[x]) w := fun _ _ => by kernel_rfl
 go_wp2_with fail
 go_loopw [27] (fun iv wr=>xS w p w4.heap.size fs H y iv wr) (fun iv _=>fs.length - (intOf iv).toNat)
 case atStart=>exact ⟨0,O4,rfl,Nat.zero_le _,HA5,HB5,HG,HK5,HN5⟩
 case round =>
  obtain ⟨i,Oi,rfl,hi,HAi,HBi,HGi,HKi,HNi⟩:=hrel;by_cases hlt:i < fs.length
  ·have hlt':(i:Int) < fs.length:=by omega
   have hce:=HGi.out.cell i (v:=sX 96 (.agg #[.pointer (some ⟨p,0,none⟩),.pointer (some ⟨w.heap.size,0,none⟩)]) fs[i]) (by rw [List.getElem?_map,List.getElem?_eq_getElem hlt];rfl);have hAi:ei p wr Oi (H++(fs.take i).flatMap (fun f=>gi f y.ms),0) (1000000*(fs.length - (i+1))+1000000):=(aI p).le HAi.out (by omega);have hwf:=HWG.out fs[i] (List.getElem_mem hlt)
   have HNX:Hid (H++(fs.take i).flatMap (fun f=>gi f y.ms)++gi fs[i] y.ms=H++(fs.take (i+1)).flatMap (fun f=>gi f y.ms)):=by
    show _=_;rw [List.take_succ_eq_append_getElem hlt,List.flatMap_append,List.append_assoc];simp
   have HE:Hid (pi w wr Oi y):=⟨HX.out,HKi.out,fun k hk=>by have:=(HNi.out k hk).1;omega⟩;have hbi:w.heap.size ∉ Oi:=fun h=>by have:=(HNi.out _ h).1;omega
   have hgi:w4.heap.size ∉ Oi:=fun h=>(HNi.out _ h).2 rfl;generalize fs[i]=f at hce hwf HNX;have cF:=aa (fun fn hfn=>wD p w.heap.size w wr Oi _ _ y f fn hfn hwf HE.out HO.out.i HO.out.l HBi.out hbi hAi);have HBI:=aa hbi;have HGI:=aa hgi;clear hAi hwf hbi hgi;cases f
   all_goals
    unfold sX xw at hce;(go_wp2_with fail);refine (cF.out _ rfl).mono ?_;clear cF hce;rintro _ w6 ⟨rfl,O6,hA6,hk6,hn6⟩;rw [HNX.out] at hA6;have HA6:=aa hA6;have HB6:=aa (HBi.out.kept hk6 HBI.out);have HG6:=aa (HGi.out.kept hk6 HGI.out);have HK6:=aa (HKi.out.trans hk6 (fun k hk=>.inr (by have:=(HNi.out k hk).1;omega)))
    have HN6:Hid (∀ k∈O6,w.heap.size < k∧k≠w4.heap.size):=fun k hk=>by
     rcases hn6 k hk with h | h
     ·exact HNi.out k h
     ·have h1:=HBi.out.lt;have h2:=HGi.out.lt;exact ⟨by omega,by omega⟩
    clear hA6 hk6 hn6;(go_wp2_with fail);go_roundw
    case rel=>exact ⟨i+1,O6,by go_num,by omega,HA6,HB6,HG6,HK6,HN6⟩
    case measure=>simp [intOf];omega
  ·have hlt':¬ (i:Int) < fs.length:=by omega
   have hA9:=HAi.out;rw [List.take_of_length_le (by omega),← HBM.out] at hA9;obtain ⟨g9,_,hw9,hl9⟩:=hA9;have cD:=aa (iF wr p g9 _ _ hw9 (by omega));clear hw9 hl9 HAi;(go_wp2_with fail);refine cD.out.mono ?_;clear cD;rintro _ w9 ⟨a9,c9,rfl,hS9,hb9,hk9⟩;have HEN:Hid (i7 w (bM y.ms,0) (.returned (.tuple #[.slice a9 (bM y.ms).length c9,.int .i64 0])) w9):=⟨a9,c9,rfl,hS9,fun k hk=>⟨Nat.le_trans HKi.out.size (hb9 k hk).1,(hb9 k hk).2⟩,HKi.out.trans hk9 (by simp)⟩;clear hS9 hb9 hk9;(go_wp2_with fail);go_ret2
   exact HEN.out
theorem nb {a b:List Int}(h:bi a) (k:bi b):bi (a++b):=h.append k
theorem lF {α:Type}(b:α→List Int) (L:List α) (h:∀ x∈L,bi (b x)):bi (L.flatMap b):=by
 induction L with
 | nil=>exact bq
 | cons x L ih=>rw [List.flatMap_cons];exact nb (h x (List.mem_cons_self ..)) (ih (fun y hy=>h y (List.mem_cons_of_mem _ hy)))
theorem vF {x:Ms}{f:Fd}(h:fp f x):bi (gi f x):=by
 cases f
 ·exact (aW _ h).1
 ·exact (aW _ h).1
 ·exact (aW _ h).1
 ·exact (pv h).1
 ·refine nb (aW _ ((aZ _).2 (by have:=h.1;omega))).1 (lF _ _ (fun v hv=>?_));have h2:=h.2 v hv;exact nb (aW _ h2.1).1 (nb (aW _ h2.2.1).1 (pv h2.2.2).1)
 ·exact nb (aW _ ((aZ _).2 (by have:=h.1;omega))).1 h.2
 ·exact (aW _ h).1
 ·exact (uL h).1
theorem r8 {x:Ms}(h:fX x):bi (bM x):=by
 obtain ⟨h1,_,h2,h3,h4,_⟩:=h;exact nb (aW _ h1).1 (nb (aW _ h2).1 (nb (aW _ h3).1 (lF _ _ (fun f hf=>vF (h4 f hf)))))
theorem vK {w:World}{y:Mm}(h:cb w y) (ho:ol y.ms):xH y:=by
 have hf:=je ho;obtain ⟨h1,h2,h3,h4,_,h5⟩:=ho;have h6:=(gP y.ms).1 h5;refine ⟨hf.1,hf.2.2.1,hf.2.2.2.1,fun g hg=>vB h.ms (h4 g hg),?_,?_,h1⟩
 ·by_cases hI:Fd.I∈bc y.ms.k
  ·have:=(h4 .I hI).1
   show y.ms.i.length≤_;omega
  ·have e:y.ms.i=[]:=h6 .I hI;show y.ms.i.length≤_;rw [e];simp
 ·have e0:y.D.length=y.ms.l.length:=by show _=(y.D.map Vm.v).length;rw [List.length_map]
  rw [e0];by_cases hL:Fd.L∈bc y.ms.k
  ·exact (h4 .L hL).1
  ·have e:y.ms.l=[]:=h6 .L hL;rw [e];simp
theorem pm {w:World}{y:Mm}(h:cb w y):kh y=bQ y.ms:=by
 have h1:=tb y h.ms;have h2:=gU h.ms;cases hc:kh y <;> cases hm:bQ y.ms
 ·rfl
 ·rw [hc] at h1;exact absurd (h1.2 (h2.1 hm)) (by simp)
 ·rw [hm] at h2;exact absurd (h2.2 (h1.1 hc)) (by simp)
 ·rfl
theorem p3 (w:World) (y:Mm) (hx:cb w y):Calls Tryz.prog 10 #[.agg (aX y).toArray] w (i7 w (jr y.ms)):=by
 obtain ⟨W,hW⟩:∃ W,W=w.alloc (.cells (aX y).toArray 36):=⟨_,rfl⟩;have hK:ab [] w W:=by rw [hW];exact (ab.refl _ _).alloc _
 have HK:=aa hK;have HB:Hid (Bx W w.heap.size 36 (aX y)):=by rw [hW];exact Bx.new w _ _
 have HT:Hid (aq Tryz.prog 36 (aX y).length):=cL;have hXW:=hx.kept hK;have HX:=aa hXW;have cC:=j9 W y hXW;have hcm:=pm hx;rw [hcm] at cC;unfold aX at hW;have HW:=aa hW;clear hW hK hcm;cases hm:bQ y.ms
 ·have HQ:Hid (jr y.ms=([],1)):=by show _=_;unfold jr;rw [hm];rfl
  rw [hm] at cC;have HC:=aa cC;clear cC hXW hx hm;unfold aX;go_enter Tryz.func10,Tryz.ntmps10;go_upto_region 1 with fail
  rw [← HW.out];(go_wp2_with (first | ((with_reducible refine ak HB.out HT.out ?_ ?_);rfl) | (go_at_call 16;refine HC.out.mono ?_;rintro _ w1 ⟨rfl,hk1⟩;have HK1:=aa (HK.out.trans hk1 (by simp));clear hk1)));go_ret2
  rw [HQ.out];exact ⟨none,0,rfl,Sl.nil _,(fun k hk=>by cases hk),HK1.out⟩
 ·have hok:=(gU hx.ms).1 hm;have HOC:=aa (r8 (je hok));have HWK:=aa (vK hx hok);have HQ:Hid (jr y.ms=dn (bM y.ms)):=by show _=_;unfold jr;rw [hm,if_pos rfl];rfl
  rw [hm] at cC;have HC:=aa cC;clear cC hXW hx hm hok;unfold aX;go_enter Tryz.func10,Tryz.ntmps10;go_upto_region 1 with fail
  rw [← HW.out];go_upto_region 4 with (first | ((with_reducible refine ak HB.out HT.out ?_ ?_);rfl) | (go_at_call 16;refine HC.out.mono ?_;rintro _ w1 ⟨rfl,hk1⟩;have HK1:=aa (HK.out.trans hk1 (by simp));have HB1:=aa (HB.out.kept hk1 (by simp));have HX1:=aa (HX.out.kept hk1);clear hk1))
  have cW:=aa (oX w1 y HX1.out HWK.out);go_upto_region 7 with (first | ((with_reducible refine ak HB1.out HT.out ?_ ?_);rfl) | (go_at_call 21;refine cW.out.mono ?_;rintro _ w2 ⟨a2,c2,rfl,hS2,hb2,hk2⟩;have HS2:=aa hS2;have HK2:=aa (HK1.out.trans hk2 (by simp));clear hS2 hb2 hk2))
  have cF:=aa (og w2 a2 _ c2 _ HS2.out HOC.out);(go_wp2_with fail);refine cF.out.mono ?_;clear cF;rintro _ w3 ⟨a3,n3,c3,rfl,hS3,hb3,hk3⟩;have hn3:=hS3.1
  have HEN:Hid (i7 w (jr y.ms) (.returned (.tuple #[.slice a3 n3 c3,.int .i64 (dn (bM y.ms)).2])) w3):=by
   rw [HQ.out];refine ⟨a3,c3,by rw [hn3],by rw [hn3];exact hS3,fun k hk=>⟨Nat.le_trans HK2.out.size (hb3 k hk).1,(hb3 k hk).2⟩,HK2.out.trans hk3 (by simp)⟩
  clear hS3 hb3 hk3 hn3;(go_wp2_with fail);go_ret2
  exact HEN.out
end Go.Proofs.YtakafmejllilnaaGreat
