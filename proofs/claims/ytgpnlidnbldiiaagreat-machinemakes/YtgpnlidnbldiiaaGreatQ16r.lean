/-
  Texts laid as one.
-/
import Derived.Test.YtgpnlidnbldiiaaGreatQ2r
import Derived.Test.YtgpnlidnbldiiaaGreatQ15r
set_option maxHeartbeats 8000000
set_option maxRecDepth 100000
set_option linter.unusedSimpArgs false
/-
 (*Epochs).Change.
-/
namespace Go.Proofs.YtgpnlidnbldiiaaGreat
open Go.RowKit
def Eb (B:Nat) (al:Int) (L:List Ep) (z q:Int) (add:Bool) (w:World) (p:Nat) (e:Ending) (w':World):Prop :=
 e=.returned (.int .i64 (fW al L z q add))∧g9 B w' p al (jn al L z q add)∧Tn B [124,121] w w'
theorem dS {al:Int}{L:List Ep}{z q:Int}{add:Bool}(h:fW al L z q add≠0):jn al L z q add=L:=if_neg h
theorem fP {w:World}{p:Nat}{v u:Value}(h:w.cell? ⟨p,0,none⟩=some v):(w.setCell ⟨p,1,none⟩ u).cell? ⟨p,0,none⟩=some v:=by
 rw [← h];exact World.cell?_setCell_other _ _ _ _ (by simp)
theorem pR (B:Nat) (w:World) (p:Nat) (al:Int) (L:List Ep) (h:g9 B w p al L) (hok:hH L) (hal1:1≤al) (hal2:al≤8) (hl2:L.length≤1000000) (hB:B≤w.heap.size) (z q0:Int) (add:Bool) :
 Calls Tryz.prog 184 #[.pointer (some ⟨p,0,none⟩),.int .i64 z,.int .i64 q0,.bool add] w fun e w'=>Eb B al L z q0 add w p e w':=by
 obtain ⟨v,hpB,h1,hR⟩:=id h;obtain ⟨g,cap,rfl,hgB,h2,h3,h4⟩:=hR.slice hok.1;have c0:w.cell? ⟨p,0,none⟩=some (.int .i64 al):=ag (k:=0) h1 rfl;have c1:w.cell? ⟨p,1,none⟩=some (.slice (some ⟨g,0,none⟩) L.length cap):=ag (k:=1) h1 rfl;have cM:=jx B w p al L h hok.1;have cR:=iY w q0;have HA:=ah h;have HC:=ah h1;have HRw:=ah hR;obtain ⟨k,hk⟩:∃ k,L.length=k+1:=⟨L.length - 1,by have:=List.length_pos_iff.2 hok.1;omega⟩;have hkl:k < L.length:=by omega
 have HLa:Hid (iQ L=L[k]):=by
  show _=_;unfold iQ;rw [List.getLastD_eq_getLast?,List.getLast?_eq_some_getLast hok.1,Option.getD_some,List.getLast_eq_getElem];congr 1
  omega
 have hr:w.rangeAt g (k*16) (ix L[k].f (aK L[k].m)):=h4 k hkl;have hf2:0≤L[k].f∧L[k].f≤1099511627776:=(hok.2.2 _ (List.getElem_mem hkl)).2;clear h hok hR h1 h4;unfold maxLen at h3;by_cases hz:z < 0∨1099511627776 - al < z∨¬ (0≤q0∧q0 < 15)
 ·have HE:Hid (fW al L z q0 add=1):=by show _=_;unfold fW;rw [if_pos hz]
  have HL:Hid (jn al L z q0 add=L):=dS (by rw [HE.out];decide);clear HLa hr hf2 hkl hk;generalize hln:L.length=n at c1 h2;clear hln hl2;by_cases hz0:z < 0
  ·clear hz cR;go_enter Tryz.func184,Tryz.ntmps184;(go_wp2_with (first | (go_at_call 84;refine cM.mono ?_;clear cM;rintro _ _ ⟨rfl,rfl⟩) | (go_at_call 114;refine cR.mono ?_;clear cR;rintro _ _ ⟨rfl,rfl⟩)));go_ret
   exact ⟨by rw [HE.out];rfl,by rw [HL.out];exact HA.out,Tn.refl _ _ _⟩
  ·by_cases hz1:1099511627776 - al < z
   ·clear hz cR;go_enter Tryz.func184,Tryz.ntmps184;(go_wp2_with (first | (go_at_call 84;refine cM.mono ?_;clear cM;rintro _ _ ⟨rfl,rfl⟩) | (go_at_call 114;refine cR.mono ?_;clear cR;rintro _ _ ⟨rfl,rfl⟩)));go_ret
    exact ⟨by rw [HE.out];rfl,by rw [HL.out];exact HA.out,Tn.refl _ _ _⟩
   ·have hq:¬ (0≤q0∧q0 < 15):=by omega
    have hd:decide (0≤q0∧q0 < 15)=false:=by simpa using hq
    rw [hd] at cR;clear hz hd hq;go_enter Tryz.func184,Tryz.ntmps184;(go_wp2_with (first | (go_at_call 84;refine cM.mono ?_;clear cM;rintro _ _ ⟨rfl,rfl⟩) | (go_at_call 114;refine cR.mono ?_;clear cR;rintro _ _ ⟨rfl,rfl⟩)));go_ret
    exact ⟨by rw [HE.out];rfl,by rw [HL.out];exact HA.out,Tn.refl _ _ _⟩
 ·have hz0:¬ z < 0:=by omega
  have hz1:¬ 1099511627776 - al < z:=by omega
  have hq:0≤q0∧q0 < 15:=by omega
  have hd:decide (0≤q0∧q0 < 15)=true:=by simpa using hq
  rw [hd] at cR;obtain ⟨q,rfl⟩:∃ q:Nat,q0=q:=⟨q0.toNat,by omega⟩;have hq15:q < 15:=by omega
  have HE:Hid (fW al L z q add=if z < L[k].f then 12 else eU (aK L[k].m) q add):=by show _=_;unfold fW;rw [if_neg hz,HLa.out];rfl
  have HL:Hid (jn al L z q add=if fW al L z q add=0 then L++[⟨z+al,bc (cz (aK L[k].m) q add)⟩] else L):=by show _=_;unfold jn;rw [HLa.out];rfl
  clear hz hd hq HLa;generalize aK L[k].m=M at *;generalize L[k].f=f at *;clear hkl;generalize hln:L.length=n at c1 h2 hl2 hk;have HN:=ah hln;have hkw:IntKind.i64.wrap ((n:Int) - 1)=k:=by rw [IntWalk.i64_in _ (by omega)];omega
  have hkn:(k:Int) < n:=by omega
  have hkc:k < n:=by omega
  clear hln hk;go_enter Tryz.func184,Tryz.ntmps184;go_upto_region 5 with (first | (go_at_call 84;refine cM.mono ?_;clear cM;rintro _ _ ⟨rfl,rfl⟩) | (go_at_call 114;refine cR.mono ?_;clear cR;rintro _ _ ⟨rfl,rfl⟩))
  refine wp_region_held_drew (S:=fun w'=>w'.cell? ⟨p,1,none⟩=some (.slice (some ⟨g,0,none⟩) n cap)∧w'.rangeAt g (k*16) (ix f M)) (by kernel_rfl) ⟨c1,hr⟩ (fun hHeld=>?_);refine aU [0,1,2,3,4,5,6,7,8,9,10] (by rfl) (by kernel_rfl) (fun _ _ _ _ _ h=>h) hHeld ?_
  iterate 11
   refine yk ?_ rfl (Or.inl ⟨by rfl,?_⟩) ?_;rotate_left
   ·intro w9 hSw;(try dsimp only at hSw);go_simp;(try with_reducible rfl)
   try simp only [sT,Act.put]
  refine aT ?_;simp only [au,sT];refine wpAnyH_take (i:=11) (v:=.agg (ix f M).toArray) rfl (by kernel_rfl) (by kernel_rfl) (by kernel_rfl) (fun _ _ _ h=>h) (yieldsIf_load_mid (by rfl) _ _ rfl g (k*16) rfl (ix f M) _ (fun w9 hSw=>hSw.2) Tryz.underlying121 rfl ji) hHeld ?_;(try simp only [sT,Act.put]);refine aH 12 (by kernel_rfl) rfl (fun K0 hK0=>?_);go_simp;obtain ⟨w4,hw4⟩:∃ w4,w4=(w.alloc (.cells #[.int .i64 0,.bool false,.bool false,.bool false,.bool false,.bool false,.bool false,.bool false,.bool false,.bool false,.bool false,.bool false,.bool false,.bool false,.bool false,.bool false] 121)).drew:=⟨_,rfl⟩;have HK4:Hid (aa [] w w4):=by show aa _ _ _;rw [hw4];exact ((aa.refl [] w).alloc _).drew
  have HS4:Hid (dH w4 w.heap.size 0 fun _=>false):=by show dH _ _ _ _;rw [hw4];exact heap_alloc_new w _
  (go_wp2_with fail);rw [← hw4];clear hw4;refine hK0.out _ _ ⟨HK4.out.cell c1 (by simp),fun j v hv=>HK4.out.cell (hr j v hv) (by simp)⟩ (fun hHeld=>?_);clear hK0 K0;(try simp only [sT,Act.put]);refine aH 13 (by kernel_rfl) rfl (fun K0 hK0=>?_);refine uz f M rfl rfl HS4.out ?_;intro w5 HS5 HK5a;have HK5:Hid (aa [] w w5):=HK4.out.trans HK5a.out (by simp);clear HK5a HK4 HS4;refine hK0.out _ _ ⟨HK5.out.cell c1 (by simp),fun j v hv=>HK5.out.cell (hr j v hv) (by simp)⟩ (fun hHeld=>?_);clear hK0 K0;(try simp only [sT,Act.put]);refine wpAnyH_done (by kernel_rfl) ?_ _;clear hHeld;have s0:w5.cell? ⟨w.heap.size,0,none⟩=some (.int .i64 f):=iS HS5.out.range;by_cases hz4:z < f
  ·have HE2:Hid (fW al L z q add=12):=by show _=_;rw [HE.out,if_pos hz4]
   have HL2:Hid (jn al L z q add=L):=dS (by rw [HE2.out];decide);clear HE HL;(go_wp2_with fail);go_ret
   exact ⟨by rw [HE2.out];rfl,by rw [HL2.out];exact HA.out.kept HK5.out,Tn.kept HK5.out⟩
  ·have cC:=rX w5 M q add hq15;have HE2:Hid (fW al L z q add=eU M q add):=by show _=_;rw [HE.out,if_neg hz4]
   go_upto_region 9 with (first | ((with_reducible refine dB ?_ (lU HS5.out.range) ?_);rfl) | ((with_reducible refine bq T ?_ ?_ HX6 ?_);rfl;rfl;intro w7 HS7 HK7a) | (go_at_call 195;refine cC.mono ?_;clear cC;rintro _ w6 ⟨T,rfl,hT6,hK6⟩;have HX6:bh (w6.alloc (.cells #[.bool false,.bool false,.bool false,.bool false,.bool false,.bool false,.bool false,.bool false,.bool false,.bool false,.bool false,.bool false,.bool false,.bool false,.bool false] 116)) w6.heap.size (fun _=>false):=heap_alloc_new w6 _))
   have HK7:Hid (aa [] w w7):=(HK5.out.trans (hK6.alloc _) (by simp)).trans HK7a.out (fun i hi=>.inr (by simp at hi;subst hi;exact Nat.le_trans HK5.out.size hK6.size));by_cases he:eU M q add=0
   ·have HE3:Hid (fW al L z q add=0):=by show _=_;rw [HE2.out];exact he
    have HL3:Hid (jn al L z q add=L++[⟨z+al,bc (cz M q add)⟩]):=by show _=_;rw [HL.out,if_pos HE3.out]
    have HTc:Hid (bG (aK (bc (cz M q add)))=bG T):=by show _=_;rw [hT6 he];exact mr fun k hk=>wE hk
    rw [he];have HRn:Hid (iy B w (.slice (some ⟨g,0,none⟩) n cap) L):=by show iy _ _ _ _;rw [← HN.out];exact HRw.out
    have HCn:Hid (w.heap[p]?=some (.cells #[.int .i64 al,.slice (some ⟨g,0,none⟩) n cap] 124 (0,0))):=by show _=_;rw [← HN.out];exact HC.out
    have hpl:=aq HCn.out;have hgl:=(World.ownsRow.lt HRn.out g rfl).2;have h56:w.heap.size≤w6.heap.size:=Nat.le_trans HK5.out.size hK6.size
    have HPg:Hid (p≠g):=fun e=>by
     obtain ⟨cur,hh⟩:=ar HRn.out (k:=g) rfl;rw [← e,HCn.out] at hh;cases hh
    obtain ⟨b10,hb10⟩:∃ b,b=w6.heap.size:=⟨_,rfl⟩;have HBg:Hid (b10≠g):=by show _≠_;omega
    have HBp:Hid (b10≠p):=by show _≠_;omega
    rw [← hb10] at HS7 ⊢;have d0:=HK7.out.cell c0 (by simp);have d1:=HK7.out.cell c1 (by simp);have dr:=HS7.out.range;have HA7:Hid (g9 B w7 p al L):=HA.out.kept HK7.out;have HC7:Hid (w7.heap[p]?=some (.cells #[.int .i64 al,.slice (some ⟨g,0,none⟩) n cap] 124 (0,0))):=HK7.out.at HCn.out (by simp);have HR7:Hid (iy B w7 (.slice (some ⟨g,0,none⟩) n cap) L):=HK7.out.ownsRow HRn.out (by simp);clear he hT6 hb10 hpl hgl h56 HX6 hK6 HK7a s0 hr c0 c1 HE2 HE HL;have hzw:IntKind.i64.wrap (z+al)=z+al:=IntWalk.i64_in _ (by omega);go_upto_region 11 with fail
    refine wp_region_held_drew (S:=fun w'=>w'.cell? ⟨p,0,none⟩=some (.int .i64 al)∧w'.rangeAt b10 0 (bG T)) (by kernel_rfl) ⟨d0,dr⟩ (fun hHeld=>?_);refine aU [0,1,2,3,5,6,7,8,9,10] (by rfl) (by kernel_rfl) (fun _ _ _ _ _ h=>h) hHeld ?_
    iterate 10
     refine yk ?_ rfl (Or.inl ⟨by rfl,?_⟩) ?_;rotate_left
     ·intro w9 hSw;(try dsimp only at hSw);go_simp;(try with_reducible rfl)
     try simp only [sT,Act.put]
    refine aT ?_;simp only [au,sT];refine wpAnyH_take (i:=11) (v:=.agg (bG T).toArray) rfl (by kernel_rfl) (by kernel_rfl) (by kernel_rfl) (fun _ _ _ h=>h) (yieldsIf_load_mid (by rfl) _ _ rfl b10 (0) rfl (bG T) _ (fun w9 hSw=>hSw.2) Tryz.underlying116 rfl fD) hHeld ?_;(try simp only [sT,Act.put]);refine wpAnyH_take (i:=12) (v:=.agg (ix (z+al) T).toArray) rfl (by kernel_rfl) (by kernel_rfl) (by kernel_rfl) (fun _ _ _ h=>h) (Or.inl ⟨by rfl,fun w9 _=>rB rfl rfl⟩) hHeld ?_;(try simp only [sT,Act.put]);refine wpAnyH_ready (rs:=[4,13]) (by kernel_rfl) (by simp) (AllReadyH.cons rfl (fun K0 hK0=>?_) (AllReadyH.cons rfl (fun K0 hK0=>?_) AllReadyH.nil))
    ·go_simp;(go_wp2_with fail);refine hK0.out _ _ ⟨d0,dr⟩ (fun hHeld=>?_);clear hK0 K0;(try simp only [sT,Act.put]);refine aH 13 (by kernel_rfl) rfl (fun K0 hK0=>?_);obtain ⟨w8,hw8⟩:∃ w8,w8=w7.drew.alloc (.cells (ix (z+al) T).toArray 121):=⟨_,rfl⟩;have HKa:Hid (aa [] w7 w8):=by show aa _ _ _;rw [hw8];exact (aa.refl [] w7).drew.alloc _
     have HSa:Hid (dH w8 w7.heap.size (z+al) (aK (bc (cz M q add)))):=by show dH _ _ _ _;rw [dH,ix,HTc.out];rw [hw8];exact heap_alloc_new w7.drew _
     have hza:w8.heap.size=w7.heap.size+1:=by rw [hw8];simp
     refine ii (z+al) T rfl ?_;rw [← hw8];clear hw8;refine hK0.out _ _ ⟨HKa.out.cell d0 (by simp),fun j v hv=>HKa.out.cell (dr j v hv) (by simp)⟩ (fun hHeld=>?_);clear hK0 K0;(try simp only [sT,Act.put]);refine aH 14 (by kernel_rfl) rfl (fun K0 hK0=>?_);refine kb B (.slice (some ⟨g,0,none⟩) n cap) L ⟨z+al,bc (cz M q add)⟩ w7.heap.size rfl (HKa.out.ownsRow HR7.out (by simp)) rfl HSa.out (by rw [HN.out];exact hl2) (by have h1:=HK7.out.size;rw [hza];omega) ?_;intro g' n' cap' w9 HR9 HG9;have hA:=HA7.out.grown HC7.out HKa.out HR9.out HG9.out HR7.out;have HA9:=ah hA.1;have HT9:=ah hA.2;clear hA;have hk9:aa [g] w7 w9:=((HKa.out.mono (T:=[g]) (by simp)).grown HG9.out (fun k hk=>.inl (by cases hk;simp)));have hp9:p≠g:=fun e=>HPg.out e;have hb9:b10≠g:=fun e=>HBg.out e;have e0:=hk9.cell d0 (by simpa using hp9);have e1:=hk9.cell d1 (by simpa using hp9);have er:w9.rangeAt b10 0 (bG T):=fun j v hv=>hk9.cell (dr j v hv) (by simpa using hb9);have ef:w9.frozen? ⟨p,1,none⟩=false:=aj (hk9.at HC7.out (by simpa using hp9)) 1;clear hk9 hp9 hb9;refine hK0.out _ _ ⟨e0,er⟩ (fun hHeld=>?_);clear hK0 K0;(try simp only [sT,Act.put]);refine aU [15,16] (by rfl) (by kernel_rfl) (fun _ _ _ _ _ h=>h) hHeld ?_
     iterate 2
      refine yk ?_ rfl (Or.inl ⟨by rfl,?_⟩) ?_;rotate_left
      ·intro w9 hSw;(try dsimp only at hSw);go_simp;(try with_reducible rfl)
      try simp only [sT,Act.put]
     refine aT ?_;simp only [au,sT];refine aH 17 (by kernel_rfl) rfl (fun K0 hK0=>?_);go_simp;(go_wp2_with fail);refine hK0.out _ _ ⟨?_,?_⟩ (fun hHeld=>?_)
     ·exact fP e0
     ·exact fun j v hv=>((aa.refl [p] w9).setCell (by simp) _).cell (er j v hv) (by simpa using fun e=>HBp.out e)
     clear hK0 K0;(try simp only [sT,Act.put]);refine wpAnyH_done (by kernel_rfl) ?_ _;clear hHeld;(go_wp2_with fail);go_ret
     refine ⟨by rw [HE3.out];rfl,?_,?_⟩
     ·rw [HL3.out];exact HA9.out
     ·exact (Tn.kept HK7.out).trans HT9.out
    ·obtain ⟨w8,hw8⟩:∃ w8,w8=w7.drew.alloc (.cells (ix (z+al) T).toArray 121):=⟨_,rfl⟩;have HKa:Hid (aa [] w7 w8):=by show aa _ _ _;rw [hw8];exact (aa.refl [] w7).drew.alloc _
     have HSa:Hid (dH w8 w7.heap.size (z+al) (aK (bc (cz M q add)))):=by show dH _ _ _ _;rw [dH,ix,HTc.out];rw [hw8];exact heap_alloc_new w7.drew _
     have hza:w8.heap.size=w7.heap.size+1:=by rw [hw8];simp
     refine ii (z+al) T rfl ?_;rw [← hw8];clear hw8;refine hK0.out _ _ ⟨HKa.out.cell d0 (by simp),fun j v hv=>HKa.out.cell (dr j v hv) (by simp)⟩ (fun hHeld=>?_);clear hK0 K0;(try simp only [sT,Act.put]);have d1a:=HKa.out.cell d1 (by simp);refine aH 4 (by kernel_rfl) rfl (fun K0 hK0=>?_);go_simp;(go_wp2_with fail);refine hK0.out _ _ ⟨HKa.out.cell d0 (by simp),fun j v hv=>HKa.out.cell (dr j v hv) (by simp)⟩ (fun hHeld=>?_);clear hK0 K0;(try simp only [sT,Act.put]);refine aH 14 (by kernel_rfl) rfl (fun K0 hK0=>?_);refine kb B (.slice (some ⟨g,0,none⟩) n cap) L ⟨z+al,bc (cz M q add)⟩ w7.heap.size rfl (HKa.out.ownsRow HR7.out (by simp)) rfl HSa.out (by rw [HN.out];exact hl2) (by have h1:=HK7.out.size;rw [hza];omega) ?_;intro g' n' cap' w9 HR9 HG9;have hA:=HA7.out.grown HC7.out HKa.out HR9.out HG9.out HR7.out;have HA9:=ah hA.1;have HT9:=ah hA.2;clear hA;have hk9:aa [g] w7 w9:=((HKa.out.mono (T:=[g]) (by simp)).grown HG9.out (fun k hk=>.inl (by cases hk;simp)));have hp9:p≠g:=fun e=>HPg.out e;have hb9:b10≠g:=fun e=>HBg.out e;have e0:=hk9.cell d0 (by simpa using hp9);have e1:=hk9.cell d1 (by simpa using hp9);have er:w9.rangeAt b10 0 (bG T):=fun j v hv=>hk9.cell (dr j v hv) (by simpa using hb9);have ef:w9.frozen? ⟨p,1,none⟩=false:=aj (hk9.at HC7.out (by simpa using hp9)) 1;clear hk9 hp9 hb9;refine hK0.out _ _ ⟨e0,er⟩ (fun hHeld=>?_);clear hK0 K0;(try simp only [sT,Act.put]);refine aU [15,16] (by rfl) (by kernel_rfl) (fun _ _ _ _ _ h=>h) hHeld ?_
     iterate 2
      refine yk ?_ rfl (Or.inl ⟨by rfl,?_⟩) ?_;rotate_left
      ·intro w9 hSw;(try dsimp only at hSw);go_simp;(try with_reducible rfl)
      try simp only [sT,Act.put]
     refine aT ?_;simp only [au,sT];refine aH 17 (by kernel_rfl) rfl (fun K0 hK0=>?_);go_simp;(go_wp2_with fail);refine hK0.out _ _ ⟨?_,?_⟩ (fun hHeld=>?_)
     ·exact fP e0
     ·exact fun j v hv=>((aa.refl [p] w9).setCell (by simp) _).cell (er j v hv) (by simpa using fun e=>HBp.out e)
     clear hK0 K0;(try simp only [sT,Act.put]);refine wpAnyH_done (by kernel_rfl) ?_ _;clear hHeld;(go_wp2_with fail);go_ret
     refine ⟨by rw [HE3.out];rfl,?_,?_⟩
     ·rw [HL3.out];exact HA9.out
     ·exact (Tn.kept HK7.out).trans HT9.out
   ·have HL2:Hid (jn al L z q add=L):=dS (by rw [HE2.out];exact he);generalize eU M q add=er at *;clear hT6 HE HL HX6;(go_wp2_with fail);go_ret
    exact ⟨by rw [HE2.out];rfl,by rw [HL2.out];exact HA.out.kept HK7.out,Tn.kept HK7.out⟩
theorem zV {w:World}{g o:Nat}{L:List Ep}(hr:∀ i (hi:i < L.length),w.rangeAt g (o+i*16) (nW L[i])):∀ (j:Nat) (u:Value),(L.flatMap nW)[j]?=some u→w.cell? ((⟨g,o,none⟩:Addr).add j)=some u:=by
 intro j u hj;have hlt:j < L.length*16:=by have:=(List.getElem?_eq_some_iff.1 hj).1;rwa [vD] at this
 have hi:j / 16 < L.length:=by omega
 have hk:j % 16 < 16:=Nat.mod_lt _ (by omega);have e:j=j / 16*16+j % 16:=by omega
 rw [e,vr L (j / 16) hi (j % 16) hk] at hj;have:=hr (j / 16) hi (j % 16) u hj
 rw [dd,show o+j=o+j / 16*16+j % 16 by omega];exact this
theorem sd (w:World) (g o n c:Nat) (L:List Ep) (hn:L.length=n) (hl:n≤1000000) (hr:∀ i (hi:i < L.length),w.rangeAt g (o+i*16) (nW L[i])) :
 Calls Tryz.prog 86 #[.slice (some ⟨g,o,none⟩) n c] w fun e w'=>∃ v,e=.returned v∧iy w.heap.size w' v L∧aa [] w w':=by
 obtain ⟨i0,hi,hz0,hz1,hz2⟩:=info_parts oY;have HR:=ah hr;have HN:=ah hn;have hnil:(binOp BinOp.eql 122 (.slice (some ⟨g,o,none⟩) n c) (.slice none 0 0)).run Tryz.prog w=.ok (.bool false) w:=by kernel_rfl
 clear hr hn;go_enter Tryz.func86,Tryz.ntmps86;go_wp2_with (at_builtin;refine wpList_append_own _ rfl _ _ 122 rfl w.heap.size 121 i0 _ 16 24 Tryz.underlying122 hi hz0 hz1 hz2 rfl (by decide) _ 0 [] rfl ⟨rfl,.inr ⟨w.heap.size,0,#[],rfl,Nat.le_refl _,heap_alloc_new w _,Nat.le_refl _,Nat.zero_le _,rfl,rfl⟩⟩ ⟨g,o,none⟩ n c (L.flatMap nW) rfl (by rw [vD,HN.out]) ?n1 (Ai L) (by unfold maxLen;omega) (by omega) (by simp) ?n2)
 case n1 =>
  intro j u hj;exact ((aa.refl [] w).alloc _).cell (zV HR.out j u hj) (by simp)
 case n2 =>
  intro v' w' h2 h3 _;(go_wp2_with fail);go_ret
  refine ⟨v',rfl,?_,((aa.refl [] w).alloc _).grown h3 (fun k hk=>.inr (by cases hk;exact Nat.le_refl _))⟩;unfold iy;rw [HN.out];simpa using h2
theorem g9.put {B:Nat}{w w':World}{p:Nat}{al:Int}{L M:List Ep}{u:Value}(h:g9 B w p al L) (hk:aa [] w w') (hR:iy B w' u M) :
 g9 B (w'.setCell ⟨p,1,none⟩ u) p al M∧Tn B [124,121] w (w'.setCell ⟨p,1,none⟩ u):=by
 obtain ⟨v,hv1,hv2,hv3⟩:=id h;exact h.grown hv2 hk hR ⟨rfl,rfl,rfl,Nat.le_refl _,fun _ _ _=>rfl⟩ hv3
def Ei (B:Nat) (al:Int) (L:List Ep) (z:Int) (w:World) (p:Nat) (e:Ending) (w':World):Prop :=
 (∃ v,e=.returned v)∧g9 B w' p al (dZ L z)∧Tn B [124,121] w w'
theorem sG (B:Nat) (w:World) (p:Nat) (al:Int) (L:List Ep) (h:g9 B w p al L) (hok:hH L) (hl:L.length≤1000000) (hB:B≤w.heap.size) (z:Int) :
 Calls Tryz.prog 41 #[.pointer (some ⟨p,0,none⟩),.int .i64 z] w fun e w'=>Ei B al L z w p e w':=by
 obtain ⟨g,cap,h1,h2,h3,h4⟩:=h.open hok.1;have cM:=jx B w p al L h hok.1;have cP:=lr B w p al L h hok.1 hok.2.1 hl z;have c1:w.cell? ⟨p,1,none⟩=some (.slice (some ⟨g,0,none⟩) L.length cap):=ag (k:=1) h1 rfl;have HA:=ah h;have HC:Hid (dZ L z=L.drop (im L z)):=rfl;have hq:=nH hok.1 z;have HR:=ah h4;have HH:=ah h1;unfold maxLen at h3;generalize im L z=q at *;generalize hln:L.length=n at c1 h2 hl hq;have HN:=ah hln;clear h h1 h4 hok hln;by_cases h0:q=0
 ·subst h0;go_enter Tryz.func41,Tryz.ntmps41;(go_wp2_with (first | (go_at_call 84;refine cM.mono ?_;clear cM;rintro _ _ ⟨rfl,rfl⟩) | (go_at_call 85;refine cP.mono ?_;clear cP;rintro _ w2 ⟨rfl,hK2⟩)));go_end0
  exact ⟨⟨_,rfl⟩,by rw [HC.out];exact HA.out.kept hK2,Tn.kept hK2⟩
 ·have h0':0 < (q:Int):=by omega
  have hqc:¬ cap=q:=by omega
  have hqn:q≤n:=by omega
  have hqc':q≤cap:=by omega
  have hqn':(q:Int)≤n:=by omega
  go_enter Tryz.func41,Tryz.ntmps41;go_upto_region 3 with (first | (go_at_call 84;refine cM.mono ?_;clear cM;rintro _ _ ⟨rfl,rfl⟩) | (go_at_call 85;refine cP.mono ?_;clear cP;rintro _ w2 ⟨rfl,hK2⟩))
  have HK2:=ah hK2;have d1:=hK2.cell c1 (by simp)
  have cS:=sd w2 g (q*16) (n - q) (cap - q) (L.drop q) (by rw [List.length_drop,HN.out]) (by omega) (fun i hi=>by
   have h5:q+i < L.length:=by rw [List.length_drop] at hi;omega
   have h6:=HR.out (q+i) h5;intro j v hv;rw [List.getElem_drop] at hv;rw [show q*16+i*16=(q+i)*16 by omega];exact hK2.cell (h6 j v hv) (by simp))
  clear hK2 c1;(go_wp2_with (go_at_call 86;refine cS.mono ?_;clear cS;rintro _ w3 ⟨u,rfl,hR3,hK3⟩;obtain ⟨g3,cap3,rfl,_⟩:=hR3.slice (by intro e;have:=congrArg List.length e;simp at this;have:=HN.out;omega);have e1:=hK3.cell d1 (by simp);have ef:w3.frozen? ⟨p,1,none⟩=false:=aj (hK3.at (HK2.out.at HH.out (by simp)) (by simp)) 1;have HK3:=ah hK3;have HR3:=ah hR3;clear hK3 hR3 d1));go_end0
  have hR:iy B w3 (.slice (some ⟨g3,0,none⟩) (L.length - q) cap3) (L.drop q):=by
   have h:=HR3.out;rw [List.length_drop] at h;exact bF h (Nat.le_trans hB HK2.out.size)
  have hput:=HA.out.put (HK2.out.trans HK3.out (by simp)) hR;exact ⟨⟨_,rfl⟩,by rw [HC.out];exact hput.1,hput.2⟩
theorem wK {ops:Array Oper}{rest:List Oper}{a:Act}{w:World}{Q:Exit→Act→World→Prop}{d:Option Tmp}{x:Operand}{ty:TypeId}{ps:String}{af:Array Edge}
 {S:Nat→Bool}(hx:a.eval x=eG S) (h:wpList Tryz.prog ops Q rest (a.put d (sL 0 S)) w):wpList Tryz.prog ops Q (⟨d,.build 121 #[(1,x)],ty,ps,af,none⟩ :: rest) a w :=
 wpList_plain rfl fun _ hK=>by
  unfold Oper.wp execOp;simp only [List.map_toArray,List.map_cons,List.map_nil,hx,Sem.run_bind,rH,Result.andThen_ok,Sem.run_pure];exact hK _ _ h
theorem zB {ops:Array Oper}{rest:List Oper}{a:Act}{w:World}{Q:Exit→Act→World→Prop}{d:Option Tmp}{x:Operand}{ty:TypeId}{ps:String}{af:Array Edge}
 {f:Int}{S:Nat→Bool}(hx:a.eval x=sL f S) (h:∀ w',Hid (dH w' w.heap.size f S)→Hid (aa [] w w')→w'.heap.size=w.heap.size+1→wpList Tryz.prog ops Q rest (a.put d (.slice (some ⟨w.heap.size,0,none⟩) 1 1)) w'):wpList Tryz.prog ops Q (⟨d,.buildSlice 122 1 #[(0,x)],ty,ps,af,none⟩ :: rest) a w :=
 wpList_plain rfl fun _ hK=>by
  unfold Oper.wp execOp;simp only [List.map_toArray,List.map_cons,List.map_nil,hx,Sem.run_bind,mp,Result.andThen_ok,Sem.run_pure];exact hK _ _ (h _ (heap_alloc_new w _) ((aa.refl _ _).alloc _) (by simp))
theorem dH.row {B:Nat}{w:World}{b:Nat}{x:Ep}(h:dH w b x.f (aK x.m)) (hB:B≤b):iy B w (.slice (some ⟨b,0,none⟩) 1 1) [x] :=
 ⟨by simp [nW,eQ],.inr ⟨b,1,_,rfl,hB,h,Nat.le_refl _,by decide,by simp [eQ],by simp only [List.flatMap_cons,List.flatMap_nil,List.append_nil];exact List.take_of_length_le (by simp [eQ])⟩⟩
def D1 (m:List Int) (al:Int) (w:World) (e:Ending) (w':World):Prop :=
 ((ea m∧1≤al∧al≤8)∧∃ p:Nat,e=.returned (.tuple #[.pointer (some ⟨p,0,none⟩),.int .i64 0])∧g9 w.heap.size w' p al [⟨0,m⟩]∧aa [] w w') ∨
 (¬ (ea m∧1≤al∧al≤8)∧e=.returned (.tuple #[.pointer none,.int .i64 1])∧aa [] w w')
theorem xx (w:World) (ao:Option Addr) (n c:Nat) (m:List Int) (hS:mW w ao n c m) (al:Int) :
 Calls Tryz.prog 29 #[.slice ao n c,.int .i64 al] w fun e w'=>D1 m al w e w':=by
 have cS:=nO w ao n c m hS;have cA:=fun W=>kx W al;clear hS;go_enter Tryz.func29,Tryz.ntmps29;go_upto_region 2 with (first | ((with_reducible refine bq S ?_ ?_ HX6 ?_);rfl;rfl;intro w7 HS7 HK7a) | (go_at_call 69;refine cS.mono ?_;clear cS;rintro _ w6 ⟨S,rfl,hS6,hK6⟩;have HX6:bh (w6.alloc (.cells #[.bool false,.bool false,.bool false,.bool false,.bool false,.bool false,.bool false,.bool false,.bool false,.bool false,.bool false,.bool false,.bool false,.bool false,.bool false] 116)) w6.heap.size (fun _=>false):=heap_alloc_new w6 _))
 have HK7:Hid (aa [] w w7):=(hK6.alloc _).trans HK7a.out (fun i hi=>.inr (by simp at hi;subst hi;exact hK6.size));have HSm:=ah hS6;have h67:w.heap.size≤w6.heap.size:=hK6.size;clear hS6 hK6 HK7a HX6;generalize w6.heap.size=b6 at *;by_cases hm:ea m
 ·by_cases ha:1≤al∧al≤8
  ·have cA1:=cA w7;rw [show decide (1≤al∧al≤8)=true by simpa using ha] at cA1;have HE:Hid (aK m=S):=(HSm.out hm).symm;rw [show decide (ea m)=true by simpa using hm];have HM:=ah (show ea m∧1≤al∧al≤8 from ⟨hm,ha⟩);clear hm ha HSm;(go_wp2_with (first | ((with_reducible refine dB ?_ HS7.out.range ?_);rfl) | ((with_reducible refine wK (S:=S) ?_ ?_);rfl) | ((with_reducible refine zB (f:=0) (S:=S) ?_ ?_);rfl;intro w8 HS8 HK8 hz8) | (go_at_call 70;refine cA1.mono ?_;clear cA1;rintro _ _ ⟨rfl,rfl⟩)));go_ret2
   refine .inl ⟨HM.out,w8.heap.size,by rw [hz8];rfl,⟨_,?_,heap_alloc_new w8 _,?_⟩,(HK7.out.trans HK8.out (by simp)).alloc _⟩
   ·exact Nat.le_trans HK7.out.size HK8.out.size
   ·have h1:dH w8 w7.heap.size (0:Int) (aK m):=by rw [HE.out];exact HS8.out
    exact ((aa.refl [] w8).alloc _).ownsRow (dH.row (x:=⟨0,m⟩) h1 HK7.out.size) (by simp)
  ·have cA1:=cA w7;rw [show decide (1≤al∧al≤8)=false by simpa using ha] at cA1;rw [show decide (ea m)=true by simpa using hm];have HM:=ah (show ¬ (ea m∧1≤al∧al≤8) from fun h=>ha h.2);clear hm ha HSm;(go_wp2_with (go_at_call 70;refine cA1.mono ?_;clear cA1;rintro _ _ ⟨rfl,rfl⟩));go_ret2
   exact .inr ⟨HM.out,rfl,HK7.out⟩
 ·rw [show decide (ea m)=false by simpa using hm];have HM:=ah (show ¬ (ea m∧1≤al∧al≤8) from fun h=>hm h.1);clear hm HSm;(go_wp2_with fail);go_ret2
  exact .inr ⟨HM.out,rfl,HK7.out⟩
end Go.Proofs.YtgpnlidnbldiiaaGreat
