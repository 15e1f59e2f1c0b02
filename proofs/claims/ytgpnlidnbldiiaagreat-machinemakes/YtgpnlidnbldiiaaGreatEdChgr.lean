/-
  The document's own Change.
-/
import Derived.Test.YtgpnlidnbldiiaaGreatQ2r
import Derived.Test.YtgpnlidnbldiiaaGreatEdAtr
import Derived.Test.YtgpnlidnbldiiaaGreatQ16r
import Derived.Test.YtgpnlidnbldiiaaGreatQ1r
namespace Go.Proofs.YtgpnlidnbldiiaaGreat
open Go.RowKit
def CK (B:Nat) (al:Int) (L:List Ep) (z q:Int) (add:Bool) (w:World) (p:Nat) (e:Ending) (w':World):Prop :=
 e=.returned (.int .i64 (fW al L z q add))∧jS B w' p al (jn al L z q add)∧Tn B [94,134] w w'
def iZ (S:Nat→Bool) (k:Nat):List Int:=((List.range k).filter S).map fun k:Nat=>(k:Int)
theorem dR (S:Nat→Bool) (k:Nat):iZ S (k+1)=iZ S k++(if S k then [(k:Int)] else []):=by
 unfold iZ;rw [List.range_succ,List.filter_append,List.map_append];cases h:S k <;> simp [h]
theorem i5 (S:Nat→Bool) (k:Nat):(iZ S k).length≤k:=by
 unfold iZ;rw [List.length_map];exact Nat.le_trans (List.length_filter_le _ _) (by simp)
theorem vm {m:List Int}{q:Nat}(hm:ea m) (hq:q < 15) (h:aK m q=true):bc (cz (aK m) q false)=[]↔m.length=1:=by
 have h1:=xi hm hq h;rw [← List.length_eq_zero_iff];omega
theorem AW {m:List Int}{q:Nat}(hq:q < 15):bc (cz (aK m) q true)≠[]:=fun e=>by
 have:(q:Int)∈bc (cz (aK m) q true):=eN.2 ⟨q,rfl,hq,by simp [cz]⟩
 rw [e] at this;simp at this
def Es (w5:World) (U:Nat→Bool) (iv lv:Value) (wr:World):Prop:=∃ j:Nat,iv=.int .i64 (j:Int)∧j≤15∧Hid (bJ w5.heap.size wr lv (iZ U j))∧Hid (aa [] w5 wr)
set_option linter.unusedSimpArgs false in
set_option maxHeartbeats 16000000 in
set_option maxRecDepth 100000 in
theorem pG (B:Nat) (w:World) (p:Nat) (al:Int) (L:List Ep) (h:jS B w p al L) (hok:hH L) (hal1:1≤al) (hal2:al≤8) (hl2:L.length≤1000) (hB:B≤w.heap.size) (z q0:Int) (add:Bool) :
 Calls Tryz.prog 130 #[.pointer (some ⟨p,0,none⟩),.int .i64 z,.int .i64 q0,.bool add] w fun e w'=>CK B al L z q0 add w p e w':=by
 obtain ⟨g,cap,X,h1,hS,hX,hpb,hRw,hOw⟩:=h.open hok.1;have c0:w.cell? ⟨p,0,none⟩=some (.int .i64 al):=ag (k:=0) h1 rfl;have c1:w.cell? ⟨p,1,none⟩=some (.slice (some ⟨g,0,none⟩) L.length cap):=ag (k:=1) h1 rfl
 have HPg:Hid (p≠g):=fun e=>by
  obtain ⟨cur,hh⟩:=ar hRw (k:=g) rfl;rw [← e,h1] at hh;cases hh
 obtain ⟨k,hk⟩:∃ k,L.length=k+1:=⟨L.length - 1,by have:=List.length_pos_iff.2 hok.1;omega⟩;have hkl:k < L.length:=by omega
 have hkX:k < X.length:=by rw [hS.1];exact hkl
 have hla:iQ L=L[k]:=by rw [xj hok.1];congr 1;omega
 obtain ⟨g2,o2,e2,y0,y1⟩:=hS.2.2.2.1 _ hkX;cases e2
 obtain ⟨so,sc,hv,hsl⟩:=hS.2.2.2.2 _ (List.getElem_mem hkX);have hXk:=pF hX hkX hkl;rw [hv,Nat.zero_add] at y1;rw [Nat.zero_add] at y0;rw [hXk] at y0 y1 hsl;have hbd:=hok.2.2 _ (List.getElem_mem hkl);have HMay:=ah hbd.1;have hf2:=hbd.2;have HSm:=ah hsl;have HA:=ah h;have HPb:=ah hpb;have HRw:=ah hRw;have HOw:=ah hOw;have HC:=ah h1;have HXm:=ah hX;have HXl:Hid (X.length≤1000):=by show _≤_;rw [hS.1];exact hl2
 have HCh:Hid (fW al L z q0 add=if z < 0∨1099511627776 - al < z∨¬ (0≤q0∧q0 < 15) then 1 else if z < L[k].f then 12 else eU (aK L[k].m) q0.toNat add):=by show _=_;unfold fW;rw [hla]
 have HCl:Hid (jn al L z q0 add=if fW al L z q0 add=0 then L++[⟨z+al,bc (cz (aK L[k].m) q0.toNat add)⟩] else L):=by show _=_;unfold jn;rw [hla]
 clear h hok h1 hS hX hpb hRw hOw hv hsl hXk hbd hla hkX;generalize L[k].m=m at *;generalize L[k].f=f at *;obtain ⟨sn,hsn⟩:∃ sn,sn=m.length:=⟨_,rfl⟩;rw [← hsn] at y1 HSm;have HSn:=ah hsn;clear hsn hkl;generalize hln:L.length=n at c1 hl2 hk HRw HC;have HN:=ah hln;have hkw:IntKind.i64.wrap ((n:Int) - 1)=k:=by rw [IntWalk.i64_in _ (by omega)];omega
 have hkn:(k:Int) < n:=by omega
 have hkc:k < n:=by omega
 clear hln hk;go_enter Tryz.func130,Tryz.ntmps130;go_wp2_with fail
 refine wp_region_held_drew (S:=fun w'=>w'.cell? ⟨p,1,none⟩=some (.slice (some ⟨g,0,none⟩) n cap)∧w'.cell? ⟨g,k*2,none⟩=some (.int .i64 f)∧w'.cell? ⟨g,k*2+1,none⟩=some (.slice so sn sc)) (by kernel_rfl) ⟨c1,y0,y1⟩ (fun hHeld=>?_);refine aU [0,1,2,3,4,5,6,7,8,9,10,11] (by rfl) (by kernel_rfl) (fun _ _ _ _ _ h=>h) hHeld ?_
 iterate 12
  refine yk ?_ rfl (Or.inl ⟨by rfl,?_⟩) ?_;rotate_left
  ·intro w9 hSw;(try dsimp only at hSw);go_simp;(try with_reducible rfl)
  try simp only [sT,Act.put]
 refine aT ?_;simp only [au,sT];refine aH 12 (by kernel_rfl) rfl (fun K0 hK0=>?_);go_simp;obtain ⟨w4,hw4⟩:∃ w4,w4=(w.alloc (.cells #[.int .i64 0,.slice none 0 0] 134)).drew:=⟨_,rfl⟩;have HK4:Hid (aa [] w w4):=by show aa _ _ _;rw [hw4];exact ((aa.refl [] w).alloc _).drew
 have HA4:Hid (w4.heap[w.heap.size]?=some (.cells #[.int .i64 0,.slice none 0 0] 134 (0,0))):=by show _=_;rw [hw4];exact heap_alloc_new w _
 go_wp2_with fail
 rw [← hw4];clear hw4;have b0:=ag (k:=0) HA4.out rfl;have b1:=ag (k:=1) HA4.out rfl;have g0:=aj HA4.out 0;have g1:=aj HA4.out 1;refine hK0.out _ _ ⟨HK4.out.cell c1 (by simp),HK4.out.cell y0 (by simp),HK4.out.cell y1 (by simp)⟩ (fun hHeld=>?_);clear hK0 K0;try simp only [sT,Act.put]
 refine aH 13 (by kernel_rfl) rfl (fun K0 hK0=>?_);go_simp;obtain ⟨w5,hw5⟩:∃ w5,w5=(w4.setCell ⟨w.heap.size,0,none⟩ (.int .i64 f)).setCell ⟨w.heap.size,1,none⟩ (.slice so sn sc):=⟨_,rfl⟩
 have HA5:Hid (w5.heap[w.heap.size]?=some (.cells #[.int .i64 f,.slice so sn sc] 134 (0,0))):=by
  show _=_;rw [hw5];have h1:=heap_setCell_same w4 w.heap.size 0 _ _ (.int .i64 f) HA4.out;have h2:=heap_setCell_same _ w.heap.size 1 _ _ (.slice so sn sc) h1;simpa using h2
 have HK5:Hid (aa [] w w5):=by show aa _ _ _;rw [hw5];exact (HK4.out.setCell (.inr (Nat.le_refl _)) _).setCell (.inr (Nat.le_refl _)) _
 go_wp2_with fail
 rw [← hw5];clear hw5 b0 b1 g0 g1;refine hK0.out _ _ ⟨HK5.out.cell c1 (by simp),HK5.out.cell y0 (by simp),HK5.out.cell y1 (by simp)⟩ (fun hHeld=>?_);clear hK0 K0;try simp only [sT,Act.put]
 refine wpAnyH_done (by kernel_rfl) ?_ _;clear hHeld;have s0:=ag (k:=0) HA5.out rfl;have s1:=ag (k:=1) HA5.out rfl;have x0:=HK5.out.cell c0 (by simp);have HAk:=ah (HA.out.kept HK5.out);clear HA4 HK4;by_cases hz0:z < 0
 ·have HE:Hid (fW al L z q0 add=1):=by show _=_;unfold fW;rw [if_pos (.inl hz0)]
  have HLs:Hid (jn al L z q0 add=L):=dS (by rw [HE.out];decide);(go_wp2_with fail);go_ret
  exact ⟨by rw [HE.out];rfl,by rw [HLs.out];exact HAk.out,Tn.kept HK5.out⟩
 ·by_cases hz1:1099511627776 - al < z
  ·have HE:Hid (fW al L z q0 add=1):=by show _=_;unfold fW;rw [if_pos (.inr (.inl hz1))]
   have HLs:Hid (jn al L z q0 add=L):=dS (by rw [HE.out];decide);(go_wp2_with fail);go_ret
   exact ⟨by rw [HE.out];rfl,by rw [HLs.out];exact HAk.out,Tn.kept HK5.out⟩
  ·by_cases hq0:q0 < 0
   ·have HE:Hid (fW al L z q0 add=1):=by show _=_;unfold fW;rw [if_pos (.inr (.inr (by omega)))]
    have HLs:Hid (jn al L z q0 add=L):=dS (by rw [HE.out];decide);(go_wp2_with fail);go_ret
    exact ⟨by rw [HE.out];rfl,by rw [HLs.out];exact HAk.out,Tn.kept HK5.out⟩
   ·by_cases hq1:15≤q0
    ·have HE:Hid (fW al L z q0 add=1):=by show _=_;unfold fW;rw [if_pos (.inr (.inr (by omega)))]
     have HLs:Hid (jn al L z q0 add=L):=dS (by rw [HE.out];decide);(go_wp2_with fail);go_ret
     exact ⟨by rw [HE.out];rfl,by rw [HLs.out];exact HAk.out,Tn.kept HK5.out⟩
    ·obtain ⟨q,rfl⟩:∃ q:Nat,q0=q:=⟨q0.toNat,by omega⟩;have hq15:q < 15:=by omega
     rw [if_neg (by omega),Int.toNat_natCast] at HCh;rw [Int.toNat_natCast] at HCl;by_cases hz4:z < f
     ·have HE2:Hid (fW al L z q add=12):=by show _=_;rw [HCh.out,if_pos hz4]
      have HL2:Hid (jn al L z q add=L):=dS (by rw [HE2.out];decide);(go_wp2_with fail);go_ret
      exact ⟨by rw [HE2.out];rfl,by rw [HL2.out];exact HAk.out,Tn.kept HK5.out⟩
     ·have HE2:Hid (fW al L z q add=eU (aK m) q add):=by show _=_;rw [HCh.out,if_neg hz4]
      have cH:=fun W (hk:aa [] w W) (y:Int)=>oU W so sn sc m (HSm.out.kept hk) y;have cH5:=cH w5 HK5.out q;have HSq:Hid (decide ((q:Int)∈m)=aK m q):=rfl;rw [HSq.out] at cH5;clear HCh;cases hs:aK m q <;> rw [hs] at cH5 <;> cases add
      ·have HE3:Hid (fW al L z q false=8):=by show _=_;rw [HE2.out];simp [eU,hs]
       have HLs:Hid (jn al L z q false=L):=dS (by rw [HE3.out];decide);(go_wp2_with (go_at_call 96;refine cH5.mono ?_;clear cH5;rintro _ _ ⟨rfl,rfl⟩));go_ret
       exact ⟨by rw [HE3.out];rfl,by rw [HLs.out];exact HAk.out,Tn.kept HK5.out⟩
      ·have HE3:Hid (fW al L z q true=0):=by show _=_;rw [HE2.out];simp [eU,hs,AW hq15]
       clear hs;obtain ⟨U,hU⟩:∃ U,U=cz (aK m) q true:=⟨_,rfl⟩;have HL3:Hid (jn al L z q true=L++[⟨z+al,bc U⟩]):=by show _=_;rw [HCl.out,if_pos HE3.out,hU]
       have HUq:Hid (U q=true):=by show _=_;rw [hU];simp [cz]
       have HUo:Hid (∀ j,¬ j=q→U j=aK m j):=fun j hj=>by rw [hU];simp [cz,hj]
       clear hU HCl;(go_wp2_with (go_at_call 96;refine cH5.mono ?_;clear cH5;rintro _ _ ⟨rfl,rfl⟩));go_loopw [11,10] (fun iv lv wr=>Es w5 U iv lv wr) (fun iv _ _=>15 - (intOf iv).toNat)
       case atStart=>exact ⟨0,rfl,Nat.zero_le _,World.ownsRow_nil _ _ _ _,aa.refl _ _⟩
       case round =>
        obtain ⟨j,rfl,hj,HRl,HKl⟩:=hrel;by_cases hlt:j < 15
        ·have hlt':(j:Int) < 15:=by omega
         have t1:=HKl.out.cell s1 (by simp);by_cases hjq:j=q
         ·have hb:((j:Int)==(q:Int))=true:=by simp;omega
          have hb2:((j:Int) != (q:Int))=false:=by simp;omega
          have HUj:Hid (U j=true):=by show _=_;rw [hjq];exact HUq.out
          clear hjq;(go_wp2_with (at_builtin;refine l5 rfl _ _ rfl w5.heap.size _ (iZ U j) rfl (((aa.refl [] wr).alloc _).ownsRow HRl.out (by simp)) wr.heap.size (j:Int) rfl (ag (k:=0) (heap_alloc_new wr _) rfl) (by have:=i5 U j;omega) (by have:=HKl.out.size;simp;omega) ?_;intro v3 w3 hR3 hG3));have HK3:Hid (aa [] w5 w3):=(HKl.out.alloc _).grown hG3 (fun k hk=>.inr (World.ownsRow.lt HRl.out k hk).1);have HR3:=ah hR3;clear hR3 hG3;go_roundw
          case rel=>exact ⟨j+1,by go_num,by omega,by show bJ _ _ _ _;rw [dR,HUj.out];exact HR3.out,HK3⟩
          case measure=>simp [intOf];omega
         ·have hb:((j:Int)==(q:Int))=false:=by simp;omega
          have hb2:((j:Int) != (q:Int))=true:=by simp;omega
          have cJ:=cH wr (HK5.out.trans HKl.out (by simp)) j;have HUj:=ah (HUo.out j hjq);have HJs:Hid (decide ((j:Int)∈m)=aK m j):=rfl;rw [HJs.out] at cJ;clear hjq;cases hs:aK m j with
          | true =>
            rw [hs] at cJ HUj;clear hs;(go_wp2_with (first | (go_at_call 96;refine cJ.mono ?_;clear cJ;rintro _ _ ⟨rfl,rfl⟩) | (at_builtin;refine l5 rfl _ _ rfl w5.heap.size _ (iZ U j) rfl (((aa.refl [] wr).alloc _).ownsRow HRl.out (by simp)) wr.heap.size (j:Int) rfl (ag (k:=0) (heap_alloc_new wr _) rfl) (by have:=i5 U j;omega) (by have:=HKl.out.size;simp;omega) ?_;intro v3 w3 hR3 hG3)));have HK3:Hid (aa [] w5 w3):=(HKl.out.alloc _).grown hG3 (fun k hk=>.inr (World.ownsRow.lt HRl.out k hk).1);have HR3:=ah hR3;clear hR3 hG3;go_roundw
            case rel=>exact ⟨j+1,by go_num,by omega,by show bJ _ _ _ _;rw [dR,HUj.out];exact HR3.out,HK3⟩
            case measure=>simp [intOf];omega
          | false =>
            rw [hs] at cJ HUj;clear hs;(go_wp2_with (go_at_call 96;refine cJ.mono ?_;clear cJ;rintro _ _ ⟨rfl,rfl⟩));go_roundw
            case rel=>exact ⟨j+1,by go_num,by omega,by show bJ _ _ _ _;rw [dR,HUj.out];simpa using HRl.out,HKl⟩
            case measure=>simp [intOf];omega
        ·obtain rfl:j=15:=by omega
         have HKr:Hid (aa [] w wr):=HK5.out.trans HKl.out (by simp);have d0:=HKr.out.cell c0 (by simp);have d1:=HKr.out.cell c1 (by simp);have HLo0:Hid (bJ w5.heap.size wr u10 (bc U)):=HRl.out;obtain ⟨lo,lc,hlv,_⟩:=HLo0.out.sl;subst hlv;obtain ⟨ln,hln⟩:∃ ln,ln=(bc U).length:=⟨_,rfl⟩;have HLo:Hid (bJ w5.heap.size wr (.slice lo ln lc) (bc U)):=by show bJ _ _ _ _;rw [hln];exact HLo0.out
         rw [← hln];clear hln HLo0 HRl;have HC7:Hid (wr.heap[p]?=some (.cells #[.int .i64 al,.slice (some ⟨g,0,none⟩) n cap] 94 (0,0))):=HKr.out.at HC.out (by simp);have HR7:Hid (iR B wr (.slice (some ⟨g,0,none⟩) n cap) X):=HKr.out.ownsRow HRw.out (by simp);have HO7:Hid (iK B wr X):=fun x hx=>HKr.out.ownsRow (HOw.out x hx) (by simp);have HBr:Hid (B≤wr.heap.size):=Nat.le_trans hB HKr.out.size;have hzw:IntKind.i64.wrap (z+al)=z+al:=IntWalk.i64_in _ (by omega);clear cH c0 c1 x0 s0 s1 y0 y1;(go_wp2_with fail);refine wp_region_held_drew (S:=fun w'=>w'.cell? ⟨p,0,none⟩=some (.int .i64 al)) (by kernel_rfl) d0 (fun hHeld=>?_);refine aU [0,1,2,3,5,6,7,8,9,10,11,12] (by rfl) (by kernel_rfl) (fun _ _ _ _ _ h=>h) hHeld ?_
         iterate 12
          refine yk ?_ rfl (Or.inl ⟨by rfl,?_⟩) ?_;rotate_left
          ·intro w9 hSw;(try dsimp only at hSw);go_simp;(try with_reducible rfl)
          try simp only [sT,Act.put]
         refine aT ?_;simp only [au,sT];refine wpAnyH_ready (rs:=[4,13]) (by kernel_rfl) (by simp) (AllReadyH.cons rfl (fun K0 hK0=>?_) (AllReadyH.cons rfl (fun K0 hK0=>?_) AllReadyH.nil))
         ·go_simp;(go_wp2_with fail);refine hK0.out _ _ d0 (fun hHeld=>?_);clear hK0 K0;(try simp only [sT,Act.put]);refine aH 13 (by kernel_rfl) rfl (fun K0 hK0=>?_);go_simp;obtain ⟨w8,hw8⟩:∃ w8,w8=(wr.alloc (.cells #[.int .i64 (z+al),.slice lo ln lc] 134)).drew:=⟨_,rfl⟩;have HK8:Hid (aa [] wr w8):=by show aa _ _ _;rw [hw8];exact ((aa.refl [] wr).alloc _).drew
          have HA8:Hid (w8.heap[wr.heap.size]?=some (.cells #[.int .i64 (z+al),.slice lo ln lc] 134 (0,0))):=by show _=_;rw [hw8];exact heap_alloc_new wr _
          (go_wp2_with fail);rw [← hw8];clear hw8;refine hK0.out _ _ (HK8.out.cell d0 (by simp)) (fun hHeld=>?_);clear hK0 K0;(try simp only [sT,Act.put]);refine aH 14 (by kernel_rfl) rfl (fun K0 hK0=>?_);refine ey B (.slice (some ⟨g,0,none⟩) n cap) X (z+al) lo ln lc wr.heap.size rfl (HK8.out.ownsRow HR7.out (by simp)) rfl HA8.out (by have:=HXl.out;omega) (Nat.le_trans HBr.out HK8.out.size) ?_;intro g' n' cap' w9 HR9 HG9
          have hO8:iK B w8 (X++[(⟨z+al,bc U⟩,.slice lo ln lc)]):=fun x hx=>by
           rcases List.mem_append.1 hx with hx | hx
           ·exact HK8.out.ownsRow (HO7.out x hx) (by simp)
           ·rw [show x=(⟨z+al,bc U⟩,.slice lo ln lc) by simpa using hx];exact HK8.out.ownsRow (bF HLo.out (Nat.le_trans hB HK5.out.size)) (by simp)
          have hA:=jS.grown HPb.out HC7.out HR7.out HK8.out (HR9.out (bc U)) hO8 HG9.out;have HA9:=ah hA.1;have HT9:=ah hA.2;have hk9:aa [g] wr w9:=((HK8.out.mono (T:=[g]) (by simp)).grown HG9.out (fun k hk=>.inl (by cases hk;simp)));have hp9:p≠g:=fun e=>HPg.out e;have e0:=hk9.cell d0 (by simpa using hp9);have e1:=hk9.cell d1 (by simpa using hp9);have ef:w9.frozen? ⟨p,1,none⟩=false:=aj (hk9.at HC7.out (by simpa using hp9)) 1;clear hk9 hp9 hA hO8;refine hK0.out _ _ e0 (fun hHeld=>?_);clear hK0 K0;(try simp only [sT,Act.put]);refine aU [15,16] (by rfl) (by kernel_rfl) (fun _ _ _ _ _ h=>h) hHeld ?_
          iterate 2
           refine yk ?_ rfl (Or.inl ⟨by rfl,?_⟩) ?_;rotate_left
           ·intro w9 hSw;(try dsimp only at hSw);go_simp;(try with_reducible rfl)
           try simp only [sT,Act.put]
          refine aT ?_;simp only [au,sT];refine aH 17 (by kernel_rfl) rfl (fun K0 hK0=>?_);go_simp;(go_wp2_with fail);refine hK0.out _ _ (fP e0) (fun hHeld=>?_);clear hK0 K0;(try simp only [sT,Act.put]);refine wpAnyH_done (by kernel_rfl) ?_ _;clear hHeld;(go_wp2_with fail);go_ret
          refine ⟨by rw [HE3.out];rfl,?_,?_⟩
          ·rw [HL3.out,← HXm.out];have h1:=HA9.out;rw [List.map_append] at h1;exact h1
          ·exact (Tn.kept HKr.out).trans HT9.out
         ·go_simp;obtain ⟨w8,hw8⟩:∃ w8,w8=(wr.alloc (.cells #[.int .i64 (z+al),.slice lo ln lc] 134)).drew:=⟨_,rfl⟩;have HK8:Hid (aa [] wr w8):=by show aa _ _ _;rw [hw8];exact ((aa.refl [] wr).alloc _).drew
          have HA8:Hid (w8.heap[wr.heap.size]?=some (.cells #[.int .i64 (z+al),.slice lo ln lc] 134 (0,0))):=by show _=_;rw [hw8];exact heap_alloc_new wr _
          (go_wp2_with fail);rw [← hw8];clear hw8;refine hK0.out _ _ (HK8.out.cell d0 (by simp)) (fun hHeld=>?_);clear hK0 K0;(try simp only [sT,Act.put]);have d1a:=HK8.out.cell d1 (by simp);refine aH 4 (by kernel_rfl) rfl (fun K0 hK0=>?_);go_simp;(go_wp2_with fail);refine hK0.out _ _ (HK8.out.cell d0 (by simp)) (fun hHeld=>?_);clear hK0 K0;(try simp only [sT,Act.put]);refine aH 14 (by kernel_rfl) rfl (fun K0 hK0=>?_);refine ey B (.slice (some ⟨g,0,none⟩) n cap) X (z+al) lo ln lc wr.heap.size rfl (HK8.out.ownsRow HR7.out (by simp)) rfl HA8.out (by have:=HXl.out;omega) (Nat.le_trans HBr.out HK8.out.size) ?_;intro g' n' cap' w9 HR9 HG9
          have hO8:iK B w8 (X++[(⟨z+al,bc U⟩,.slice lo ln lc)]):=fun x hx=>by
           rcases List.mem_append.1 hx with hx | hx
           ·exact HK8.out.ownsRow (HO7.out x hx) (by simp)
           ·rw [show x=(⟨z+al,bc U⟩,.slice lo ln lc) by simpa using hx];exact HK8.out.ownsRow (bF HLo.out (Nat.le_trans hB HK5.out.size)) (by simp)
          have hA:=jS.grown HPb.out HC7.out HR7.out HK8.out (HR9.out (bc U)) hO8 HG9.out;have HA9:=ah hA.1;have HT9:=ah hA.2;have hk9:aa [g] wr w9:=((HK8.out.mono (T:=[g]) (by simp)).grown HG9.out (fun k hk=>.inl (by cases hk;simp)));have hp9:p≠g:=fun e=>HPg.out e;have e0:=hk9.cell d0 (by simpa using hp9);have e1:=hk9.cell d1 (by simpa using hp9);have ef:w9.frozen? ⟨p,1,none⟩=false:=aj (hk9.at HC7.out (by simpa using hp9)) 1;clear hk9 hp9 hA hO8;refine hK0.out _ _ e0 (fun hHeld=>?_);clear hK0 K0;(try simp only [sT,Act.put]);refine aU [15,16] (by rfl) (by kernel_rfl) (fun _ _ _ _ _ h=>h) hHeld ?_
          iterate 2
           refine yk ?_ rfl (Or.inl ⟨by rfl,?_⟩) ?_;rotate_left
           ·intro w9 hSw;(try dsimp only at hSw);go_simp;(try with_reducible rfl)
           try simp only [sT,Act.put]
          refine aT ?_;simp only [au,sT];refine aH 17 (by kernel_rfl) rfl (fun K0 hK0=>?_);go_simp;(go_wp2_with fail);refine hK0.out _ _ (fP e0) (fun hHeld=>?_);clear hK0 K0;(try simp only [sT,Act.put]);refine wpAnyH_done (by kernel_rfl) ?_ _;clear hHeld;(go_wp2_with fail);go_ret
          refine ⟨by rw [HE3.out];rfl,?_,?_⟩
          ·rw [HL3.out,← HXm.out];have h1:=HA9.out;rw [List.map_append] at h1;exact h1
          ·exact (Tn.kept HKr.out).trans HT9.out
      ·by_cases h1:m.length=1
       ·have hsn1:((sn:Int)==1)=true:=by have:=HSn.out;simp;omega
        have HE3:Hid (fW al L z q false=1):=by show _=_;rw [HE2.out];simp [eU,hs,(vm HMay.out hq15 hs).2 h1]
        have HLs:Hid (jn al L z q false=L):=dS (by rw [HE3.out];decide);(go_wp2_with (go_at_call 96;refine cH5.mono ?_;clear cH5;rintro _ _ ⟨rfl,rfl⟩));go_ret
        exact ⟨by rw [HE3.out];rfl,by rw [HLs.out];exact HAk.out,Tn.kept HK5.out⟩
       ·have hsn1:((sn:Int)==1)=false:=by have:=HSn.out;simp;omega
        have HE3:Hid (fW al L z q false=0):=by show _=_;rw [HE2.out];simp [eU,hs,mt (vm HMay.out hq15 hs).1 h1]
        clear hs h1;obtain ⟨U,hU⟩:∃ U,U=cz (aK m) q false:=⟨_,rfl⟩;have HL3:Hid (jn al L z q false=L++[⟨z+al,bc U⟩]):=by show _=_;rw [HCl.out,if_pos HE3.out,hU]
        have HUq:Hid (U q=false):=by show _=_;rw [hU];simp [cz]
        have HUo:Hid (∀ j,¬ j=q→U j=aK m j):=fun j hj=>by rw [hU];simp [cz,hj]
        clear hU HCl;(go_wp2_with (go_at_call 96;refine cH5.mono ?_;clear cH5;rintro _ _ ⟨rfl,rfl⟩));go_loopw [11,10] (fun iv lv wr=>Es w5 U iv lv wr) (fun iv _ _=>15 - (intOf iv).toNat)
        case atStart=>exact ⟨0,rfl,Nat.zero_le _,World.ownsRow_nil _ _ _ _,aa.refl _ _⟩
        case round =>
         obtain ⟨j,rfl,hj,HRl,HKl⟩:=hrel;by_cases hlt:j < 15
         ·have hlt':(j:Int) < 15:=by omega
          have t1:=HKl.out.cell s1 (by simp);by_cases hjq:j=q
          ·have hb:((j:Int)==(q:Int))=true:=by simp;omega
           have hb2:((j:Int) != (q:Int))=false:=by simp;omega
           have HUj:Hid (U j=false):=by show _=_;rw [hjq];exact HUq.out
           clear hjq;(go_wp2_with fail);go_roundw
           case rel=>exact ⟨j+1,by go_num,by omega,by show bJ _ _ _ _;rw [dR,HUj.out];simpa using HRl.out,HKl⟩
           case measure=>simp [intOf];omega
          ·have hb:((j:Int)==(q:Int))=false:=by simp;omega
           have hb2:((j:Int) != (q:Int))=true:=by simp;omega
           have cJ:=cH wr (HK5.out.trans HKl.out (by simp)) j;have HUj:=ah (HUo.out j hjq);have HJs:Hid (decide ((j:Int)∈m)=aK m j):=rfl;rw [HJs.out] at cJ;clear hjq;cases hs:aK m j with
           | true =>
             rw [hs] at cJ HUj;clear hs;(go_wp2_with (first | (go_at_call 96;refine cJ.mono ?_;clear cJ;rintro _ _ ⟨rfl,rfl⟩) | (at_builtin;refine l5 rfl _ _ rfl w5.heap.size _ (iZ U j) rfl (((aa.refl [] wr).alloc _).ownsRow HRl.out (by simp)) wr.heap.size (j:Int) rfl (ag (k:=0) (heap_alloc_new wr _) rfl) (by have:=i5 U j;omega) (by have:=HKl.out.size;simp;omega) ?_;intro v3 w3 hR3 hG3)));have HK3:Hid (aa [] w5 w3):=(HKl.out.alloc _).grown hG3 (fun k hk=>.inr (World.ownsRow.lt HRl.out k hk).1);have HR3:=ah hR3;clear hR3 hG3;go_roundw
             case rel=>exact ⟨j+1,by go_num,by omega,by show bJ _ _ _ _;rw [dR,HUj.out];exact HR3.out,HK3⟩
             case measure=>simp [intOf];omega
           | false =>
             rw [hs] at cJ HUj;clear hs;(go_wp2_with (go_at_call 96;refine cJ.mono ?_;clear cJ;rintro _ _ ⟨rfl,rfl⟩));go_roundw
             case rel=>exact ⟨j+1,by go_num,by omega,by show bJ _ _ _ _;rw [dR,HUj.out];simpa using HRl.out,HKl⟩
             case measure=>simp [intOf];omega
         ·obtain rfl:j=15:=by omega
          have HKr:Hid (aa [] w wr):=HK5.out.trans HKl.out (by simp);have d0:=HKr.out.cell c0 (by simp);have d1:=HKr.out.cell c1 (by simp);have HLo0:Hid (bJ w5.heap.size wr u10 (bc U)):=HRl.out;obtain ⟨lo,lc,hlv,_⟩:=HLo0.out.sl;subst hlv;obtain ⟨ln,hln⟩:∃ ln,ln=(bc U).length:=⟨_,rfl⟩;have HLo:Hid (bJ w5.heap.size wr (.slice lo ln lc) (bc U)):=by show bJ _ _ _ _;rw [hln];exact HLo0.out
          rw [← hln];clear hln HLo0 HRl;have HC7:Hid (wr.heap[p]?=some (.cells #[.int .i64 al,.slice (some ⟨g,0,none⟩) n cap] 94 (0,0))):=HKr.out.at HC.out (by simp);have HR7:Hid (iR B wr (.slice (some ⟨g,0,none⟩) n cap) X):=HKr.out.ownsRow HRw.out (by simp);have HO7:Hid (iK B wr X):=fun x hx=>HKr.out.ownsRow (HOw.out x hx) (by simp);have HBr:Hid (B≤wr.heap.size):=Nat.le_trans hB HKr.out.size;have hzw:IntKind.i64.wrap (z+al)=z+al:=IntWalk.i64_in _ (by omega);clear cH c0 c1 x0 s0 s1 y0 y1;(go_wp2_with fail);refine wp_region_held_drew (S:=fun w'=>w'.cell? ⟨p,0,none⟩=some (.int .i64 al)) (by kernel_rfl) d0 (fun hHeld=>?_);refine aU [0,1,2,3,5,6,7,8,9,10,11,12] (by rfl) (by kernel_rfl) (fun _ _ _ _ _ h=>h) hHeld ?_
          iterate 12
           refine yk ?_ rfl (Or.inl ⟨by rfl,?_⟩) ?_;rotate_left
           ·intro w9 hSw;(try dsimp only at hSw);go_simp;(try with_reducible rfl)
           try simp only [sT,Act.put]
          refine aT ?_;simp only [au,sT];refine wpAnyH_ready (rs:=[4,13]) (by kernel_rfl) (by simp) (AllReadyH.cons rfl (fun K0 hK0=>?_) (AllReadyH.cons rfl (fun K0 hK0=>?_) AllReadyH.nil))
          ·go_simp;(go_wp2_with fail);refine hK0.out _ _ d0 (fun hHeld=>?_);clear hK0 K0;(try simp only [sT,Act.put]);refine aH 13 (by kernel_rfl) rfl (fun K0 hK0=>?_);go_simp;obtain ⟨w8,hw8⟩:∃ w8,w8=(wr.alloc (.cells #[.int .i64 (z+al),.slice lo ln lc] 134)).drew:=⟨_,rfl⟩;have HK8:Hid (aa [] wr w8):=by show aa _ _ _;rw [hw8];exact ((aa.refl [] wr).alloc _).drew
           have HA8:Hid (w8.heap[wr.heap.size]?=some (.cells #[.int .i64 (z+al),.slice lo ln lc] 134 (0,0))):=by show _=_;rw [hw8];exact heap_alloc_new wr _
           (go_wp2_with fail);rw [← hw8];clear hw8;refine hK0.out _ _ (HK8.out.cell d0 (by simp)) (fun hHeld=>?_);clear hK0 K0;(try simp only [sT,Act.put]);refine aH 14 (by kernel_rfl) rfl (fun K0 hK0=>?_);refine ey B (.slice (some ⟨g,0,none⟩) n cap) X (z+al) lo ln lc wr.heap.size rfl (HK8.out.ownsRow HR7.out (by simp)) rfl HA8.out (by have:=HXl.out;omega) (Nat.le_trans HBr.out HK8.out.size) ?_;intro g' n' cap' w9 HR9 HG9
           have hO8:iK B w8 (X++[(⟨z+al,bc U⟩,.slice lo ln lc)]):=fun x hx=>by
            rcases List.mem_append.1 hx with hx | hx
            ·exact HK8.out.ownsRow (HO7.out x hx) (by simp)
            ·rw [show x=(⟨z+al,bc U⟩,.slice lo ln lc) by simpa using hx];exact HK8.out.ownsRow (bF HLo.out (Nat.le_trans hB HK5.out.size)) (by simp)
           have hA:=jS.grown HPb.out HC7.out HR7.out HK8.out (HR9.out (bc U)) hO8 HG9.out;have HA9:=ah hA.1;have HT9:=ah hA.2;have hk9:aa [g] wr w9:=((HK8.out.mono (T:=[g]) (by simp)).grown HG9.out (fun k hk=>.inl (by cases hk;simp)));have hp9:p≠g:=fun e=>HPg.out e;have e0:=hk9.cell d0 (by simpa using hp9);have e1:=hk9.cell d1 (by simpa using hp9);have ef:w9.frozen? ⟨p,1,none⟩=false:=aj (hk9.at HC7.out (by simpa using hp9)) 1;clear hk9 hp9 hA hO8;refine hK0.out _ _ e0 (fun hHeld=>?_);clear hK0 K0;(try simp only [sT,Act.put]);refine aU [15,16] (by rfl) (by kernel_rfl) (fun _ _ _ _ _ h=>h) hHeld ?_
           iterate 2
            refine yk ?_ rfl (Or.inl ⟨by rfl,?_⟩) ?_;rotate_left
            ·intro w9 hSw;(try dsimp only at hSw);go_simp;(try with_reducible rfl)
            try simp only [sT,Act.put]
           refine aT ?_;simp only [au,sT];refine aH 17 (by kernel_rfl) rfl (fun K0 hK0=>?_);go_simp;(go_wp2_with fail);refine hK0.out _ _ (fP e0) (fun hHeld=>?_);clear hK0 K0;(try simp only [sT,Act.put]);refine wpAnyH_done (by kernel_rfl) ?_ _;clear hHeld;(go_wp2_with fail);go_ret
           refine ⟨by rw [HE3.out];rfl,?_,?_⟩
           ·rw [HL3.out,← HXm.out];have h1:=HA9.out;rw [List.map_append] at h1;exact h1
           ·exact (Tn.kept HKr.out).trans HT9.out
          ·go_simp;obtain ⟨w8,hw8⟩:∃ w8,w8=(wr.alloc (.cells #[.int .i64 (z+al),.slice lo ln lc] 134)).drew:=⟨_,rfl⟩;have HK8:Hid (aa [] wr w8):=by show aa _ _ _;rw [hw8];exact ((aa.refl [] wr).alloc _).drew
           have HA8:Hid (w8.heap[wr.heap.size]?=some (.cells #[.int .i64 (z+al),.slice lo ln lc] 134 (0,0))):=by show _=_;rw [hw8];exact heap_alloc_new wr _
           (go_wp2_with fail);rw [← hw8];clear hw8;refine hK0.out _ _ (HK8.out.cell d0 (by simp)) (fun hHeld=>?_);clear hK0 K0;(try simp only [sT,Act.put]);have d1a:=HK8.out.cell d1 (by simp);refine aH 4 (by kernel_rfl) rfl (fun K0 hK0=>?_);go_simp;(go_wp2_with fail);refine hK0.out _ _ (HK8.out.cell d0 (by simp)) (fun hHeld=>?_);clear hK0 K0;(try simp only [sT,Act.put]);refine aH 14 (by kernel_rfl) rfl (fun K0 hK0=>?_);refine ey B (.slice (some ⟨g,0,none⟩) n cap) X (z+al) lo ln lc wr.heap.size rfl (HK8.out.ownsRow HR7.out (by simp)) rfl HA8.out (by have:=HXl.out;omega) (Nat.le_trans HBr.out HK8.out.size) ?_;intro g' n' cap' w9 HR9 HG9
           have hO8:iK B w8 (X++[(⟨z+al,bc U⟩,.slice lo ln lc)]):=fun x hx=>by
            rcases List.mem_append.1 hx with hx | hx
            ·exact HK8.out.ownsRow (HO7.out x hx) (by simp)
            ·rw [show x=(⟨z+al,bc U⟩,.slice lo ln lc) by simpa using hx];exact HK8.out.ownsRow (bF HLo.out (Nat.le_trans hB HK5.out.size)) (by simp)
           have hA:=jS.grown HPb.out HC7.out HR7.out HK8.out (HR9.out (bc U)) hO8 HG9.out;have HA9:=ah hA.1;have HT9:=ah hA.2;have hk9:aa [g] wr w9:=((HK8.out.mono (T:=[g]) (by simp)).grown HG9.out (fun k hk=>.inl (by cases hk;simp)));have hp9:p≠g:=fun e=>HPg.out e;have e0:=hk9.cell d0 (by simpa using hp9);have e1:=hk9.cell d1 (by simpa using hp9);have ef:w9.frozen? ⟨p,1,none⟩=false:=aj (hk9.at HC7.out (by simpa using hp9)) 1;clear hk9 hp9 hA hO8;refine hK0.out _ _ e0 (fun hHeld=>?_);clear hK0 K0;(try simp only [sT,Act.put]);refine aU [15,16] (by rfl) (by kernel_rfl) (fun _ _ _ _ _ h=>h) hHeld ?_
           iterate 2
            refine yk ?_ rfl (Or.inl ⟨by rfl,?_⟩) ?_;rotate_left
            ·intro w9 hSw;(try dsimp only at hSw);go_simp;(try with_reducible rfl)
            try simp only [sT,Act.put]
           refine aT ?_;simp only [au,sT];refine aH 17 (by kernel_rfl) rfl (fun K0 hK0=>?_);go_simp;(go_wp2_with fail);refine hK0.out _ _ (fP e0) (fun hHeld=>?_);clear hK0 K0;(try simp only [sT,Act.put]);refine wpAnyH_done (by kernel_rfl) ?_ _;clear hHeld;(go_wp2_with fail);go_ret
           refine ⟨by rw [HE3.out];rfl,?_,?_⟩
           ·rw [HL3.out,← HXm.out];have h1:=HA9.out;rw [List.map_append] at h1;exact h1
           ·exact (Tn.kept HKr.out).trans HT9.out
      ·have HE3:Hid (fW al L z q true=9):=by show _=_;rw [HE2.out];simp [eU,hs]
       have HLs:Hid (jn al L z q true=L):=dS (by rw [HE3.out];decide);(go_wp2_with (go_at_call 96;refine cH5.mono ?_;clear cH5;rintro _ _ ⟨rfl,rfl⟩));go_ret
       exact ⟨by rw [HE3.out];rfl,by rw [HLs.out];exact HAk.out,Tn.kept HK5.out⟩
end Go.Proofs.YtgpnlidnbldiiaaGreat
