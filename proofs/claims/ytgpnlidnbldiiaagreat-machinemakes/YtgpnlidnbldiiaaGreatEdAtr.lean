/-
  The document's own At, Cut, NewEpochs.
-/
import Derived.Test.YtgpnlidnbldiiaaGreatQ2r
import Derived.Test.YtgpnlidnbldiiaaGreatW4r
import Derived.Test.YtgpnlidnbldiiaaGreatW5r
import Derived.Test.YtgpnlidnbldiiaaGreatQ16r
set_option maxHeartbeats 8000000
set_option maxRecDepth 100000
set_option linter.unusedSimpArgs false
namespace Go.Proofs.YtgpnlidnbldiiaaGreat
open Go.RowKit
theorem qB.drop {w:World}{g n c:Nat}{X:List (Ep × Value)}(h:qB w (some ⟨g,0,none⟩) n c X) {k:Nat}(hk:k≤n):qB w (some ⟨g,k*2,none⟩) (n - k) (c - k) (X.drop k):=by
 obtain ⟨h1,h2,h3,h4,h5⟩:=h;refine ⟨by rw [List.length_drop,h1],by omega,by omega,fun i hi=>?_,fun x hx=>h5 x (List.mem_of_mem_drop hx)⟩;rw [List.length_drop] at hi;obtain ⟨b,o,e,a1,a2⟩:=h4 (k+i) (by omega);cases e
 refine ⟨g,k*2,rfl,?_,?_⟩
 ·rw [List.getElem_drop,← a1];congr 2;omega
 ·rw [List.getElem_drop,← a2];congr 2;omega
theorem yO (B:Nat) (w:World) (p:Nat) (al:Int) (L:List Ep) (h:jS B w p al L) (hok:hH L) (hl:L.length≤1000000) (z:Int) :
 Calls Tryz.prog 51 #[.pointer (some ⟨p,0,none⟩),.int .i64 z] w fun e w'=>∃ v,e=.returned v∧bJ w.heap.size w' v (xQ L z)∧aa [] w w':=by
 obtain ⟨g,cap,X,h1,hS,hX,_,_,_⟩:=h.open hok.1;have c1:w.cell? ⟨p,1,none⟩=some (.slice (some ⟨g,0,none⟩) L.length cap):=ag (k:=1) h1 rfl;have hq:=nH hok.1 z;have hqX:im L z < X.length:=by rw [hS.1];exact hq
 obtain ⟨g2,o2,e2,hy0,y1⟩:=hS.2.2.2.1 _ hqX;clear hy0;cases e2
 obtain ⟨so,sc,hv,hsl⟩:=hS.2.2.2.2 _ (List.getElem_mem hqX);have hXq:=pF hX hqX hq;rw [hv,Nat.zero_add] at y1;rw [hXq] at y1 hsl;have hmay:=(hok.2.2 _ (List.getElem_mem hq)).1
 have hat:xQ L z=L[im L z].m:=by
  unfold xQ;rw [List.getD_eq_getElem?_getD,List.getElem?_eq_getElem hq];rfl
 rw [hat];have HNe:=ah hmay.1;have HLm:=ah (pP hmay);have HA:=ah h;have HO:=ah hok;have HLn:=ah hl;have HSm:=ah hsl;generalize L[im L z].m=m at *;obtain ⟨q,hqe⟩:∃ q,im L z=q:=⟨_,rfl⟩;have HQ:=ah hqe;rw [hqe] at y1 hq;obtain ⟨sn,hsn⟩:∃ sn,sn=m.length:=⟨_,rfl⟩;rw [← hsn] at y1 HSm;generalize hln:L.length=n at c1 hq;have hq':(q:Int) < n:=by omega
 clear h hok hl h1 hS hX hqX hv hsl hXq hmay hat hqe hsn hln;go_enter Tryz.func51,Tryz.ntmps51;go_wp2_with fail
 refine wp_region_held_drew (S:=fun w'=>w'.cell? ⟨p,1,none⟩=some (.slice (some ⟨g,0,none⟩) n cap)∧w'.cell? ⟨g,q*2+1,none⟩=some (.slice so sn sc)) (by kernel_rfl) ⟨c1,y1⟩ (fun hHeld=>?_);refine aU [1,2,3,4,5,6] (by rfl) (by kernel_rfl) (fun _ _ _ _ _ h=>h) hHeld ?_
 iterate 6
  refine yk ?_ rfl (Or.inl ⟨by rfl,?_⟩) ?_;rotate_left
  ·intro w9 hSw;(try dsimp only at hSw);go_simp;(try with_reducible rfl)
  try simp only [sT,Act.put]
 refine aT ?_;simp only [au,sT];refine wpAnyH_ready (rs:=[0,7]) (by kernel_rfl) (by simp) (AllReadyH.cons rfl (fun K0 hK0=>?_) (AllReadyH.cons rfl (fun K0 hK0=>?_) (AllReadyH.nil)))
 ·go_simp;obtain ⟨w2,hw2⟩:∃ w2,w2=(w.alloc (.cells #[] 3)).drew:=⟨_,rfl⟩;have HK2:Hid (aa [] w w2):=by show aa _ _ _;rw [hw2];exact ((aa.refl [] w).alloc _).drew
  have HR2:Hid (bJ w.heap.size w2 (.slice (some ⟨w.heap.size,0,none⟩) 0 0) []):=by show bJ _ _ _ _;rw [hw2];exact kL w _ (Nat.le_refl _)
  (go_wp2_with fail);rw [← hw2];clear hw2;refine hK0.out _ _ ⟨HK2.out.cell c1 (by simp),HK2.out.cell y1 (by simp)⟩ (fun hHeld=>?_);clear hK0 K0;(try simp only [sT,Act.put]);refine aH 7 (by kernel_rfl) rfl (fun K0 hK0=>?_);go_simp;refine (kg B w2 p al L (HA.out.kept HK2.out) HO.out HLn.out z).mono ?_;rintro _ _ ⟨rfl,rfl⟩;rw [HQ.out];(go_wp2_with fail);refine hK0.out _ _ ⟨HK2.out.cell c1 (by simp),HK2.out.cell y1 (by simp)⟩ (fun hHeld=>?_);clear hK0 K0;(try simp only [sT,Act.put]);refine aU [8,9,10] (by rfl) (by kernel_rfl) (fun _ _ _ _ _ h=>h) hHeld ?_
  iterate 3
   refine yk ?_ rfl (Or.inl ⟨by rfl,?_⟩) ?_;rotate_left
   ·intro w9 hSw;(try dsimp only at hSw);go_simp;(try with_reducible rfl)
   try simp only [sT,Act.put]
  refine aT ?_;simp only [au,sT];refine aH 11 (by kernel_rfl) rfl (fun K0 hK0=>?_);refine kW w.heap.size _ [] m so sn sc rfl HR2.out rfl (HSm.out.kept HK2.out) HNe.out (by simp;have:=HLm.out;omega) HK2.out.size ?_;intro g3 n3 c3 w3 HR3 HG3;have HK3:Hid (aa [] w w3):=HK2.out.grown HG3.out (fun k hk=>.inr (by cases hk;exact Nat.le_refl _));refine hK0.out _ _ ⟨HK3.out.cell c1 (by simp),HK3.out.cell y1 (by simp)⟩ (fun hHeld=>?_);clear hK0 K0;(try simp only [sT,Act.put]);refine aU [12] (by rfl) (by kernel_rfl) (fun _ _ _ _ _ h=>h) hHeld ?_
  iterate 1
   refine yk ?_ rfl (Or.inl ⟨by rfl,?_⟩) ?_;rotate_left
   ·intro w9 hSw;(try dsimp only at hSw);go_simp;(try with_reducible rfl)
   try simp only [sT,Act.put]
  refine aT ?_;simp only [au,sT];(try simp only [sT,Act.put]);refine wpAnyH_done (by kernel_rfl) ?_ _;clear hHeld;(go_wp2_with fail);go_ret
  exact ⟨_,rfl,HR3.out,HK3.out⟩
 ·go_simp;refine (kg B w.drew p al L (HA.out.kept (aa.refl [] w).drew) HO.out HLn.out z).mono ?_;rintro _ _ ⟨rfl,rfl⟩;rw [HQ.out];(go_wp2_with fail);refine hK0.out _ _ ⟨c1,y1⟩ (fun hHeld=>?_);clear hK0 K0;(try simp only [sT,Act.put]);refine aU [8,9,10] (by rfl) (by kernel_rfl) (fun _ _ _ _ _ h=>h) hHeld ?_
  iterate 3
   refine yk ?_ rfl (Or.inl ⟨by rfl,?_⟩) ?_;rotate_left
   ·intro w9 hSw;(try dsimp only at hSw);go_simp;(try with_reducible rfl)
   try simp only [sT,Act.put]
  refine aT ?_;simp only [au,sT];refine aH 0 (by kernel_rfl) rfl (fun K0 hK0=>?_);go_simp;obtain ⟨w2,hw2⟩:∃ w2,w2=(w.alloc (.cells #[] 3)).drew:=⟨_,rfl⟩;have HK2:Hid (aa [] w w2):=by show aa _ _ _;rw [hw2];exact ((aa.refl [] w).alloc _).drew
  have HR2:Hid (bJ w.heap.size w2 (.slice (some ⟨w.heap.size,0,none⟩) 0 0) []):=by show bJ _ _ _ _;rw [hw2];exact kL w _ (Nat.le_refl _)
  (go_wp2_with fail);rw [← hw2];clear hw2;refine hK0.out _ _ ⟨HK2.out.cell c1 (by simp),HK2.out.cell y1 (by simp)⟩ (fun hHeld=>?_);clear hK0 K0;(try simp only [sT,Act.put]);refine aH 11 (by kernel_rfl) rfl (fun K0 hK0=>?_);refine kW w.heap.size _ [] m so sn sc rfl HR2.out rfl (HSm.out.kept HK2.out) HNe.out (by simp;have:=HLm.out;omega) HK2.out.size ?_;intro g3 n3 c3 w3 HR3 HG3;have HK3:Hid (aa [] w w3):=HK2.out.grown HG3.out (fun k hk=>.inr (by cases hk;exact Nat.le_refl _));refine hK0.out _ _ ⟨HK3.out.cell c1 (by simp),HK3.out.cell y1 (by simp)⟩ (fun hHeld=>?_);clear hK0 K0;(try simp only [sT,Act.put]);refine aU [12] (by rfl) (by kernel_rfl) (fun _ _ _ _ _ h=>h) hHeld ?_
  iterate 1
   refine yk ?_ rfl (Or.inl ⟨by rfl,?_⟩) ?_;rotate_left
   ·intro w9 hSw;(try dsimp only at hSw);go_simp;(try with_reducible rfl)
   try simp only [sT,Act.put]
  refine aT ?_;simp only [au,sT];(try simp only [sT,Act.put]);refine wpAnyH_done (by kernel_rfl) ?_ _;clear hHeld;(go_wp2_with fail);go_ret
  exact ⟨_,rfl,HR3.out,HK3.out⟩
def BP (B:Nat) (al:Int) (L:List Ep) (z:Int) (w:World) (p:Nat) (e:Ending) (w':World):Prop :=
 (∃ v,e=.returned v)∧jS B w' p al (dZ L z)∧Tn B [94,134] w w'
theorem oy (B:Nat) (w:World) (p:Nat) (al:Int) (L:List Ep) (h:jS B w p al L) (hok:hH L) (hl:L.length≤1000) (hB:B≤w.heap.size) (z:Int) :
 Calls Tryz.prog 43 #[.pointer (some ⟨p,0,none⟩),.int .i64 z] w fun e w'=>BP B al L z w p e w':=by
 obtain ⟨g,cap,X,h1,hS,hX,hpb,hRw,hOw⟩:=h.open hok.1;have c1:w.cell? ⟨p,1,none⟩=some (.slice (some ⟨g,0,none⟩) L.length cap):=ag (k:=1) h1 rfl;have hq:=nH hok.1 z;have hcap:=hS.2.1;have hmx:=hS.2.2.1;unfold maxLen at hmx;have hlX:X.length=L.length:=hS.1
 have cC:=iO w.drew (some ⟨g,im L z*2,none⟩) (L.length - im L z) (cap - im L z) (X.drop (im L z)) ((hS.kept (aa.refl [] w).drew).drop (by omega)) (fun x hx=>by
  have hx':x.1∈L:=by rw [← hX];exact List.mem_map.2 ⟨x,List.mem_of_mem_drop hx,rfl⟩
  exact (hok.2.2 _ hx').1) (by omega)
 rw [List.map_drop,hX] at cC;have HCu:Hid (dZ L z=L.drop (im L z)):=rfl;have HA:=ah h;have HO:=ah hok;have HLn:Hid (L.length≤1000000):=by show _≤_;omega
 have HH:=ah h1;have HPb:=ah hpb;have HRw:=ah hRw;obtain ⟨q,hqe⟩:∃ q,im L z=q:=⟨_,rfl⟩;have HQ:=ah hqe;rw [hqe] at cC hq HCu;unfold BP;rw [HCu.out];generalize hln:L.length=n at c1 hq hcap cC HH HRw;have hq':(q:Int)≤n:=by omega
 have hqn:q≤n:=by omega
 have hqc:¬ cap=q:=by omega
 have hqc2:q≤cap:=by omega
 clear h hok hl h1 hS hX hpb hRw hOw hlX hqe hln HCu;go_enter Tryz.func43,Tryz.ntmps43;go_wp2_with fail
 refine wp_region_held_drew (S:=fun _=>True) (by kernel_rfl) trivial (fun hHeld=>?_);refine aU [0,1,2,3,5,6] (by rfl) (by kernel_rfl) (fun _ _ _ _ _ h=>h) hHeld ?_
 iterate 6
  refine yk ?_ rfl (Or.inl ⟨by rfl,?_⟩) ?_;rotate_left
  ·intro w9 hSw;(try dsimp only at hSw);go_simp;(try with_reducible rfl)
  try simp only [sT,Act.put]
 refine aT ?_;simp only [au,sT];refine wpAnyH_ready (rs:=[4,7]) (by kernel_rfl) (by simp) (AllReadyH.cons rfl (fun K0 hK0=>?_) (AllReadyH.cons rfl (fun K0 hK0=>?_) (AllReadyH.nil)))
 ·go_simp;(go_wp2_with fail);refine hK0.out _ _ trivial (fun hHeld=>?_);clear hK0 K0;(try simp only [sT,Act.put]);refine aH 7 (by kernel_rfl) rfl (fun K0 hK0=>?_);go_simp;refine (kg B w.drew p al L (HA.out.kept (aa.refl [] w).drew) HO.out HLn.out z).mono ?_;rintro _ _ ⟨rfl,rfl⟩;rw [HQ.out];(go_wp2_with fail);refine hK0.out _ _ trivial (fun hHeld=>?_);clear hK0 K0;(try simp only [sT,Act.put]);refine aU [8] (by rfl) (by kernel_rfl) (fun _ _ _ _ _ h=>h) hHeld ?_
  iterate 1
   refine yk ?_ rfl (Or.inl ⟨by rfl,?_⟩) ?_;rotate_left
   ·intro w9 hSw;(try dsimp only at hSw);go_simp;(try with_reducible rfl)
   try simp only [sT,Act.put]
  refine aT ?_;simp only [au,sT];refine aH 9 (by kernel_rfl) rfl (fun K0 hK0=>?_);go_simp;refine cC.mono ?_;rintro _ w3 ⟨u3,Y,rfl,hR3,hO3,hY3,hK3a⟩;obtain ⟨a3,c3,rfl,_⟩:=hR3.sl hO3;obtain ⟨n3,hn3⟩:∃ n3,n3=Y.length:=⟨_,rfl⟩;rw [← hn3] at hR3 ⊢;have HK3:Hid (aa [] w w3):=(aa.refl [] w).drew.trans hK3a (by simp);have e1:=HK3.out.cell c1 (by simp);have ef:w3.frozen? ⟨p,1,none⟩=false:=aj (HK3.out.at HH.out (by simp)) 1;have hput:=jS.grown HPb.out HH.out HRw.out HK3.out (bF hR3 hB) (fun x hx=>bF (hO3 x hx) hB) ⟨rfl,rfl,rfl,Nat.le_refl _,fun _ _ _=>rfl⟩;have HPut:=ah hput;have HY3:=ah hY3;clear hR3 hO3 hY3 hK3a hput hn3 cC;(go_wp2_with fail);refine hK0.out _ _ trivial (fun hHeld=>?_);clear hK0 K0;(try simp only [sT,Act.put]);refine aU [10,11] (by rfl) (by kernel_rfl) (fun _ _ _ _ _ h=>h) hHeld ?_
  iterate 2
   refine yk ?_ rfl (Or.inl ⟨by rfl,?_⟩) ?_;rotate_left
   ·intro w9 hSw;(try dsimp only at hSw);go_simp;(try with_reducible rfl)
   try simp only [sT,Act.put]
  refine aT ?_;simp only [au,sT];refine aH 12 (by kernel_rfl) rfl (fun K0 hK0=>?_);go_simp;(go_wp2_with fail);refine hK0.out _ _ trivial (fun hHeld=>?_);clear hK0 K0;(try simp only [sT,Act.put]);refine wpAnyH_done (by kernel_rfl) ?_ _;clear hHeld;(go_wp2_with fail);go_end0
  have hpt:=HPut.out;rw [HY3.out] at hpt;exact ⟨⟨_,rfl⟩,hpt.1,hpt.2⟩
 ·go_simp;refine (kg B w.drew p al L (HA.out.kept (aa.refl [] w).drew) HO.out HLn.out z).mono ?_;rintro _ _ ⟨rfl,rfl⟩;rw [HQ.out];(go_wp2_with fail);refine hK0.out _ _ trivial (fun hHeld=>?_);clear hK0 K0;(try simp only [sT,Act.put]);refine aH 4 (by kernel_rfl) rfl (fun K0 hK0=>?_);go_simp;(go_wp2_with fail);refine hK0.out _ _ trivial (fun hHeld=>?_);clear hK0 K0;(try simp only [sT,Act.put]);refine aU [8] (by rfl) (by kernel_rfl) (fun _ _ _ _ _ h=>h) hHeld ?_
  iterate 1
   refine yk ?_ rfl (Or.inl ⟨by rfl,?_⟩) ?_;rotate_left
   ·intro w9 hSw;(try dsimp only at hSw);go_simp;(try with_reducible rfl)
   try simp only [sT,Act.put]
  refine aT ?_;simp only [au,sT];refine aH 9 (by kernel_rfl) rfl (fun K0 hK0=>?_);go_simp;refine cC.mono ?_;rintro _ w3 ⟨u3,Y,rfl,hR3,hO3,hY3,hK3a⟩;obtain ⟨a3,c3,rfl,_⟩:=hR3.sl hO3;obtain ⟨n3,hn3⟩:∃ n3,n3=Y.length:=⟨_,rfl⟩;rw [← hn3] at hR3 ⊢;have HK3:Hid (aa [] w w3):=(aa.refl [] w).drew.trans hK3a (by simp);have e1:=HK3.out.cell c1 (by simp);have ef:w3.frozen? ⟨p,1,none⟩=false:=aj (HK3.out.at HH.out (by simp)) 1;have hput:=jS.grown HPb.out HH.out HRw.out HK3.out (bF hR3 hB) (fun x hx=>bF (hO3 x hx) hB) ⟨rfl,rfl,rfl,Nat.le_refl _,fun _ _ _=>rfl⟩;have HPut:=ah hput;have HY3:=ah hY3;clear hR3 hO3 hY3 hK3a hput hn3 cC;(go_wp2_with fail);refine hK0.out _ _ trivial (fun hHeld=>?_);clear hK0 K0;(try simp only [sT,Act.put]);refine aU [10,11] (by rfl) (by kernel_rfl) (fun _ _ _ _ _ h=>h) hHeld ?_
  iterate 2
   refine yk ?_ rfl (Or.inl ⟨by rfl,?_⟩) ?_;rotate_left
   ·intro w9 hSw;(try dsimp only at hSw);go_simp;(try with_reducible rfl)
   try simp only [sT,Act.put]
  refine aT ?_;simp only [au,sT];refine aH 12 (by kernel_rfl) rfl (fun K0 hK0=>?_);go_simp;(go_wp2_with fail);refine hK0.out _ _ trivial (fun hHeld=>?_);clear hK0 K0;(try simp only [sT,Act.put]);refine wpAnyH_done (by kernel_rfl) ?_ _;clear hHeld;(go_wp2_with fail);go_end0
  have hpt:=HPut.out;rw [HY3.out] at hpt;exact ⟨⟨_,rfl⟩,hpt.1,hpt.2⟩
def DE (m:List Int) (al:Int) (w:World) (e:Ending) (w':World):Prop :=
 ((ea m∧1≤al∧al≤8)∧∃ p:Nat,e=.returned (.tuple #[.pointer (some ⟨p,0,none⟩),.int .i64 0])∧jS w.heap.size w' p al [⟨0,m⟩]∧aa [] w w') ∨
 (¬ (ea m∧1≤al∧al≤8)∧e=.returned (.tuple #[.pointer none,.int .i64 1])∧aa [] w w')
theorem vZ (w:World) (ao:Option Addr) (n c:Nat) (m:List Int) (hS:mW w ao n c m) (al:Int) :
 Calls Tryz.prog 32 #[.slice ao n c,.int .i64 al] w fun e w'=>DE m al w e w':=by
 have cM:=oM w ao n c m hS;have HS:=ah hS;have HL:=ah hS.1;clear hS;by_cases hm:ea m
 ·rw [show decide (ea m)=true by simpa using hm] at cM;by_cases ha1:al < 1
  ·have HM:=ah (show ¬ (ea m∧1≤al∧al≤8) from fun h=>by omega);go_enter Tryz.func32,Tryz.ntmps32;(go_wp2_with (go_at_call 72;refine cM.mono ?_;clear cM;rintro _ w1 ⟨rfl,hK1⟩));go_ret2
   exact .inr ⟨HM.out,rfl,hK1⟩
  ·by_cases ha2:8 < al
   ·have HM:=ah (show ¬ (ea m∧1≤al∧al≤8) from fun h=>by omega);go_enter Tryz.func32,Tryz.ntmps32;(go_wp2_with (go_at_call 72;refine cM.mono ?_;clear cM;rintro _ w1 ⟨rfl,hK1⟩));go_ret2
    exact .inr ⟨HM.out,rfl,hK1⟩
   ·have HM:=ah (show ea m∧1≤al∧al≤8 from ⟨hm,by omega,by omega⟩);clear hm;go_enter Tryz.func32,Tryz.ntmps32
    go_wp2_with (first
     | (go_at_call 72;refine cM.mono ?_;clear cM;rintro _ w1 ⟨rfl,hK1⟩
        have HK1:=ah hK1
        have cC:=iO (w1.alloc (.cells #[.int .i64 0,.slice ao n c] 134)) (some ⟨w1.heap.size,0,none⟩) 1 1 [(⟨0,m⟩,.slice ao n c)] ⟨rfl,Nat.le_refl _,by decide,(fun i hi=>by
         obtain rfl:i=0:=by simpa using hi
         exact ⟨w1.heap.size,0,rfl,ag (k:=0) (heap_alloc_new w1 _) rfl,ag (k:=1) (heap_alloc_new w1 _) rfl⟩),(fun x hx=>by
         rw [show x=(⟨0,m⟩,.slice ao n c) by simpa using hx];exact ⟨ao,c,by rw [HL.out],by rw [HL.out];exact HS.out.kept (HK1.out.alloc _)⟩)⟩ (fun x hx=>by rw [show x=(⟨0,m⟩,.slice ao n c) by simpa using hx];exact HM.out.1) (by omega)
        clear hK1)
     | (go_at_call 67;refine cC.mono ?_;clear cC;rintro _ w2 ⟨u2,Y,rfl,hR2,hO2,hY2,hK2⟩
        have HK2:Hid (aa [] w w2):=(HK1.out.alloc _).trans hK2 (by simp);obtain ⟨a2,c2,rfl,_⟩:=hR2.sl hO2;obtain ⟨n2,hn2⟩:∃ n2,n2=Y.length:=⟨_,rfl⟩;rw [← hn2] at hR2 ⊢;have HR2:=ah hR2;have HO2:=ah hO2;have HY2:=ah hY2;clear hR2 hO2 hY2 hK2 hn2))
    go_ret2
    have hsz:w.heap.size≤(w1.alloc (.cells #[.int .i64 0,.slice ao n c] 134)).heap.size:=(HK1.out.alloc _).size;refine .inl ⟨HM.out,w2.heap.size,rfl,⟨_,Y,HK2.out.size,heap_alloc_new w2 _,((aa.refl [] w2).alloc _).ownsRow (bF HR2.out hsz) (by simp),fun x hx=>((aa.refl [] w2).alloc _).ownsRow (bF (HO2.out x hx) hsz) (by simp),HY2.out⟩,HK2.out.alloc _⟩
 ·rw [show decide (ea m)=false by simpa using hm] at cM;have HM:=ah (show ¬ (ea m∧1≤al∧al≤8) from fun h=>hm h.1);go_enter Tryz.func32,Tryz.ntmps32;(go_wp2_with (go_at_call 72;refine cM.mono ?_;clear cM;rintro _ w1 ⟨rfl,hK1⟩));go_ret2
  exact .inr ⟨HM.out,rfl,hK1⟩
end Go.Proofs.YtgpnlidnbldiiaaGreat
