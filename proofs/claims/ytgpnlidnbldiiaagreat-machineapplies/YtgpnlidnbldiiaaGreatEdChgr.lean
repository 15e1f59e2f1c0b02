/-
  The document's own Change.
-/
import Derived.Test.YtgpnlidnbldiiaaGreatQ2r
import Derived.Test.YtgpnlidnbldiiaaGreatEdAtr
import Derived.Test.YtgpnlidnbldiiaaGreatQ16r
import Derived.Test.YtgpnlidnbldiiaaGreatQ1r
namespace Go.Proofs.YtgpnlidnbldiiaaGreat
open Go.RowKit
def RchgP (B:Nat) (al:Int) (L:List Ep) (z q:Int) (add:Bool) (w:World) (p:Nat) (e:Ending) (w':World):Prop :=
 e=.returned (.int .i64 (chE al L z q add))∧EdA B w' p al (chL al L z q add)∧Tn B [94,134] w w'
def toldN (S:Nat→Bool) (k:Nat):List Int:=((List.range k).filter S).map fun k:Nat=>(k:Int)
theorem toldN_succ (S:Nat→Bool) (k:Nat):toldN S (k+1)=toldN S k++(if S k then [(k:Int)] else []):=by
 unfold toldN
 rw [List.range_succ,List.filter_append,List.map_append]
 cases h:S k <;> simp [h]
theorem toldN_len (S:Nat→Bool) (k:Nat):(toldN S k).length≤k:=by
 unfold toldN
 rw [List.length_map]
 exact Nat.le_trans (List.length_filter_le _ _) (by simp)
theorem chg_one {m:List Int}{q:Nat}(hm:May m) (hq:q < 15) (h:setB m q=true):told (updB (setB m) q false)=[]↔m.length=1:=by
 have h1:=len_drop1 hm hq h
 rw [← List.length_eq_zero_iff]
 omega
theorem chg_add {m:List Int}{q:Nat}(hq:q < 15):told (updB (setB m) q true)≠[]:=fun e=>by
 have:(q:Int)∈told (updB (setB m) q true):=mem_told.2 ⟨q,rfl,hq,by simp [updB]⟩
 rw [e] at this
 simp at this
def RgI (w5:World) (U:Nat→Bool) (iv lv:Value) (wr:World):Prop:=∃ j:Nat,iv=.int .i64 (j:Int)∧j≤15∧Hid (RowI w5.heap.size wr lv (toldN U j))∧Hid (Kept [] w5 wr)
set_option linter.unusedSimpArgs false in
set_option maxHeartbeats 16000000 in
set_option maxRecDepth 100000 in
theorem rchange_call (B:Nat) (w:World) (p:Nat) (al:Int) (L:List Ep) (h:EdA B w p al L) (hok:OkL L) (hal1:1≤al) (hal2:al≤8) (hl2:L.length≤1000) (hB:B≤w.heap.size) (z q0:Int) (add:Bool) :
 Calls Tryz.prog 130 #[.pointer (some ⟨p,0,none⟩),.int .i64 z,.int .i64 q0,.bool add] w fun e w'=>RchgP B al L z q0 add w p e w':=by
 obtain ⟨g,cap,X,h1,hS,hX,hpb,hRw,hOw⟩:=h.open hok.1
 have c0:w.cell? ⟨p,0,none⟩=some (.int .i64 al):=cell_inC (k:=0) h1 rfl
 have c1:w.cell? ⟨p,1,none⟩=some (.slice (some ⟨g,0,none⟩) L.length cap):=cell_inC (k:=1) h1 rfl
 have HPg:Hid (p≠g):=fun e=>by
  obtain ⟨cur,hh⟩:=row_block hRw (k:=g) rfl
  rw [← e,h1] at hh
  cases hh
 obtain ⟨k,hk⟩:∃ k,L.length=k+1:=⟨L.length - 1,by have:=List.length_pos_iff.2 hok.1;omega⟩
 have hkl:k < L.length:=by omega
 have hkX:k < X.length:=by rw [hS.1];exact hkl
 have hla:lastE L=L[k]:=by rw [lastE_get hok.1];congr 1;omega
 obtain ⟨g2,o2,e2,y0,y1⟩:=hS.2.2.2.1 _ hkX
 cases e2
 obtain ⟨so,sc,hv,hsl⟩:=hS.2.2.2.2 _ (List.getElem_mem hkX)
 have hXk:=fst_at hX hkX hkl
 rw [hv,Nat.zero_add] at y1
 rw [Nat.zero_add] at y0
 rw [hXk] at y0 y1 hsl
 have hbd:=hok.2.2 _ (List.getElem_mem hkl)
 have HMay:=hide hbd.1
 have hf2:=hbd.2
 have HSm:=hide hsl
 have HA:=hide h
 have HPb:=hide hpb
 have HRw:=hide hRw
 have HOw:=hide hOw
 have HC:=hide h1
 have HXm:=hide hX
 have HXl:Hid (X.length≤1000):=by show _≤_;rw [hS.1];exact hl2
 have HCh:Hid (chE al L z q0 add=if z < 0∨1099511627776 - al < z∨¬ (0≤q0∧q0 < 15) then 1 else if z < L[k].f then 12 else chgE (setB L[k].m) q0.toNat add):=by show _=_;unfold chE;rw [hla]
 have HCl:Hid (chL al L z q0 add=if chE al L z q0 add=0 then L++[⟨z+al,told (updB (setB L[k].m) q0.toNat add)⟩] else L):=by show _=_;unfold chL;rw [hla]
 clear h hok h1 hS hX hpb hRw hOw hv hsl hXk hbd hla hkX
 generalize L[k].m=m at *
 generalize L[k].f=f at *
 obtain ⟨sn,hsn⟩:∃ sn,sn=m.length:=⟨_,rfl⟩
 rw [← hsn] at y1 HSm
 have HSn:=hide hsn
 clear hsn hkl
 generalize hln:L.length=n at c1 hl2 hk HRw HC
 have HN:=hide hln
 have hkw:IntKind.i64.wrap ((n:Int) - 1)=k:=by rw [IntWalk.i64_in _ (by omega)];omega
 have hkn:(k:Int) < n:=by omega
 have hkc:k < n:=by omega
 clear hln hk
 go_enter Tryz.func130,Tryz.ntmps130
 go_wp2_with fail
 refine wp_region_held_drew (S:=fun w'=>w'.cell? ⟨p,1,none⟩=some (.slice (some ⟨g,0,none⟩) n cap)∧w'.cell? ⟨g,k*2,none⟩=some (.int .i64 f)∧w'.cell? ⟨g,k*2+1,none⟩=some (.slice so sn sc)) (by kernel_rfl) ⟨c1,y0,y1⟩ (fun hHeld=>?_)
 refine tks [0,1,2,3,4,5,6,7,8,9,10,11] (by rfl) (by kernel_rfl) (fun _ _ _ _ _ h=>h) hHeld ?_
 iterate 12
  refine yk ?_ rfl (Or.inl ⟨by rfl,?_⟩) ?_
  rotate_left
  ·intro w9 hSw;(try dsimp only at hSw);go_simp;(try with_reducible rfl)
  try simp only [sT,Act.put]
 refine yk0 ?_
 simp only [setK,sT]
 refine rd1 12 (by kernel_rfl) rfl (fun K0 hK0=>?_)
 go_simp
 obtain ⟨w4,hw4⟩:∃ w4,w4=(w.alloc (.cells #[.int .i64 0,.slice none 0 0] 134)).drew:=⟨_,rfl⟩
 have HK4:Hid (Kept [] w w4):=by show Kept _ _ _;rw [hw4];exact ((Kept.refl [] w).alloc _).drew
 have HA4:Hid (w4.heap[w.heap.size]?=some (.cells #[.int .i64 0,.slice none 0 0] 134 (0,0))):=by show _=_;rw [hw4];exact heap_alloc_new w _
 go_wp2_with fail
 rw [← hw4]
 clear hw4
 have b0:=cell_inC (k:=0) HA4.out rfl
 have b1:=cell_inC (k:=1) HA4.out rfl
 have g0:=froz3 HA4.out 0
 have g1:=froz3 HA4.out 1
 refine hK0.out _ _ ⟨HK4.out.cell c1 (by simp),HK4.out.cell y0 (by simp),HK4.out.cell y1 (by simp)⟩ (fun hHeld=>?_)
 clear hK0 K0
 try simp only [sT,Act.put]
 refine rd1 13 (by kernel_rfl) rfl (fun K0 hK0=>?_)
 go_simp
 obtain ⟨w5,hw5⟩:∃ w5,w5=(w4.setCell ⟨w.heap.size,0,none⟩ (.int .i64 f)).setCell ⟨w.heap.size,1,none⟩ (.slice so sn sc):=⟨_,rfl⟩
 have HA5:Hid (w5.heap[w.heap.size]?=some (.cells #[.int .i64 f,.slice so sn sc] 134 (0,0))):=by
  show _=_
  rw [hw5]
  have h1:=heap_setCell_same w4 w.heap.size 0 _ _ (.int .i64 f) HA4.out
  have h2:=heap_setCell_same _ w.heap.size 1 _ _ (.slice so sn sc) h1
  simpa using h2
 have HK5:Hid (Kept [] w w5):=by show Kept _ _ _;rw [hw5];exact (HK4.out.setCell (.inr (Nat.le_refl _)) _).setCell (.inr (Nat.le_refl _)) _
 go_wp2_with fail
 rw [← hw5]
 clear hw5 b0 b1 g0 g1
 refine hK0.out _ _ ⟨HK5.out.cell c1 (by simp),HK5.out.cell y0 (by simp),HK5.out.cell y1 (by simp)⟩ (fun hHeld=>?_)
 clear hK0 K0
 try simp only [sT,Act.put]
 refine wpAnyH_done (by kernel_rfl) ?_ _
 clear hHeld
 have s0:=cell_inC (k:=0) HA5.out rfl
 have s1:=cell_inC (k:=1) HA5.out rfl
 have x0:=HK5.out.cell c0 (by simp)
 have HAk:=hide (HA.out.kept HK5.out)
 clear HA4 HK4
 by_cases hz0:z < 0
 ·have HE:Hid (chE al L z q0 add=1):=by show _=_;unfold chE;rw [if_pos (.inl hz0)]
  have HLs:Hid (chL al L z q0 add=L):=chL_same (by rw [HE.out];decide)
  go_wp2_with fail
  go_ret
  exact ⟨by rw [HE.out];rfl,by rw [HLs.out];exact HAk.out,Tn.kept HK5.out⟩
 ·by_cases hz1:1099511627776 - al < z
  ·have HE:Hid (chE al L z q0 add=1):=by show _=_;unfold chE;rw [if_pos (.inr (.inl hz1))]
   have HLs:Hid (chL al L z q0 add=L):=chL_same (by rw [HE.out];decide)
   go_wp2_with fail
   go_ret
   exact ⟨by rw [HE.out];rfl,by rw [HLs.out];exact HAk.out,Tn.kept HK5.out⟩
  ·by_cases hq0:q0 < 0
   ·have HE:Hid (chE al L z q0 add=1):=by show _=_;unfold chE;rw [if_pos (.inr (.inr (by omega)))]
    have HLs:Hid (chL al L z q0 add=L):=chL_same (by rw [HE.out];decide)
    go_wp2_with fail
    go_ret
    exact ⟨by rw [HE.out];rfl,by rw [HLs.out];exact HAk.out,Tn.kept HK5.out⟩
   ·by_cases hq1:15≤q0
    ·have HE:Hid (chE al L z q0 add=1):=by show _=_;unfold chE;rw [if_pos (.inr (.inr (by omega)))]
     have HLs:Hid (chL al L z q0 add=L):=chL_same (by rw [HE.out];decide)
     go_wp2_with fail
     go_ret
     exact ⟨by rw [HE.out];rfl,by rw [HLs.out];exact HAk.out,Tn.kept HK5.out⟩
    ·obtain ⟨q,rfl⟩:∃ q:Nat,q0=q:=⟨q0.toNat,by omega⟩
     have hq15:q < 15:=by omega
     rw [if_neg (by omega),Int.toNat_natCast] at HCh
     rw [Int.toNat_natCast] at HCl
     by_cases hz4:z < f
     ·have HE2:Hid (chE al L z q add=12):=by show _=_;rw [HCh.out,if_pos hz4]
      have HL2:Hid (chL al L z q add=L):=chL_same (by rw [HE2.out];decide)
      go_wp2_with fail
      go_ret
      exact ⟨by rw [HE2.out];rfl,by rw [HL2.out];exact HAk.out,Tn.kept HK5.out⟩
     ·have HE2:Hid (chE al L z q add=chgE (setB m) q add):=by show _=_;rw [HCh.out,if_neg hz4]
      have cH:=fun W (hk:Kept [] w W) (y:Int)=>hasQ_call W so sn sc m (HSm.out.kept hk) y
      have cH5:=cH w5 HK5.out q
      have HSq:Hid (decide ((q:Int)∈m)=setB m q):=rfl
      rw [HSq.out] at cH5
      clear HCh
      cases hs:setB m q <;> rw [hs] at cH5 <;> cases add
      ·have HE3:Hid (chE al L z q false=8):=by show _=_;rw [HE2.out];simp [chgE,hs]
       have HLs:Hid (chL al L z q false=L):=chL_same (by rw [HE3.out];decide)
       go_wp2_with (go_at_call 96;refine cH5.mono ?_;clear cH5;rintro _ _ ⟨rfl,rfl⟩)
       go_ret
       exact ⟨by rw [HE3.out];rfl,by rw [HLs.out];exact HAk.out,Tn.kept HK5.out⟩
      ·have HE3:Hid (chE al L z q true=0):=by show _=_;rw [HE2.out];simp [chgE,hs,chg_add hq15]
       clear hs
       obtain ⟨U,hU⟩:∃ U,U=updB (setB m) q true:=⟨_,rfl⟩
       have HL3:Hid (chL al L z q true=L++[⟨z+al,told U⟩]):=by show _=_;rw [HCl.out,if_pos HE3.out,hU]
       have HUq:Hid (U q=true):=by show _=_;rw [hU];simp [updB]
       have HUo:Hid (∀ j,¬ j=q→U j=setB m j):=fun j hj=>by rw [hU];simp [updB,hj]
       clear hU HCl
       go_wp2_with (go_at_call 96;refine cH5.mono ?_;clear cH5;rintro _ _ ⟨rfl,rfl⟩)
       go_loopw [11,10] (fun iv lv wr=>RgI w5 U iv lv wr) (fun iv _ _=>15 - (intOf iv).toNat)
       case atStart=>exact ⟨0,rfl,Nat.zero_le _,World.ownsRow_nil _ _ _ _,Kept.refl _ _⟩
       case round =>
        obtain ⟨j,rfl,hj,HRl,HKl⟩:=hrel
        by_cases hlt:j < 15
        ·have hlt':(j:Int) < 15:=by omega
         have t1:=HKl.out.cell s1 (by simp)
         by_cases hjq:j=q
         ·have hb:((j:Int)==(q:Int))=true:=by simp;omega
          have hb2:((j:Int) != (q:Int))=false:=by simp;omega
          have HUj:Hid (U j=true):=by show _=_;rw [hjq];exact HUq.out
          clear hjq
          go_wp2_with (at_builtin;refine wp_appI rfl _ _ rfl w5.heap.size _ (toldN U j) rfl (((Kept.refl [] wr).alloc _).ownsRow HRl.out (by simp)) wr.heap.size (j:Int) rfl (cell_inC (k:=0) (heap_alloc_new wr _) rfl) (by have:=toldN_len U j;omega) (by have:=HKl.out.size;simp;omega) ?_;intro v3 w3 hR3 hG3)
          have HK3:Hid (Kept [] w5 w3):=(HKl.out.alloc _).grown hG3 (fun k hk=>.inr (World.ownsRow.lt HRl.out k hk).1)
          have HR3:=hide hR3
          clear hR3 hG3
          go_roundw
          case rel=>exact ⟨j+1,by go_num,by omega,by show RowI _ _ _ _;rw [toldN_succ,HUj.out];exact HR3.out,HK3⟩
          case measure=>simp [intOf];omega
         ·have hb:((j:Int)==(q:Int))=false:=by simp;omega
          have hb2:((j:Int) != (q:Int))=true:=by simp;omega
          have cJ:=cH wr (HK5.out.trans HKl.out (by simp)) j
          have HUj:=hide (HUo.out j hjq)
          have HJs:Hid (decide ((j:Int)∈m)=setB m j):=rfl
          rw [HJs.out] at cJ
          clear hjq
          cases hs:setB m j with
          | true =>
            rw [hs] at cJ HUj
            clear hs
            go_wp2_with (first | (go_at_call 96;refine cJ.mono ?_;clear cJ;rintro _ _ ⟨rfl,rfl⟩) | (at_builtin;refine wp_appI rfl _ _ rfl w5.heap.size _ (toldN U j) rfl (((Kept.refl [] wr).alloc _).ownsRow HRl.out (by simp)) wr.heap.size (j:Int) rfl (cell_inC (k:=0) (heap_alloc_new wr _) rfl) (by have:=toldN_len U j;omega) (by have:=HKl.out.size;simp;omega) ?_;intro v3 w3 hR3 hG3))
            have HK3:Hid (Kept [] w5 w3):=(HKl.out.alloc _).grown hG3 (fun k hk=>.inr (World.ownsRow.lt HRl.out k hk).1)
            have HR3:=hide hR3
            clear hR3 hG3
            go_roundw
            case rel=>exact ⟨j+1,by go_num,by omega,by show RowI _ _ _ _;rw [toldN_succ,HUj.out];exact HR3.out,HK3⟩
            case measure=>simp [intOf];omega
          | false =>
            rw [hs] at cJ HUj
            clear hs
            go_wp2_with (go_at_call 96;refine cJ.mono ?_;clear cJ;rintro _ _ ⟨rfl,rfl⟩)
            go_roundw
            case rel=>exact ⟨j+1,by go_num,by omega,by show RowI _ _ _ _;rw [toldN_succ,HUj.out];simpa using HRl.out,HKl⟩
            case measure=>simp [intOf];omega
        ·obtain rfl:j=15:=by omega
         have HKr:Hid (Kept [] w wr):=HK5.out.trans HKl.out (by simp)
         have d0:=HKr.out.cell c0 (by simp)
         have d1:=HKr.out.cell c1 (by simp)
         have HLo0:Hid (RowI w5.heap.size wr u10 (told U)):=HRl.out
         obtain ⟨lo,lc,hlv,_⟩:=HLo0.out.sl
         subst hlv
         obtain ⟨ln,hln⟩:∃ ln,ln=(told U).length:=⟨_,rfl⟩
         have HLo:Hid (RowI w5.heap.size wr (.slice lo ln lc) (told U)):=by show RowI _ _ _ _;rw [hln];exact HLo0.out
         rw [← hln]
         clear hln HLo0 HRl
         have HC7:Hid (wr.heap[p]?=some (.cells #[.int .i64 al,.slice (some ⟨g,0,none⟩) n cap] 94 (0,0))):=HKr.out.at HC.out (by simp)
         have HR7:Hid (RowA B wr (.slice (some ⟨g,0,none⟩) n cap) X):=HKr.out.ownsRow HRw.out (by simp)
         have HO7:Hid (OwnA B wr X):=fun x hx=>HKr.out.ownsRow (HOw.out x hx) (by simp)
         have HBr:Hid (B≤wr.heap.size):=Nat.le_trans hB HKr.out.size
         have hzw:IntKind.i64.wrap (z+al)=z+al:=IntWalk.i64_in _ (by omega)
         clear cH c0 c1 x0 s0 s1 y0 y1
         go_wp2_with fail
         refine wp_region_held_drew (S:=fun w'=>w'.cell? ⟨p,0,none⟩=some (.int .i64 al)) (by kernel_rfl) d0 (fun hHeld=>?_)
         refine tks [0,1,2,3,5,6,7,8,9,10,11,12] (by rfl) (by kernel_rfl) (fun _ _ _ _ _ h=>h) hHeld ?_
         iterate 12
          refine yk ?_ rfl (Or.inl ⟨by rfl,?_⟩) ?_
          rotate_left
          ·intro w9 hSw;(try dsimp only at hSw);go_simp;(try with_reducible rfl)
          try simp only [sT,Act.put]
         refine yk0 ?_
         simp only [setK,sT]
         refine wpAnyH_ready (rs:=[4,13]) (by kernel_rfl) (by simp) (AllReadyH.cons rfl (fun K0 hK0=>?_) (AllReadyH.cons rfl (fun K0 hK0=>?_) AllReadyH.nil))
         ·go_simp
          go_wp2_with fail
          refine hK0.out _ _ d0 (fun hHeld=>?_)
          clear hK0 K0
          try simp only [sT,Act.put]
          refine rd1 13 (by kernel_rfl) rfl (fun K0 hK0=>?_)
          go_simp
          obtain ⟨w8,hw8⟩:∃ w8,w8=(wr.alloc (.cells #[.int .i64 (z+al),.slice lo ln lc] 134)).drew:=⟨_,rfl⟩
          have HK8:Hid (Kept [] wr w8):=by show Kept _ _ _;rw [hw8];exact ((Kept.refl [] wr).alloc _).drew
          have HA8:Hid (w8.heap[wr.heap.size]?=some (.cells #[.int .i64 (z+al),.slice lo ln lc] 134 (0,0))):=by show _=_;rw [hw8];exact heap_alloc_new wr _
          go_wp2_with fail
          rw [← hw8]
          clear hw8
          refine hK0.out _ _ (HK8.out.cell d0 (by simp)) (fun hHeld=>?_)
          clear hK0 K0
          try simp only [sT,Act.put]
          refine rd1 14 (by kernel_rfl) rfl (fun K0 hK0=>?_)
          refine step_appA B (.slice (some ⟨g,0,none⟩) n cap) X (z+al) lo ln lc wr.heap.size rfl (HK8.out.ownsRow HR7.out (by simp)) rfl HA8.out (by have:=HXl.out;omega) (Nat.le_trans HBr.out HK8.out.size) ?_
          intro g' n' cap' w9 HR9 HG9
          have hO8:OwnA B w8 (X++[(⟨z+al,told U⟩,.slice lo ln lc)]):=fun x hx=>by
           rcases List.mem_append.1 hx with hx | hx
           ·exact HK8.out.ownsRow (HO7.out x hx) (by simp)
           ·rw [show x=(⟨z+al,told U⟩,.slice lo ln lc) by simpa using hx]
            exact HK8.out.ownsRow (row_mono HLo.out (Nat.le_trans hB HK5.out.size)) (by simp)
          have hA:=EdA.grown HPb.out HC7.out HR7.out HK8.out (HR9.out (told U)) hO8 HG9.out
          have HA9:=hide hA.1
          have HT9:=hide hA.2
          have hk9:Kept [g] wr w9:=((HK8.out.mono (T:=[g]) (by simp)).grown HG9.out (fun k hk=>.inl (by cases hk;simp)))
          have hp9:p≠g:=fun e=>HPg.out e
          have e0:=hk9.cell d0 (by simpa using hp9)
          have e1:=hk9.cell d1 (by simpa using hp9)
          have ef:w9.frozen? ⟨p,1,none⟩=false:=froz3 (hk9.at HC7.out (by simpa using hp9)) 1
          clear hk9 hp9 hA hO8
          refine hK0.out _ _ e0 (fun hHeld=>?_)
          clear hK0 K0
          try simp only [sT,Act.put]
          refine tks [15,16] (by rfl) (by kernel_rfl) (fun _ _ _ _ _ h=>h) hHeld ?_
          iterate 2
           refine yk ?_ rfl (Or.inl ⟨by rfl,?_⟩) ?_
           rotate_left
           ·intro w9 hSw;(try dsimp only at hSw);go_simp;(try with_reducible rfl)
           try simp only [sT,Act.put]
          refine yk0 ?_
          simp only [setK,sT]
          refine rd1 17 (by kernel_rfl) rfl (fun K0 hK0=>?_)
          go_simp
          go_wp2_with fail
          refine hK0.out _ _ (cell_set1 e0) (fun hHeld=>?_)
          clear hK0 K0
          try simp only [sT,Act.put]
          refine wpAnyH_done (by kernel_rfl) ?_ _
          clear hHeld
          go_wp2_with fail
          go_ret
          refine ⟨by rw [HE3.out];rfl,?_,?_⟩
          ·rw [HL3.out,← HXm.out]
           have h1:=HA9.out
           rw [List.map_append] at h1
           exact h1
          ·exact (Tn.kept HKr.out).trans HT9.out
         ·go_simp
          obtain ⟨w8,hw8⟩:∃ w8,w8=(wr.alloc (.cells #[.int .i64 (z+al),.slice lo ln lc] 134)).drew:=⟨_,rfl⟩
          have HK8:Hid (Kept [] wr w8):=by show Kept _ _ _;rw [hw8];exact ((Kept.refl [] wr).alloc _).drew
          have HA8:Hid (w8.heap[wr.heap.size]?=some (.cells #[.int .i64 (z+al),.slice lo ln lc] 134 (0,0))):=by show _=_;rw [hw8];exact heap_alloc_new wr _
          go_wp2_with fail
          rw [← hw8]
          clear hw8
          refine hK0.out _ _ (HK8.out.cell d0 (by simp)) (fun hHeld=>?_)
          clear hK0 K0
          try simp only [sT,Act.put]
          have d1a:=HK8.out.cell d1 (by simp)
          refine rd1 4 (by kernel_rfl) rfl (fun K0 hK0=>?_)
          go_simp
          go_wp2_with fail
          refine hK0.out _ _ (HK8.out.cell d0 (by simp)) (fun hHeld=>?_)
          clear hK0 K0
          try simp only [sT,Act.put]
          refine rd1 14 (by kernel_rfl) rfl (fun K0 hK0=>?_)
          refine step_appA B (.slice (some ⟨g,0,none⟩) n cap) X (z+al) lo ln lc wr.heap.size rfl (HK8.out.ownsRow HR7.out (by simp)) rfl HA8.out (by have:=HXl.out;omega) (Nat.le_trans HBr.out HK8.out.size) ?_
          intro g' n' cap' w9 HR9 HG9
          have hO8:OwnA B w8 (X++[(⟨z+al,told U⟩,.slice lo ln lc)]):=fun x hx=>by
           rcases List.mem_append.1 hx with hx | hx
           ·exact HK8.out.ownsRow (HO7.out x hx) (by simp)
           ·rw [show x=(⟨z+al,told U⟩,.slice lo ln lc) by simpa using hx]
            exact HK8.out.ownsRow (row_mono HLo.out (Nat.le_trans hB HK5.out.size)) (by simp)
          have hA:=EdA.grown HPb.out HC7.out HR7.out HK8.out (HR9.out (told U)) hO8 HG9.out
          have HA9:=hide hA.1
          have HT9:=hide hA.2
          have hk9:Kept [g] wr w9:=((HK8.out.mono (T:=[g]) (by simp)).grown HG9.out (fun k hk=>.inl (by cases hk;simp)))
          have hp9:p≠g:=fun e=>HPg.out e
          have e0:=hk9.cell d0 (by simpa using hp9)
          have e1:=hk9.cell d1 (by simpa using hp9)
          have ef:w9.frozen? ⟨p,1,none⟩=false:=froz3 (hk9.at HC7.out (by simpa using hp9)) 1
          clear hk9 hp9 hA hO8
          refine hK0.out _ _ e0 (fun hHeld=>?_)
          clear hK0 K0
          try simp only [sT,Act.put]
          refine tks [15,16] (by rfl) (by kernel_rfl) (fun _ _ _ _ _ h=>h) hHeld ?_
          iterate 2
           refine yk ?_ rfl (Or.inl ⟨by rfl,?_⟩) ?_
           rotate_left
           ·intro w9 hSw;(try dsimp only at hSw);go_simp;(try with_reducible rfl)
           try simp only [sT,Act.put]
          refine yk0 ?_
          simp only [setK,sT]
          refine rd1 17 (by kernel_rfl) rfl (fun K0 hK0=>?_)
          go_simp
          go_wp2_with fail
          refine hK0.out _ _ (cell_set1 e0) (fun hHeld=>?_)
          clear hK0 K0
          try simp only [sT,Act.put]
          refine wpAnyH_done (by kernel_rfl) ?_ _
          clear hHeld
          go_wp2_with fail
          go_ret
          refine ⟨by rw [HE3.out];rfl,?_,?_⟩
          ·rw [HL3.out,← HXm.out]
           have h1:=HA9.out
           rw [List.map_append] at h1
           exact h1
          ·exact (Tn.kept HKr.out).trans HT9.out
      ·by_cases h1:m.length=1
       ·have hsn1:((sn:Int)==1)=true:=by have:=HSn.out;simp;omega
        have HE3:Hid (chE al L z q false=1):=by show _=_;rw [HE2.out];simp [chgE,hs,(chg_one HMay.out hq15 hs).2 h1]
        have HLs:Hid (chL al L z q false=L):=chL_same (by rw [HE3.out];decide)
        go_wp2_with (go_at_call 96;refine cH5.mono ?_;clear cH5;rintro _ _ ⟨rfl,rfl⟩)
        go_ret
        exact ⟨by rw [HE3.out];rfl,by rw [HLs.out];exact HAk.out,Tn.kept HK5.out⟩
       ·have hsn1:((sn:Int)==1)=false:=by have:=HSn.out;simp;omega
        have HE3:Hid (chE al L z q false=0):=by show _=_;rw [HE2.out];simp [chgE,hs,mt (chg_one HMay.out hq15 hs).1 h1]
        clear hs h1
        obtain ⟨U,hU⟩:∃ U,U=updB (setB m) q false:=⟨_,rfl⟩
        have HL3:Hid (chL al L z q false=L++[⟨z+al,told U⟩]):=by show _=_;rw [HCl.out,if_pos HE3.out,hU]
        have HUq:Hid (U q=false):=by show _=_;rw [hU];simp [updB]
        have HUo:Hid (∀ j,¬ j=q→U j=setB m j):=fun j hj=>by rw [hU];simp [updB,hj]
        clear hU HCl
        go_wp2_with (go_at_call 96;refine cH5.mono ?_;clear cH5;rintro _ _ ⟨rfl,rfl⟩)
        go_loopw [11,10] (fun iv lv wr=>RgI w5 U iv lv wr) (fun iv _ _=>15 - (intOf iv).toNat)
        case atStart=>exact ⟨0,rfl,Nat.zero_le _,World.ownsRow_nil _ _ _ _,Kept.refl _ _⟩
        case round =>
         obtain ⟨j,rfl,hj,HRl,HKl⟩:=hrel
         by_cases hlt:j < 15
         ·have hlt':(j:Int) < 15:=by omega
          have t1:=HKl.out.cell s1 (by simp)
          by_cases hjq:j=q
          ·have hb:((j:Int)==(q:Int))=true:=by simp;omega
           have hb2:((j:Int) != (q:Int))=false:=by simp;omega
           have HUj:Hid (U j=false):=by show _=_;rw [hjq];exact HUq.out
           clear hjq
           go_wp2_with fail
           go_roundw
           case rel=>exact ⟨j+1,by go_num,by omega,by show RowI _ _ _ _;rw [toldN_succ,HUj.out];simpa using HRl.out,HKl⟩
           case measure=>simp [intOf];omega
          ·have hb:((j:Int)==(q:Int))=false:=by simp;omega
           have hb2:((j:Int) != (q:Int))=true:=by simp;omega
           have cJ:=cH wr (HK5.out.trans HKl.out (by simp)) j
           have HUj:=hide (HUo.out j hjq)
           have HJs:Hid (decide ((j:Int)∈m)=setB m j):=rfl
           rw [HJs.out] at cJ
           clear hjq
           cases hs:setB m j with
           | true =>
             rw [hs] at cJ HUj
             clear hs
             go_wp2_with (first | (go_at_call 96;refine cJ.mono ?_;clear cJ;rintro _ _ ⟨rfl,rfl⟩) | (at_builtin;refine wp_appI rfl _ _ rfl w5.heap.size _ (toldN U j) rfl (((Kept.refl [] wr).alloc _).ownsRow HRl.out (by simp)) wr.heap.size (j:Int) rfl (cell_inC (k:=0) (heap_alloc_new wr _) rfl) (by have:=toldN_len U j;omega) (by have:=HKl.out.size;simp;omega) ?_;intro v3 w3 hR3 hG3))
             have HK3:Hid (Kept [] w5 w3):=(HKl.out.alloc _).grown hG3 (fun k hk=>.inr (World.ownsRow.lt HRl.out k hk).1)
             have HR3:=hide hR3
             clear hR3 hG3
             go_roundw
             case rel=>exact ⟨j+1,by go_num,by omega,by show RowI _ _ _ _;rw [toldN_succ,HUj.out];exact HR3.out,HK3⟩
             case measure=>simp [intOf];omega
           | false =>
             rw [hs] at cJ HUj
             clear hs
             go_wp2_with (go_at_call 96;refine cJ.mono ?_;clear cJ;rintro _ _ ⟨rfl,rfl⟩)
             go_roundw
             case rel=>exact ⟨j+1,by go_num,by omega,by show RowI _ _ _ _;rw [toldN_succ,HUj.out];simpa using HRl.out,HKl⟩
             case measure=>simp [intOf];omega
         ·obtain rfl:j=15:=by omega
          have HKr:Hid (Kept [] w wr):=HK5.out.trans HKl.out (by simp)
          have d0:=HKr.out.cell c0 (by simp)
          have d1:=HKr.out.cell c1 (by simp)
          have HLo0:Hid (RowI w5.heap.size wr u10 (told U)):=HRl.out
          obtain ⟨lo,lc,hlv,_⟩:=HLo0.out.sl
          subst hlv
          obtain ⟨ln,hln⟩:∃ ln,ln=(told U).length:=⟨_,rfl⟩
          have HLo:Hid (RowI w5.heap.size wr (.slice lo ln lc) (told U)):=by show RowI _ _ _ _;rw [hln];exact HLo0.out
          rw [← hln]
          clear hln HLo0 HRl
          have HC7:Hid (wr.heap[p]?=some (.cells #[.int .i64 al,.slice (some ⟨g,0,none⟩) n cap] 94 (0,0))):=HKr.out.at HC.out (by simp)
          have HR7:Hid (RowA B wr (.slice (some ⟨g,0,none⟩) n cap) X):=HKr.out.ownsRow HRw.out (by simp)
          have HO7:Hid (OwnA B wr X):=fun x hx=>HKr.out.ownsRow (HOw.out x hx) (by simp)
          have HBr:Hid (B≤wr.heap.size):=Nat.le_trans hB HKr.out.size
          have hzw:IntKind.i64.wrap (z+al)=z+al:=IntWalk.i64_in _ (by omega)
          clear cH c0 c1 x0 s0 s1 y0 y1
          go_wp2_with fail
          refine wp_region_held_drew (S:=fun w'=>w'.cell? ⟨p,0,none⟩=some (.int .i64 al)) (by kernel_rfl) d0 (fun hHeld=>?_)
          refine tks [0,1,2,3,5,6,7,8,9,10,11,12] (by rfl) (by kernel_rfl) (fun _ _ _ _ _ h=>h) hHeld ?_
          iterate 12
           refine yk ?_ rfl (Or.inl ⟨by rfl,?_⟩) ?_
           rotate_left
           ·intro w9 hSw;(try dsimp only at hSw);go_simp;(try with_reducible rfl)
           try simp only [sT,Act.put]
          refine yk0 ?_
          simp only [setK,sT]
          refine wpAnyH_ready (rs:=[4,13]) (by kernel_rfl) (by simp) (AllReadyH.cons rfl (fun K0 hK0=>?_) (AllReadyH.cons rfl (fun K0 hK0=>?_) AllReadyH.nil))
          ·go_simp
           go_wp2_with fail
           refine hK0.out _ _ d0 (fun hHeld=>?_)
           clear hK0 K0
           try simp only [sT,Act.put]
           refine rd1 13 (by kernel_rfl) rfl (fun K0 hK0=>?_)
           go_simp
           obtain ⟨w8,hw8⟩:∃ w8,w8=(wr.alloc (.cells #[.int .i64 (z+al),.slice lo ln lc] 134)).drew:=⟨_,rfl⟩
           have HK8:Hid (Kept [] wr w8):=by show Kept _ _ _;rw [hw8];exact ((Kept.refl [] wr).alloc _).drew
           have HA8:Hid (w8.heap[wr.heap.size]?=some (.cells #[.int .i64 (z+al),.slice lo ln lc] 134 (0,0))):=by show _=_;rw [hw8];exact heap_alloc_new wr _
           go_wp2_with fail
           rw [← hw8]
           clear hw8
           refine hK0.out _ _ (HK8.out.cell d0 (by simp)) (fun hHeld=>?_)
           clear hK0 K0
           try simp only [sT,Act.put]
           refine rd1 14 (by kernel_rfl) rfl (fun K0 hK0=>?_)
           refine step_appA B (.slice (some ⟨g,0,none⟩) n cap) X (z+al) lo ln lc wr.heap.size rfl (HK8.out.ownsRow HR7.out (by simp)) rfl HA8.out (by have:=HXl.out;omega) (Nat.le_trans HBr.out HK8.out.size) ?_
           intro g' n' cap' w9 HR9 HG9
           have hO8:OwnA B w8 (X++[(⟨z+al,told U⟩,.slice lo ln lc)]):=fun x hx=>by
            rcases List.mem_append.1 hx with hx | hx
            ·exact HK8.out.ownsRow (HO7.out x hx) (by simp)
            ·rw [show x=(⟨z+al,told U⟩,.slice lo ln lc) by simpa using hx]
             exact HK8.out.ownsRow (row_mono HLo.out (Nat.le_trans hB HK5.out.size)) (by simp)
           have hA:=EdA.grown HPb.out HC7.out HR7.out HK8.out (HR9.out (told U)) hO8 HG9.out
           have HA9:=hide hA.1
           have HT9:=hide hA.2
           have hk9:Kept [g] wr w9:=((HK8.out.mono (T:=[g]) (by simp)).grown HG9.out (fun k hk=>.inl (by cases hk;simp)))
           have hp9:p≠g:=fun e=>HPg.out e
           have e0:=hk9.cell d0 (by simpa using hp9)
           have e1:=hk9.cell d1 (by simpa using hp9)
           have ef:w9.frozen? ⟨p,1,none⟩=false:=froz3 (hk9.at HC7.out (by simpa using hp9)) 1
           clear hk9 hp9 hA hO8
           refine hK0.out _ _ e0 (fun hHeld=>?_)
           clear hK0 K0
           try simp only [sT,Act.put]
           refine tks [15,16] (by rfl) (by kernel_rfl) (fun _ _ _ _ _ h=>h) hHeld ?_
           iterate 2
            refine yk ?_ rfl (Or.inl ⟨by rfl,?_⟩) ?_
            rotate_left
            ·intro w9 hSw;(try dsimp only at hSw);go_simp;(try with_reducible rfl)
            try simp only [sT,Act.put]
           refine yk0 ?_
           simp only [setK,sT]
           refine rd1 17 (by kernel_rfl) rfl (fun K0 hK0=>?_)
           go_simp
           go_wp2_with fail
           refine hK0.out _ _ (cell_set1 e0) (fun hHeld=>?_)
           clear hK0 K0
           try simp only [sT,Act.put]
           refine wpAnyH_done (by kernel_rfl) ?_ _
           clear hHeld
           go_wp2_with fail
           go_ret
           refine ⟨by rw [HE3.out];rfl,?_,?_⟩
           ·rw [HL3.out,← HXm.out]
            have h1:=HA9.out
            rw [List.map_append] at h1
            exact h1
           ·exact (Tn.kept HKr.out).trans HT9.out
          ·go_simp
           obtain ⟨w8,hw8⟩:∃ w8,w8=(wr.alloc (.cells #[.int .i64 (z+al),.slice lo ln lc] 134)).drew:=⟨_,rfl⟩
           have HK8:Hid (Kept [] wr w8):=by show Kept _ _ _;rw [hw8];exact ((Kept.refl [] wr).alloc _).drew
           have HA8:Hid (w8.heap[wr.heap.size]?=some (.cells #[.int .i64 (z+al),.slice lo ln lc] 134 (0,0))):=by show _=_;rw [hw8];exact heap_alloc_new wr _
           go_wp2_with fail
           rw [← hw8]
           clear hw8
           refine hK0.out _ _ (HK8.out.cell d0 (by simp)) (fun hHeld=>?_)
           clear hK0 K0
           try simp only [sT,Act.put]
           have d1a:=HK8.out.cell d1 (by simp)
           refine rd1 4 (by kernel_rfl) rfl (fun K0 hK0=>?_)
           go_simp
           go_wp2_with fail
           refine hK0.out _ _ (HK8.out.cell d0 (by simp)) (fun hHeld=>?_)
           clear hK0 K0
           try simp only [sT,Act.put]
           refine rd1 14 (by kernel_rfl) rfl (fun K0 hK0=>?_)
           refine step_appA B (.slice (some ⟨g,0,none⟩) n cap) X (z+al) lo ln lc wr.heap.size rfl (HK8.out.ownsRow HR7.out (by simp)) rfl HA8.out (by have:=HXl.out;omega) (Nat.le_trans HBr.out HK8.out.size) ?_
           intro g' n' cap' w9 HR9 HG9
           have hO8:OwnA B w8 (X++[(⟨z+al,told U⟩,.slice lo ln lc)]):=fun x hx=>by
            rcases List.mem_append.1 hx with hx | hx
            ·exact HK8.out.ownsRow (HO7.out x hx) (by simp)
            ·rw [show x=(⟨z+al,told U⟩,.slice lo ln lc) by simpa using hx]
             exact HK8.out.ownsRow (row_mono HLo.out (Nat.le_trans hB HK5.out.size)) (by simp)
           have hA:=EdA.grown HPb.out HC7.out HR7.out HK8.out (HR9.out (told U)) hO8 HG9.out
           have HA9:=hide hA.1
           have HT9:=hide hA.2
           have hk9:Kept [g] wr w9:=((HK8.out.mono (T:=[g]) (by simp)).grown HG9.out (fun k hk=>.inl (by cases hk;simp)))
           have hp9:p≠g:=fun e=>HPg.out e
           have e0:=hk9.cell d0 (by simpa using hp9)
           have e1:=hk9.cell d1 (by simpa using hp9)
           have ef:w9.frozen? ⟨p,1,none⟩=false:=froz3 (hk9.at HC7.out (by simpa using hp9)) 1
           clear hk9 hp9 hA hO8
           refine hK0.out _ _ e0 (fun hHeld=>?_)
           clear hK0 K0
           try simp only [sT,Act.put]
           refine tks [15,16] (by rfl) (by kernel_rfl) (fun _ _ _ _ _ h=>h) hHeld ?_
           iterate 2
            refine yk ?_ rfl (Or.inl ⟨by rfl,?_⟩) ?_
            rotate_left
            ·intro w9 hSw;(try dsimp only at hSw);go_simp;(try with_reducible rfl)
            try simp only [sT,Act.put]
           refine yk0 ?_
           simp only [setK,sT]
           refine rd1 17 (by kernel_rfl) rfl (fun K0 hK0=>?_)
           go_simp
           go_wp2_with fail
           refine hK0.out _ _ (cell_set1 e0) (fun hHeld=>?_)
           clear hK0 K0
           try simp only [sT,Act.put]
           refine wpAnyH_done (by kernel_rfl) ?_ _
           clear hHeld
           go_wp2_with fail
           go_ret
           refine ⟨by rw [HE3.out];rfl,?_,?_⟩
           ·rw [HL3.out,← HXm.out]
            have h1:=HA9.out
            rw [List.map_append] at h1
            exact h1
           ·exact (Tn.kept HKr.out).trans HT9.out
      ·have HE3:Hid (chE al L z q true=9):=by show _=_;rw [HE2.out];simp [chgE,hs]
       have HLs:Hid (chL al L z q true=L):=chL_same (by rw [HE3.out];decide)
       go_wp2_with (go_at_call 96;refine cH5.mono ?_;clear cH5;rintro _ _ ⟨rfl,rfl⟩)
       go_ret
       exact ⟨by rw [HE3.out];rfl,by rw [HLs.out];exact HAk.out,Tn.kept HK5.out⟩
end Go.Proofs.YtgpnlidnbldiiaaGreat
