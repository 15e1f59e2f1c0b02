/-
  session.Load.
-/
import Derived.Test.YtgpnlidnbldiiaaGreatQ2r
import Derived.Test.YtgpnlidnbldiiaaGreatQ14r
import Derived.Test.YtgpnlidnbldiiaaGreatQ1r
namespace Go.Proofs.YtgpnlidnbldiiaaGreat
open Go.RowKit
variable {P : Nat → Prop}
def B9 (w:World) (size:Int) (L:List Se) (e:Ending) (w':World):Prop :=
 (∃ sz b:Nat,size=sz∧L.length≤sz∧eS L∧e=.returned (.tuple #[.pointer (some ⟨b,0,none⟩),.int .i64 0])∧ew w w' b sz L) ∨
 (¬ (1≤size∧size≤16)∧e=.returned (.tuple #[.pointer none,.int .i64 1])∧aa [] w w') ∨
 ((1≤size∧size≤16)∧¬ ((L.length:Int)≤size∧eS L)∧e=.returned (.tuple #[.pointer none,.int .i64 4])∧aa [] w w')
theorem oN {w0 w w5:World}{b sz B:Nat}{L:List Se}{v v5 u:Value}{X:List (Se × Value)}{x:Se}(h1:fJ (fun k=>w0.heap.size≤k) w b sz v X L) (h2:aa [] w0 w) (h3:w0.heap.size≤b) (h6:sz≤16) (h7:∀ y∈L,jZ y) (hK:aa [] w w5) (hR:bp B w5 v5 (X++[(x,u)])) (hB:w0.heap.size≤B) (hu:io (fun k=>w0.heap.size≤k) w5 u x.v.k) (hx:jZ x) (hl:L.length+1≤sz):ew w0 (w5.setCell ⟨b,1,none⟩ v5) b sz (L++[x]):=by
 refine ⟨v5,_,h1.store hK hR.t (fun y hy=>?_) ?_,(h2.trans hK (by simp)).setCell (.inr h3) _,h3,fun k hk=>Nat.le_trans hB (World.ownsRow.lt hR k hk).1,by simpa using hl,h6,fun y hy=>?_⟩
 ·rcases List.mem_append.1 hy with hy | hy
  ·exact (h1.own y hy).kept hK
  ·rw [show y=(x,u) by simpa using hy];exact hu
 ·rw [List.map_append,h1.ses];rfl
 ·rcases List.mem_append.1 hy with hy | hy
  ·exact h7 y hy
  ·rw [show y=x by simpa using hy];exact hx
def DK (w:World) (b sz n:Nat) (L:List Se) (iv:Value) (wr:World):Prop:=∃ j:Nat,iv=.int .i64 (j:Int)∧j≤n∧Hid (ew w wr b sz (L.take j))∧Hid (eS (L.take j))
set_option linter.unusedSimpArgs false in
set_option maxHeartbeats 16000000 in
set_option maxRecDepth 100000 in
theorem th (w:World) (size:Int) (ao:Option Addr) (n c:Nat) (X:List (Se × Value)) (L:List Se) (hS:vo w ao n c X) (hcom:X.map Prod.fst=L) (hok:∀ x∈L,jZ x) :
 Calls Tryz.prog 53 #[.int .i64 size,.slice ao n c] w fun e w'=>B9 w size L e w':=by
 have hc:=hS.2.1;have hm:=hS.2.2.1;unfold maxLen at hm;have HS:=ah hS;have HL:=ah hS.1;have HCom:=ah hcom;have HOk:=ah hok;have HCl:Hid (L.length=n):=by show _=_;rw [← hcom];simpa using hS.1
 clear hS hok hcom;by_cases hs:1≤size∧size≤16
 ·obtain ⟨sz,rfl⟩:∃ sz:Nat,size=sz:=⟨size.toNat,by omega⟩;have cN:=wS w sz (by omega) (by omega);have hs16:sz≤16:=by omega
  have HSz:=ah hs;clear hs;go_enter Tryz.func53,Tryz.ntmps53;(go_wp2_with fail);refine cN.mono ?_;rintro _ w1 ⟨b,rfl,hT1⟩;have HT1:=ah hT1;clear cN hT1;by_cases hn:n≤sz
  ·have hn':¬ (sz:Int) < n:=by omega
   (go_wp2_with fail);have HNs:=ah hn;have hdec:decide (sz < n)=false:=by simp;omega
   rw [hdec];clear hn hn' hdec;go_loopw [24] (fun iv wr=>DK w b sz n L iv wr) (fun iv _=>n - (intOf iv).toNat)
   case atStart=>exact ⟨0,rfl,Nat.zero_le _,HT1,mP⟩
   case round =>
    obtain ⟨j,rfl,hj,HLv,HLd⟩:=hrel;by_cases hlt:j < n
    ·have hlt':(j:Int) < n:=by omega
     have hjc:j≤c:=by omega
     have hjX:j < X.length:=by rw [HL.out];exact hlt
     have hjL:j < L.length:=by rw [HCl.out];exact hlt
     have hCk:=dm HCom.out hjX hjL;have hSw:=HS.out.kept HLv.out.keeps;obtain ⟨g4,o4,he4,hx4⟩:=hSw.2.2.2.2.1 j hjX;have hko:=hSw.2.2.2.2.2 _ (List.getElem_mem hjX);subst he4;obtain ⟨h0,h1,h2,h3,h4,h5,h6,h7,h8,h9⟩:=hx4;rw [hCk] at h0 h1 h2 h3 h4 h5 h6 h7 h9 hko;obtain ⟨mo,mm,mc,hm2⟩:=hko.one;rw [hm2] at h8 hko;have HOx:=ah (HOk.out L[j] (List.getElem_mem hjL));obtain ⟨x,hxe⟩:∃ x,x=L[j]:=⟨_,rfl⟩;have HX:Hid (L[j]?=some x):=by show _=_;rw [hxe];simp
     rw [← hxe] at h0 h1 h2 h3 h4 h5 h6 h7 h9 hko HOx;have HKo:=ah hko;have HLen:Hid ((L.take j).length=j):=by show _=_;simp;omega
     clear hSw hxe hCk hjX hm2 hko;obtain ⟨W1,hW1⟩:∃ W1,W1=wr.alloc (.cells #[.int .i64 x.i,.int .i64 x.q,.string (ak x.n),.int .i64 x.v.c,.int .i64 x.v.s,.int .i64 x.v.r,.string (ak x.v.p),.int .u64 x.v.d,.slice mo mm mc,.int .i64 x.v.m] 155):=⟨_,rfl⟩;have HK1:Hid (aa [] wr W1):=by show aa _ _ _;rw [hW1];exact (aa.refl _ _).alloc _
     have HB1:Hid (W1.heap[wr.heap.size]?=some (.cells #[.int .i64 x.i,.int .i64 x.q,.string (ak x.n),.int .i64 x.v.c,.int .i64 x.v.s,.int .i64 x.v.r,.string (ak x.v.p),.int .u64 x.v.d,.slice mo mm mc,.int .i64 x.v.m] 155 (0,0))):=by show _=_;rw [hW1];exact heap_alloc_new wr _
     obtain ⟨v,X',g1,g2,g3,g4v,g5,g6,g7⟩:=HLv.out.kept HK1.out;have HG1:=ah g1;have HG2:=ah g2;have HG3:=ah g3;have HG7:=ah g7;have HJs:Hid (j+1≤sz):=by have h:=HNs.out;show _≤_;omega
     have hl1:(L.take j).length≤100000:=by have h:=HJs.out;simp;omega
     have cI:=gI g1 hl1 x.i;have cNm:=fun W (hk:aa [] W1 W)=>iI (g1.kept hk) hl1 x.n;clear g1 g2 g3 g4v g5 g6 g7;go_upto_region 9 with fail
     rw [← hW1];clear hW1 h0 h1 h2 h3 h4 h5 h6 h7 h8 h9;have b0:=ag (k:=0) HB1.out rfl;have b1:=ag (k:=1) HB1.out rfl;have b2:=ag (k:=2) HB1.out rfl;have b3:=ag (k:=3) HB1.out rfl;have b4:=ag (k:=4) HB1.out rfl;have b5:=ag (k:=5) HB1.out rfl;have b6:=ag (k:=6) HB1.out rfl;have b7:=ag (k:=7) HB1.out rfl;have b8:=ag (k:=8) HB1.out rfl;have b9:=ag (k:=9) HB1.out rfl;by_cases hq:x.q < 0
     ·have HBad:=ah (ye HX.out hq);(go_wp2_with fail);go_ret2
      exact .inr (.inr ⟨HSz.out,fun h=>HBad.out h.2,rfl,HG2.out⟩)
     ·(go_wp2_with fail);refine cI.mono ?_;rintro _ w2 ⟨rfl,hK2⟩;have HK2:=ah hK2;clear hK2 cI;cases hI:ir x.i (L.take j) with
      | some i =>
        have HBad:=ah (AF HX.out hI);have hi0:(0:Int)≤i:=by omega
        clear hI;simp only [kI];(go_wp2_with fail);go_ret2
        exact .inr (.inr ⟨HSz.out,fun h=>HBad.out h.2,rfl,HG2.out.trans HK2.out (by simp)⟩)
      | none =>
        have HNi:=ah (rP hI);clear hI;simp only [kI];have c2:=HK2.out.cell b2 (by simp);have cM:=cNm _ HK2.out;clear cNm;(go_wp2_with fail);refine cM.mono ?_;rintro _ w3 ⟨rfl,hK3⟩;have HK3:=ah (HK2.out.trans hK3 (by simp));clear hK3 cM c2;cases hN:oS x.n (L.take j) with
        | some i =>
          have HBad:=ah (AH HX.out hN);have hi0:(0:Int)≤i:=by omega
          clear hN;simp only [kI];(go_wp2_with fail);go_ret2
          exact .inr (.inr ⟨HSz.out,fun h=>HBad.out h.2,rfl,HG2.out.trans HK3.out (by simp)⟩)
        | none =>
          have HNn:=ah (rO hN);have HLn:Hid (eS (L.take (j+1))):=oI HX.out HLd.out (by omega) HNi.out HNn.out;clear hN;simp only [kI];have HT3:=ah (HG1.out.kept HK3.out);obtain ⟨ao3,c3,hv3,hc3,hm3,_,_⟩:=HT3.out.row.shape;obtain ⟨n3,hn3⟩:∃ n3,n3=X'.length:=⟨_,rfl⟩;rw [← hn3] at hv3;subst hv3;have t1:=HT3.out.cells.2;have hlen:X'.length≤100000:=by have h:=HJs.out;rw [HT3.out.len,HLen.out];omega
          replace b0:=HK3.out.cell b0 (by simp);replace b1:=HK3.out.cell b1 (by simp);replace b2:=HK3.out.cell b2 (by simp);replace b3:=HK3.out.cell b3 (by simp);replace b4:=HK3.out.cell b4 (by simp);replace b5:=HK3.out.cell b5 (by simp);replace b6:=HK3.out.cell b6 (by simp);replace b7:=HK3.out.cell b7 (by simp);replace b8:=HK3.out.cell b8 (by simp);replace b9:=HK3.out.cell b9 (by simp);have cS:=gS w3.drew x (.slice mo mm mc) (HKo.out.kept ((HK1.out.trans HK3.out (by simp)).trans (aa.refl [] w3).drew (by simp))) HOx.out;have cB:=fun W (hk:aa [] w3 W) u hu=>jF W _ X' (HT3.out.kept hk).row x u hu hlen;unfold jN at cS cB;have hblt:=aq HG1.out.at_;have hbne:b < wr.heap.size:=HLv.out.lt;clear hlen hn3 hc3 hm3;go_upto_region 11 with fail
          refine wp_region_held_drew (S:=fun w'=>w'.cell? ⟨wr.heap.size,0,none⟩=some (.int .i64 x.i)∧w'.cell? ⟨wr.heap.size,1,none⟩=some (.int .i64 x.q)∧w'.cell? ⟨wr.heap.size,2,none⟩=some (.string (ak x.n))∧w'.cell? ⟨wr.heap.size,3,none⟩=some (.int .i64 x.v.c)∧w'.cell? ⟨wr.heap.size,4,none⟩=some (.int .i64 x.v.s)∧w'.cell? ⟨wr.heap.size,5,none⟩=some (.int .i64 x.v.r)∧w'.cell? ⟨wr.heap.size,6,none⟩=some (.string (ak x.v.p))∧w'.cell? ⟨wr.heap.size,7,none⟩=some (.int .u64 x.v.d)∧w'.cell? ⟨wr.heap.size,8,none⟩=some (.slice mo mm mc)∧w'.cell? ⟨wr.heap.size,9,none⟩=some (.int .i64 x.v.m)) (by kernel_rfl) ⟨b0,b1,b2,b3,b4,b5,b6,b7,b8,b9⟩ (fun hHeld=>?_);refine aU [0,1,2,3,5] (by rfl) (by kernel_rfl) (fun _ _ _ _ _ h=>h) hHeld ?_
          iterate 5
           refine yk ?_ rfl (Or.inl ⟨by rfl,?_⟩) ?_;rotate_left
           ·intro w9 hSw;(try dsimp only at hSw);go_simp;(try with_reducible rfl)
           try simp only [sT,Act.put]
          refine aT ?_;simp only [au,sT];refine wpAnyH_ready (rs:=[4,6]) (by kernel_rfl) (by simp) (AllReadyH.cons rfl (fun K0 hK0=>?_) (AllReadyH.cons rfl (fun K0 hK0=>?_) AllReadyH.nil))
          ·go_simp;refine hK0.out _ _ hHeld (fun hHeld=>?_);clear hK0 K0;(try simp only [sT,Act.put]);refine aH 6 (by kernel_rfl) rfl (fun K0 hK0=>?_);go_simp;refine (cS).mono ?_;rintro _ w4 ⟨u4,rfl,hO4,hK4⟩;obtain ⟨a4,n4,c4,rfl⟩:=hO4.ko.one;have HO4:=ah hO4;have HK4:=ah ((aa.refl [] w3).drew.trans hK4 (by simp));replace t1:=HK4.out.cell t1 (by simp);clear hO4 hK4;(go_wp2_with fail);refine hK0.out _ _ ⟨HK4.out.cell b0 (by simp),HK4.out.cell b1 (by simp),HK4.out.cell b2 (by simp),HK4.out.cell b3 (by simp),HK4.out.cell b4 (by simp),HK4.out.cell b5 (by simp),HK4.out.cell b6 (by simp),HK4.out.cell b7 (by simp),HK4.out.cell b8 (by simp),HK4.out.cell b9 (by simp)⟩ (fun hHeld=>?_);clear hK0 K0;(try simp only [sT,Act.put]);refine aH 7 (by kernel_rfl) rfl (fun K0 hK0=>?_);go_simp;refine (cB _ HK4.out _ ⟨_,_,_,rfl⟩).mono ?_;rintro _ w5 ⟨v5,rfl,hR5,hK5⟩;obtain ⟨ao5,c5,hv5,_⟩:=hR5.t.shape;obtain ⟨n5,hn5⟩:∃ n5,n5=(X'++[(x,Value.slice a4 n4 c4)]).length:=⟨_,rfl⟩;rw [← hn5] at hv5;subst hv5;have HK5:=ah (HK4.out.trans hK5 (by simp))
           have HE:Hid (ew w (w5.setCell ⟨b,1,none⟩ (.slice ao5 n5 c5)) b sz (L.take (j+1))):=by
            show ew _ _ _ _ _;rw [fR HX.out];exact oN HT3.out (HG2.out.trans HK3.out (by simp)) HG3.out hs16 HG7.out HK5.out hR5 (Nat.le_trans (HG2.out.trans HK3.out (by simp)).size HK4.out.size) ((HO4.out.toP (fun j hj=>Nat.le_trans (HG2.out.trans HK3.out (by simp)).size hj)).kept hK5) HOx.out (by rw [HLen.out];exact HJs.out)
           have hb5:=HK5.out.at HT3.out.at_ (by simp);have c5b:=ag (k:=1) hb5 rfl;have fz5:=aj hb5 1;clear hR5 hK5 hn5 hb5;(go_wp2_with fail);refine hK0.out _ _ ⟨HK5.out.cell b0 (by simp),HK5.out.cell b1 (by simp),HK5.out.cell b2 (by simp),HK5.out.cell b3 (by simp),HK5.out.cell b4 (by simp),HK5.out.cell b5 (by simp),HK5.out.cell b6 (by simp),HK5.out.cell b7 (by simp),HK5.out.cell b8 (by simp),HK5.out.cell b9 (by simp)⟩ (fun hHeld=>?_);clear hK0 K0;(try simp only [sT,Act.put]);refine aU [8,9] (by rfl) (by kernel_rfl) (fun _ _ _ _ _ h=>h) hHeld ?_
           iterate 2
            refine yk ?_ rfl (Or.inl ⟨by rfl,?_⟩) ?_;rotate_left
            ·intro w9 hSw;(try dsimp only at hSw);go_simp;(try with_reducible rfl)
            try simp only [sT,Act.put]
           refine aT ?_;simp only [au,sT];refine aH 10 (by kernel_rfl) rfl (fun K0 hK0=>?_);go_simp;obtain ⟨w6,hw6⟩:∃ w6,w6=w5.setCell ⟨b,1,none⟩ (.slice ao5 n5 c5):=⟨_,rfl⟩;rw [← hw6] at HE ⊢;have hK6:aa [b] w3 w6:=by rw [hw6];exact (HK5.out.mono (by simp)).setCell (by simp) _
           refine hK0.out _ _ ⟨hK6.cell b0 (by simp;omega),hK6.cell b1 (by simp;omega),hK6.cell b2 (by simp;omega),hK6.cell b3 (by simp;omega),hK6.cell b4 (by simp;omega),hK6.cell b5 (by simp;omega),hK6.cell b6 (by simp;omega),hK6.cell b7 (by simp;omega),hK6.cell b8 (by simp;omega),hK6.cell b9 (by simp;omega)⟩ (fun hHeld=>?_);refine wpAnyH_done (by kernel_rfl) ?_ _;clear hHeld hK0 K0 hK6 hw6 t1 b0 b1 b2 b3 b4 b5 b6 b7 b8 b9 c5b fz5;(go_wp2_with fail);go_roundw
           case rel=>exact ⟨j+1,by go_num,by omega,HE,HLn⟩
           case measure=>simp [intOf];omega
          ·go_simp;refine (cS).mono ?_;rintro _ w4 ⟨u4,rfl,hO4,hK4⟩;obtain ⟨a4,n4,c4,rfl⟩:=hO4.ko.one;have HO4:=ah hO4;have HK4:=ah ((aa.refl [] w3).drew.trans hK4 (by simp));replace t1:=HK4.out.cell t1 (by simp);clear hO4 hK4;(go_wp2_with fail);refine hK0.out _ _ ⟨HK4.out.cell b0 (by simp),HK4.out.cell b1 (by simp),HK4.out.cell b2 (by simp),HK4.out.cell b3 (by simp),HK4.out.cell b4 (by simp),HK4.out.cell b5 (by simp),HK4.out.cell b6 (by simp),HK4.out.cell b7 (by simp),HK4.out.cell b8 (by simp),HK4.out.cell b9 (by simp)⟩ (fun hHeld=>?_);clear hK0 K0;(try simp only [sT,Act.put]);refine aH 4 (by kernel_rfl) rfl (fun K0 hK0=>?_);go_simp;refine hK0.out _ _ hHeld (fun hHeld=>?_);clear hK0 K0;(try simp only [sT,Act.put]);refine aH 7 (by kernel_rfl) rfl (fun K0 hK0=>?_);go_simp;refine (cB _ HK4.out _ ⟨_,_,_,rfl⟩).mono ?_;rintro _ w5 ⟨v5,rfl,hR5,hK5⟩;obtain ⟨ao5,c5,hv5,_⟩:=hR5.t.shape;obtain ⟨n5,hn5⟩:∃ n5,n5=(X'++[(x,Value.slice a4 n4 c4)]).length:=⟨_,rfl⟩;rw [← hn5] at hv5;subst hv5;have HK5:=ah (HK4.out.trans hK5 (by simp))
           have HE:Hid (ew w (w5.setCell ⟨b,1,none⟩ (.slice ao5 n5 c5)) b sz (L.take (j+1))):=by
            show ew _ _ _ _ _;rw [fR HX.out];exact oN HT3.out (HG2.out.trans HK3.out (by simp)) HG3.out hs16 HG7.out HK5.out hR5 (Nat.le_trans (HG2.out.trans HK3.out (by simp)).size HK4.out.size) ((HO4.out.toP (fun j hj=>Nat.le_trans (HG2.out.trans HK3.out (by simp)).size hj)).kept hK5) HOx.out (by rw [HLen.out];exact HJs.out)
           have hb5:=HK5.out.at HT3.out.at_ (by simp);have c5b:=ag (k:=1) hb5 rfl;have fz5:=aj hb5 1;clear hR5 hK5 hn5 hb5;(go_wp2_with fail);refine hK0.out _ _ ⟨HK5.out.cell b0 (by simp),HK5.out.cell b1 (by simp),HK5.out.cell b2 (by simp),HK5.out.cell b3 (by simp),HK5.out.cell b4 (by simp),HK5.out.cell b5 (by simp),HK5.out.cell b6 (by simp),HK5.out.cell b7 (by simp),HK5.out.cell b8 (by simp),HK5.out.cell b9 (by simp)⟩ (fun hHeld=>?_);clear hK0 K0;(try simp only [sT,Act.put]);refine aU [8,9] (by rfl) (by kernel_rfl) (fun _ _ _ _ _ h=>h) hHeld ?_
           iterate 2
            refine yk ?_ rfl (Or.inl ⟨by rfl,?_⟩) ?_;rotate_left
            ·intro w9 hSw;(try dsimp only at hSw);go_simp;(try with_reducible rfl)
            try simp only [sT,Act.put]
           refine aT ?_;simp only [au,sT];refine aH 10 (by kernel_rfl) rfl (fun K0 hK0=>?_);go_simp;obtain ⟨w6,hw6⟩:∃ w6,w6=w5.setCell ⟨b,1,none⟩ (.slice ao5 n5 c5):=⟨_,rfl⟩;rw [← hw6] at HE ⊢;have hK6:aa [b] w3 w6:=by rw [hw6];exact (HK5.out.mono (by simp)).setCell (by simp) _
           refine hK0.out _ _ ⟨hK6.cell b0 (by simp;omega),hK6.cell b1 (by simp;omega),hK6.cell b2 (by simp;omega),hK6.cell b3 (by simp;omega),hK6.cell b4 (by simp;omega),hK6.cell b5 (by simp;omega),hK6.cell b6 (by simp;omega),hK6.cell b7 (by simp;omega),hK6.cell b8 (by simp;omega),hK6.cell b9 (by simp;omega)⟩ (fun hHeld=>?_);refine wpAnyH_done (by kernel_rfl) ?_ _;clear hHeld hK0 K0 hK6 hw6 t1 b0 b1 b2 b3 b4 b5 b6 b7 b8 b9 c5b fz5;(go_wp2_with fail);go_roundw
           case rel=>exact ⟨j+1,by go_num,by omega,HE,HLn⟩
           case measure=>simp [intOf];omega
    ·have hlt':¬ (j:Int) < n:=by omega
     have HE:Hid (ew w wr b sz L):=by have h:=HLv.out;rw [List.take_of_length_le (by rw [HCl.out];omega)] at h;exact h
     have HO:Hid (eS L):=by have h:=HLd.out;rw [List.take_of_length_le (by rw [HCl.out];omega)] at h;exact h
     (go_wp2_with fail);go_ret2
     exact .inl ⟨sz,b,rfl,by rw [HCl.out];exact HNs.out,HO.out,rfl,HE.out⟩
  ·have hn':(sz:Int) < n:=by omega
   (go_wp2_with fail);go_ret2
   exact .inr (.inr ⟨HSz.out,fun h=>by have h1:=h.1;rw [HCl.out] at h1;omega,rfl,HT1.out.keeps⟩)
 ·have cN:=zP w size hs;go_enter Tryz.func53,Tryz.ntmps53;(go_wp2_with fail);refine cN.mono ?_;rintro _ W2 ⟨rfl,hW0⟩;obtain rfl:=hW0.symm;(go_wp2_with fail);go_ret2
  exact .inr (.inl ⟨hs,rfl,aa.refl _ _⟩)
end Go.Proofs.YtgpnlidnbldiiaaGreat
