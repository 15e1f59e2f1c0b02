/-
  The document's own LoadEpochs.
-/
import Derived.Test.YtgpnlidnbldiiaaGreatQ2r
import Derived.Test.YtgpnlidnbldiiaaGreatEdAtr
import Derived.Test.YtgpnlidnbldiiaaGreatW5r
namespace Go.Proofs.YtgpnlidnbldiiaaGreat
open Go.RowKit
def qo (L:List Ep):Prop:=ki L∧∀ x∈L,ea x.m∧0≤x.f∧x.f≤1099511627776
theorem zI:qo []:=⟨List.Pairwise.nil,fun _ h=>by cases h⟩
theorem po {L:List Ep}{x:Ep}(h:qo L) (h1:ea x.m) (h2:0≤x.f) (h3:x.f≤1099511627776) (h4:∀ y,L.getLast?=some y→y.f < x.f):qo (L++[x]):=by
 refine ⟨?_,fun y hy=>?_⟩
 ·unfold ki;rw [List.pairwise_append];refine ⟨h.1,List.pairwise_singleton _ _,fun y hy z hz=>?_⟩;simp at hz
  subst hz;cases hl:L.getLast? with
  | none=>rw [List.getLast?_eq_none_iff] at hl;subst hl;simp at hy
  | some u =>
    have hu:=h4 u hl;obtain ⟨i,hi,rfl⟩:=List.getElem_of_mem hy;rw [List.getLast?_eq_getElem?,List.getElem?_eq_getElem (by omega)] at hl;have e:=Option.some.inj hl;by_cases hlt:i < L.length - 1
    ·have:=List.pairwise_iff_getElem.1 h.1 i (L.length - 1) hi (by omega) hlt
     rw [e] at this;omega
    ·have:i=L.length - 1:=by omega
     subst this;rw [e];exact hu
 ·rcases List.mem_append.1 hy with hy | hy
  ·exact h.2 y hy
  ·simp at hy;subst hy;exact ⟨h1,h2,h3⟩
def DL (al:Int) (L:List Ep) (w:World) (e:Ending) (w':World):Prop :=
 ((1≤al∧al≤8)∧hH L∧∃ p:Nat,e=.returned (.tuple #[.pointer (some ⟨p,0,none⟩),.int .i64 0])∧jS w.heap.size w' p al L∧aa [] w w') ∨
 (¬ (1≤al∧al≤8)∧e=.returned (.tuple #[.pointer none,.int .i64 1])∧aa [] w w') ∨
 ((1≤al∧al≤8)∧¬ hH L∧e=.returned (.tuple #[.pointer none,.int .i64 4])∧aa [] w w')
def DP (w:World) (L:List Ep) (n:Nat) (iv:Value) (wr:World):Prop:=∃ j:Nat,iv=.int .i64 (j:Int)∧j≤n∧Hid (qo (L.take j))∧Hid (aa [] w wr)
set_option linter.unusedSimpArgs false in
set_option maxHeartbeats 16000000 in
set_option maxRecDepth 100000 in
theorem sR (w:World) (al:Int) (ao:Option Addr) (n c:Nat) (X:List (Ep × Value)) (L:List Ep) (hS:qB w ao n c X) (hX:X.map Prod.fst=L) (hn:n≤1000) :
 Calls Tryz.prog 59 #[.int .i64 al,.slice ao n c] w fun e w'=>DL al L w e w':=by
 have hmx:=hS.2.2.1;unfold maxLen at hmx;have HS:=ah hS;have HXl:=ah hS.1;have HX:=ah hX;have HL:Hid (L.length=n):=by show _=_;rw [← hX,List.length_map];exact hS.1
 have HN:=ah hn;clear hS hX;by_cases ha1:al < 1
 ·have HAl:=ah (show ¬ (1≤al∧al≤8) from fun h=>by omega);go_enter Tryz.func59,Tryz.ntmps59;(go_wp2_with fail);go_ret2
  exact .inr (.inl ⟨HAl.out,rfl,aa.refl _ _⟩)
 ·by_cases ha2:8 < al
  ·have HAl:=ah (show ¬ (1≤al∧al≤8) from fun h=>by omega);go_enter Tryz.func59,Tryz.ntmps59;(go_wp2_with fail);go_ret2
   exact .inr (.inl ⟨HAl.out,rfl,aa.refl _ _⟩)
  ·have HAl:=ah (show 1≤al∧al≤8 from ⟨by omega,by omega⟩);by_cases h0:n=0
   ·have HE:Hid (¬ hH L):=fun h=>by have:=List.length_pos_iff.2 h.1;have:=HL.out;omega
    have h0':((n:Int)==0)=true:=by simp;omega
    go_enter Tryz.func59,Tryz.ntmps59;(go_wp2_with fail);go_ret2
    exact .inr (.inr ⟨HAl.out,HE.out,rfl,aa.refl _ _⟩)
   ·have h0':((n:Int)==0)=false:=by simp;omega
    have HNe:Hid (L≠[]):=fun e=>by have:=HL.out;rw [e] at this;simp at this;omega
    go_enter Tryz.func59,Tryz.ntmps59;(go_wp2_with fail);go_loopw [6] (fun iv wr=>DP w L n iv wr) (fun iv _=>n - (intOf iv).toNat)
    case atStart=>exact ⟨0,rfl,Nat.zero_le _,by simpa [Hid] using zI,aa.refl _ _⟩
    case round =>
     obtain ⟨j,rfl,hj,HF,HK⟩:=hrel;by_cases hlt:j < n
     ·have hlt':(j:Int) < n:=by omega
      have hjX:j < X.length:=by rw [HXl.out];exact hlt
      have hjL:j < L.length:=by rw [HL.out];exact hlt
      have hSr:=HS.out.kept HK.out;obtain ⟨ga,oa,hae,y0,y1⟩:=hSr.2.2.2.1 j hjX;subst hae;obtain ⟨so,sc,hv,hsl⟩:=hSr.2.2.2.2 _ (List.getElem_mem hjX);have hXj:X[j].1=L[j]:=by have:=HX.out;simp [← this]
      have HT:Hid (L.take (j+1)=L.take j++[X[j].1]):=by show _=_;rw [hXj];exact List.take_succ_eq_append_getElem hjL
      have HIn:Hid (X[j].1∈L):=by show _∈_;rw [hXj];exact List.getElem_mem hjL
      have HXj:Hid (L[j]?=some X[j].1):=by show _=_;rw [hXj];exact List.getElem?_eq_getElem hjL
      rw [hv] at y1;generalize X[j]=x at *;obtain ⟨sn,hsn⟩:∃ sn,sn=x.1.m.length:=⟨_,rfl⟩;rw [← hsn] at y1 hsl;have cM:=oM wr.drew so sn sc x.1.m (hsl.kept (aa.refl [] wr).drew);clear hv hsl hsn hXj hjX;by_cases hm:ea x.1.m
      ·by_cases hx0:x.1.f < 0
       ·have hd0:decide (x.1.f < 0)=true:=by simpa using hx0
        have HE:Hid (¬ hH L):=fun ho=>by have h1:=(ho.2.2 x.1 HIn.out).2.1;omega
        clear hSr hjL;(go_wp2_with fail);refine wp_region_held_drew (S:=fun w'=>w'.cell? ⟨ga,oa+j*2,none⟩=some (.int .i64 x.1.f)∧w'.cell? ⟨ga,oa+j*2+1,none⟩=some (.slice so sn sc)) (by kernel_rfl) ⟨y0,y1⟩ (fun hHeld=>?_);refine aU [0,1,2,3,4] (by rfl) (by kernel_rfl) (fun _ _ _ _ _ h=>h) hHeld ?_
        iterate 5
         refine yk ?_ rfl (Or.inl ⟨by rfl,?_⟩) ?_;rotate_left
         ·intro w9 hSw;(try dsimp only at hSw);go_simp;(try with_reducible rfl)
         try simp only [sT,Act.put]
        refine aT ?_;simp only [au,sT];refine aH 5 (by kernel_rfl) rfl (fun K0 hK0=>?_);go_simp;refine cM.mono ?_;rintro _ w2 ⟨rfl,hK2⟩;rw [show decide (ea x.1.m)=true by simpa using hm];have HK2:Hid (aa [] wr w2):=(aa.refl [] wr).drew.trans hK2 (by simp);clear hK2 cM;(go_wp2_with fail);refine hK0.out _ _ ⟨HK2.out.cell y0 (by simp),HK2.out.cell y1 (by simp)⟩ (fun hHeld=>?_);clear hK0 K0;(try simp only [sT,Act.put]);refine aU [6,7,8,9,10,11,12,13,14,15] (by rfl) (by kernel_rfl) (fun _ _ _ _ _ h=>h) hHeld ?_
        iterate 10
         refine yk ?_ rfl (Or.inl ⟨by rfl,?_⟩) ?_;rotate_left
         ·intro w9 hSw;(try dsimp only at hSw);go_simp;(try with_reducible rfl)
         try simp only [sT,Act.put]
        refine aT ?_;simp only [au,sT];refine aU [16,17,18,19,20,21] (by rfl) (by kernel_rfl) (fun _ _ _ _ _ h=>h) hHeld ?_
        iterate 6
         refine yk undef rfl (Or.inr ⟨by rfl,rfl⟩) ?_;try simp only [sT,Act.put]
        refine aT ?_;simp only [au,sT];refine aU [22,23] (by rfl) (by kernel_rfl) (fun _ _ _ _ _ h=>h) hHeld ?_
        iterate 2
         refine yk ?_ rfl (Or.inl ⟨by rfl,?_⟩) ?_;rotate_left
         ·intro w9 hSw;(try dsimp only at hSw);go_simp;(try with_reducible rfl)
         try simp only [sT,Act.put]
        refine aT ?_;simp only [au,sT];refine aU [24,25,26,27,28,29,30,31,32,33,34,35,36,37,38,39] (by rfl) (by kernel_rfl) (fun _ _ _ _ _ h=>h) hHeld ?_
        iterate 16
         refine yk undef rfl (Or.inr ⟨by rfl,rfl⟩) ?_;try simp only [sT,Act.put]
        refine aT ?_;simp only [au,sT];refine aU [40] (by rfl) (by kernel_rfl) (fun _ _ _ _ _ h=>h) hHeld ?_
        iterate 1
         refine yk ?_ rfl (Or.inl ⟨by rfl,?_⟩) ?_;rotate_left
         ·intro w9 hSw;(try dsimp only at hSw);go_simp;(try with_reducible rfl)
         try simp only [sT,Act.put]
        refine aT ?_;simp only [au,sT];(try simp only [sT,Act.put]);refine wpAnyH_done (by kernel_rfl) ?_ _;clear hHeld;(go_wp2_with fail);go_ret2
        exact .inr (.inr ⟨HAl.out,HE.out,rfl,HK.out.trans HK2.out (by simp)⟩)
       ·have hd0:decide (x.1.f < 0)=false:=by simpa using hx0
        by_cases hx1:1099511627776 < x.1.f
        ·have hd1:decide (1099511627776 < x.1.f)=true:=by simpa using hx1
         have HE:Hid (¬ hH L):=fun ho=>by have h1:=(ho.2.2 x.1 HIn.out).2.2;omega
         clear hSr hjL;(go_wp2_with fail);refine wp_region_held_drew (S:=fun w'=>w'.cell? ⟨ga,oa+j*2,none⟩=some (.int .i64 x.1.f)∧w'.cell? ⟨ga,oa+j*2+1,none⟩=some (.slice so sn sc)) (by kernel_rfl) ⟨y0,y1⟩ (fun hHeld=>?_);refine aU [0,1,2,3,4] (by rfl) (by kernel_rfl) (fun _ _ _ _ _ h=>h) hHeld ?_
         iterate 5
          refine yk ?_ rfl (Or.inl ⟨by rfl,?_⟩) ?_;rotate_left
          ·intro w9 hSw;(try dsimp only at hSw);go_simp;(try with_reducible rfl)
          try simp only [sT,Act.put]
         refine aT ?_;simp only [au,sT];refine aH 5 (by kernel_rfl) rfl (fun K0 hK0=>?_);go_simp;refine cM.mono ?_;rintro _ w2 ⟨rfl,hK2⟩;rw [show decide (ea x.1.m)=true by simpa using hm];have HK2:Hid (aa [] wr w2):=(aa.refl [] wr).drew.trans hK2 (by simp);clear hK2 cM;(go_wp2_with fail);refine hK0.out _ _ ⟨HK2.out.cell y0 (by simp),HK2.out.cell y1 (by simp)⟩ (fun hHeld=>?_);clear hK0 K0;(try simp only [sT,Act.put]);refine aU [6,7,8,9,10,11,12,13,14,15,16,17,18,19,20,21,22,23] (by rfl) (by kernel_rfl) (fun _ _ _ _ _ h=>h) hHeld ?_
         iterate 18
          refine yk ?_ rfl (Or.inl ⟨by rfl,?_⟩) ?_;rotate_left
          ·intro w9 hSw;(try dsimp only at hSw);go_simp;(try with_reducible rfl)
          try simp only [sT,Act.put]
         refine aT ?_;simp only [au,sT];refine aU [24,25,26,27,28,29,30,31,32,33,34,35,36,37,38,39] (by rfl) (by kernel_rfl) (fun _ _ _ _ _ h=>h) hHeld ?_
         iterate 16
          refine yk undef rfl (Or.inr ⟨by rfl,rfl⟩) ?_;try simp only [sT,Act.put]
         refine aT ?_;simp only [au,sT];refine aU [40] (by rfl) (by kernel_rfl) (fun _ _ _ _ _ h=>h) hHeld ?_
         iterate 1
          refine yk ?_ rfl (Or.inl ⟨by rfl,?_⟩) ?_;rotate_left
          ·intro w9 hSw;(try dsimp only at hSw);go_simp;(try with_reducible rfl)
          try simp only [sT,Act.put]
         refine aT ?_;simp only [au,sT];(try simp only [sT,Act.put]);refine wpAnyH_done (by kernel_rfl) ?_ _;clear hHeld;(go_wp2_with fail);go_ret2
         exact .inr (.inr ⟨HAl.out,HE.out,rfl,HK.out.trans HK2.out (by simp)⟩)
        ·have hd1:decide (1099511627776 < x.1.f)=false:=by simpa using hx1
         by_cases hj0:j=0
         ·have hj1:¬ 0 < (j:Int):=by omega
          have hj2:decide (0 < j)=false:=by simp;omega
          have HF2:Hid (qo (L.take (j+1))):=by
           show qo _;rw [HT.out];exact po HF.out hm (by omega) (by omega) (fun y hy=>by rw [hj0] at hy;simp at hy)
          clear hSr hjL hj0;(go_wp2_with fail);refine wp_region_held_drew (S:=fun w'=>w'.cell? ⟨ga,oa+j*2,none⟩=some (.int .i64 x.1.f)∧w'.cell? ⟨ga,oa+j*2+1,none⟩=some (.slice so sn sc)) (by kernel_rfl) ⟨y0,y1⟩ (fun hHeld=>?_);refine aU [0,1,2,3,4] (by rfl) (by kernel_rfl) (fun _ _ _ _ _ h=>h) hHeld ?_
          iterate 5
           refine yk ?_ rfl (Or.inl ⟨by rfl,?_⟩) ?_;rotate_left
           ·intro w9 hSw;(try dsimp only at hSw);go_simp;(try with_reducible rfl)
           try simp only [sT,Act.put]
          refine aT ?_;simp only [au,sT];refine aH 5 (by kernel_rfl) rfl (fun K0 hK0=>?_);go_simp;refine cM.mono ?_;rintro _ w2 ⟨rfl,hK2⟩;rw [show decide (ea x.1.m)=true by simpa using hm];have HK2:Hid (aa [] wr w2):=(aa.refl [] wr).drew.trans hK2 (by simp);clear hK2 cM;(go_wp2_with fail);refine hK0.out _ _ ⟨HK2.out.cell y0 (by simp),HK2.out.cell y1 (by simp)⟩ (fun hHeld=>?_);clear hK0 K0;(try simp only [sT,Act.put]);refine aU [6,7,8,9,10,11,12,13,14,15,16,17,18,19,20,21,22,23,24,25,26] (by rfl) (by kernel_rfl) (fun _ _ _ _ _ h=>h) hHeld ?_
          iterate 21
           refine yk ?_ rfl (Or.inl ⟨by rfl,?_⟩) ?_;rotate_left
           ·intro w9 hSw;(try dsimp only at hSw);go_simp;(try with_reducible rfl)
           try simp only [sT,Act.put]
          refine aT ?_;simp only [au,sT];refine aU [27,28,29,30,31,32,33,34,35,36,37,38] (by rfl) (by kernel_rfl) (fun _ _ _ _ _ h=>h) hHeld ?_
          iterate 12
           refine yk undef rfl (Or.inr ⟨by rfl,rfl⟩) ?_;try simp only [sT,Act.put]
          refine aT ?_;simp only [au,sT];refine aU [39,40] (by rfl) (by kernel_rfl) (fun _ _ _ _ _ h=>h) hHeld ?_
          iterate 2
           refine yk ?_ rfl (Or.inl ⟨by rfl,?_⟩) ?_;rotate_left
           ·intro w9 hSw;(try dsimp only at hSw);go_simp;(try with_reducible rfl)
           try simp only [sT,Act.put]
          refine aT ?_;simp only [au,sT];(try simp only [sT,Act.put]);refine wpAnyH_done (by kernel_rfl) ?_ _;clear hHeld;(go_wp2_with fail);go_roundw
          case rel=>exact ⟨j+1,by go_num,by omega,HF2,HK.out.trans HK2.out (by simp)⟩
          case measure=>simp [intOf];omega
         ·obtain ⟨i,hi⟩:∃ i,j=i+1:=⟨j - 1,by omega⟩;have hji:IntKind.i64.wrap ((j:Int) - 1)=i:=by rw [IntWalk.i64_in _ (by omega)];omega
          have hin:(i:Int) < n:=by omega
          have hj1:0 < (j:Int):=by omega
          have hj2:decide (0 < j)=true:=by simp;omega
          have hiX:i < X.length:=by rw [HXl.out];omega
          have hiL:i < L.length:=by rw [HL.out];omega
          obtain ⟨g',o',he,u0,_⟩:=hSr.2.2.2.1 i hiX;cases he
          have hXi:X[i].1=L[i]:=by have:=HX.out;simp [← this]
          have HXi:Hid (L[i]?=some X[i].1):=by show _=_;rw [hXi];exact List.getElem?_eq_getElem hiL
          have HLs:Hid ((L.take j).getLast?=some X[i].1):=by
           show _=_;rw [List.getLast?_eq_getElem?,List.length_take,Nat.min_eq_left (by omega),List.getElem?_take,if_pos (by omega),show j - 1=i by omega];exact HXi.out
          generalize X[i]=y at *;by_cases hxy:x.1.f≤y.1.f
          ·have hd3:decide (x.1.f≤y.1.f)=true:=by simpa using hxy
           have HE:Hid (¬ hH L):=fun ho=>by
            obtain ⟨q1,e1⟩:=List.getElem?_eq_some_iff.1 HXj.out;obtain ⟨q2,e2⟩:=List.getElem?_eq_some_iff.1 HXi.out;have:=List.pairwise_iff_getElem.1 ho.2.1 i j q2 q1 (by omega)
            rw [e1,e2] at this;omega
           clear hSr hjL hi hXi hiX hiL;(go_wp2_with fail);refine wp_region_held_drew (S:=fun w'=>w'.cell? ⟨ga,oa+j*2,none⟩=some (.int .i64 x.1.f)∧w'.cell? ⟨ga,oa+j*2+1,none⟩=some (.slice so sn sc)∧w'.cell? ⟨ga,oa+i*2,none⟩=some (.int .i64 y.1.f)) (by kernel_rfl) ⟨y0,y1,u0⟩ (fun hHeld=>?_);refine aU [0,1,2,3,4] (by rfl) (by kernel_rfl) (fun _ _ _ _ _ h=>h) hHeld ?_
           iterate 5
            refine yk ?_ rfl (Or.inl ⟨by rfl,?_⟩) ?_;rotate_left
            ·intro w9 hSw;(try dsimp only at hSw);go_simp;(try with_reducible rfl)
            try simp only [sT,Act.put]
           refine aT ?_;simp only [au,sT];refine aH 5 (by kernel_rfl) rfl (fun K0 hK0=>?_);go_simp;refine cM.mono ?_;rintro _ w2 ⟨rfl,hK2⟩;rw [show decide (ea x.1.m)=true by simpa using hm];have HK2:Hid (aa [] wr w2):=(aa.refl [] wr).drew.trans hK2 (by simp);clear hK2 cM;(go_wp2_with fail);refine hK0.out _ _ ⟨HK2.out.cell y0 (by simp),HK2.out.cell y1 (by simp),HK2.out.cell u0 (by simp)⟩ (fun hHeld=>?_);clear hK0 K0;(try simp only [sT,Act.put]);refine aU [6,7,8,9,10,11,12,13,14,15,16,17,18,19,20,21,22,23,24,25,26,27,28,29,30,31,32,33,34,35,36,37,38,39,40] (by rfl) (by kernel_rfl) (fun _ _ _ _ _ h=>h) hHeld ?_
           iterate 35
            refine yk ?_ rfl (Or.inl ⟨by rfl,?_⟩) ?_;rotate_left
            ·intro w9 hSw;(try dsimp only at hSw);go_simp;(try with_reducible rfl)
            try simp only [sT,Act.put]
           refine aT ?_;simp only [au,sT];(try simp only [sT,Act.put]);refine wpAnyH_done (by kernel_rfl) ?_ _;clear hHeld;(go_wp2_with fail);go_ret2
           exact .inr (.inr ⟨HAl.out,HE.out,rfl,HK.out.trans HK2.out (by simp)⟩)
          ·have hd3:decide (x.1.f≤y.1.f)=false:=by simpa using hxy
           have HF2:Hid (qo (L.take (j+1))):=by
            show qo _;rw [HT.out];exact po HF.out hm (by omega) (by omega) (fun z hz=>by rw [HLs.out] at hz;cases hz;omega)
           clear hSr hjL hi hXi hiX hiL;(go_wp2_with fail);refine wp_region_held_drew (S:=fun w'=>w'.cell? ⟨ga,oa+j*2,none⟩=some (.int .i64 x.1.f)∧w'.cell? ⟨ga,oa+j*2+1,none⟩=some (.slice so sn sc)∧w'.cell? ⟨ga,oa+i*2,none⟩=some (.int .i64 y.1.f)) (by kernel_rfl) ⟨y0,y1,u0⟩ (fun hHeld=>?_);refine aU [0,1,2,3,4] (by rfl) (by kernel_rfl) (fun _ _ _ _ _ h=>h) hHeld ?_
           iterate 5
            refine yk ?_ rfl (Or.inl ⟨by rfl,?_⟩) ?_;rotate_left
            ·intro w9 hSw;(try dsimp only at hSw);go_simp;(try with_reducible rfl)
            try simp only [sT,Act.put]
           refine aT ?_;simp only [au,sT];refine aH 5 (by kernel_rfl) rfl (fun K0 hK0=>?_);go_simp;refine cM.mono ?_;rintro _ w2 ⟨rfl,hK2⟩;rw [show decide (ea x.1.m)=true by simpa using hm];have HK2:Hid (aa [] wr w2):=(aa.refl [] wr).drew.trans hK2 (by simp);clear hK2 cM;(go_wp2_with fail);refine hK0.out _ _ ⟨HK2.out.cell y0 (by simp),HK2.out.cell y1 (by simp),HK2.out.cell u0 (by simp)⟩ (fun hHeld=>?_);clear hK0 K0;(try simp only [sT,Act.put]);refine aU [6,7,8,9,10,11,12,13,14,15,16,17,18,19,20,21,22,23,24,25,26,27,28,29,30,31,32,33,34,35,36,37,38,39,40] (by rfl) (by kernel_rfl) (fun _ _ _ _ _ h=>h) hHeld ?_
           iterate 35
            refine yk ?_ rfl (Or.inl ⟨by rfl,?_⟩) ?_;rotate_left
            ·intro w9 hSw;(try dsimp only at hSw);go_simp;(try with_reducible rfl)
            try simp only [sT,Act.put]
           refine aT ?_;simp only [au,sT];(try simp only [sT,Act.put]);refine wpAnyH_done (by kernel_rfl) ?_ _;clear hHeld;(go_wp2_with fail);go_roundw
           case rel=>exact ⟨j+1,by go_num,by omega,HF2,HK.out.trans HK2.out (by simp)⟩
           case measure=>simp [intOf];omega
      ·have HE:Hid (¬ hH L):=fun ho=>hm (ho.2.2 x.1 HIn.out).1;clear hSr hjL;(go_wp2_with fail);refine wp_region_held_drew (S:=fun w'=>w'.cell? ⟨ga,oa+j*2,none⟩=some (.int .i64 x.1.f)∧w'.cell? ⟨ga,oa+j*2+1,none⟩=some (.slice so sn sc)) (by kernel_rfl) ⟨y0,y1⟩ (fun hHeld=>?_);refine aU [0,1,2,3,4] (by rfl) (by kernel_rfl) (fun _ _ _ _ _ h=>h) hHeld ?_
       iterate 5
        refine yk ?_ rfl (Or.inl ⟨by rfl,?_⟩) ?_;rotate_left
        ·intro w9 hSw;(try dsimp only at hSw);go_simp;(try with_reducible rfl)
        try simp only [sT,Act.put]
       refine aT ?_;simp only [au,sT];refine aH 5 (by kernel_rfl) rfl (fun K0 hK0=>?_);go_simp;refine cM.mono ?_;rintro _ w2 ⟨rfl,hK2⟩;rw [show decide (ea x.1.m)=false by simpa using hm];have HK2:Hid (aa [] wr w2):=(aa.refl [] wr).drew.trans hK2 (by simp);clear hK2 cM;(go_wp2_with fail);refine hK0.out _ _ ⟨HK2.out.cell y0 (by simp),HK2.out.cell y1 (by simp)⟩ (fun hHeld=>?_);clear hK0 K0;(try simp only [sT,Act.put]);refine aU [6,7] (by rfl) (by kernel_rfl) (fun _ _ _ _ _ h=>h) hHeld ?_
       iterate 2
        refine yk ?_ rfl (Or.inl ⟨by rfl,?_⟩) ?_;rotate_left
        ·intro w9 hSw;(try dsimp only at hSw);go_simp;(try with_reducible rfl)
        try simp only [sT,Act.put]
       refine aT ?_;simp only [au,sT];refine aU [8,9,10,11,12,13] (by rfl) (by kernel_rfl) (fun _ _ _ _ _ h=>h) hHeld ?_
       iterate 6
        refine yk undef rfl (Or.inr ⟨by rfl,rfl⟩) ?_;try simp only [sT,Act.put]
       refine aT ?_;simp only [au,sT];refine aU [14,15] (by rfl) (by kernel_rfl) (fun _ _ _ _ _ h=>h) hHeld ?_
       iterate 2
        refine yk ?_ rfl (Or.inl ⟨by rfl,?_⟩) ?_;rotate_left
        ·intro w9 hSw;(try dsimp only at hSw);go_simp;(try with_reducible rfl)
        try simp only [sT,Act.put]
       refine aT ?_;simp only [au,sT];refine aU [16,17,18,19,20,21] (by rfl) (by kernel_rfl) (fun _ _ _ _ _ h=>h) hHeld ?_
       iterate 6
        refine yk undef rfl (Or.inr ⟨by rfl,rfl⟩) ?_;try simp only [sT,Act.put]
       refine aT ?_;simp only [au,sT];refine aU [22,23] (by rfl) (by kernel_rfl) (fun _ _ _ _ _ h=>h) hHeld ?_
       iterate 2
        refine yk ?_ rfl (Or.inl ⟨by rfl,?_⟩) ?_;rotate_left
        ·intro w9 hSw;(try dsimp only at hSw);go_simp;(try with_reducible rfl)
        try simp only [sT,Act.put]
       refine aT ?_;simp only [au,sT];refine aU [24,25,26,27,28,29,30,31,32,33,34,35,36,37,38,39] (by rfl) (by kernel_rfl) (fun _ _ _ _ _ h=>h) hHeld ?_
       iterate 16
        refine yk undef rfl (Or.inr ⟨by rfl,rfl⟩) ?_;try simp only [sT,Act.put]
       refine aT ?_;simp only [au,sT];refine aU [40] (by rfl) (by kernel_rfl) (fun _ _ _ _ _ h=>h) hHeld ?_
       iterate 1
        refine yk ?_ rfl (Or.inl ⟨by rfl,?_⟩) ?_;rotate_left
        ·intro w9 hSw;(try dsimp only at hSw);go_simp;(try with_reducible rfl)
        try simp only [sT,Act.put]
       refine aT ?_;simp only [au,sT];(try simp only [sT,Act.put]);refine wpAnyH_done (by kernel_rfl) ?_ _;clear hHeld;(go_wp2_with fail);go_ret2
       exact .inr (.inr ⟨HAl.out,HE.out,rfl,HK.out.trans HK2.out (by simp)⟩)
     ·have hlt':¬ (j:Int) < n:=by omega
      have HFt:Hid (qo L):=by have h1:=HF.out;rw [List.take_of_length_le (by rw [HL.out];omega)] at h1;exact h1
      have cC:=iO wr ao n c X (HS.out.kept HK.out) (fun x hx=>(HFt.out.2 x.1 (by rw [← HX.out];exact List.mem_map_of_mem hx)).1) HN.out
      go_wp2_with (go_at_call 67;refine cC.mono ?_;clear cC;rintro _ w2 ⟨u2,Y,rfl,hR2,hO2,hY2,hK2⟩
                   have HK2:Hid (aa [] w w2):=HK.out.trans hK2 (by simp);obtain ⟨a2,c2,rfl,_⟩:=hR2.sl hO2;obtain ⟨n2,hn2⟩:∃ n2,n2=Y.length:=⟨_,rfl⟩;rw [← hn2] at hR2 ⊢;have HR2:=ah hR2;have HO2:=ah hO2;have HY2:Hid (Y.map Prod.fst=L):=by show _=_;rw [hY2];exact HX.out
                   clear hR2 hO2 hY2 hK2 hn2)
      go_ret2
      have hsz:w.heap.size≤wr.heap.size:=HK.out.size;exact .inl ⟨HAl.out,⟨HNe.out,HFt.out.1,HFt.out.2⟩,w2.heap.size,rfl,⟨_,Y,HK2.out.size,heap_alloc_new w2 _,((aa.refl [] w2).alloc _).ownsRow (bF HR2.out hsz) (by simp),fun x hx=>((aa.refl [] w2).alloc _).ownsRow (bF (HO2.out x hx) hsz) (by simp),HY2.out⟩,HK2.out.alloc _⟩
end Go.Proofs.YtgpnlidnbldiiaaGreat
