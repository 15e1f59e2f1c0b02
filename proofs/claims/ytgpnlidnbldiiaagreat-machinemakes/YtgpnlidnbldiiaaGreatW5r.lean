/-
  Texts laid as one.
-/
import Derived.Test.YtgpnlidnbldiiaaGreatQ2r
import Derived.Test.YtgpnlidnbldiiaaGreatQ1r
import Derived.Test.YtgpnlidnbldiiaaGreatQ11r
import Derived.Test.YtgpnlidnbldiiaaGreatQ10r
import Derived.BigQuiet
set_option maxHeartbeats 8000000
set_option maxRecDepth 100000
/-
 The document's own SameInts,Quorum;epoch.Quorum.
-/
namespace Go.Proofs.YtgpnlidnbldiiaaGreat
open Go.RowKit
def Ew (w:World) (S T:List Int) (n:Nat) (iv:Value) (wr:World):Prop:=∃ j:Nat,iv=.int .i64 (j:Int)∧j≤n∧Hid (S.take j=T.take j)∧Hid (aa [] w wr)
theorem gT (w:World) (ao bo:Option Addr) (n c n2 c2:Nat) (S T:List Int) (hS:mW w ao n c S) (hT:mW w bo n2 c2 T) :
 Calls Tryz.prog 47 #[.slice ao n c,.slice bo n2 c2] w fun e w'=>e=.returned (.bool (decide (S=T)))∧aa [] w w':=by
 have hc:=hS.2.1;have hm:=hS.2.2.1;have hc2:=hT.2.1;have hm2:=hT.2.2.1;unfold maxLen at hm hm2;have HS:=ah hS;have HT:=ah hT;have HL:=ah hS.1;have HL2:=ah hT.1;clear hS hT;by_cases hn:n=n2
 ·subst hn;go_enter Tryz.func47,Tryz.ntmps47;(go_wp2_with fail);go_loopw [5] (fun iv wr=>Ew w S T n iv wr) (fun iv _=>n - (intOf iv).toNat)
  case atStart=>exact ⟨0,rfl,Nat.zero_le _,by simp [Hid],aa.refl _ _⟩
  case round =>
   obtain ⟨j,rfl,hj,HN,HK⟩:=hrel;by_cases hlt:j < n
   ·have hlt':(j:Int) < n:=by omega
    have hjS:j < S.length:=by rw [HL.out];exact hlt
    have hjT:j < T.length:=by rw [HL2.out];exact hlt
    obtain ⟨g,o,rfl,h0⟩:=(HS.out.kept HK.out).2.2.2 j hjS;obtain ⟨g2,o2,rfl,h1⟩:=(HT.out.kept HK.out).2.2.2 j hjT;have HA:Hid (S.take (j+1)=S.take j++[S[j]]):=List.take_succ_eq_append_getElem hjS;have HB:Hid (T.take (j+1)=T.take j++[T[j]]):=List.take_succ_eq_append_getElem hjT;have HX:Hid (S[j]?=some S[j]):=List.getElem?_eq_getElem hjS;have HY:Hid (T[j]?=some T[j]):=List.getElem?_eq_getElem hjT;generalize S[j]=x at *;generalize T[j]=y at *;by_cases hd:x=y
    ·subst hd;have HN2:Hid (S.take (j+1)=T.take (j+1)):=by show _=_;rw [HA.out,HB.out,HN.out]
     (go_wp2_with fail);go_region
     all_goals go_wp2_with fail
     all_goals go_roundw
     case rel=>exact ⟨j+1,by go_num,by omega,HN2,HK.out.drew⟩
     case measure=>simp [intOf];omega
    ·have HE:Hid (decide (S=T)=false):=by
      show _=_;rw [decide_eq_false_iff_not];rintro e;have h1:=HX.out;rw [e,HY.out] at h1;exact hd (Option.some.inj h1).symm
     (go_wp2_with fail);go_region
     all_goals go_wp2_with fail
     all_goals go_ret
     all_goals exact ⟨by rw [HE.out];rfl,HK.out.drew⟩
   ·have hlt':¬ (j:Int) < n:=by omega
    have HE:Hid (decide (S=T)=true):=by
     show _=_;have h:=HN.out;rw [List.take_of_length_le (by rw [HL.out];omega),List.take_of_length_le (by rw [HL2.out];omega)] at h;simpa using h
    (go_wp2_with fail);go_ret
    exact ⟨by rw [HE.out];rfl,HK.out⟩
 ·have hn':¬ (n:Int)=n2:=by omega
  have HE:Hid (decide (S=T)=false):=by
   show _=_;rw [decide_eq_false_iff_not];rintro rfl;exact hn (HL.out.symm.trans HL2.out)
  go_enter Tryz.func47,Tryz.ntmps47;(go_wp2_with fail);go_ret
  exact ⟨by rw [HE.out];rfl,aa.refl _ _⟩
def yg (x:List UInt8 × Int):List Value:=[.string (ak x.1),.int .i64 x.2]
theorem oZ {w w':World}{B e size n:Nat}{v:Value}{xs:List Value}(h:w.ownsRow B e size v n xs) (hg:w.grownBy w' v.ownBlock) {B2 e2 size2 n2:Nat}{v2:Value}{xs2:List Value}(h2:w.ownsRow B2 e2 size2 v2 n2 xs2) (hne:e2≠e):w'.ownsRow B2 e2 size2 v2 n2 xs2 :=
 ap ((aa.refl v.ownBlock.toList w).grown hg fun k hk=>.inl (aw.2 hk)) (Ts:=[e]) (fun k hk cur t mk hh=>by
  obtain ⟨c2,h3⟩:=ar h (aw.1 hk);rw [h3] at hh;cases hh;simp) h2 (by simpa using hne)
def Ct (m:List Int):Prop:=m.Pairwise (· < ·)∧∀ x∈m,0≤x∧x < 15
theorem rQ {m:List Int}{x:Int}(h:Ct m) (h1:0≤x∧x < 15) (h2:∀ y,m.getLast?=some y→y < x):Ct (m++[x]):=by
 refine ⟨?_,fun y hy=>?_⟩
 ·rw [List.pairwise_append];refine ⟨h.1,List.pairwise_singleton _ _,fun y hy z hz=>?_⟩;simp at hz
  subst hz;cases hl:m.getLast? with
  | none=>rw [List.getLast?_eq_none_iff] at hl;subst hl;simp at hy
  | some u =>
    have hu:=h2 u hl;obtain ⟨i,hi,rfl⟩:=List.getElem_of_mem hy;rw [List.getLast?_eq_getElem?,List.getElem?_eq_getElem (by omega)] at hl;have e:=Option.some.inj hl;by_cases hlt:i < m.length - 1
    ·have:=List.pairwise_iff_getElem.1 h.1 i (m.length - 1) hi (by omega) hlt
     omega
    ·have:i=m.length - 1:=by omega
     subst this;omega
 ·rcases List.mem_append.1 hy with hy | hy
  ·exact h.2 y hy
  ·simp at hy;subst hy;exact h1
def ER (w:World) (m:List Int) (iv:Value) (wr:World):Prop:=∃ j:Nat,iv=.int .i64 (j:Int)∧j≤m.length∧Hid (Ct (m.take j))∧Hid (aa [] w wr)
set_option linter.unusedSimpArgs false in
theorem oM (w:World) (ao:Option Addr) (n c:Nat) (m:List Int) (hS:mW w ao n c m) :
 Calls Tryz.prog 72 #[.slice ao n c] w fun e w'=>e=.returned (.bool (decide (ea m)))∧aa [] w w':=by
 have hl:=hS.1;have hc:=hS.2.1;have hm:=hS.2.2.1;unfold maxLen at hm;have HS:=ah hS;have HL:=ah hl;clear hS hl;by_cases hn0:n < 1
 ·have HE:Hid (decide (ea m)=false):=by
   show _=_;rw [decide_eq_false_iff_not];intro h;have:=List.length_pos_iff.2 h.1
   have:=HL.out
   omega
  have hn0':(n:Int) < 1:=by omega
  go_enter Tryz.func72,Tryz.ntmps72;(go_wp2_with fail);go_ret
  exact ⟨by rw [HE.out];rfl,aa.refl _ _⟩
 ·by_cases hn1:15 < n
  ·have HE:Hid (decide (ea m)=false):=by
    show _=_;rw [decide_eq_false_iff_not];intro h;have:=pP h
    have:=HL.out
    omega
   have hn0':¬ (n:Int) < 1:=by omega
   have hn1':(15:Int) < n:=by omega
   go_enter Tryz.func72,Tryz.ntmps72;(go_wp2_with fail);go_ret
   exact ⟨by rw [HE.out];rfl,aa.refl _ _⟩
  ·have hn0':¬ (n:Int) < 1:=by omega
   have hn1':¬ (15:Int) < n:=by omega
   go_enter Tryz.func72,Tryz.ntmps72;(go_wp2_with fail);go_loopw [3] (fun iv wr=>ER w m iv wr) (fun iv _=>n - (intOf iv).toNat)
   case atStart=>exact ⟨0,rfl,Nat.zero_le _,⟨by simp,by simp⟩,aa.refl _ _⟩
   case round =>
    obtain ⟨j,rfl,hj,HF,HK⟩:=hrel;by_cases hlt:j < n
    ·have hlt':(j:Int) < n:=by omega
     have hjS:j < m.length:=by rw [HL.out];exact hlt
     have hSr:=HS.out.kept HK.out;obtain ⟨g,o,rfl,h0⟩:=hSr.2.2.2 j hjS;have HA:Hid (m.take (j+1)=m.take j++[m[j]]):=List.take_succ_eq_append_getElem hjS;have HX:Hid (m[j]?=some m[j]):=List.getElem?_eq_getElem hjS;have HB:Hid (m[j]∈m):=List.getElem_mem hjS;generalize m[j]=x at *;by_cases hx0:x < 0
     ·have hd0:decide (x < 0)=true:=by simpa using hx0
      have HE:Hid (decide (ea m)=false):=by
       show _=_;rw [decide_eq_false_iff_not];intro h;have:=h.2.2 x HB.out
       omega
      (go_wp2_with fail);refine wp_region_held_drew (S:=fun w'=>w'.cell? ⟨g,o+j,none⟩=some (.int .i64 x)) (by kernel_rfl) h0 (fun hHeld=>?_);refine aU [0,1,2,3,4,5] (by rfl) (by kernel_rfl) (fun _ _ _ _ _ h=>h) hHeld ?_
      iterate 6
       refine yk ?_ rfl (Or.inl ⟨by rfl,?_⟩) ?_;rotate_left
       ·intro w9 hSw;(try dsimp only at hSw);go_simp;(try with_reducible rfl)
       try simp only [sT,Act.put]
      refine aT ?_;simp only [au,sT];refine aU [6,7,8,9,10] (by rfl) (by kernel_rfl) (fun _ _ _ _ _ h=>h) hHeld ?_
      iterate 5
       refine yk undef rfl (Or.inr ⟨by rfl,rfl⟩) ?_;try simp only [sT,Act.put]
      refine aT ?_;simp only [au,sT];refine aU [11,12] (by rfl) (by kernel_rfl) (fun _ _ _ _ _ h=>h) hHeld ?_
      iterate 2
       refine yk ?_ rfl (Or.inl ⟨by rfl,?_⟩) ?_;rotate_left
       ·intro w9 hSw;(try dsimp only at hSw);go_simp;(try with_reducible rfl)
       try simp only [sT,Act.put]
      refine aT ?_;simp only [au,sT];refine aU [13,14,15,16,17,18,19,20,21,22,23,24,25,26] (by rfl) (by kernel_rfl) (fun _ _ _ _ _ h=>h) hHeld ?_
      iterate 14
       refine yk undef rfl (Or.inr ⟨by rfl,rfl⟩) ?_;try simp only [sT,Act.put]
      refine aT ?_;simp only [au,sT];refine aU [27] (by rfl) (by kernel_rfl) (fun _ _ _ _ _ h=>h) hHeld ?_
      iterate 1
       refine yk ?_ rfl (Or.inl ⟨by rfl,?_⟩) ?_;rotate_left
       ·intro w9 hSw;(try dsimp only at hSw);go_simp;(try with_reducible rfl)
       try simp only [sT,Act.put]
      refine aT ?_;simp only [au,sT];(try simp only [sT,Act.put]);refine wpAnyH_done (by kernel_rfl) ?_ _;clear hHeld;(go_wp2_with fail);go_ret
      exact ⟨by rw [HE.out];rfl,HK.out.drew⟩
     ·by_cases hx1:15≤x
      ·have hd0:decide (x < 0)=false:=by simpa using hx0
       have hd1:decide (15≤x)=true:=by simpa using hx1
       have HE:Hid (decide (ea m)=false):=by
        show _=_;rw [decide_eq_false_iff_not];intro h;have:=h.2.2 x HB.out
        omega
       (go_wp2_with fail);refine wp_region_held_drew (S:=fun w'=>w'.cell? ⟨g,o+j,none⟩=some (.int .i64 x)) (by kernel_rfl) h0 (fun hHeld=>?_);refine aU [0,1,2,3,4,5,6,7,8,9,10,11,12] (by rfl) (by kernel_rfl) (fun _ _ _ _ _ h=>h) hHeld ?_
       iterate 13
        refine yk ?_ rfl (Or.inl ⟨by rfl,?_⟩) ?_;rotate_left
        ·intro w9 hSw;(try dsimp only at hSw);go_simp;(try with_reducible rfl)
        try simp only [sT,Act.put]
       refine aT ?_;simp only [au,sT];refine aU [13,14,15,16,17,18,19,20,21,22,23,24,25,26] (by rfl) (by kernel_rfl) (fun _ _ _ _ _ h=>h) hHeld ?_
       iterate 14
        refine yk undef rfl (Or.inr ⟨by rfl,rfl⟩) ?_;try simp only [sT,Act.put]
       refine aT ?_;simp only [au,sT];refine aU [27] (by rfl) (by kernel_rfl) (fun _ _ _ _ _ h=>h) hHeld ?_
       iterate 1
        refine yk ?_ rfl (Or.inl ⟨by rfl,?_⟩) ?_;rotate_left
        ·intro w9 hSw;(try dsimp only at hSw);go_simp;(try with_reducible rfl)
        try simp only [sT,Act.put]
       refine aT ?_;simp only [au,sT];(try simp only [sT,Act.put]);refine wpAnyH_done (by kernel_rfl) ?_ _;clear hHeld;(go_wp2_with fail);go_ret
       exact ⟨by rw [HE.out];rfl,HK.out.drew⟩
      ·have hd0:decide (x < 0)=false:=by simpa using hx0
       have hd1:decide (15≤x)=false:=by simpa using hx1
       by_cases hj0:j=0
       ·have HF2:Hid (Ct (m.take (j+1))):=by show Ct _;rw [HA.out];exact rQ HF.out (by omega) (by rw [hj0];simp)
        have hj1:¬ 0 < (j:Int):=by omega
        have hj2:decide (0 < j)=false:=by simp;omega
        clear hj0 hSr;(go_wp2_with fail);refine wp_region_held_drew (S:=fun w'=>w'.cell? ⟨g,o+j,none⟩=some (.int .i64 x)) (by kernel_rfl) h0 (fun hHeld=>?_);refine aU [0,1,2,3,4,5,6,7,8,9,10,11,12,13,14,15] (by rfl) (by kernel_rfl) (fun _ _ _ _ _ h=>h) hHeld ?_
        iterate 16
         refine yk ?_ rfl (Or.inl ⟨by rfl,?_⟩) ?_;rotate_left
         ·intro w9 hSw;(try dsimp only at hSw);go_simp;(try with_reducible rfl)
         try simp only [sT,Act.put]
        refine aT ?_;simp only [au,sT];refine aU [16,17,18,19,20,21,22,23,24,25] (by rfl) (by kernel_rfl) (fun _ _ _ _ _ h=>h) hHeld ?_
        iterate 10
         refine yk undef rfl (Or.inr ⟨by rfl,rfl⟩) ?_;try simp only [sT,Act.put]
        refine aT ?_;simp only [au,sT];refine aU [26,27] (by rfl) (by kernel_rfl) (fun _ _ _ _ _ h=>h) hHeld ?_
        iterate 2
         refine yk ?_ rfl (Or.inl ⟨by rfl,?_⟩) ?_;rotate_left
         ·intro w9 hSw;(try dsimp only at hSw);go_simp;(try with_reducible rfl)
         try simp only [sT,Act.put]
        refine aT ?_;simp only [au,sT];(try simp only [sT,Act.put]);refine wpAnyH_done (by kernel_rfl) ?_ _;clear hHeld;(go_wp2_with fail);go_roundw
        case rel=>exact ⟨j+1,by go_num,hjS,HF2,HK.out.drew⟩
        case measure=>simp [intOf];omega
       ·obtain ⟨i,hi⟩:∃ i,j=i+1:=⟨j - 1,by omega⟩;have hji:IntKind.i64.wrap ((j:Int) - 1)=i:=by rw [IntWalk.i64_in _ (by omega)];omega
        have hin:(i:Int) < n:=by omega
        have hiS:i < m.length:=by omega
        have hj1:0 < (j:Int):=by omega
        have hj2:decide (0 < j)=true:=by simp;omega
        obtain ⟨g',o',he,h1⟩:=hSr.2.2.2 i hiS;cases he
        have HY:Hid (m[i]?=some m[i]):=List.getElem?_eq_getElem hiS
        have HLs:Hid ((m.take j).getLast?=some m[i]):=by
         show _=_;rw [List.getLast?_eq_getElem?,List.length_take,Nat.min_eq_left (by omega),List.getElem?_take,if_pos (by omega),show j - 1=i by omega];exact HY.out
        generalize m[i]=y at *;by_cases hxy:x≤y
        ·have hd3:decide (x≤y)=true:=by simpa using hxy
         have HE:Hid (decide (ea m)=false):=by
          show _=_;rw [decide_eq_false_iff_not];intro h;obtain ⟨q1,e1⟩:=List.getElem?_eq_some_iff.1 HX.out;obtain ⟨q2,e2⟩:=List.getElem?_eq_some_iff.1 HY.out;have:=List.pairwise_iff_getElem.1 h.2.1 i j q2 q1 (by omega)
          omega
         clear hi hSr;(go_wp2_with fail);refine wp_region_held_drew (S:=fun w'=>w'.cell? ⟨g,o+j,none⟩=some (.int .i64 x)∧w'.cell? ⟨g,o+i,none⟩=some (.int .i64 y)) (by kernel_rfl) ⟨h0,h1⟩ (fun hHeld=>?_);refine aU [0,1,2,3,4,5,6,7,8,9,10,11,12,13,14,15,16,17,18,19,20,21,22,23,24,25,26,27] (by rfl) (by kernel_rfl) (fun _ _ _ _ _ h=>h) hHeld ?_
         iterate 28
          refine yk ?_ rfl (Or.inl ⟨by rfl,?_⟩) ?_;rotate_left
          ·intro w9 hSw;(try dsimp only at hSw);go_simp;(try with_reducible rfl)
          try simp only [sT,Act.put]
         refine aT ?_;simp only [au,sT];(try simp only [sT,Act.put]);refine wpAnyH_done (by kernel_rfl) ?_ _;clear hHeld;(go_wp2_with fail);go_ret
         exact ⟨by rw [HE.out];rfl,HK.out.drew⟩
        ·have hd3:decide (x≤y)=false:=by simpa using hxy
         have HF2:Hid (Ct (m.take (j+1))):=by
          show Ct _;rw [HA.out];exact rQ HF.out (by omega) (fun z hz=>by rw [HLs.out] at hz;cases hz;omega)
         clear hi hSr;(go_wp2_with fail);refine wp_region_held_drew (S:=fun w'=>w'.cell? ⟨g,o+j,none⟩=some (.int .i64 x)∧w'.cell? ⟨g,o+i,none⟩=some (.int .i64 y)) (by kernel_rfl) ⟨h0,h1⟩ (fun hHeld=>?_);refine aU [0,1,2,3,4,5,6,7,8,9,10,11,12,13,14,15,16,17,18,19,20,21,22,23,24,25,26,27] (by rfl) (by kernel_rfl) (fun _ _ _ _ _ h=>h) hHeld ?_
         iterate 28
          refine yk ?_ rfl (Or.inl ⟨by rfl,?_⟩) ?_;rotate_left
          ·intro w9 hSw;(try dsimp only at hSw);go_simp;(try with_reducible rfl)
          try simp only [sT,Act.put]
         refine aT ?_;simp only [au,sT];(try simp only [sT,Act.put]);refine wpAnyH_done (by kernel_rfl) ?_ _;clear hHeld;(go_wp2_with fail);go_roundw
         case rel=>exact ⟨j+1,by go_num,hjS,HF2,HK.out.drew⟩
         case measure=>simp [intOf];omega
    ·have hlt':¬ (j:Int) < n:=by omega
     have HE:Hid (decide (ea m)=true):=by
      show _=_;rw [decide_eq_true_eq];have h:=HF.out;rw [List.take_of_length_le (by rw [HL.out];omega)] at h;exact ⟨List.ne_nil_of_length_pos (by rw [HL.out];omega),h.1,h.2⟩
     (go_wp2_with fail);go_ret
     exact ⟨by rw [HE.out];rfl,HK.out⟩
end Go.Proofs.YtgpnlidnbldiiaaGreat
