/-
  The document's own CopyEpochs, SameEpochs, at.
-/
import Derived.Test.YtgpnlidnbldiiaaGreatQ2r
import Derived.Test.YtgpnlidnbldiiaaGreatEdMemr
import Derived.Test.YtgpnlidnbldiiaaGreatW0r
set_option maxHeartbeats 8000000
set_option linter.unusedSimpArgs false
namespace Go.Proofs.YtgpnlidnbldiiaaGreat
open Go.RowKit
def RcP (w:World) (L:List Ep) (e:Ending) (w':World):Prop:=∃ v Y,e=.returned v∧RowA w.heap.size w' v Y∧OwnA w.heap.size w' Y∧Y.map Prod.fst=L∧Kept [] w w'
def CpI (w:World) (X:List (Ep × Value)) (n:Nat) (iv ov:Value) (wr:World):Prop:=∃ (j:Nat) (Y:List (Ep × Value)),iv=.int .i64 (j:Int)∧j≤n∧Hid (RowA w.heap.size wr ov Y)∧Hid (OwnA w.heap.size wr Y)∧Hid (Y.map Prod.fst=(X.take j).map Prod.fst)∧Hid (Kept [] w wr)
set_option maxRecDepth 100000 in
theorem rcopyE_call (w:World) (ao:Option Addr) (n c:Nat) (X:List (Ep × Value)) (hS:SlE w ao n c X) (hm:∀ x∈X,May x.1.m) (hn:n≤1000) :
 Calls Tryz.prog 67 #[.slice ao n c] w fun e w'=>RcP w (X.map Prod.fst) e w':=by
 have hc:=hS.2.1
 have hmx:=hS.2.2.1
 unfold maxLen at hmx
 have HS:=hide hS
 have HL:=hide hS.1
 have HM:=hide hm
 clear hS hm
 go_enter Tryz.func67,Tryz.ntmps67
 go_wp2_with fail
 go_loopw [4,3] (fun iv ov wr=>CpI w X n iv ov wr) (fun iv _ _=>n - (intOf iv).toNat)
 case atStart=>exact ⟨0,[],rfl,Nat.zero_le _,World.ownsRow_nil _ _ _ _,(fun _ h=>by cases h),(by simp [Hid]),Kept.refl _ _⟩
 case round =>
  obtain ⟨j,Y,rfl,hj,HRo,HOo,HMp,HK⟩:=hrel
  by_cases hlt:j < n
  ·have hlt':(j:Int) < n:=by omega
   have hjX:j < X.length:=by rw [HL.out];exact hlt
   have hYl:Y.length=j:=by
    have:=congrArg List.length HMp.out
    simp at this
    omega
   have HYl:=hide hYl
   obtain ⟨ga,oa,hae,z0,z1⟩:=HS.out.2.2.2.1 j hjX
   subst hae
   obtain ⟨so,sc,hv,hsl⟩:=HS.out.2.2.2.2 _ (List.getElem_mem hjX)
   have HNe:=hide (HM.out _ (List.getElem_mem hjX)).1
   have HLm:=hide (may_len (HM.out _ (List.getElem_mem hjX)))
   have HT:Hid (X.take (j+1)=X.take j++[X[j]]):=List.take_succ_eq_append_getElem hjX
   rw [hv] at z1
   have HSm:Hid (SlI wr so X[j].1.m.length sc X[j].1.m):=hsl.kept HK.out
   generalize X[j]=x at *
   obtain ⟨sn,hsn⟩:∃ sn,sn=x.1.m.length:=⟨_,rfl⟩
   rw [← hsn] at z1 HSm
   have y0:=HK.out.cell z0 (by simp)
   have y1:=HK.out.cell z1 (by simp)
   obtain ⟨ov,hov⟩:∃ o,o=u3:=⟨_,rfl⟩
   rw [← hov] at HRo ⊢
   clear hv hsl hsn hYl hjX hov
   go_wp2_with fail
   refine wp_region_held_drew (S:=fun w'=>w'.cell? ⟨ga,oa+j*2,none⟩=some (.int .i64 x.1.f)∧w'.cell? ⟨ga,oa+j*2+1,none⟩=some (.slice so sn sc)) (by kernel_rfl) ⟨y0,y1⟩ (fun hHeld=>?_)
   refine tks [0,1,2,3,4,5,7,8,9,10,11] (by rfl) (by kernel_rfl) (fun _ _ _ _ _ h=>h) hHeld ?_
   iterate 11
    refine yk ?_ rfl (Or.inl ⟨by rfl,?_⟩) ?_
    rotate_left
    ·intro w9 hSw;(try dsimp only at hSw);go_simp;(try with_reducible rfl)
    try simp only [sT,Act.put]
   refine yk0 ?_
   simp only [setK,sT]
   refine rd1 6 (by kernel_rfl) rfl (fun K0 hK0=>?_)
   go_simp
   obtain ⟨w2,hw2⟩:∃ w2,w2=(wr.alloc (.cells #[] 3)).drew:=⟨_,rfl⟩
   have HK2:Hid (Kept [] wr w2):=by show Kept _ _ _;rw [hw2];exact ((Kept.refl [] wr).alloc _).drew
   have HR2:Hid (RowI w.heap.size w2 (.slice (some ⟨wr.heap.size,0,none⟩) 0 0) []):=by show RowI _ _ _ _;rw [hw2];exact own_voidI wr _ HK.out.size
   go_wp2_with fail
   rw [← hw2]
   clear hw2
   refine hK0.out _ _ ⟨HK2.out.cell y0 (by simp),HK2.out.cell y1 (by simp)⟩ (fun hHeld=>?_)
   clear hK0 K0
   try simp only [sT,Act.put]
   refine rd1 12 (by kernel_rfl) rfl (fun K0 hK0=>?_)
   refine step_appI w.heap.size _ [] x.1.m so sn sc rfl HR2.out rfl (HSm.out.kept HK2.out) HNe.out (by simp;have:=HLm.out;omega) (Nat.le_trans HK.out.size HK2.out.size) ?_
   intro g3 n3 c3 w3 HR3 HG3
   have HK3:Hid (Kept [] wr w3):=HK2.out.grown HG3.out (fun k hk=>.inr (by cases hk;exact Nat.le_refl _))
   refine hK0.out _ _ ⟨HK3.out.cell y0 (by simp),HK3.out.cell y1 (by simp)⟩ (fun hHeld=>?_)
   clear hK0 K0
   try simp only [sT,Act.put]
   refine tks [13] (by rfl) (by kernel_rfl) (fun _ _ _ _ _ h=>h) hHeld ?_
   iterate 1
    refine yk ?_ rfl (Or.inl ⟨by rfl,?_⟩) ?_
    rotate_left
    ·intro w9 hSw;(try dsimp only at hSw);go_simp;(try with_reducible rfl)
    try simp only [sT,Act.put]
   refine yk0 ?_
   simp only [setK,sT]
   refine rd1 14 (by kernel_rfl) rfl (fun K0 hK0=>?_)
   go_simp
   obtain ⟨w4,hw4⟩:∃ w4,w4=w3.alloc (.cells #[.int .i64 x.1.f,.slice (some ⟨g3,0,none⟩) n3 c3] 134):=⟨_,rfl⟩
   have HK4:Hid (Kept [] wr w4):=by show Kept _ _ _;rw [hw4];exact HK3.out.alloc _
   have HK34:Hid (Kept [] w3 w4):=by show Kept _ _ _;rw [hw4];exact (Kept.refl [] w3).alloc _
   have HA4:Hid (w4.heap[w3.heap.size]?=some (.cells #[.int .i64 x.1.f,.slice (some ⟨g3,0,none⟩) n3 c3] 134 (0,0))):=by show _=_;rw [hw4];exact heap_alloc_new w3 _
   go_wp2_with fail
   rw [← hw4]
   clear hw4
   refine hK0.out _ _ ⟨HK4.out.cell y0 (by simp),HK4.out.cell y1 (by simp)⟩ (fun hHeld=>?_)
   clear hK0 K0
   try simp only [sT,Act.put]
   refine rd1 15 (by kernel_rfl) rfl (fun K0 hK0=>?_)
   refine step_appA w.heap.size ov Y x.1.f (some ⟨g3,0,none⟩) n3 c3 w3.heap.size rfl (HK4.out.ownsRow HRo.out (by simp)) rfl HA4.out (by have:=HYl.out;omega) (Nat.le_trans HK.out.size HK4.out.size) ?_
   intro g5 n5 c5 w5 HR5 HG5
   have HKg:Hid (Kept ov.ownBlock.toList w4 w5):=(Kept.refl _ _).grown HG5.out (fun k hk=>.inl (by simp [hk]))
   have HTy:Hid (Typed w4 ov.ownBlock.toList [134]):=fun k hk cur t mk hh=>by
    obtain ⟨cur',hh'⟩:=row_block (HK4.out.ownsRow HRo.out (by simp)) (mem_own.1 hk)
    rw [hh'] at hh;cases hh;simp
   have HK5:Hid (Kept [] w w5):=(HK.out.trans HK4.out (by simp)).trans HKg.out (fun k hk=>.inr (World.ownsRow.lt HRo.out k (mem_own.1 hk)).1)
   have HO5:Hid (OwnA w.heap.size w5 (Y++[(x.1,.slice (some ⟨g3,0,none⟩) n3 c3)])):=fun y hy=>by
    rcases List.mem_append.1 hy with hy | hy
    ·exact row_typed HKg.out HTy.out (HK4.out.ownsRow (HOo.out y hy) (by simp)) (by decide)
    ·rw [show y=(x.1,.slice (some ⟨g3,0,none⟩) n3 c3) by simpa using hy]
     exact row_typed HKg.out HTy.out (HK34.out.ownsRow HR3.out (by simp)) (by decide)
   refine hK0.out _ _ ⟨HK5.out.cell z0 (by simp),HK5.out.cell z1 (by simp)⟩ (fun hHeld=>?_)
   clear hK0 K0
   try simp only [sT,Act.put]
   refine tks [16] (by rfl) (by kernel_rfl) (fun _ _ _ _ _ h=>h) hHeld ?_
   iterate 1
    refine yk ?_ rfl (Or.inl ⟨by rfl,?_⟩) ?_
    rotate_left
    ·intro w9 hSw;(try dsimp only at hSw);go_simp;(try with_reducible rfl)
    try simp only [sT,Act.put]
   refine yk0 ?_
   simp only [setK,sT]
   try simp only [sT,Act.put]
   refine wpAnyH_done (by kernel_rfl) ?_ _
   clear hHeld
   go_wp2_with fail
   go_roundw
   case rel =>
    refine ⟨j+1,_,by go_num,by omega,HR5.out x.1.m,HO5,?_,HK5⟩
    show _=_
    rw [HT.out,List.map_append,List.map_append,HMp.out]
    rfl
   case measure=>simp [intOf];omega
  ·have hlt':¬ (j:Int) < n:=by omega
   have HE:Hid (X.take j=X):=List.take_of_length_le (by rw [HL.out];omega)
   go_wp2_with fail
   go_ret
   exact ⟨_,Y,rfl,HRo.out,HOo.out,by rw [HMp.out,HE.out],HK.out⟩
def SmI (w:World) (X Y:List (Ep × Value)) (n:Nat) (iv:Value) (wr:World):Prop:=∃ j:Nat,iv=.int .i64 (j:Int)∧j≤n∧Hid ((X.take j).map Prod.fst=(Y.take j).map Prod.fst)∧Hid (Kept [] w wr)
set_option maxRecDepth 100000 in
theorem sameE_call (w:World) (ao bo:Option Addr) (n c n2 c2:Nat) (X Y:List (Ep × Value)) (hS:SlE w ao n c X) (hT:SlE w bo n2 c2 Y) :
 Calls Tryz.prog 45 #[.slice ao n c,.slice bo n2 c2] w fun e w'=>e=.returned (.bool (decide (X.map Prod.fst=Y.map Prod.fst)))∧Kept [] w w':=by
 have hc:=hS.2.1
 have hmx:=hS.2.2.1
 unfold maxLen at hmx
 have HS:=hide hS
 have HT:=hide hT
 have HL:=hide hS.1
 have HL2:=hide hT.1
 clear hS hT
 by_cases hn:n=n2
 ·subst hn
  go_enter Tryz.func45,Tryz.ntmps45
  go_wp2_with fail
  go_loopw [5] (fun iv wr=>SmI w X Y n iv wr) (fun iv _=>n - (intOf iv).toNat)
  case atStart=>exact ⟨0,rfl,Nat.zero_le _,by simp [Hid],Kept.refl _ _⟩
  case round =>
   obtain ⟨j,rfl,hj,HN,HK⟩:=hrel
   by_cases hlt:j < n
   ·have hlt':(j:Int) < n:=by omega
    have hjX:j < X.length:=by rw [HL.out];exact hlt
    have hjY:j < Y.length:=by rw [HL2.out];exact hlt
    have hSr:=HS.out.kept HK.out
    have hTr:=HT.out.kept HK.out
    obtain ⟨ga,oa,hae,p0,p1⟩:=hSr.2.2.2.1 j hjX
    subst hae
    obtain ⟨gb,ob,hbe,q0,q1⟩:=hTr.2.2.2.1 j hjY
    subst hbe
    obtain ⟨xo,xc,hvx,hsx⟩:=hSr.2.2.2.2 _ (List.getElem_mem hjX)
    obtain ⟨yo,yc,hvy,hsy⟩:=hTr.2.2.2.2 _ (List.getElem_mem hjY)
    rw [hvx] at p1
    rw [hvy] at q1
    have HA:Hid (X.take (j+1)=X.take j++[X[j]]):=List.take_succ_eq_append_getElem hjX
    have HB:Hid (Y.take (j+1)=Y.take j++[Y[j]]):=List.take_succ_eq_append_getElem hjY
    have HX:Hid ((X.map Prod.fst)[j]?=some X[j].1):=by show _=_;simp [hjX]
    have HY:Hid ((Y.map Prod.fst)[j]?=some Y[j].1):=by show _=_;simp [hjY]
    have cI:=sameI_call wr.drew xo yo X[j].1.m.length xc Y[j].1.m.length yc X[j].1.m Y[j].1.m (hsx.kept (Kept.refl [] wr).drew) (hsy.kept (Kept.refl [] wr).drew)
    clear hSr hTr hvx hvy hsx hsy
    generalize X[j]=x at *
    generalize Y[j]=y at *
    have HXe:Hid (x.1=⟨x.1.f,x.1.m⟩):=rfl
    have HYe:Hid (y.1=⟨y.1.f,y.1.m⟩):=rfl
    generalize x.1.f=fx at *
    generalize y.1.f=fy at *
    generalize x.1.m=mx at *
    generalize y.1.m=my at *
    by_cases hf:fx=fy
    ·subst hf
     have hd0:(fx != fx)=false:=by simp
     by_cases hmm:mx=my
     ·subst hmm
      have HN2:Hid ((X.take (j+1)).map Prod.fst=(Y.take (j+1)).map Prod.fst):=by show _=_;rw [HA.out,HB.out,List.map_append,List.map_append,HN.out];simp [HXe.out,HYe.out]
      rw [show decide (mx=mx)=true by simp] at cI
      go_wp2_with fail
      refine wp_region_held_drew (S:=fun w'=>w'.cell? ⟨ga,oa+j*2,none⟩=some (.int .i64 fx)∧w'.cell? ⟨ga,oa+j*2+1,none⟩=some (.slice xo mx.length xc)∧w'.cell? ⟨gb,ob+j*2,none⟩=some (.int .i64 fx)∧w'.cell? ⟨gb,ob+j*2+1,none⟩=some (.slice yo mx.length yc)) (by kernel_rfl) ⟨p0,p1,q0,q1⟩ (fun hHeld=>?_)
      refine tks [0,1,2,3,4,5,6,7,8,9,10,11,12,13,14,15,16,17,18,19,20,21] (by rfl) (by kernel_rfl) (fun _ _ _ _ _ h=>h) hHeld ?_
      iterate 22
       refine yk ?_ rfl (Or.inl ⟨by rfl,?_⟩) ?_
       rotate_left
       ·intro w9 hSw;(try dsimp only at hSw);go_simp;(try with_reducible rfl)
       try simp only [sT,Act.put]
      refine yk0 ?_
      simp only [setK,sT]
      refine rd1 22 (by kernel_rfl) rfl (fun K0 hK0=>?_)
      go_simp
      refine cI.mono ?_
      rintro _ w3 ⟨rfl,hK3a⟩
      have HK3:Hid (Kept [] wr w3):=(Kept.refl [] wr).drew.trans hK3a (by simp)
      clear hK3a cI
      go_wp2_with fail
      refine hK0.out _ _ ⟨HK3.out.cell p0 (by simp),HK3.out.cell p1 (by simp),HK3.out.cell q0 (by simp),HK3.out.cell q1 (by simp)⟩ (fun hHeld=>?_)
      clear hK0 K0
      try simp only [sT,Act.put]
      refine tks [23,24] (by rfl) (by kernel_rfl) (fun _ _ _ _ _ h=>h) hHeld ?_
      iterate 2
       refine yk ?_ rfl (Or.inl ⟨by rfl,?_⟩) ?_
       rotate_left
       ·intro w9 hSw;(try dsimp only at hSw);go_simp;(try with_reducible rfl)
       try simp only [sT,Act.put]
      refine yk0 ?_
      simp only [setK,sT]
      try simp only [sT,Act.put]
      refine wpAnyH_done (by kernel_rfl) ?_ _
      clear hHeld
      go_wp2_with fail
      go_roundw
      case rel=>exact ⟨j+1,by go_num,by omega,HN2,HK.out.trans HK3.out (by simp)⟩
      case measure=>simp [intOf];omega
     ·rw [show decide (mx=my)=false by simpa using hmm] at cI
      have HE:Hid (decide (X.map Prod.fst=Y.map Prod.fst)=false):=by
       show _=_
       rw [decide_eq_false_iff_not]
       intro e
       have h1:=HX.out
       rw [e,HY.out,HXe.out,HYe.out] at h1
       exact hmm (by simpa using h1.symm)
      go_wp2_with fail
      refine wp_region_held_drew (S:=fun w'=>w'.cell? ⟨ga,oa+j*2,none⟩=some (.int .i64 fx)∧w'.cell? ⟨ga,oa+j*2+1,none⟩=some (.slice xo mx.length xc)∧w'.cell? ⟨gb,ob+j*2,none⟩=some (.int .i64 fx)∧w'.cell? ⟨gb,ob+j*2+1,none⟩=some (.slice yo my.length yc)) (by kernel_rfl) ⟨p0,p1,q0,q1⟩ (fun hHeld=>?_)
      refine tks [0,1,2,3,4,5,6,7,8,9,10,11,12,13,14,15,16,17,18,19,20,21] (by rfl) (by kernel_rfl) (fun _ _ _ _ _ h=>h) hHeld ?_
      iterate 22
       refine yk ?_ rfl (Or.inl ⟨by rfl,?_⟩) ?_
       rotate_left
       ·intro w9 hSw;(try dsimp only at hSw);go_simp;(try with_reducible rfl)
       try simp only [sT,Act.put]
      refine yk0 ?_
      simp only [setK,sT]
      refine rd1 22 (by kernel_rfl) rfl (fun K0 hK0=>?_)
      go_simp
      refine cI.mono ?_
      rintro _ w3 ⟨rfl,hK3a⟩
      have HK3:Hid (Kept [] wr w3):=(Kept.refl [] wr).drew.trans hK3a (by simp)
      clear hK3a cI
      go_wp2_with fail
      refine hK0.out _ _ ⟨HK3.out.cell p0 (by simp),HK3.out.cell p1 (by simp),HK3.out.cell q0 (by simp),HK3.out.cell q1 (by simp)⟩ (fun hHeld=>?_)
      clear hK0 K0
      try simp only [sT,Act.put]
      refine tks [23,24] (by rfl) (by kernel_rfl) (fun _ _ _ _ _ h=>h) hHeld ?_
      iterate 2
       refine yk ?_ rfl (Or.inl ⟨by rfl,?_⟩) ?_
       rotate_left
       ·intro w9 hSw;(try dsimp only at hSw);go_simp;(try with_reducible rfl)
       try simp only [sT,Act.put]
      refine yk0 ?_
      simp only [setK,sT]
      try simp only [sT,Act.put]
      refine wpAnyH_done (by kernel_rfl) ?_ _
      clear hHeld
      go_wp2_with fail
      go_ret
      exact ⟨by rw [HE.out];rfl,HK.out.trans HK3.out (by simp)⟩
    ·have hd0:(fx != fy)=true:=by simpa using hf
     have HE:Hid (decide (X.map Prod.fst=Y.map Prod.fst)=false):=by
      show _=_
      rw [decide_eq_false_iff_not]
      intro e
      have h1:=HX.out
      rw [e,HY.out,HXe.out,HYe.out] at h1
      exact hf ((by simpa using h1:fy=fx∧_).1).symm
     clear cI
     go_wp2_with fail
     refine wp_region_held_drew (S:=fun w'=>w'.cell? ⟨ga,oa+j*2,none⟩=some (.int .i64 fx)∧w'.cell? ⟨ga,oa+j*2+1,none⟩=some (.slice xo mx.length xc)∧w'.cell? ⟨gb,ob+j*2,none⟩=some (.int .i64 fy)∧w'.cell? ⟨gb,ob+j*2+1,none⟩=some (.slice yo my.length yc)) (by kernel_rfl) ⟨p0,p1,q0,q1⟩ (fun hHeld=>?_)
     refine tks [0,1,2,3,4,5,6,7,8,9,10,11] (by rfl) (by kernel_rfl) (fun _ _ _ _ _ h=>h) hHeld ?_
     iterate 12
      refine yk ?_ rfl (Or.inl ⟨by rfl,?_⟩) ?_
      rotate_left
      ·intro w9 hSw;(try dsimp only at hSw);go_simp;(try with_reducible rfl)
      try simp only [sT,Act.put]
     refine yk0 ?_
     simp only [setK,sT]
     refine wpAnyH_take (i:=12) (v:=undef) rfl (by kernel_rfl) (by kernel_rfl) (by kernel_rfl) (fun _ _ _ h=>h) (Or.inr ⟨by rfl,rfl⟩) hHeld ?_
     try simp only [sT,Act.put]
     refine wpAnyH_take (i:=13) (v:=undef) rfl (by kernel_rfl) (by kernel_rfl) (by kernel_rfl) (fun _ _ _ h=>h) (Or.inr ⟨by rfl,rfl⟩) hHeld ?_
     try simp only [sT,Act.put]
     refine wpAnyH_take (i:=14) (v:=undef) rfl (by kernel_rfl) (by kernel_rfl) (by kernel_rfl) (fun _ _ _ h=>h) (Or.inr ⟨by rfl,rfl⟩) hHeld ?_
     try simp only [sT,Act.put]
     refine wpAnyH_take (i:=15) (v:=undef) rfl (by kernel_rfl) (by kernel_rfl) (by kernel_rfl) (fun _ _ _ h=>h) (Or.inr ⟨by rfl,rfl⟩) hHeld ?_
     try simp only [sT,Act.put]
     refine wpAnyH_take (i:=16) (v:=undef) rfl (by kernel_rfl) (by kernel_rfl) (by kernel_rfl) (fun _ _ _ h=>h) (Or.inr ⟨by rfl,rfl⟩) hHeld ?_
     try simp only [sT,Act.put]
     refine wpAnyH_take (i:=17) (v:=undef) rfl (by kernel_rfl) (by kernel_rfl) (by kernel_rfl) (fun _ _ _ h=>h) (Or.inr ⟨by rfl,rfl⟩) hHeld ?_
     try simp only [sT,Act.put]
     refine wpAnyH_take (i:=18) (v:=undef) rfl (by kernel_rfl) (by kernel_rfl) (by kernel_rfl) (fun _ _ _ h=>h) (Or.inr ⟨by rfl,rfl⟩) hHeld ?_
     try simp only [sT,Act.put]
     refine wpAnyH_take (i:=19) (v:=undef) rfl (by kernel_rfl) (by kernel_rfl) (by kernel_rfl) (fun _ _ _ h=>h) (Or.inr ⟨by rfl,rfl⟩) hHeld ?_
     try simp only [sT,Act.put]
     refine wpAnyH_take (i:=20) (v:=undef) rfl (by kernel_rfl) (by kernel_rfl) (by kernel_rfl) (fun _ _ _ h=>h) (Or.inr ⟨by rfl,rfl⟩) hHeld ?_
     try simp only [sT,Act.put]
     refine wpAnyH_take (i:=21) (v:=undef) rfl (by kernel_rfl) (by kernel_rfl) (by kernel_rfl) (fun _ _ _ h=>h) (Or.inr ⟨by rfl,rfl⟩) hHeld ?_
     try simp only [sT,Act.put]
     refine wpAnyH_take (i:=22) (v:=undef) rfl (by kernel_rfl) (by kernel_rfl) (by kernel_rfl) (fun _ _ _ h=>h) (Or.inr ⟨by rfl,rfl⟩) hHeld ?_
     try simp only [sT,Act.put]
     refine wpAnyH_take (i:=23) (v:=undef) rfl (by kernel_rfl) (by kernel_rfl) (by kernel_rfl) (fun _ _ _ h=>h) (Or.inr ⟨by rfl,rfl⟩) hHeld ?_
     try simp only [sT,Act.put]
     refine tks [24] (by rfl) (by kernel_rfl) (fun _ _ _ _ _ h=>h) hHeld ?_
     iterate 1
      refine yk ?_ rfl (Or.inl ⟨by rfl,?_⟩) ?_
      rotate_left
      ·intro w9 hSw;(try dsimp only at hSw);go_simp;(try with_reducible rfl)
      try simp only [sT,Act.put]
     refine yk0 ?_
     simp only [setK,sT]
     try simp only [sT,Act.put]
     refine wpAnyH_done (by kernel_rfl) ?_ _
     clear hHeld
     go_wp2_with fail
     go_ret
     exact ⟨by rw [HE.out];rfl,HK.out.drew⟩
   ·have hlt':¬ (j:Int) < n:=by omega
    have HE:Hid (decide (X.map Prod.fst=Y.map Prod.fst)=true):=by
     show _=_
     have h:=HN.out
     rw [List.take_of_length_le (by rw [HL.out];omega),List.take_of_length_le (by rw [HL2.out];omega)] at h
     simpa using h
    go_wp2_with fail
    go_ret
    exact ⟨by rw [HE.out];rfl,HK.out⟩
 ·have hn':¬ (n:Int)=n2:=by omega
  have HE:Hid (decide (X.map Prod.fst=Y.map Prod.fst)=false):=by
   show _=_
   rw [decide_eq_false_iff_not]
   intro e
   have:=congrArg List.length e
   simp at this
   exact hn (HL.out.symm.trans (this.trans HL2.out))
  go_enter Tryz.func45,Tryz.ntmps45
  go_wp2_with fail
  go_ret
  exact ⟨by rw [HE.out];rfl,Kept.refl _ _⟩
def RaI (L:List Ep) (z:Int) (n:Nat) (iv kv:Value):Prop:=∃ j k:Nat,iv=.int .i64 (j:Int)∧kv=.int .i64 (k:Int)∧j≤n∧Hid (k=min j (cntL L z) - 1)
set_option maxRecDepth 100000 in
theorem rat_call (B:Nat) (w:World) (p:Nat) (al:Int) (L:List Ep) (h:EdA B w p al L) (hok:OkL L) (hl:L.length≤1000000) (z:Int) :
 Calls Tryz.prog 92 #[.pointer (some ⟨p,0,none⟩),.int .i64 z] w fun e w'=>e=.returned (.int .i64 (plc L z:Int))∧w=w':=by
 obtain ⟨g,cap,X,h1,hS,hX,_,_,_⟩:=h.open hok.1
 have c1:w.cell? ⟨p,1,none⟩=some (.slice (some ⟨g,0,none⟩) L.length cap):=cell_inC (k:=1) h1 rfl
 have HS:=hide hS
 have HX:=hide hX
 have HO:=hide hok.2.1
 have HP:Hid (plc L z=cntL L z - 1):=rfl
 have HC:=hide (cnt_le L z)
 generalize hln:L.length=n at c1 hl
 have HL:=hide hln
 clear h hok h1 hS hX hln
 go_enter Tryz.func92,Tryz.ntmps92
 go_wp2_with fail
 go_loop [6,5] (fun iv kv=>RaI L z n iv kv) (fun iv _=>n - (intOf iv).toNat)
 case atStart=>exact ⟨0,0,rfl,rfl,Nat.zero_le _,by show _=_;omega⟩
 case round =>
  obtain ⟨j,k,rfl,rfl,hj,HKk⟩:=hrel
  by_cases hlt:j < n
  ·have hlt':(j:Int) < n:=by omega
   have hjL:j < L.length:=by rw [HL.out];exact hlt
   have hjX:j < X.length:=by rw [HS.out.1];exact hjL
   obtain ⟨g2,o2,e2,y0,_⟩:=HS.out.2.2.2.1 j hjX
   cases e2
   rw [fst_at HX.out hjX hjL,Nat.zero_add] at y0
   have HI:=hide (cnt_iff HO.out z j hjL)
   generalize L[j].f=f at *
   by_cases hf:f≤z
   ·have HK2:Hid (j=min (j+1) (cntL L z) - 1):=by have:=HI.out.1 hf;show _=_;omega
    go_wp2_with fail
    go_round
    case rel=>exact ⟨j+1,j,by go_num,rfl,by omega,HK2⟩
    case measure=>simp [intOf];omega
   ·have HK2:Hid (k=min (j+1) (cntL L z) - 1):=by have h1:=HI.out.2;have h2:=HKk.out;show _=_;have:¬ j < cntL L z:=fun h=>hf (h1 h);omega
    go_wp2_with fail
    go_round
    case rel=>exact ⟨j+1,k,by go_num,rfl,by omega,HK2⟩
    case measure=>simp [intOf];omega
  ·have hlt':¬ (j:Int) < n:=by omega
   have HE:Hid (plc L z=k):=by show _=_;have h1:=HKk.out;have h2:=HC.out;have h3:=HL.out;rw [HP.out];omega
   go_wp2_with fail
   go_ret
   exact ⟨by rw [HE.out];rfl,rfl⟩
end Go.Proofs.YtgpnlidnbldiiaaGreat
