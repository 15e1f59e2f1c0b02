/-
  Texts of this claim that are laid as one: MtCl, MaClone, MdCl, MaClW.
-/
import Derived.Test.YtgpnlidnbldiiaaGreatQ2r
import Derived.Test.YtgpnlidnbldiiaaGreatW8r
import Derived.Test.YtgpnlidnbldiiaaGreatW1r
import Derived.Test.YtgpnlidnbldiiaaGreatM20r
import Derived.Test.YtgpnlidnbldiiaaGreatW2r
import Derived.Test.YtgpnlidnbldiiaaGreatEdCopyr
import Derived.Test.YtgpnlidnbldiiaaGreatMaApWr
set_option maxHeartbeats 32000000
set_option linter.unusedSimpArgs false
/-
 The document's own Table.Clone.
-/
namespace Go.Proofs.YtgpnlidnbldiiaaGreat
open Go.RowKit
def CloM (w:World) (sz:Nat) (L:List Se) (e:Ending) (w':World):Prop:=∃ b v X,e=.returned (.pointer (some ⟨b,0,none⟩))∧MtA (fun k=>w.heap.size≤k) w' b sz v X L∧Kept [] w w'∧∀ k∈ownT b v,w.heap.size≤k
def McI (w:World) (b sz n:Nat) (L:List Se) (iv:Value) (wr:World):Prop:=∃ (j:Nat) (v:Value) (X:List (Se × Value)),iv=.int .i64 (j:Int)∧j≤n∧Hid (MtA (fun k=>w.heap.size≤k) wr b sz v X (L.take j))∧Hid (Kept [] w wr)∧Hid (∀ k∈ownT b v,w.heap.size≤k)
set_option maxRecDepth 100000 in
theorem mcloneT_call {P:Nat→Prop}{w:World}{bt sz:Nat}{v:Value}{X:List (Se × Value)}{L:List Se}(hT:MtA P w bt sz v X L) (hl:L.length≤10000) (hok:∀ x∈L,okS x) :
 Calls Tryz.prog 66 #[.pointer (some ⟨bt,0,none⟩)] w fun e w'=>CloM w sz L e w':=by
 have hcom:=hT.ses
 have hat:=hT.at_
 obtain ⟨ao,c,rfl,hS⟩:=hT.row.t.sl (fun x hx=>(hT.own x hx).ko)
 obtain ⟨n,hn⟩:∃ n,n=X.length:=⟨_,rfl⟩
 rw [← hn] at hS hat
 have hc:=hS.2.1
 have hm:=hS.2.2.1
 unfold maxLen at hm
 have s0:=cell_inC (k:=0) hat rfl
 have HB1:Hid (w.cell? ⟨bt,1,none⟩=some (.slice ao n c)):=cell_inC (k:=1) hat rfl
 have HS:=hide hS
 have HL:=hide hS.1
 have HCom:=hide hcom
 have HOk:=hide hok
 have HCl:Hid (L.length=n):=by show _=_;rw [← hcom];simpa using hS.1
 have HNl:Hid (n≤10000):=by show _≤_;rw [← HCl.out];exact hl
 have HT1:=hide (MtA.new (P:=fun k=>w.heap.size≤k) w sz)
 have HK1:=hide ((Kept.refl [] w).alloc (.cells #[.int .i64 sz,.slice none 0 0] 96))
 clear hT hS hok hcom hn hat hl
 go_enter Tryz.func66,Tryz.ntmps66
 go_upto_region 3 with fail
 obtain ⟨w1,hw1⟩:∃ w1,w1=w.alloc (.cells #[.int .i64 sz,.slice none 0 0] 96):=⟨_,rfl⟩
 rw [← hw1] at HT1 HK1 ⊢
 obtain ⟨b,hb⟩:∃ b,b=w.heap.size:=⟨_,rfl⟩
 have HB:=hide hb
 replace HT1:Hid (MtA (fun k=>w.heap.size≤k) w1 b sz (.slice none 0 0) [] []):=by rw [hb];exact HT1
 rw [← hb]
 clear hw1 hb s0
 go_loopw [4] (fun iv wr=>McI w b sz n L iv wr) (fun iv _=>n - (intOf iv).toNat)
 case atStart=>exact ⟨0,_,_,rfl,Nat.zero_le _,HT1,HK1,fun k hk=>(by simp [ownT,Value.ownBlock] at hk;subst hk;exact Nat.le_of_eq HB.out.symm)⟩
 case round =>
  obtain ⟨j,v,X',rfl,hj,HT,HK,HV⟩:=hrel
  have t0:=HK.out.cell HB1.out (by simp)
  by_cases hlt:j < n
  ·have hlt':(j:Int) < n:=by omega
   have hjc:j≤c:=by omega
   have hjX:j < X.length:=by rw [HL.out];exact hlt
   have hjL:j < L.length:=by rw [HCl.out];exact hlt
   have hCk:=fst_get HCom.out hjX hjL
   have hSw:=HS.out.kept HK.out
   obtain ⟨g4,o4,he4,hx4⟩:=hSw.2.2.2.2.1 j hjX
   have hko:=hSw.2.2.2.2.2 _ (List.getElem_mem hjX)
   subst he4
   obtain ⟨y0,y1,y2,y3,y4,y5,y6,y7,y8,y9⟩:=hx4
   rw [hCk] at y0 y1 y2 y3 y4 y5 y6 y7 y9 hko
   obtain ⟨mo,mm,mc,hm2⟩:=hko.one
   rw [hm2] at y8 hko
   have HOx:=hide (HOk.out L[j] (List.getElem_mem hjL))
   obtain ⟨x,hxe⟩:∃ x,x=L[j]:=⟨_,rfl⟩
   have HX:Hid (L[j]?=some x):=by show _=_;rw [hxe];simp
   rw [← hxe] at y0 y1 y2 y3 y4 y5 y6 y7 y9 hko HOx
   have HKo:=hide hko
   have HLen:Hid ((L.take j).length=j):=by show _=_;simp;omega
   clear hSw hxe hCk hjX hm2 hko
   obtain ⟨ao3,c3,hv3,hc3,hm3,_,_⟩:=HT.out.row.t.shape
   obtain ⟨n3,hn3⟩:∃ n3,n3=X'.length:=⟨_,rfl⟩
   rw [← hn3] at hv3
   subst hv3
   have t1:=HT.out.cells.2
   have hlen:X'.length≤100000:=by rw [HT.out.len,HLen.out];have:=HNl.out;omega
   have cS:=rcopyS_call wr.drew x (.slice mo mm mc) (HKo.out.kept (Kept.refl [] wr).drew) HOx.out
   unfold seV at cS
   have HLe:Hid (X'.length+1≤1000000000):=by show _≤_;omega
   have HVb:Hid (w.heap.size≤b):=HV.out b (by simp [ownT])
   have HGl:Hid (g4 ∉ ownT b (.slice ao3 n3 c3)):=fun hm=>by
    have h:=HV.out _ hm
    have h2:=cell_lt (HS.out.2.2.2.2.1 j (by rw [HL.out];exact hlt))
    omega
   have HBl:Hid (bt ∉ ownT b (.slice ao3 n3 c3)):=fun hm=>by
    have h:=HV.out _ hm
    have h2:=cell_block HB1.out
    omega
   clear hlen hn3 hc3 hm3
   go_upto_region 5 with fail
   refine wp_region_held_drew (S:=fun w'=>w'.cell? ⟨bt,1,none⟩=some (.slice (some ⟨g4,o4,none⟩) n c)∧w'.cell? ⟨g4,o4+j*10,none⟩=some (.int .i64 x.i)∧w'.cell? ⟨g4,o4+j*10+1,none⟩=some (.int .i64 x.q)∧w'.cell? ⟨g4,o4+j*10+2,none⟩=some (.string (str x.n))∧w'.cell? ⟨g4,o4+j*10+3,none⟩=some (.int .i64 x.v.c)∧w'.cell? ⟨g4,o4+j*10+4,none⟩=some (.int .i64 x.v.s)∧w'.cell? ⟨g4,o4+j*10+5,none⟩=some (.int .i64 x.v.r)∧w'.cell? ⟨g4,o4+j*10+6,none⟩=some (.string (str x.v.p))∧w'.cell? ⟨g4,o4+j*10+7,none⟩=some (.int .u64 x.v.d)∧w'.cell? ⟨g4,o4+j*10+8,none⟩=some (.slice mo mm mc)∧w'.cell? ⟨g4,o4+j*10+9,none⟩=some (.int .i64 x.v.m)) (by kernel_rfl) ⟨t0,y0,y1,y2,y3,y4,y5,y6,y7,y8,y9⟩ (fun hHeld=>?_)
   refine tks [0,1,2,3,5,6,7,8,9,10,11] (by rfl) (by kernel_rfl) (fun _ _ _ _ _ h=>h) hHeld ?_
   iterate 11
    refine yk ?_ rfl (Or.inl ⟨by rfl,?_⟩) ?_
    rotate_left
    ·intro w9 hSw;(try dsimp only at hSw);go_simp;(try with_reducible rfl)
    try simp only [sT,Act.put]
   refine yk0 ?_
   simp only [setK,sT]
   refine wpAnyH_ready (rs:=[4,12]) (by kernel_rfl) (by simp) (AllReadyH.cons rfl (fun K0 hK0=>?_) (AllReadyH.cons rfl (fun K0 hK0=>?_) AllReadyH.nil))
   ·go_simp
    refine hK0.out _ _ hHeld (fun hHeld=>?_)
    clear hK0 K0
    try simp only [sT,Act.put]
    refine rd1 12 (by kernel_rfl) rfl (fun K0 hK0=>?_)
    go_simp
    refine (cS).mono ?_
    rintro _ w4 ⟨u4,rfl,hO4,hK4⟩
    obtain ⟨a4,n4,c4,rfl⟩:=hO4.ko.one
    have HO4:=hide hO4
    have HK4:=hide ((Kept.refl [] wr).drew.trans hK4 (by simp))
    have HKb:Hid (Kept [] wr (w4.alloc (.cells #[.int .i64 x.i,.int .i64 x.q,.string (str x.n),.int .i64 x.v.c,.int .i64 x.v.s,.int .i64 x.v.r,.string (str x.v.p),.int .u64 x.v.d,.slice a4 n4 c4,.int .i64 x.v.m] 155))):=HK4.out.alloc _
    have HNw:=se_news (x:=(x,.slice a4 n4 c4)) rfl (heap_alloc_new w4 (.cells #[.int .i64 x.i,.int .i64 x.q,.string (str x.n),.int .i64 x.v.c,.int .i64 x.v.s,.int .i64 x.v.r,.string (str x.v.p),.int .u64 x.v.d,.slice a4 n4 c4,.int .i64 x.v.m] 155))
    replace t1:=HK4.out.cell t1 (by simp)
    clear hO4 hK4
    go_wp2_with fail
    refine hK0.out _ _ ⟨HK4.out.cell t0 (by simp),HK4.out.cell y0 (by simp),HK4.out.cell y1 (by simp),HK4.out.cell y2 (by simp),HK4.out.cell y3 (by simp),HK4.out.cell y4 (by simp),HK4.out.cell y5 (by simp),HK4.out.cell y6 (by simp),HK4.out.cell y7 (by simp),HK4.out.cell y8 (by simp),HK4.out.cell y9 (by simp)⟩ (fun hHeld=>?_)
    clear hK0 K0
    try simp only [sT,Act.put]
    refine rd1 13 (by kernel_rfl) rfl (fun K0 hK0=>?_)
    go_simp
    refine hK0.out _ _ ⟨HKb.out.cell t0 (by simp),HKb.out.cell y0 (by simp),HKb.out.cell y1 (by simp),HKb.out.cell y2 (by simp),HKb.out.cell y3 (by simp),HKb.out.cell y4 (by simp),HKb.out.cell y5 (by simp),HKb.out.cell y6 (by simp),HKb.out.cell y7 (by simp),HKb.out.cell y8 (by simp),HKb.out.cell y9 (by simp)⟩ (fun hHeld=>?_)
    clear hK0 K0
    try simp only [sT,Act.put]
    refine rd1 14 (by kernel_rfl) rfl (fun K0 hK0=>?_)
    refine step_appS (by rfl) _ _ (by rfl) 0 _ X' (by simp [Act.eval]) (HT.out.kept HKb.out).row ⟨w4.heap.size,0,none⟩ 1 1 [(x,.slice a4 n4 c4)] (by simp [Act.eval]) rfl HNw (by intro y hy;simp at hy;subst hy;rfl) (by omega) HLe.out (Nat.zero_le _) ?_
    intro g5 n5 c5 w5 hR5 hg5 hat5
    have hP5:=(HT.out.kept HKb.out).push (x:=x) ((HO4.out.toP (P:=fun k=>w.heap.size≤k) (fun j hj=>Nat.le_trans HK.out.size hj)).kept ((Kept.refl [] w4).alloc _)) hR5 hg5 hat5
    have HE:Hid (MtA (fun k=>w.heap.size≤k) (w5.setCell ⟨b,1,none⟩ (.slice (some ⟨g5,0,none⟩) n5 c5)) b sz (.slice (some ⟨g5,0,none⟩) n5 c5) (X'++[(x,.slice a4 n4 c4)]) (L.take (j+1))):=by show MtA _ _ _ _ _ _ _;rw [take_next HX.out];exact hP5.1
    have HKe:Hid (Kept [] w (w5.setCell ⟨b,1,none⟩ (.slice (some ⟨g5,0,none⟩) n5 c5))):=(HK.out.trans HKb.out (by simp)).trans hP5.2.1 (fun k hk=>.inr (HV.out k hk))
    have HVe:Hid (∀ k∈ownT b (.slice (some ⟨g5,0,none⟩) n5 c5),w.heap.size≤k):=fun k hk=>by
     rcases List.mem_cons.1 hk with rfl | hk
     ·exact HVb.out
     ·rw [show k=g5 by simpa [Value.ownBlock] using hk]
      rcases hat5 with e | e
      ·exact HV.out _ (by simp [ownT,e])
      ·rw [e];exact (HK.out.trans HKb.out (by simp)).size
    have HKr:Hid (Kept (ownT b (.slice ao3 n3 c3)) wr w5):=(HKb.out.mono (by simp)).grown hg5 (fun k hk=>.inl (by simp [ownT,hk]))
    have HKs:Hid (Kept (ownT b (.slice ao3 n3 c3)) wr (w5.setCell ⟨b,1,none⟩ (.slice (some ⟨g5,0,none⟩) n5 c5))):=HKr.out.setCell (.inl (by simp [ownT])) _
    have f5:=hP5.2.2
    have c5b:=cell_inC (k:=1) f5 rfl
    have fz5:=froz3 f5 1
    have hgl:g4 ∉ ownT b (.slice ao3 n3 c3):=HGl.out
    have hbl:bt ∉ ownT b (.slice ao3 n3 c3):=HBl.out
    clear hR5 hg5 hat5 hP5 f5
    refine hK0.out _ _ ⟨HKr.out.cell t0 hbl,HKr.out.cell y0 hgl,HKr.out.cell y1 hgl,HKr.out.cell y2 hgl,HKr.out.cell y3 hgl,HKr.out.cell y4 hgl,HKr.out.cell y5 hgl,HKr.out.cell y6 hgl,HKr.out.cell y7 hgl,HKr.out.cell y8 hgl,HKr.out.cell y9 hgl⟩ (fun hHeld=>?_)
    clear hK0 K0
    try simp only [sT,Act.put]
    refine tks [15,16] (by rfl) (by kernel_rfl) (fun _ _ _ _ _ h=>h) hHeld ?_
    iterate 2
     refine yk ?_ rfl (Or.inl ⟨by rfl,?_⟩) ?_
     rotate_left
     ·intro w9 hSw;(try dsimp only at hSw);go_simp;(try with_reducible rfl)
     try simp only [sT,Act.put]
    refine yk0 ?_
    simp only [setK,sT]
    refine rd1 17 (by kernel_rfl) rfl (fun K0 hK0=>?_)
    go_simp
    obtain ⟨w6,hw6⟩:∃ w6,w6=w5.setCell ⟨b,1,none⟩ (.slice (some ⟨g5,0,none⟩) n5 c5):=⟨_,rfl⟩
    rw [← hw6] at HE HKe HKs ⊢
    refine hK0.out _ _ ⟨HKs.out.cell t0 hbl,HKs.out.cell y0 hgl,HKs.out.cell y1 hgl,HKs.out.cell y2 hgl,HKs.out.cell y3 hgl,HKs.out.cell y4 hgl,HKs.out.cell y5 hgl,HKs.out.cell y6 hgl,HKs.out.cell y7 hgl,HKs.out.cell y8 hgl,HKs.out.cell y9 hgl⟩ (fun hHeld=>?_)
    refine wpAnyH_done (by kernel_rfl) ?_ _
    clear hHeld hK0 K0 hw6 t1 y0 y1 y2 y3 y4 y5 y6 y7 y8 y9 c5b fz5 t0
    go_wp2_with fail
    go_roundw
    case rel=>exact ⟨j+1,_,_,by go_num,by omega,HE,HKe,HVe⟩
    case measure=>simp [intOf];omega
   ·go_simp
    refine (cS).mono ?_
    rintro _ w4 ⟨u4,rfl,hO4,hK4⟩
    obtain ⟨a4,n4,c4,rfl⟩:=hO4.ko.one
    have HO4:=hide hO4
    have HK4:=hide ((Kept.refl [] wr).drew.trans hK4 (by simp))
    have HKb:Hid (Kept [] wr (w4.alloc (.cells #[.int .i64 x.i,.int .i64 x.q,.string (str x.n),.int .i64 x.v.c,.int .i64 x.v.s,.int .i64 x.v.r,.string (str x.v.p),.int .u64 x.v.d,.slice a4 n4 c4,.int .i64 x.v.m] 155))):=HK4.out.alloc _
    have HNw:=se_news (x:=(x,.slice a4 n4 c4)) rfl (heap_alloc_new w4 (.cells #[.int .i64 x.i,.int .i64 x.q,.string (str x.n),.int .i64 x.v.c,.int .i64 x.v.s,.int .i64 x.v.r,.string (str x.v.p),.int .u64 x.v.d,.slice a4 n4 c4,.int .i64 x.v.m] 155))
    replace t1:=HK4.out.cell t1 (by simp)
    clear hO4 hK4
    go_wp2_with fail
    refine hK0.out _ _ ⟨HK4.out.cell t0 (by simp),HK4.out.cell y0 (by simp),HK4.out.cell y1 (by simp),HK4.out.cell y2 (by simp),HK4.out.cell y3 (by simp),HK4.out.cell y4 (by simp),HK4.out.cell y5 (by simp),HK4.out.cell y6 (by simp),HK4.out.cell y7 (by simp),HK4.out.cell y8 (by simp),HK4.out.cell y9 (by simp)⟩ (fun hHeld=>?_)
    clear hK0 K0
    try simp only [sT,Act.put]
    refine wpAnyH_ready (rs:=[4,13]) (by kernel_rfl) (by simp) (AllReadyH.cons rfl (fun K0 hK0=>?_) (AllReadyH.cons rfl (fun K0 hK0=>?_) AllReadyH.nil))
    ·go_simp
     refine hK0.out _ _ hHeld (fun hHeld=>?_)
     clear hK0 K0
     try simp only [sT,Act.put]
     refine rd1 13 (by kernel_rfl) rfl (fun K0 hK0=>?_)
     go_simp
     refine hK0.out _ _ ⟨HKb.out.cell t0 (by simp),HKb.out.cell y0 (by simp),HKb.out.cell y1 (by simp),HKb.out.cell y2 (by simp),HKb.out.cell y3 (by simp),HKb.out.cell y4 (by simp),HKb.out.cell y5 (by simp),HKb.out.cell y6 (by simp),HKb.out.cell y7 (by simp),HKb.out.cell y8 (by simp),HKb.out.cell y9 (by simp)⟩ (fun hHeld=>?_)
     clear hK0 K0
     try simp only [sT,Act.put]
     refine rd1 14 (by kernel_rfl) rfl (fun K0 hK0=>?_)
     refine step_appS (by rfl) _ _ (by rfl) 0 _ X' (by simp [Act.eval]) (HT.out.kept HKb.out).row ⟨w4.heap.size,0,none⟩ 1 1 [(x,.slice a4 n4 c4)] (by simp [Act.eval]) rfl HNw (by intro y hy;simp at hy;subst hy;rfl) (by omega) HLe.out (Nat.zero_le _) ?_
     intro g5 n5 c5 w5 hR5 hg5 hat5
     have hP5:=(HT.out.kept HKb.out).push (x:=x) ((HO4.out.toP (P:=fun k=>w.heap.size≤k) (fun j hj=>Nat.le_trans HK.out.size hj)).kept ((Kept.refl [] w4).alloc _)) hR5 hg5 hat5
     have HE:Hid (MtA (fun k=>w.heap.size≤k) (w5.setCell ⟨b,1,none⟩ (.slice (some ⟨g5,0,none⟩) n5 c5)) b sz (.slice (some ⟨g5,0,none⟩) n5 c5) (X'++[(x,.slice a4 n4 c4)]) (L.take (j+1))):=by show MtA _ _ _ _ _ _ _;rw [take_next HX.out];exact hP5.1
     have HKe:Hid (Kept [] w (w5.setCell ⟨b,1,none⟩ (.slice (some ⟨g5,0,none⟩) n5 c5))):=(HK.out.trans HKb.out (by simp)).trans hP5.2.1 (fun k hk=>.inr (HV.out k hk))
     have HVe:Hid (∀ k∈ownT b (.slice (some ⟨g5,0,none⟩) n5 c5),w.heap.size≤k):=fun k hk=>by
      rcases List.mem_cons.1 hk with rfl | hk
      ·exact HVb.out
      ·rw [show k=g5 by simpa [Value.ownBlock] using hk]
       rcases hat5 with e | e
       ·exact HV.out _ (by simp [ownT,e])
       ·rw [e];exact (HK.out.trans HKb.out (by simp)).size
     have HKr:Hid (Kept (ownT b (.slice ao3 n3 c3)) wr w5):=(HKb.out.mono (by simp)).grown hg5 (fun k hk=>.inl (by simp [ownT,hk]))
     have HKs:Hid (Kept (ownT b (.slice ao3 n3 c3)) wr (w5.setCell ⟨b,1,none⟩ (.slice (some ⟨g5,0,none⟩) n5 c5))):=HKr.out.setCell (.inl (by simp [ownT])) _
     have f5:=hP5.2.2
     have c5b:=cell_inC (k:=1) f5 rfl
     have fz5:=froz3 f5 1
     have hgl:g4 ∉ ownT b (.slice ao3 n3 c3):=HGl.out
     have hbl:bt ∉ ownT b (.slice ao3 n3 c3):=HBl.out
     clear hR5 hg5 hat5 hP5 f5
     refine hK0.out _ _ ⟨HKr.out.cell t0 hbl,HKr.out.cell y0 hgl,HKr.out.cell y1 hgl,HKr.out.cell y2 hgl,HKr.out.cell y3 hgl,HKr.out.cell y4 hgl,HKr.out.cell y5 hgl,HKr.out.cell y6 hgl,HKr.out.cell y7 hgl,HKr.out.cell y8 hgl,HKr.out.cell y9 hgl⟩ (fun hHeld=>?_)
     clear hK0 K0
     try simp only [sT,Act.put]
     refine tks [15,16] (by rfl) (by kernel_rfl) (fun _ _ _ _ _ h=>h) hHeld ?_
     iterate 2
      refine yk ?_ rfl (Or.inl ⟨by rfl,?_⟩) ?_
      rotate_left
      ·intro w9 hSw;(try dsimp only at hSw);go_simp;(try with_reducible rfl)
      try simp only [sT,Act.put]
     refine yk0 ?_
     simp only [setK,sT]
     refine rd1 17 (by kernel_rfl) rfl (fun K0 hK0=>?_)
     go_simp
     obtain ⟨w6,hw6⟩:∃ w6,w6=w5.setCell ⟨b,1,none⟩ (.slice (some ⟨g5,0,none⟩) n5 c5):=⟨_,rfl⟩
     rw [← hw6] at HE HKe HKs ⊢
     refine hK0.out _ _ ⟨HKs.out.cell t0 hbl,HKs.out.cell y0 hgl,HKs.out.cell y1 hgl,HKs.out.cell y2 hgl,HKs.out.cell y3 hgl,HKs.out.cell y4 hgl,HKs.out.cell y5 hgl,HKs.out.cell y6 hgl,HKs.out.cell y7 hgl,HKs.out.cell y8 hgl,HKs.out.cell y9 hgl⟩ (fun hHeld=>?_)
     refine wpAnyH_done (by kernel_rfl) ?_ _
     clear hHeld hK0 K0 hw6 t1 y0 y1 y2 y3 y4 y5 y6 y7 y8 y9 c5b fz5 t0
     go_wp2_with fail
     go_roundw
     case rel=>exact ⟨j+1,_,_,by go_num,by omega,HE,HKe,HVe⟩
     case measure=>simp [intOf];omega
    ·go_simp
     refine hK0.out _ _ ⟨HKb.out.cell t0 (by simp),HKb.out.cell y0 (by simp),HKb.out.cell y1 (by simp),HKb.out.cell y2 (by simp),HKb.out.cell y3 (by simp),HKb.out.cell y4 (by simp),HKb.out.cell y5 (by simp),HKb.out.cell y6 (by simp),HKb.out.cell y7 (by simp),HKb.out.cell y8 (by simp),HKb.out.cell y9 (by simp)⟩ (fun hHeld=>?_)
     clear hK0 K0
     try simp only [sT,Act.put]
     replace t1:=((Kept.refl [] w4).alloc (.cells #[.int .i64 x.i,.int .i64 x.q,.string (str x.n),.int .i64 x.v.c,.int .i64 x.v.s,.int .i64 x.v.r,.string (str x.v.p),.int .u64 x.v.d,.slice a4 n4 c4,.int .i64 x.v.m] 155)).cell t1 (by simp)
     refine rd1 4 (by kernel_rfl) rfl (fun K0 hK0=>?_)
     go_simp
     refine hK0.out _ _ hHeld (fun hHeld=>?_)
     clear hK0 K0
     try simp only [sT,Act.put]
     refine rd1 14 (by kernel_rfl) rfl (fun K0 hK0=>?_)
     refine step_appS (by rfl) _ _ (by rfl) 0 _ X' (by simp [Act.eval]) (HT.out.kept HKb.out).row ⟨w4.heap.size,0,none⟩ 1 1 [(x,.slice a4 n4 c4)] (by simp [Act.eval]) rfl HNw (by intro y hy;simp at hy;subst hy;rfl) (by omega) HLe.out (Nat.zero_le _) ?_
     intro g5 n5 c5 w5 hR5 hg5 hat5
     have hP5:=(HT.out.kept HKb.out).push (x:=x) ((HO4.out.toP (P:=fun k=>w.heap.size≤k) (fun j hj=>Nat.le_trans HK.out.size hj)).kept ((Kept.refl [] w4).alloc _)) hR5 hg5 hat5
     have HE:Hid (MtA (fun k=>w.heap.size≤k) (w5.setCell ⟨b,1,none⟩ (.slice (some ⟨g5,0,none⟩) n5 c5)) b sz (.slice (some ⟨g5,0,none⟩) n5 c5) (X'++[(x,.slice a4 n4 c4)]) (L.take (j+1))):=by show MtA _ _ _ _ _ _ _;rw [take_next HX.out];exact hP5.1
     have HKe:Hid (Kept [] w (w5.setCell ⟨b,1,none⟩ (.slice (some ⟨g5,0,none⟩) n5 c5))):=(HK.out.trans HKb.out (by simp)).trans hP5.2.1 (fun k hk=>.inr (HV.out k hk))
     have HVe:Hid (∀ k∈ownT b (.slice (some ⟨g5,0,none⟩) n5 c5),w.heap.size≤k):=fun k hk=>by
      rcases List.mem_cons.1 hk with rfl | hk
      ·exact HVb.out
      ·rw [show k=g5 by simpa [Value.ownBlock] using hk]
       rcases hat5 with e | e
       ·exact HV.out _ (by simp [ownT,e])
       ·rw [e];exact (HK.out.trans HKb.out (by simp)).size
     have HKr:Hid (Kept (ownT b (.slice ao3 n3 c3)) wr w5):=(HKb.out.mono (by simp)).grown hg5 (fun k hk=>.inl (by simp [ownT,hk]))
     have HKs:Hid (Kept (ownT b (.slice ao3 n3 c3)) wr (w5.setCell ⟨b,1,none⟩ (.slice (some ⟨g5,0,none⟩) n5 c5))):=HKr.out.setCell (.inl (by simp [ownT])) _
     have f5:=hP5.2.2
     have c5b:=cell_inC (k:=1) f5 rfl
     have fz5:=froz3 f5 1
     have hgl:g4 ∉ ownT b (.slice ao3 n3 c3):=HGl.out
     have hbl:bt ∉ ownT b (.slice ao3 n3 c3):=HBl.out
     clear hR5 hg5 hat5 hP5 f5
     refine hK0.out _ _ ⟨HKr.out.cell t0 hbl,HKr.out.cell y0 hgl,HKr.out.cell y1 hgl,HKr.out.cell y2 hgl,HKr.out.cell y3 hgl,HKr.out.cell y4 hgl,HKr.out.cell y5 hgl,HKr.out.cell y6 hgl,HKr.out.cell y7 hgl,HKr.out.cell y8 hgl,HKr.out.cell y9 hgl⟩ (fun hHeld=>?_)
     clear hK0 K0
     try simp only [sT,Act.put]
     refine tks [15,16] (by rfl) (by kernel_rfl) (fun _ _ _ _ _ h=>h) hHeld ?_
     iterate 2
      refine yk ?_ rfl (Or.inl ⟨by rfl,?_⟩) ?_
      rotate_left
      ·intro w9 hSw;(try dsimp only at hSw);go_simp;(try with_reducible rfl)
      try simp only [sT,Act.put]
     refine yk0 ?_
     simp only [setK,sT]
     refine rd1 17 (by kernel_rfl) rfl (fun K0 hK0=>?_)
     go_simp
     obtain ⟨w6,hw6⟩:∃ w6,w6=w5.setCell ⟨b,1,none⟩ (.slice (some ⟨g5,0,none⟩) n5 c5):=⟨_,rfl⟩
     rw [← hw6] at HE HKe HKs ⊢
     refine hK0.out _ _ ⟨HKs.out.cell t0 hbl,HKs.out.cell y0 hgl,HKs.out.cell y1 hgl,HKs.out.cell y2 hgl,HKs.out.cell y3 hgl,HKs.out.cell y4 hgl,HKs.out.cell y5 hgl,HKs.out.cell y6 hgl,HKs.out.cell y7 hgl,HKs.out.cell y8 hgl,HKs.out.cell y9 hgl⟩ (fun hHeld=>?_)
     refine wpAnyH_done (by kernel_rfl) ?_ _
     clear hHeld hK0 K0 hw6 t1 y0 y1 y2 y3 y4 y5 y6 y7 y8 y9 c5b fz5 t0
     go_wp2_with fail
     go_roundw
     case rel=>exact ⟨j+1,_,_,by go_num,by omega,HE,HKe,HVe⟩
     case measure=>simp [intOf];omega
  ·have hlt':¬ (j:Int) < n:=by omega
   have HE:Hid (MtA (fun k=>w.heap.size≤k) wr b sz v X' L):=by have h:=HT.out;rw [List.take_of_length_le (by rw [HCl.out];omega)] at h;exact h
   go_wp2_with fail
   go_ret
   exact ⟨b,v,X',rfl,HE.out,HK.out,HV.out⟩
variable {w0 w : World} {F D : List Nat} {b : Nat} {p : Pl} {al : Int} {sz : Nat} {m : Ma}
theorem eCloneC (h:LiveM w0 w F D b p al sz m) (hl:m.e.length≤1000):Calls Tryz.prog 62 #[.pointer (some ⟨p.e,0,none⟩)] w fun e w'=>∃ q:Nat,e=.returned (.pointer (some ⟨q,0,none⟩))∧Hid (EpA w.heap.size w' q al m.e)∧Hid (Kept [] w w'):=by
 obtain ⟨S,vt,X,h1,_,_,_,_,h6⟩:=h
 exact (cloneE_call _ w p.e al m.e h1.e h6.e (by omega)).mono fun _ _ ⟨q,a,c,d⟩=>⟨q,a,c,d⟩
def TcP (w:World) (sz:Nat) (L:List Se) (q:Nat) (w':World):Prop:=∃ v X,TbA (fun k=>k < w.heap.size) w' q sz v X L∧w.heap.size≤q
theorem tCloneC (h:LiveM w0 w F D b p al sz m):Calls Tryz.prog 63 #[.pointer (some ⟨p.t,0,none⟩)] w fun e w'=>∃ q:Nat,e=.returned (.pointer (some ⟨q,0,none⟩))∧Hid (TcP w sz m.s q w')∧Hid (Kept [] w w'):=by
 obtain ⟨S,vt,X,h1,_,_,_,_,h6⟩:=h
 have ht:TbA (fun k=>k < w.heap.size) w p.t sz vt X m.s:=⟨h1.t.at_,h1.t.pos,h1.t.row,fun x hx=>⟨(h1.t.own x hx).1,fun j hj=>ko_block (h1.t.own x hx) hj⟩,h1.t.ses⟩
 exact (cloneT_call ht).mono fun _ _ ⟨q,a,c,d,e⟩=>⟨q,a,⟨vt,X,c,e⟩,d⟩
theorem gCloneC (h:LiveM w0 w F D b p al sz m) (hl:m.g.cs.length≤10000):Calls Tryz.prog 64 #[.pointer (some ⟨p.g,0,none⟩)] w fun e w'=>∃ q:Nat,e=.returned (.pointer (some ⟨q,0,none⟩))∧Hid (∃ S,GAt w' q S m.g∧∀ k∈S,w.heap.size≤k)∧Hid (Kept [] w w'):=by
 obtain ⟨S,vt,X,h1,_,_,_,_,h6⟩:=h
 obtain ⟨v,q,t,mb,K,hG,_⟩:=h1.g
 exact (gclone_call hG hl).mono fun _ _ ⟨q,S,a,c,d,e⟩=>⟨q,a,⟨S,c,e⟩,d⟩
theorem clone_live {w W1 w2 w3 w4 w7:World}{bn qe qt qg:Nat}{al:Int}{sz:Nat}{m:Ma}(hw:MaW sz al m) (hW1:Kept [] w W1) (hb:w.heap.size≤bn) (hblt:bn < W1.heap.size) (hE:EpA W1.heap.size w2 qe al m.e) (hK2:Kept [] W1 w2) (hT:TcP w2 sz m.s qt w3) (hK3:Kept [] w2 w3) (hG:∃ S,GAt w4 qg S m.g∧∀ k∈S,w3.heap.size≤k) (hK4:Kept [] w3 w4)
 (hat:w7.heap[bn]?=some (.cells #[.int .i64 al,.int .i64 (sz:Int),.int .i64 m.a,.pointer (some ⟨qe,0,none⟩),.pointer (some ⟨qt,0,none⟩),.pointer (some ⟨qg,0,none⟩)] 70 (0,0))) {vs:Array Value}(hB4:w4.heap[bn]?=some (.cells vs 70 (0,0))) (hK7:Kept [bn] w4 w7):∃ F',LiveM w w7 F' [] bn ⟨qe,qt,qg⟩ al sz m:=by
 obtain ⟨S,hg,hS⟩:=hG
 obtain ⟨v,X,ht,hqt⟩:=hT
 have z1:=hW1.size
 have z2:=hK2.size
 have z3:=hK3.size
 have z4:=hK4.size
 have hTy:Typed w4 [bn] [70]:=typed1 hB4
 have h24:=hK3.trans hK4 (by simp)
 refine ⟨_,S,v,X,⟨hat,hg.keep hK7 (fun i hi hm=>?_) hTy (by decide) (by decide) (by decide),?_,?_⟩,rfl,((hW1.trans hK2 (by simp)).trans h24 (by simp)).trans hK7 (fun i hi=>.inr (by simp at hi;omega)),fun k hk=>?_,(fun k hk=>by cases hk),hw⟩
 ·rw [List.mem_singleton] at hm
  have:=hS i hi;omega
 ·have h1:=(ht.kept hK4).keep hK7 (fun i hi hm=>?_) hTy (by decide) (by decide)
  ·exact ⟨h1.at_,h1.pos,h1.row,fun x hx=>⟨(h1.own x hx).1,fun j hj=>⟨fun hm=>by have:=(h1.own x hx).2 j hj;have:=hS j hm;omega,by simp⟩⟩,h1.ses⟩
  ·rw [List.mem_singleton] at hm
   rw [hm] at hi
   obtain ⟨cur,t,hh,htt⟩:=(ht.kept hK4).typed hi
   rw [hB4] at hh
   cases hh
   rcases htt with e | e <;> simp at e
 ·have h1:=(hE.kept h24).keep hK7 hTy (by decide) (by decide)
  obtain ⟨v',e1,e2,e3⟩:=h1
  exact ⟨v',by show w.heap.size≤qe;omega,e2,row_mono e3 z1⟩
 ·rcases List.mem_cons.1 hk with e | hk
  ·rw [e];exact hb
  ·rcases List.mem_cons.1 hk with e | hk
   ·rw [e];show w.heap.size≤qt;omega
   ·have:=hS k hk;omega
set_option maxRecDepth 100000 in
theorem mClone_call (h:LiveM w0 w F D b p al sz m) (hl:m.g.cs.length≤10000) (he:m.e.length≤1000):Calls Tryz.prog 25 #[.pointer (some ⟨b,0,none⟩)] w fun e w'=>∃ (bn:Nat) (q:Pl),e=.returned (.pointer (some ⟨bn,0,none⟩))∧Hid (∃ F',LiveM w w' F' [] bn q al sz m):=by
 obtain ⟨W1,hW1⟩:∃ W1,W1=w.alloc (.cells #[.int .i64 al,.int .i64 (sz:Int),.int .i64 m.a,.pointer (some ⟨p.e,0,none⟩),.pointer (some ⟨p.t,0,none⟩),.pointer (some ⟨p.g,0,none⟩)] 70):=⟨_,rfl⟩
 have hK1:Kept [] w W1:=by rw [hW1];exact (Kept.refl _ _).alloc _
 have HN1:Hid (W1.heap[w.heap.size]?=some (.cells #[.int .i64 al,.int .i64 (sz:Int),.int .i64 m.a,.pointer (some ⟨p.e,0,none⟩),.pointer (some ⟨p.t,0,none⟩),.pointer (some ⟨p.g,0,none⟩)] 70 (0,0))):=by rw [hW1];exact heap_alloc_new w _
 have cM:=madeM_call h
 obtain ⟨m0,m1,m2,m3,m4,m5⟩:=h.cells
 have HW:=hide h.w
 have hblt:=lt_of_at h.at
 have HL1:=hide (h.kept hK1)
 have HK1:=hide hK1
 have HGl:=hide hl
 have HEl:=hide he
 have cE:=fun W (hk:Kept [] W1 W)=>eCloneC (HL1.out.kept hk) HEl.out
 have cT:=fun W (hk:Kept [] W1 W)=>tCloneC (HL1.out.kept hk)
 have cG:=fun W (hk:Kept [] W1 W)=>gCloneC (HL1.out.kept hk) HGl.out
 clear h hK1 hl he
 go_enter Tryz.func25,Tryz.ntmps25
 go_wp2_with fail
 refine cM.mono ?_
 rintro _ W0 ⟨rfl,hW0⟩
 obtain rfl:=hW0.symm
 go_upto_region 4 with fail
 rw [← hW1]
 clear hW1 m0 m1 m2 m3 m4 m5 cM
 refine wp_region_held_drew (S:=fun w'=>McC w' b p al sz m.a) (by kernel_rfl) (HL1.out.kept (Kept.refl [] _).drew).cells (fun hHeld=>?_)
 refine tks [0,1,2,3,5,6,7,8,10,11,12,13] (by rfl) (by kernel_rfl) (fun _ _ _ _ _ h=>h) hHeld ?_
 iterate 12
  refine yk ?_ rfl (Or.inl ⟨by rfl,?_⟩) ?_
  rotate_left
  ·intro w9 hSw;obtain ⟨m0,m1,m2,m3,m4,m5⟩:=hSw;go_simp;(try with_reducible rfl)
  try simp only [sT,Act.put]
 refine yk0 ?_
 simp only [setK,sT]
 refine rd1 4 (by kernel_rfl) rfl (fun K0 hK0=>?_)
 go_simp
 refine (cE _ (Kept.refl [] _).drew).mono ?_
 rintro _ w2 ⟨qe,rfl,HE2,HK2⟩
 have hk2:=(Kept.refl [] W1).drew.trans HK2.out (by simp)
 go_wp2_with fail
 refine hK0.out _ _ (HL1.out.kept hk2).cells (fun hHeld=>?_)
 clear hK0 K0
 try simp only [sT,Act.put]
 refine rd1 9 (by kernel_rfl) rfl (fun K0 hK0=>?_)
 go_simp
 refine (cT _ hk2).mono ?_
 rintro _ w3 ⟨qt,rfl,HT3,HK3⟩
 have hk3:=hk2.trans HK3.out (by simp)
 go_wp2_with fail
 refine hK0.out _ _ (HL1.out.kept hk3).cells (fun hHeld=>?_)
 clear hK0 K0
 try simp only [sT,Act.put]
 refine rd1 14 (by kernel_rfl) rfl (fun K0 hK0=>?_)
 go_simp
 refine (cG _ hk3).mono ?_
 rintro _ w4 ⟨qg,rfl,HG4,HK4⟩
 have hk4:=hk3.trans HK4.out (by simp)
 go_wp2_with fail
 have hN4:=hk4.at HN1.out (by simp)
 have HN4:=hide hN4
 have x3:=cell_inC (k:=3) hN4 rfl
 have x4:=cell_inC (k:=4) hN4 rfl
 have x5:=cell_inC (k:=5) hN4 rfl
 have f3:=froz3 hN4 3
 have f4:=froz3 hN4 4
 have f5:=froz3 hN4 5
 have HC:Hid (∀ W7,Kept [w.heap.size] w4 W7→McC W7 b p al sz m.a):=fun W7 hk=>by
  have hat:=hk.at ((HL1.out.kept hk4).at) (by simp;omega)
  exact ⟨cell_inC (k:=0) hat rfl,cell_inC (k:=1) hat rfl,cell_inC (k:=2) hat rfl,cell_inC (k:=3) hat rfl,cell_inC (k:=4) hat rfl,cell_inC (k:=5) hat rfl⟩
 have HK12:=hide hk2
 clear hk2 hk3 hN4
 refine hK0.out _ _ (HL1.out.kept hk4).cells (fun hHeld=>?_)
 clear hK0 K0
 try simp only [sT,Act.put]
 refine tks [15] (by rfl) (by kernel_rfl) (fun _ _ _ _ _ h=>h) hHeld ?_
 iterate 1
  refine yk ?_ rfl (Or.inl ⟨by rfl,?_⟩) ?_
  rotate_left
  ·intro w9 hSw;obtain ⟨m0,m1,m2,m3,m4,m5⟩:=hSw;go_simp;(try with_reducible rfl)
  try simp only [sT,Act.put]
 refine yk0 ?_
 simp only [setK,sT]
 refine rd1 16 (by kernel_rfl) rfl (fun K0 hK0=>?_)
 go_simp
 have hk5:Kept [w.heap.size] w4 (w4.setCell ⟨w.heap.size,3,none⟩ (.pointer (some ⟨qe,0,none⟩))):=(Kept.refl _ _).setCell (by simp) _
 refine hK0.out _ _ (HC.out _ hk5) (fun hHeld=>?_)
 clear hK0 K0
 try simp only [sT,Act.put]
 refine tks [17] (by rfl) (by kernel_rfl) (fun _ _ _ _ _ h=>h) hHeld ?_
 iterate 1
  refine yk ?_ rfl (Or.inl ⟨by rfl,?_⟩) ?_
  rotate_left
  ·intro w9 hSw;obtain ⟨m0,m1,m2,m3,m4,m5⟩:=hSw;go_simp;(try with_reducible rfl)
  try simp only [sT,Act.put]
 refine yk0 ?_
 simp only [setK,sT]
 refine rd1 18 (by kernel_rfl) rfl (fun K0 hK0=>?_)
 go_simp
 have hk6:Kept [w.heap.size] w4 ((w4.setCell ⟨w.heap.size,3,none⟩ (.pointer (some ⟨qe,0,none⟩))).setCell ⟨w.heap.size,4,none⟩ (.pointer (some ⟨qt,0,none⟩))):=hk5.setCell (by simp) _
 refine hK0.out _ _ (HC.out _ hk6) (fun hHeld=>?_)
 clear hK0 K0
 try simp only [sT,Act.put]
 refine tks [19] (by rfl) (by kernel_rfl) (fun _ _ _ _ _ h=>h) hHeld ?_
 iterate 1
  refine yk ?_ rfl (Or.inl ⟨by rfl,?_⟩) ?_
  rotate_left
  ·intro w9 hSw;obtain ⟨m0,m1,m2,m3,m4,m5⟩:=hSw;go_simp;(try with_reducible rfl)
  try simp only [sT,Act.put]
 refine yk0 ?_
 simp only [setK,sT]
 refine rd1 20 (by kernel_rfl) rfl (fun K0 hK0=>?_)
 go_simp
 have hk7:Kept [w.heap.size] w4 (((w4.setCell ⟨w.heap.size,3,none⟩ (.pointer (some ⟨qe,0,none⟩))).setCell ⟨w.heap.size,4,none⟩ (.pointer (some ⟨qt,0,none⟩))).setCell ⟨w.heap.size,5,none⟩ (.pointer (some ⟨qg,0,none⟩))):=hk6.setCell (by simp) _
 refine hK0.out _ _ (HC.out _ hk7) (fun hHeld=>?_)
 clear hK0 K0
 try simp only [sT,Act.put]
 refine wpAnyH_done (by kernel_rfl) ?_ _
 clear hHeld
 have hat:(((w4.setCell ⟨w.heap.size,3,none⟩ (.pointer (some ⟨qe,0,none⟩))).setCell ⟨w.heap.size,4,none⟩ (.pointer (some ⟨qt,0,none⟩))).setCell ⟨w.heap.size,5,none⟩ (.pointer (some ⟨qg,0,none⟩))).heap[w.heap.size]?=some (.cells #[.int .i64 al,.int .i64 (sz:Int),.int .i64 m.a,.pointer (some ⟨qe,0,none⟩),.pointer (some ⟨qt,0,none⟩),.pointer (some ⟨qg,0,none⟩)] 70 (0,0)):=by
  have e1:=heap_setCell_same w4 w.heap.size 3 _ _ (.pointer (some ⟨qe,0,none⟩)) HN4.out
  have e2:=heap_setCell_same _ w.heap.size 4 _ _ (.pointer (some ⟨qt,0,none⟩)) e1
  have e3:=heap_setCell_same _ w.heap.size 5 _ _ (.pointer (some ⟨qg,0,none⟩)) e2
  simpa using e3
 have HLv:=hide (clone_live HW.out HK1.out (Nat.le_refl _) (lt_of_at HN1.out) HE2.out HK12.out HT3.out HK3.out HG4.out HK4.out hat HN4.out hk7)
 clear hat hk5 hk6 hk7 x3 x4 x5 f3 f4 f5
 go_wp2_with fail
 go_ret
 exact ⟨w.heap.size,_,rfl,HLv.out⟩
end Go.Proofs.YtgpnlidnbldiiaaGreat
namespace Go.Proofs.YtgpnlidnbldiiaaGreat
open Go.RowKit
theorem row_back {w:World}{cs:Array Value}{t:TypeId}{B e size n:Nat}{v:Value}{xs:List Value}(h:(w.alloc (.cells cs t)).ownsRow B e size v n xs) (ht:t≠e):w.ownsRow B e size v n xs:=by
 obtain ⟨h1,h2⟩:=h
 refine ⟨h1,h2.imp id ?_⟩
 rintro ⟨g,cap,cur,hv,hg,hh,r⟩
 refine ⟨g,cap,cur,hv,hg,?_,r⟩
 have hlt:=lt_of_at hh
 rw [World.size_alloc] at hlt
 by_cases hg2:g < w.heap.size
 ·rw [Below.heap_alloc _ _ _ hg2] at hh;exact hh
 ·obtain rfl:g=w.heap.size:=by omega
  rw [heap_alloc_new] at hh
  cases hh
  exact absurd rfl ht
theorem MAt.bare {w:World}{v0 v1 v2:Value}{M:List Nat}{G:Gr}(h:MAt (w.alloc (.cells #[v0,v1,v2] 82)) w.heap.size M G):∃ K,RowK 0 w v0 K∧OwnK 0 w K∧K.map Prod.fst=G.cs∧OwnL 0 w v1 G.ls∧OwnM 0 w v2 G.rs∧NilV G.ls v1∧M=ownM w.heap.size v0:=by
 obtain ⟨v,vL,vR,K,hG,hn,rfl⟩:=h
 have hat:=hG.at_
 rw [heap_alloc_new] at hat
 cases hat
 exact ⟨K,row_back hG.row (by decide),fun x hx=>row_back (hG.own x hx) (by decide),hG.com,row_back hG.lvs (by decide),row_back hG.rfs (by decide),hn,rfl⟩
theorem liveD_parts {w w1 w2 w3:World}{v0 v1 v2:Value}{K:List (Com × Value)}{m:Ma}{al:Int}{sz:Nat}{D:List Nat}(hD:∀ k∈D,k < w.heap.size) (hK1:Kept [] w w1) (hr:RowK 0 w1 v0 K) (ho:OwnK 0 w1 K) (hc:K.map Prod.fst=m.g.cs) (hls:OwnL 0 w1 v1 m.g.ls) (hrs:OwnM 0 w1 v2 m.g.rs) (hn:NilV m.g.ls v1) (hv:∀ k,v0.ownBlock=some k→w.heap.size≤k)
 {bt:Nat}{vt:Value}{X:List (Se × Value)}(hT:MtA (fun k=>w1.heap.size≤k) w2 bt sz vt X m.s) (hK2:Kept [] w1 w2) (hTv:∀ k∈ownT bt vt,w1.heap.size≤k) (hK3:Kept [] w2 w3) {pe:Nat}(hE:EdA w.heap.size w3 pe al m.e) (hw:MaW sz al m) (hs:1≤sz) :
 LiveD w (w3.alloc (.cells #[.int .i64 m.a,v0,v1,v2,.pointer (some ⟨bt,0,none⟩),.pointer (some ⟨pe,0,none⟩)] 84)) (ownD w3.heap.size bt v0 vt) D w3.heap.size ⟨pe,bt,0⟩ al sz m:=by
 have hK4:Kept [] w3 (w3.alloc (.cells #[.int .i64 m.a,v0,v1,v2,.pointer (some ⟨bt,0,none⟩),.pointer (some ⟨pe,0,none⟩)] 84)):=(Kept.refl _ _).alloc _
 have hKb:=hK3.trans hK4 (by simp)
 have hKa:=hK2.trans hKb (by simp)
 have hz1:=hK1.size
 have hz2:=hK2.size
 have hz3:=hK3.size
 refine ⟨v0,v1,v2,K,vt,X,⟨⟨heap_alloc_new w3 _,hKa.ownsRow hr (by simp),fun x hx=>hKa.ownsRow (ho x hx) (by simp),hc,hKa.ownsRow hls (by simp),hKa.ownsRow hrs (by simp)⟩,hn,?_,hE.kept hK4⟩,rfl,hK1.trans hKa (by simp),fun k hk=>?_,fun k hk=>(by have:=hD k hk;rw [World.size_alloc];omega),hw,hs⟩
 ·refine ⟨hKb.at hT.at_ (by simp),hKb.ownsRow hT.row (by simp),fun x hx=>(hT.own x hx).stay2 hKb (fun j cur hj hh=>⟨by simp,fun hm=>?_,fun hm=>(by have:=hD j hm;have h9:w1.heap.size≤j:=hj;omega)⟩) (typed_nil w2 []) (by simp),hT.ses⟩
  have hlt:=lt_of_at hh
  rcases List.mem_cons.1 hm with rfl | hm
  ·omega
  ·obtain ⟨cur',h'⟩:=row_block hr (mem_own.1 hm)
   have:=lt_of_at h'
   omega
 ·rcases List.mem_append.1 hk with hk | hk
  ·rcases List.mem_cons.1 hk with rfl | hk
   ·omega
   ·exact hv k (mem_own.1 hk)
  ·have:=hTv k hk;omega
structure CkC (b:Nat) (p:Pl) (a al:Int) (aC aL aR aE:Option Addr) (nC cC nL cL nR cR nE cE:Nat) (w:World):Prop where
 m0:w.cell? ⟨b,0,none⟩=some (.int .i64 a)
 m1:w.cell? ⟨b,1,none⟩=some (.slice aC nC cC)
 m2:w.cell? ⟨b,2,none⟩=some (.slice aL nL cL)
 m3:w.cell? ⟨b,3,none⟩=some (.slice aR nR cR)
 m4:w.cell? ⟨b,4,none⟩=some (.pointer (some ⟨p.t,0,none⟩))
 m5:w.cell? ⟨b,5,none⟩=some (.pointer (some ⟨p.e,0,none⟩))
 e0:w.cell? ⟨p.e,0,none⟩=some (.int .i64 al)
 e1:w.cell? ⟨p.e,1,none⟩=some (.slice aE nE cE)
theorem CkC.kept {w w':World}{b:Nat}{p:Pl}{a al:Int}{aC aL aR aE:Option Addr}{nC cC nL cL nR cR nE cE:Nat}(h:CkC b p a al aC aL aR aE nC cC nL cL nR cR nE cE w) (k:Kept [] w w'):CkC b p a al aC aL aR aE nC cC nL cL nR cR nE cE w' :=
 ⟨k.cell h.m0 (by simp),k.cell h.m1 (by simp),k.cell h.m2 (by simp),k.cell h.m3 (by simp),k.cell h.m4 (by simp),k.cell h.m5 (by simp),k.cell h.e0 (by simp),k.cell h.e1 (by simp)⟩
set_option maxRecDepth 100000 in
theorem dclone_call {w0 w:World}{M D:List Nat}{b:Nat}{p:Pl}{al:Int}{sz:Nat}{m:Ma}(h:LiveD w0 w M D b p al sz m) (hl:m.g.cs.length≤10000) (hel:m.e.length≤1000) {D2:List Nat}(hD2:∀ k∈D2,k < w.heap.size):Calls Tryz.prog 26 #[.pointer (some ⟨b,0,none⟩)] w fun e w'=>∃ b' p' M',e=.returned (.pointer (some ⟨b',0,none⟩))∧LiveD w w' M' D2 b' p' al sz m:=by
 obtain ⟨aC,aL,aR,nC,cC,nL,cL,nR,cR,K,hC,hG⟩:=h.open
 obtain ⟨v,vL,vR,K',vt,X,h1,_,_,_,_,h6,h7⟩:=id h
 obtain ⟨gE,cE,Y,e1,hE,hY,_,_,_⟩:=h1.e.open h6.e.1
 have HC:Hid (CkC b p m.a al aC aL aR (some ⟨gE,0,none⟩) nC cC nL cL nR cR m.e.length cE w):=⟨hC.m0,hC.m1,hC.m2,hC.m3,hC.m4,hC.m5,cell_inC (k:=0) e1 rfl,cell_inC (k:=1) e1 rfl⟩
 have cG:=fun W (hk:Kept [] w W)=>mclone2_call W aC aL aR nC cC nL cL nR cR (hG.kept hk).c hG.com (hG.kept hk).l (hG.kept hk).r h6.g.wf hl
 have cT:=fun W (hk:Kept [] w W)=>mcloneT_call (h1.t.kept hk) (by have:=h6.sl;have:=h6.z1;omega) h6.so
 have cEp:=fun W (hk:Kept [] w W)=>rcopyE_call W (some ⟨gE,0,none⟩) m.e.length cE Y (hE.kept hk) (fun x hx=>(h6.e.2.2 _ (by rw [← hY];exact List.mem_map_of_mem hx)).1) hel
 rw [hY] at cEp
 have HW:=hide h6
 have HS:=hide h7
 have HD2:=hide hD2
 clear h hD2 hC hG h1 h6 h7 e1 hE hY hl hel
 generalize m.e.length=nE at *
 go_enter Tryz.func26,Tryz.ntmps26
 go_upto_region 1 with fail
 try simp only [List.append_eq,List.cons_append,List.nil_append]
 have HK0:Hid (Kept [] w w.drew):=(Kept.refl [] _).drew
 refine wp_region_held_drew (S:=CkC b p m.a al aC aL aR (some ⟨gE,0,none⟩) nC cC nL cL nR cR nE cE) (by kernel_rfl) (HC.out.kept HK0.out) (fun hHeld=>?_)
 refine wpAnyH_list (fuel':=34) (l':=#[false,false,false,false,false,false,false,false,false,false,false,false,false,false,false,false,false,false,false,false,false,false,false,false,false,false,false,false,false,false,false,false,false,false]) (by rfl) (by rfl) ?_
 refine tks [0,1,2,3,4,5,6,7,9,10,11,12,14,15,16,17,18,19,20,21,22,23,24,25,26,27] (by rfl) (by kernel_rfl) (fun _ _ _ _ _ h=>h) hHeld ?_
 iterate 26
  refine yk ?_ rfl (Or.inl ⟨by rfl,?_⟩) ?_
  rotate_left
  ·intro w9 hSw;obtain ⟨m0,m1,m2,m3,m4,m5,e0,e1⟩:=hSw;go_simp;(try with_reducible rfl)
  try simp only [sT,Act.put]
 refine yk0 ?_
 simp only [setK,sT]
 refine rd1 8 (by kernel_rfl) rfl (fun K0 hK0=>?_)
 go_simp
 refine (cG _ HK0.out).mono ?_
 rintro _ w1 ⟨x0,y0,z0,x1,y1,z1,x2,y2,z2,rfl,⟨M1,hM1,hB1⟩,hK1⟩
 obtain ⟨K1,r1,o1,c1,l1,s1,n1,rfl⟩:=hM1.bare
 have HK1:=hide (HK0.out.trans hK1 (by simp))
 have HV1:Hid (∀ k,(Value.slice x0 y0 z0).ownBlock=some k→w.heap.size≤k):=fun k hk=>hB1 k (by simp [ownM,hk])
 have HP1:Hid (RowK 0 w1 (.slice x0 y0 z0) K1∧OwnK 0 w1 K1∧K1.map Prod.fst=m.g.cs∧OwnL 0 w1 (.slice x1 y1 z1) m.g.ls∧OwnM 0 w1 (.slice x2 y2 z2) m.g.rs∧NilV m.g.ls (.slice x1 y1 z1)):=⟨r1,o1,c1,l1,s1,n1⟩
 clear cG hM1 hB1 hK1 r1 o1 c1 l1 s1 n1
 go_wp2_with fail
 refine hK0.out _ _ (HC.out.kept HK1.out) (fun hHeld=>?_)
 clear hK0 K0
 try simp only [sT,Act.put]
 refine rd1 13 (by kernel_rfl) rfl (fun K0 hK0=>?_)
 go_simp
 refine (cT _ HK1.out).mono ?_
 rintro _ w2 ⟨bt,vt2,X2,rfl,hT2,hK2,hV2⟩
 have HT2:=hide hT2
 have HK2:=hide hK2
 have HV2:=hide hV2
 have HKb:=hide (HK1.out.trans hK2 (by simp))
 clear cT hT2 hK2 hV2
 go_wp2_with fail
 refine hK0.out _ _ (HC.out.kept HKb.out) (fun hHeld=>?_)
 clear hK0 K0
 try simp only [sT,Act.put]
 refine rd1 28 (by kernel_rfl) rfl (fun K0 hK0=>?_)
 go_simp
 refine (cEp _ HKb.out).mono ?_
 rintro _ w3 ⟨v3,Y3,rfl,hr3,ho3,hy3,hK3⟩
 obtain ⟨a3,c3,rfl,_⟩:=hr3.sl ho3
 have HR3:=hide hr3
 have HO3:=hide ho3
 have HY3:=hide hy3
 have HK3:=hide hK3
 have HKc:=hide (HKb.out.trans hK3 (by simp))
 generalize Y3.length=n3 at *
 clear cEp hr3 ho3 hy3 hK3
 go_wp2_with fail
 refine hK0.out _ _ (HC.out.kept HKc.out) (fun hHeld=>?_)
 clear hK0 K0
 try simp only [sT,Act.put]
 refine tks [29] (by rfl) (by kernel_rfl) (fun _ _ _ _ _ h=>h) hHeld ?_
 iterate 1
  refine yk ?_ rfl (Or.inl ⟨by rfl,?_⟩) ?_
  rotate_left
  ·intro w9 hSw;obtain ⟨m0,m1,m2,m3,m4,m5,e0,e1⟩:=hSw;go_simp;(try with_reducible rfl)
  try simp only [sT,Act.put]
 refine yk0 ?_
 simp only [setK,sT]
 refine rd1 30 (by kernel_rfl) rfl (fun K0 hK0=>?_)
 go_simp
 have hKd:Kept [] w3 (w3.alloc (.cells #[.int .i64 al,.slice a3 n3 c3] 94)):=(Kept.refl _ _).alloc _
 have HKd:=hide hKd
 have HE4:Hid (EdA w.heap.size (w3.alloc (.cells #[.int .i64 al,.slice a3 n3 c3] 94)) w3.heap.size al m.e):=⟨_,Y3,HKc.out.size,heap_alloc_new w3 _,hKd.ownsRow (row_mono HR3.out HKb.out.size) (by simp),fun x hx=>hKd.ownsRow (row_mono (HO3.out x hx) HKb.out.size) (by simp),HY3.out⟩
 obtain ⟨p1,p2,p3,p4,p5,p6⟩:=HP1.out
 have hF:=liveD_parts HD2.out HK1.out p1 p2 p3 p4 p5 p6 HV1.out HT2.out HK2.out HV2.out (HK3.out.trans hKd (by simp)) HE4.out HW.out HS.out
 rw [World.size_alloc] at hF
 have HF:=hide hF
 clear p1 p2 p3 p4 p5 p6 hKd hF
 refine hK0.out _ _ (HC.out.kept (HKc.out.trans HKd.out (by simp))) (fun hHeld=>?_)
 clear hK0 K0
 try simp only [sT,Act.put]
 refine tks [31] (by rfl) (by kernel_rfl) (fun _ _ _ _ _ h=>h) hHeld ?_
 iterate 1
  refine yk ?_ rfl (Or.inl ⟨by rfl,?_⟩) ?_
  rotate_left
  ·intro w9 hSw;obtain ⟨m0,m1,m2,m3,m4,m5,e0,e1⟩:=hSw;go_simp;(try with_reducible rfl)
  try simp only [sT,Act.put]
 refine yk0 ?_
 simp only [setK,sT]
 refine rd1 32 (by kernel_rfl) rfl (fun K0 hK0=>?_)
 go_simp
 refine hK0.out _ _ (HC.out.kept (HKc.out.trans (HKd.out.trans ((Kept.refl [] _).alloc _) (by simp)) (by simp))) (fun hHeld=>?_)
 clear hK0 K0
 try simp only [sT,Act.put]
 refine tks [33] (by rfl) (by kernel_rfl) (fun _ _ _ _ _ h=>h) hHeld ?_
 iterate 1
  refine yk ?_ rfl (Or.inl ⟨by rfl,?_⟩) ?_
  rotate_left
  ·intro w9 hSw;obtain ⟨m0,m1,m2,m3,m4,m5,e0,e1⟩:=hSw;go_simp;(try with_reducible rfl)
  try simp only [sT,Act.put]
 refine yk0 ?_
 simp only [setK,sT]
 try simp only [sT,Act.put]
 refine wpAnyH_done (by kernel_rfl) ?_ _
 clear hHeld
 go_wp2_with fail
 go_ret
 exact ⟨_,_,_,rfl,HF.out⟩
theorem two_fresh {W w2 w3:World}{F M:List Nat}{b c:Nat}{p q:Pl}{m:Ma}{cs:Array Value}{t:TypeId}(h1:LiveM W w2 F [] b p 2 3 m) (h2:LiveD (w2.alloc (.cells cs t)) w3 M F c q 2 3 m):Two W w3 ⟨b,p,c,q⟩ 2 3 m m (.slice none 0 0) :=
 two_new (h1.kept ((Kept.refl _ _).alloc _)) h2
theorem two_clones {w4 w5 w6:World}{F M:List Nat}{b c:Nat}{p q:Pl}{m:Ma}(h1:LiveM w4 w5 F [] b p 2 3 m) (h2:LiveD w5 w6 M F c q 2 3 m):Two w4 w6 ⟨b,p,c,q⟩ 2 3 m m (.slice none 0 0):=two_new h1 h2
set_option maxRecDepth 100000 in
theorem mclones_walk (W:World) (ao:Option Addr) (n c:Nat) (D:List Rm) (hD:SlR W ao n c D) (bo:Option Addr) (n2 c2:Nat) (E:List Rm) (hE:SlR W bo n2 c2 E) :
 Calls Tryz.prog 5 #[.slice ao n c,.slice bo n2 c2] W fun e w'=>e=.returned (.bool true)∧Kept [] W w':=by
 have cW:=awakeM_call W
 have hc:=hD.2.1
 have hmx:=hD.2.2.1
 unfold maxLen at hmx
 have hc2:=hE.2.1
 have hmx2:=hE.2.2.1
 unfold maxLen at hmx2
 have HD:=hide hD
 have HL:=hide hD.1
 have HE:=hide hE
 have HL2:=hide hE.1
 clear hD hE
 go_enter Tryz.func5,Tryz.ntmps5
 go_wp2_with fail
 refine cW.mono ?_
 rintro _ w1 ⟨rfl,hK1⟩
 have HK1:=hide hK1
 have cR:=roomR_call w1 ao n c D (HD.out.kept hK1) 60
 have cR2:=roomR_call w1 bo n2 c2 E (HE.out.kept hK1) 60
 rw [show ((60:Nat):Int)=60 from rfl] at cR cR2
 clear cW hK1
 by_cases hr:RoomR 60 D
 ·rw [roomR_ok hr] at cR
  have HR:=hide hr
  clear hr
  by_cases hr2:RoomR 60 E
  ·rw [roomR_ok hr2] at cR2
   have HR2:=hide hr2
   have cF:=fresh_call w1 [] (fun k hk=>by cases hk)
   clear hr2
   go_wp2_with fail
   refine cR.mono ?_
   rintro _ W0 ⟨rfl,hW0⟩
   obtain rfl:=hW0.symm
   clear cR
   go_wp2_with fail
   refine cR2.mono ?_
   rintro _ W0 ⟨rfl,hW0⟩
   obtain rfl:=hW0.symm
   clear cR2
   go_wp2_with fail
   refine cF.mono ?_
   rintro _ w2 ⟨b,p,F,rfl,hLv⟩
   have cD:=dnew_call (w2.alloc (.cells #[.int .i64 0,.int .i64 1,.int .i64 2] 3)) F (hLv.kept ((Kept.refl [] w2).alloc _)).lt _ 3 3 [0,1,2] (SlI.lit w2 [0,1,2] 3 #[.int .i64 0,.int .i64 1,.int .i64 2] 3 rfl rfl (by omega)) 2 3
   have HLv:=hide (hLv.elder HK1.out)
   clear hLv cF
   go_wp2_with fail
   refine cD.mono ?_
   rintro _ w3 (⟨_,bd,pd,M,rfl,hLd⟩ | ⟨hno,_⟩)
   ·have HTw:=hide (two_fresh HLv.out hLd)
    obtain ⟨z,hz⟩:∃ z:Pp,z=⟨b,p,bd,pd⟩:=⟨_,rfl⟩
    rw [← hz] at HTw
    obtain ⟨hzb,hzc⟩:b=z.b∧bd=z.c:=by rw [hz];exact ⟨rfl,rfl⟩
    rw [hzb,hzc]
    clear hLd cD hz hzb hzc HLv
    go_wp2_with fail
    go_loopw [8] (fun iv wr=>TwI W z 2 3 (newM [0,1,2]) D iv wr) (fun iv _=>n - (intOf iv).toNat)
    case atStart=>exact ⟨0,rfl,Nat.zero_le _,HTw⟩
    case round =>
     obtain ⟨i,rfl,hi,HTr⟩:=hrel
     have hil:i≤n:=by rw [← HL.out];exact hi
     by_cases hlt:i < n
     ·have hlt':(i:Int) < n:=by omega
      have hic:i≤c:=by omega
      have hiD:i < D.length:=by rw [HL.out];exact hlt
      obtain ⟨g,o,he,hat⟩:=HD.out.2.2.2.1 i hiD
      subst he
      have HX:Hid (RqOk W D[i]):=⟨HD.out.2.2.2.2 _ (List.getElem_mem hiD),HR.out.2 _ (List.getElem_mem hiD)⟩
      have HG:=hide (apG_take (al:=2) (sz:=3) (apG_new [0,1,2]) hi (by have:=HR.out.1;omega))
      have HN:Hid (i≤60):=by have:=HR.out.1;show _≤_;omega
      have HT:=hide (apAl_take (al:=2) (sz:=3) (m:=newM [0,1,2]) hiD)
      have HAt:=hide hat
      generalize D[i]=y at *
      generalize apAl 2 3 (newM [0,1,2]) (D.take i)=mi at *
      obtain ⟨c0,c1,c2,c3,c4,c5,c6,c7,c8,c9,c10⟩:=hat.kept HTr.out.keeps (by simp)
      have cA:=two_apply HTr.out (by have:=HG.out.g;have:=HN.out;omega) (by have:=HG.out.e;have:=HN.out;omega) y HX.out
      unfold rqV at cA
      clear hat
      go_wp2_with fail
      refine cA.mono ?_
      rintro _ w5 ⟨a5,n5,c5',rfl,_,HT5,_⟩
      have cB:=two_dapply HT5.out (by have:=HG.out.g;have:=HN.out;omega) (by have:=HG.out.e;have:=HN.out;omega) y HX.out
      unfold rqV at cB
      clear cA c0 c1 c2 c3 c4 c5 c6 c7 c8 c9 c10
      obtain ⟨c0,c1,c2,c3,c4,c5,c6,c7,c8,c9,c10⟩:=HAt.out.kept HT5.out.keeps (by simp)
      go_wp2_with fail
      refine cB.mono ?_
      rintro _ w6 ⟨a6,n6,c6',rfl,_,HT6,_⟩
      have HT7:=hide HT6.out.none
      rw [← HT.out] at HT7
      clear cB c0 c1 c2 c3 c4 c5 c6 c7 c8 c9 c10
      go_wp2_with fail
      go_roundw
      case rel=>exact ⟨i+1,by go_num,by omega,HT7⟩
      case measure=>simp [intOf];omega
     ·have hlt':¬ (i:Int) < n:=by omega
      have HG:=hide (apG_take (al:=2) (sz:=3) (apG_new [0,1,2]) hi (by have:=HR.out.1;omega))
      have HN:Hid (i≤60):=by have:=HR.out.1;show _≤_;omega
      generalize apAl 2 3 (newM [0,1,2]) (D.take i)=mi at *
      have cC:Calls Tryz.prog 25 #[.pointer (some ⟨z.b,0,none⟩)] wr fun e w'=>∃ (bn:Nat) (q:Pl),e=.returned (.pointer (some ⟨bn,0,none⟩))∧Hid (∃ F',LiveM wr w' F' [] bn q 2 3 mi):=by
       obtain ⟨F0,M0,h1,_⟩:=HTr.out
       exact mClone_call h1 (by have:=HG.out.g;have:=HN.out;omega) (by have:=HG.out.e;have:=HN.out;omega)
      go_wp2_with fail
      refine cC.mono ?_
      rintro _ w5 ⟨bn,q,rfl,HCl⟩
      obtain ⟨Fn,hLn⟩:=HCl.out
      have cE:Calls Tryz.prog 26 #[.pointer (some ⟨z.c,0,none⟩)] w5 fun e w'=>∃ b' p' M',e=.returned (.pointer (some ⟨b',0,none⟩))∧LiveD w5 w' M' Fn b' p' 2 3 mi:=by
       obtain ⟨F0,M0,_,h2,_⟩:=HTr.out.kept hLn.keeps
       exact dclone_call h2 (by have:=HG.out.g;have:=HN.out;omega) (by have:=HG.out.e;have:=HN.out;omega) hLn.lt
      have HLn:=hide hLn
      clear cC HCl hLn
      go_wp2_with fail
      refine cE.mono ?_
      rintro _ w6 ⟨bc,qc,Mc,rfl,hLc⟩
      have HTc:=hide (two_clones HLn.out hLc)
      obtain ⟨zc,hzc⟩:∃ zc:Pp,zc=⟨bn,q,bc,qc⟩:=⟨_,rfl⟩
      rw [← hzc] at HTc
      obtain ⟨hzb,hzd⟩:bn=zc.b∧bc=zc.c:=by rw [hzc];exact ⟨rfl,rfl⟩
      rw [hzb,hzd]
      have HNi:Hid (i≤60):=HN
      clear hLc cE hzc hzb hzd HLn
      obtain ⟨wq,hwq⟩:∃ wq,wq=wr:=⟨_,rfl⟩
      rw [← hwq] at HTc HTr
      clear hwq
      go_wp2_with fail
      go_loopw [11] (fun iv wt=>TwI wq zc 2 3 mi E iv wt) (fun iv _=>n2 - (intOf iv).toNat)
      case atStart=>exact ⟨0,rfl,Nat.zero_le _,HTc⟩
      case round =>
       obtain ⟨j,rfl,hj,HTj⟩:=hrel
       have hjl:j≤n2:=by rw [← HL2.out];exact hj
       by_cases hltj:j < n2
       ·have hltj':(j:Int) < n2:=by omega
        have hjc:j≤c2:=by omega
        have hjE:j < E.length:=by rw [HL2.out];exact hltj
        obtain ⟨g,o,he,hat⟩:=HE.out.2.2.2.1 j hjE
        subst he
        have HX:Hid (RqOk wq E[j]):=⟨(HE.out.2.2.2.2 _ (List.getElem_mem hjE)).kept HTr.out.keeps,HR2.out.2 _ (List.getElem_mem hjE)⟩
        have HGj:=hide (apG_take (al:=2) (sz:=3) HG.out hj (by have:=HR2.out.1;have:=HNi.out;omega))
        have HNj:Hid (j≤60):=by have:=HR2.out.1;show _≤_;omega
        have HT:=hide (apAl_take (al:=2) (sz:=3) (m:=mi) hjE)
        have HAt:=hide (hat.kept HTr.out.keeps (by simp))
        generalize E[j]=y at *
        generalize apAl 2 3 mi (E.take j)=mj at *
        obtain ⟨d0,d1,d2,d3,d4,d5,d6,d7,d8,d9,d10⟩:=HAt.out.kept HTj.out.keeps (by simp)
        have cA:=two_apply HTj.out (by have:=HGj.out.g;have:=HNi.out;have:=HNj.out;omega) (by have:=HGj.out.e;have:=HNi.out;have:=HNj.out;omega) y HX.out
        unfold rqV at cA
        clear hat
        go_wp2_with fail
        refine cA.mono ?_
        rintro _ w7 ⟨a7,n7,c7',rfl,_,HT7,_⟩
        have cB:=two_dapply HT7.out (by have:=HGj.out.g;have:=HNi.out;have:=HNj.out;omega) (by have:=HGj.out.e;have:=HNi.out;have:=HNj.out;omega) y HX.out
        unfold rqV at cB
        clear cA d0 d1 d2 d3 d4 d5 d6 d7 d8 d9 d10
        obtain ⟨d0,d1,d2,d3,d4,d5,d6,d7,d8,d9,d10⟩:=HAt.out.kept HT7.out.keeps (by simp)
        go_wp2_with fail
        refine cB.mono ?_
        rintro _ w8 ⟨a8,n8,c8',rfl,_,HT8,_⟩
        have HT9:=hide HT8.out.none
        rw [← HT.out] at HT9
        clear cB d0 d1 d2 d3 d4 d5 d6 d7 d8 d9 d10
        go_wp2_with fail
        go_roundw
        case rel=>exact ⟨j+1,by go_num,by omega,HT9⟩
        case measure=>simp [intOf];omega
       ·have hltj':¬ (j:Int) < n2:=by omega
        have HGj:=hide (apG_take (al:=2) (sz:=3) HG.out hj (by have:=HR2.out.1;have:=HNi.out;omega))
        have HNj:Hid (j≤60):=by have:=HR2.out.1;show _≤_;omega
        generalize apAl 2 3 mi (E.take j)=mj at *
        have cX:=two_looks (HTr.out.kept HTj.out.keeps) (by have:=HG.out.g;have:=HNi.out;omega) (by have:=HG.out.e;have:=HNi.out;omega)
        go_wp2_with fail
        refine cX.mono ?_
        rintro _ w9 ⟨rfl,HK9⟩
        have cY:=two_looks (HTj.out.kept HK9.out) (by have:=HGj.out.g;have:=HNi.out;have:=HNj.out;omega) (by have:=HGj.out.e;have:=HNi.out;have:=HNj.out;omega)
        clear cX
        go_wp2_with fail
        refine cY.mono ?_
        rintro _ w10 ⟨rfl,HK10⟩
        have HKe:=hide (((HTr.out.keeps.trans HTj.out.keeps (by simp)).trans HK9.out (by simp)).trans HK10.out (by simp))
        clear cY
        go_wp2_with fail
        go_ret
        exact ⟨rfl,HKe.out⟩
   ·exact absurd ⟨may3,by omega,by omega,by omega,by omega⟩ hno
  ·rw [roomR_no hr2] at cR2
   clear hr2
   go_wp2_with fail
   refine cR.mono ?_
   rintro _ W0 ⟨rfl,hW0⟩
   obtain rfl:=hW0.symm
   clear cR
   go_wp2_with fail
   refine cR2.mono ?_
   rintro _ W0 ⟨rfl,hW0⟩
   obtain rfl:=hW0.symm
   clear cR2
   go_wp2_with fail
   go_ret
   exact ⟨rfl,HK1.out⟩
 ·rw [roomR_no hr] at cR
  clear hr cR2
  go_wp2_with fail
  refine cR.mono ?_
  rintro _ W0 ⟨rfl,hW0⟩
  obtain rfl:=hW0.symm
  clear cR
  go_wp2_with fail
  go_ret
  exact ⟨rfl,HK1.out⟩
end Go.Proofs.YtgpnlidnbldiiaaGreat
