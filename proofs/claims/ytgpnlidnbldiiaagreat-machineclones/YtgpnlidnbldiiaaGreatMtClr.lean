/-
  The document's own Table.Clone.
-/
import Derived.Test.YtgpnlidnbldiiaaGreatQ2r
import Derived.Test.YtgpnlidnbldiiaaGreatW8r
namespace Go.Proofs.YtgpnlidnbldiiaaGreat
open Go.RowKit
def CloM (w:World) (sz:Nat) (L:List Se) (e:Ending) (w':World):Prop:=∃ b v X,e=.returned (.pointer (some ⟨b,0,none⟩))∧MtA (fun k=>w.heap.size≤k) w' b sz v X L∧Kept [] w w'∧∀ k∈ownT b v,w.heap.size≤k
def McI (w:World) (b sz n:Nat) (L:List Se) (iv:Value) (wr:World):Prop:=∃ (j:Nat) (v:Value) (X:List (Se × Value)),iv=.int .i64 (j:Int)∧j≤n∧Hid (MtA (fun k=>w.heap.size≤k) wr b sz v X (L.take j))∧Hid (Kept [] w wr)∧Hid (∀ k∈ownT b v,w.heap.size≤k)
set_option linter.unusedSimpArgs false in
set_option maxHeartbeats 16000000 in
set_option maxRecDepth 100000 in
theorem mcloneT_call {P:Nat→Prop}{w:World}{bt sz:Nat}{v:Value}{X:List (Se × Value)}{L:List Se}(hT:MtA P w bt sz v X L) (hl:L.length≤10000) (hok:∀ x∈L,okS x) :
 Calls Tryz.prog 66 #[.pointer (some ⟨bt,0,none⟩)] w fun e w'=>CloM w sz L e w':=by
 have hcom:=hT.ses
 have hat:=hT.at_
 obtain ⟨ao,c,rfl,hS⟩:=hT.row.t.sl (fun x hx=>(hT.own x hx).ko)
 obtain ⟨n,hn⟩:∃ n,n=X.length:=⟨_,rfl⟩
 rw [← hn] at hS hat
 have hc:=hS.2.1
 have hm:=hS.2.2.1
 unfold maxLen at hm
 have s0:=cell_inC (k:=0) hat rfl
 have HB1:Hid (w.cell? ⟨bt,1,none⟩=some (.slice ao n c)):=cell_inC (k:=1) hat rfl
 have HS:=hide hS
 have HL:=hide hS.1
 have HCom:=hide hcom
 have HOk:=hide hok
 have HCl:Hid (L.length=n):=by show _=_;rw [← hcom];simpa using hS.1
 have HNl:Hid (n≤10000):=by show _≤_;rw [← HCl.out];exact hl
 have HT1:=hide (MtA.new (P:=fun k=>w.heap.size≤k) w sz)
 have HK1:=hide ((Kept.refl [] w).alloc (.cells #[.int .i64 sz,.slice none 0 0] 96))
 clear hT hS hok hcom hn hat hl
 go_enter Tryz.func66,Tryz.ntmps66
 go_upto_region 3 with fail
 obtain ⟨w1,hw1⟩:∃ w1,w1=w.alloc (.cells #[.int .i64 sz,.slice none 0 0] 96):=⟨_,rfl⟩
 rw [← hw1] at HT1 HK1 ⊢
 obtain ⟨b,hb⟩:∃ b,b=w.heap.size:=⟨_,rfl⟩
 have HB:=hide hb
 replace HT1:Hid (MtA (fun k=>w.heap.size≤k) w1 b sz (.slice none 0 0) [] []):=by rw [hb];exact HT1
 rw [← hb]
 clear hw1 hb s0
 go_loopw [4] (fun iv wr=>McI w b sz n L iv wr) (fun iv _=>n - (intOf iv).toNat)
 case atStart=>exact ⟨0,_,_,rfl,Nat.zero_le _,HT1,HK1,fun k hk=>(by simp [ownT,Value.ownBlock] at hk;subst hk;exact Nat.le_of_eq HB.out.symm)⟩
 case round =>
  obtain ⟨j,v,X',rfl,hj,HT,HK,HV⟩:=hrel
  have t0:=HK.out.cell HB1.out (by simp)
  by_cases hlt:j < n
  ·have hlt':(j:Int) < n:=by omega
   have hjc:j≤c:=by omega
   have hjX:j < X.length:=by rw [HL.out];exact hlt
   have hjL:j < L.length:=by rw [HCl.out];exact hlt
   have hCk:=fst_get HCom.out hjX hjL
   have hSw:=HS.out.kept HK.out
   obtain ⟨g4,o4,he4,hx4⟩:=hSw.2.2.2.2.1 j hjX
   have hko:=hSw.2.2.2.2.2 _ (List.getElem_mem hjX)
   subst he4
   obtain ⟨y0,y1,y2,y3,y4,y5,y6,y7,y8,y9⟩:=hx4
   rw [hCk] at y0 y1 y2 y3 y4 y5 y6 y7 y9 hko
   obtain ⟨mo,mm,mc,hm2⟩:=hko.one
   rw [hm2] at y8 hko
   have HOx:=hide (HOk.out L[j] (List.getElem_mem hjL))
   obtain ⟨x,hxe⟩:∃ x,x=L[j]:=⟨_,rfl⟩
   have HX:Hid (L[j]?=some x):=by show _=_;rw [hxe];simp
   rw [← hxe] at y0 y1 y2 y3 y4 y5 y6 y7 y9 hko HOx
   have HKo:=hide hko
   have HLen:Hid ((L.take j).length=j):=by show _=_;simp;omega
   clear hSw hxe hCk hjX hm2 hko
   obtain ⟨ao3,c3,hv3,hc3,hm3,_,_⟩:=HT.out.row.t.shape
   obtain ⟨n3,hn3⟩:∃ n3,n3=X'.length:=⟨_,rfl⟩
   rw [← hn3] at hv3
   subst hv3
   have t1:=HT.out.cells.2
   have hlen:X'.length≤100000:=by rw [HT.out.len,HLen.out];have:=HNl.out;omega
   have cS:=rcopyS_call wr.drew x (.slice mo mm mc) (HKo.out.kept (Kept.refl [] wr).drew) HOx.out
   unfold seV at cS
   have HLe:Hid (X'.length+1≤1000000000):=by show _≤_;omega
   have HVb:Hid (w.heap.size≤b):=HV.out b (by simp [ownT])
   have HGl:Hid (g4 ∉ ownT b (.slice ao3 n3 c3)):=fun hm=>by
    have h:=HV.out _ hm
    have h2:=cell_lt (HS.out.2.2.2.2.1 j (by rw [HL.out];exact hlt))
    omega
   have HBl:Hid (bt ∉ ownT b (.slice ao3 n3 c3)):=fun hm=>by
    have h:=HV.out _ hm
    have h2:=cell_block HB1.out
    omega
   clear hlen hn3 hc3 hm3
   go_upto_region 5 with fail
   refine wp_region_held_drew (S:=fun w'=>w'.cell? ⟨bt,1,none⟩=some (.slice (some ⟨g4,o4,none⟩) n c)∧w'.cell? ⟨g4,o4+j*10,none⟩=some (.int .i64 x.i)∧w'.cell? ⟨g4,o4+j*10+1,none⟩=some (.int .i64 x.q)∧w'.cell? ⟨g4,o4+j*10+2,none⟩=some (.string (str x.n))∧w'.cell? ⟨g4,o4+j*10+3,none⟩=some (.int .i64 x.v.c)∧w'.cell? ⟨g4,o4+j*10+4,none⟩=some (.int .i64 x.v.s)∧w'.cell? ⟨g4,o4+j*10+5,none⟩=some (.int .i64 x.v.r)∧w'.cell? ⟨g4,o4+j*10+6,none⟩=some (.string (str x.v.p))∧w'.cell? ⟨g4,o4+j*10+7,none⟩=some (.int .u64 x.v.d)∧w'.cell? ⟨g4,o4+j*10+8,none⟩=some (.slice mo mm mc)∧w'.cell? ⟨g4,o4+j*10+9,none⟩=some (.int .i64 x.v.m)) (by kernel_rfl) ⟨t0,y0,y1,y2,y3,y4,y5,y6,y7,y8,y9⟩ (fun hHeld=>?_)
   refine tks [0,1,2,3,5,6,7,8,9,10,11] (by rfl) (by kernel_rfl) (fun _ _ _ _ _ h=>h) hHeld ?_
   iterate 11
    refine yk ?_ rfl (Or.inl ⟨by rfl,?_⟩) ?_
    rotate_left
    ·intro w9 hSw;(try dsimp only at hSw);go_simp;(try with_reducible rfl)
    try simp only [sT,Act.put]
   refine yk0 ?_
   simp only [setK,sT]
   refine wpAnyH_ready (rs:=[4,12]) (by kernel_rfl) (by simp) (AllReadyH.cons rfl (fun K0 hK0=>?_) (AllReadyH.cons rfl (fun K0 hK0=>?_) AllReadyH.nil))
   ·go_simp
    refine hK0.out _ _ hHeld (fun hHeld=>?_)
    clear hK0 K0
    try simp only [sT,Act.put]
    refine rd1 12 (by kernel_rfl) rfl (fun K0 hK0=>?_)
    go_simp
    refine (cS).mono ?_
    rintro _ w4 ⟨u4,rfl,hO4,hK4⟩
    obtain ⟨a4,n4,c4,rfl⟩:=hO4.ko.one
    have HO4:=hide hO4
    have HK4:=hide ((Kept.refl [] wr).drew.trans hK4 (by simp))
    have HKb:Hid (Kept [] wr (w4.alloc (.cells #[.int .i64 x.i,.int .i64 x.q,.string (str x.n),.int .i64 x.v.c,.int .i64 x.v.s,.int .i64 x.v.r,.string (str x.v.p),.int .u64 x.v.d,.slice a4 n4 c4,.int .i64 x.v.m] 155))):=HK4.out.alloc _
    have HNw:=se_news (x:=(x,.slice a4 n4 c4)) rfl (heap_alloc_new w4 (.cells #[.int .i64 x.i,.int .i64 x.q,.string (str x.n),.int .i64 x.v.c,.int .i64 x.v.s,.int .i64 x.v.r,.string (str x.v.p),.int .u64 x.v.d,.slice a4 n4 c4,.int .i64 x.v.m] 155))
    replace t1:=HK4.out.cell t1 (by simp)
    clear hO4 hK4
    go_wp2_with fail
    refine hK0.out _ _ ⟨HK4.out.cell t0 (by simp),HK4.out.cell y0 (by simp),HK4.out.cell y1 (by simp),HK4.out.cell y2 (by simp),HK4.out.cell y3 (by simp),HK4.out.cell y4 (by simp),HK4.out.cell y5 (by simp),HK4.out.cell y6 (by simp),HK4.out.cell y7 (by simp),HK4.out.cell y8 (by simp),HK4.out.cell y9 (by simp)⟩ (fun hHeld=>?_)
    clear hK0 K0
    try simp only [sT,Act.put]
    refine rd1 13 (by kernel_rfl) rfl (fun K0 hK0=>?_)
    go_simp
    refine hK0.out _ _ ⟨HKb.out.cell t0 (by simp),HKb.out.cell y0 (by simp),HKb.out.cell y1 (by simp),HKb.out.cell y2 (by simp),HKb.out.cell y3 (by simp),HKb.out.cell y4 (by simp),HKb.out.cell y5 (by simp),HKb.out.cell y6 (by simp),HKb.out.cell y7 (by simp),HKb.out.cell y8 (by simp),HKb.out.cell y9 (by simp)⟩ (fun hHeld=>?_)
    clear hK0 K0
    try simp only [sT,Act.put]
    refine rd1 14 (by kernel_rfl) rfl (fun K0 hK0=>?_)
    refine step_appS (by rfl) _ _ (by rfl) 0 _ X' (by simp [Act.eval]) (HT.out.kept HKb.out).row ⟨w4.heap.size,0,none⟩ 1 1 [(x,.slice a4 n4 c4)] (by simp [Act.eval]) rfl HNw (by intro y hy;simp at hy;subst hy;rfl) (by omega) HLe.out (Nat.zero_le _) ?_
    intro g5 n5 c5 w5 hR5 hg5 hat5
    have hP5:=(HT.out.kept HKb.out).push (x:=x) ((HO4.out.toP (P:=fun k=>w.heap.size≤k) (fun j hj=>Nat.le_trans HK.out.size hj)).kept ((Kept.refl [] w4).alloc _)) hR5 hg5 hat5
    have HE:Hid (MtA (fun k=>w.heap.size≤k) (w5.setCell ⟨b,1,none⟩ (.slice (some ⟨g5,0,none⟩) n5 c5)) b sz (.slice (some ⟨g5,0,none⟩) n5 c5) (X'++[(x,.slice a4 n4 c4)]) (L.take (j+1))):=by show MtA _ _ _ _ _ _ _;rw [take_next HX.out];exact hP5.1
    have HKe:Hid (Kept [] w (w5.setCell ⟨b,1,none⟩ (.slice (some ⟨g5,0,none⟩) n5 c5))):=(HK.out.trans HKb.out (by simp)).trans hP5.2.1 (fun k hk=>.inr (HV.out k hk))
    have HVe:Hid (∀ k∈ownT b (.slice (some ⟨g5,0,none⟩) n5 c5),w.heap.size≤k):=fun k hk=>by
     rcases List.mem_cons.1 hk with rfl | hk
     ·exact HVb.out
     ·rw [show k=g5 by simpa [Value.ownBlock] using hk]
      rcases hat5 with e | e
      ·exact HV.out _ (by simp [ownT,e])
      ·rw [e];exact (HK.out.trans HKb.out (by simp)).size
    have HKr:Hid (Kept (ownT b (.slice ao3 n3 c3)) wr w5):=(HKb.out.mono (by simp)).grown hg5 (fun k hk=>.inl (by simp [ownT,hk]))
    have HKs:Hid (Kept (ownT b (.slice ao3 n3 c3)) wr (w5.setCell ⟨b,1,none⟩ (.slice (some ⟨g5,0,none⟩) n5 c5))):=HKr.out.setCell (.inl (by simp [ownT])) _
    have f5:=hP5.2.2
    have c5b:=cell_inC (k:=1) f5 rfl
    have fz5:=froz3 f5 1
    have hgl:g4 ∉ ownT b (.slice ao3 n3 c3):=HGl.out
    have hbl:bt ∉ ownT b (.slice ao3 n3 c3):=HBl.out
    clear hR5 hg5 hat5 hP5 f5
    refine hK0.out _ _ ⟨HKr.out.cell t0 hbl,HKr.out.cell y0 hgl,HKr.out.cell y1 hgl,HKr.out.cell y2 hgl,HKr.out.cell y3 hgl,HKr.out.cell y4 hgl,HKr.out.cell y5 hgl,HKr.out.cell y6 hgl,HKr.out.cell y7 hgl,HKr.out.cell y8 hgl,HKr.out.cell y9 hgl⟩ (fun hHeld=>?_)
    clear hK0 K0
    try simp only [sT,Act.put]
    refine tks [15,16] (by rfl) (by kernel_rfl) (fun _ _ _ _ _ h=>h) hHeld ?_
    iterate 2
     refine yk ?_ rfl (Or.inl ⟨by rfl,?_⟩) ?_
     rotate_left
     ·intro w9 hSw;(try dsimp only at hSw);go_simp;(try with_reducible rfl)
     try simp only [sT,Act.put]
    refine yk0 ?_
    simp only [setK,sT]
    refine rd1 17 (by kernel_rfl) rfl (fun K0 hK0=>?_)
    go_simp
    obtain ⟨w6,hw6⟩:∃ w6,w6=w5.setCell ⟨b,1,none⟩ (.slice (some ⟨g5,0,none⟩) n5 c5):=⟨_,rfl⟩
    rw [← hw6] at HE HKe HKs ⊢
    refine hK0.out _ _ ⟨HKs.out.cell t0 hbl,HKs.out.cell y0 hgl,HKs.out.cell y1 hgl,HKs.out.cell y2 hgl,HKs.out.cell y3 hgl,HKs.out.cell y4 hgl,HKs.out.cell y5 hgl,HKs.out.cell y6 hgl,HKs.out.cell y7 hgl,HKs.out.cell y8 hgl,HKs.out.cell y9 hgl⟩ (fun hHeld=>?_)
    refine wpAnyH_done (by kernel_rfl) ?_ _
    clear hHeld hK0 K0 hw6 t1 y0 y1 y2 y3 y4 y5 y6 y7 y8 y9 c5b fz5 t0
    go_wp2_with fail
    go_roundw
    case rel=>exact ⟨j+1,_,_,by go_num,by omega,HE,HKe,HVe⟩
    case measure=>simp [intOf];omega
   ·go_simp
    refine (cS).mono ?_
    rintro _ w4 ⟨u4,rfl,hO4,hK4⟩
    obtain ⟨a4,n4,c4,rfl⟩:=hO4.ko.one
    have HO4:=hide hO4
    have HK4:=hide ((Kept.refl [] wr).drew.trans hK4 (by simp))
    have HKb:Hid (Kept [] wr (w4.alloc (.cells #[.int .i64 x.i,.int .i64 x.q,.string (str x.n),.int .i64 x.v.c,.int .i64 x.v.s,.int .i64 x.v.r,.string (str x.v.p),.int .u64 x.v.d,.slice a4 n4 c4,.int .i64 x.v.m] 155))):=HK4.out.alloc _
    have HNw:=se_news (x:=(x,.slice a4 n4 c4)) rfl (heap_alloc_new w4 (.cells #[.int .i64 x.i,.int .i64 x.q,.string (str x.n),.int .i64 x.v.c,.int .i64 x.v.s,.int .i64 x.v.r,.string (str x.v.p),.int .u64 x.v.d,.slice a4 n4 c4,.int .i64 x.v.m] 155))
    replace t1:=HK4.out.cell t1 (by simp)
    clear hO4 hK4
    go_wp2_with fail
    refine hK0.out _ _ ⟨HK4.out.cell t0 (by simp),HK4.out.cell y0 (by simp),HK4.out.cell y1 (by simp),HK4.out.cell y2 (by simp),HK4.out.cell y3 (by simp),HK4.out.cell y4 (by simp),HK4.out.cell y5 (by simp),HK4.out.cell y6 (by simp),HK4.out.cell y7 (by simp),HK4.out.cell y8 (by simp),HK4.out.cell y9 (by simp)⟩ (fun hHeld=>?_)
    clear hK0 K0
    try simp only [sT,Act.put]
    refine wpAnyH_ready (rs:=[4,13]) (by kernel_rfl) (by simp) (AllReadyH.cons rfl (fun K0 hK0=>?_) (AllReadyH.cons rfl (fun K0 hK0=>?_) AllReadyH.nil))
    ·go_simp
     refine hK0.out _ _ hHeld (fun hHeld=>?_)
     clear hK0 K0
     try simp only [sT,Act.put]
     refine rd1 13 (by kernel_rfl) rfl (fun K0 hK0=>?_)
     go_simp
     refine hK0.out _ _ ⟨HKb.out.cell t0 (by simp),HKb.out.cell y0 (by simp),HKb.out.cell y1 (by simp),HKb.out.cell y2 (by simp),HKb.out.cell y3 (by simp),HKb.out.cell y4 (by simp),HKb.out.cell y5 (by simp),HKb.out.cell y6 (by simp),HKb.out.cell y7 (by simp),HKb.out.cell y8 (by simp),HKb.out.cell y9 (by simp)⟩ (fun hHeld=>?_)
     clear hK0 K0
     try simp only [sT,Act.put]
     refine rd1 14 (by kernel_rfl) rfl (fun K0 hK0=>?_)
     refine step_appS (by rfl) _ _ (by rfl) 0 _ X' (by simp [Act.eval]) (HT.out.kept HKb.out).row ⟨w4.heap.size,0,none⟩ 1 1 [(x,.slice a4 n4 c4)] (by simp [Act.eval]) rfl HNw (by intro y hy;simp at hy;subst hy;rfl) (by omega) HLe.out (Nat.zero_le _) ?_
     intro g5 n5 c5 w5 hR5 hg5 hat5
     have hP5:=(HT.out.kept HKb.out).push (x:=x) ((HO4.out.toP (P:=fun k=>w.heap.size≤k) (fun j hj=>Nat.le_trans HK.out.size hj)).kept ((Kept.refl [] w4).alloc _)) hR5 hg5 hat5
     have HE:Hid (MtA (fun k=>w.heap.size≤k) (w5.setCell ⟨b,1,none⟩ (.slice (some ⟨g5,0,none⟩) n5 c5)) b sz (.slice (some ⟨g5,0,none⟩) n5 c5) (X'++[(x,.slice a4 n4 c4)]) (L.take (j+1))):=by show MtA _ _ _ _ _ _ _;rw [take_next HX.out];exact hP5.1
     have HKe:Hid (Kept [] w (w5.setCell ⟨b,1,none⟩ (.slice (some ⟨g5,0,none⟩) n5 c5))):=(HK.out.trans HKb.out (by simp)).trans hP5.2.1 (fun k hk=>.inr (HV.out k hk))
     have HVe:Hid (∀ k∈ownT b (.slice (some ⟨g5,0,none⟩) n5 c5),w.heap.size≤k):=fun k hk=>by
      rcases List.mem_cons.1 hk with rfl | hk
      ·exact HVb.out
      ·rw [show k=g5 by simpa [Value.ownBlock] using hk]
       rcases hat5 with e | e
       ·exact HV.out _ (by simp [ownT,e])
       ·rw [e];exact (HK.out.trans HKb.out (by simp)).size
     have HKr:Hid (Kept (ownT b (.slice ao3 n3 c3)) wr w5):=(HKb.out.mono (by simp)).grown hg5 (fun k hk=>.inl (by simp [ownT,hk]))
     have HKs:Hid (Kept (ownT b (.slice ao3 n3 c3)) wr (w5.setCell ⟨b,1,none⟩ (.slice (some ⟨g5,0,none⟩) n5 c5))):=HKr.out.setCell (.inl (by simp [ownT])) _
     have f5:=hP5.2.2
     have c5b:=cell_inC (k:=1) f5 rfl
     have fz5:=froz3 f5 1
     have hgl:g4 ∉ ownT b (.slice ao3 n3 c3):=HGl.out
     have hbl:bt ∉ ownT b (.slice ao3 n3 c3):=HBl.out
     clear hR5 hg5 hat5 hP5 f5
     refine hK0.out _ _ ⟨HKr.out.cell t0 hbl,HKr.out.cell y0 hgl,HKr.out.cell y1 hgl,HKr.out.cell y2 hgl,HKr.out.cell y3 hgl,HKr.out.cell y4 hgl,HKr.out.cell y5 hgl,HKr.out.cell y6 hgl,HKr.out.cell y7 hgl,HKr.out.cell y8 hgl,HKr.out.cell y9 hgl⟩ (fun hHeld=>?_)
     clear hK0 K0
     try simp only [sT,Act.put]
     refine tks [15,16] (by rfl) (by kernel_rfl) (fun _ _ _ _ _ h=>h) hHeld ?_
     iterate 2
      refine yk ?_ rfl (Or.inl ⟨by rfl,?_⟩) ?_
      rotate_left
      ·intro w9 hSw;(try dsimp only at hSw);go_simp;(try with_reducible rfl)
      try simp only [sT,Act.put]
     refine yk0 ?_
     simp only [setK,sT]
     refine rd1 17 (by kernel_rfl) rfl (fun K0 hK0=>?_)
     go_simp
     obtain ⟨w6,hw6⟩:∃ w6,w6=w5.setCell ⟨b,1,none⟩ (.slice (some ⟨g5,0,none⟩) n5 c5):=⟨_,rfl⟩
     rw [← hw6] at HE HKe HKs ⊢
     refine hK0.out _ _ ⟨HKs.out.cell t0 hbl,HKs.out.cell y0 hgl,HKs.out.cell y1 hgl,HKs.out.cell y2 hgl,HKs.out.cell y3 hgl,HKs.out.cell y4 hgl,HKs.out.cell y5 hgl,HKs.out.cell y6 hgl,HKs.out.cell y7 hgl,HKs.out.cell y8 hgl,HKs.out.cell y9 hgl⟩ (fun hHeld=>?_)
     refine wpAnyH_done (by kernel_rfl) ?_ _
     clear hHeld hK0 K0 hw6 t1 y0 y1 y2 y3 y4 y5 y6 y7 y8 y9 c5b fz5 t0
     go_wp2_with fail
     go_roundw
     case rel=>exact ⟨j+1,_,_,by go_num,by omega,HE,HKe,HVe⟩
     case measure=>simp [intOf];omega
    ·go_simp
     refine hK0.out _ _ ⟨HKb.out.cell t0 (by simp),HKb.out.cell y0 (by simp),HKb.out.cell y1 (by simp),HKb.out.cell y2 (by simp),HKb.out.cell y3 (by simp),HKb.out.cell y4 (by simp),HKb.out.cell y5 (by simp),HKb.out.cell y6 (by simp),HKb.out.cell y7 (by simp),HKb.out.cell y8 (by simp),HKb.out.cell y9 (by simp)⟩ (fun hHeld=>?_)
     clear hK0 K0
     try simp only [sT,Act.put]
     replace t1:=((Kept.refl [] w4).alloc (.cells #[.int .i64 x.i,.int .i64 x.q,.string (str x.n),.int .i64 x.v.c,.int .i64 x.v.s,.int .i64 x.v.r,.string (str x.v.p),.int .u64 x.v.d,.slice a4 n4 c4,.int .i64 x.v.m] 155)).cell t1 (by simp)
     refine rd1 4 (by kernel_rfl) rfl (fun K0 hK0=>?_)
     go_simp
     refine hK0.out _ _ hHeld (fun hHeld=>?_)
     clear hK0 K0
     try simp only [sT,Act.put]
     refine rd1 14 (by kernel_rfl) rfl (fun K0 hK0=>?_)
     refine step_appS (by rfl) _ _ (by rfl) 0 _ X' (by simp [Act.eval]) (HT.out.kept HKb.out).row ⟨w4.heap.size,0,none⟩ 1 1 [(x,.slice a4 n4 c4)] (by simp [Act.eval]) rfl HNw (by intro y hy;simp at hy;subst hy;rfl) (by omega) HLe.out (Nat.zero_le _) ?_
     intro g5 n5 c5 w5 hR5 hg5 hat5
     have hP5:=(HT.out.kept HKb.out).push (x:=x) ((HO4.out.toP (P:=fun k=>w.heap.size≤k) (fun j hj=>Nat.le_trans HK.out.size hj)).kept ((Kept.refl [] w4).alloc _)) hR5 hg5 hat5
     have HE:Hid (MtA (fun k=>w.heap.size≤k) (w5.setCell ⟨b,1,none⟩ (.slice (some ⟨g5,0,none⟩) n5 c5)) b sz (.slice (some ⟨g5,0,none⟩) n5 c5) (X'++[(x,.slice a4 n4 c4)]) (L.take (j+1))):=by show MtA _ _ _ _ _ _ _;rw [take_next HX.out];exact hP5.1
     have HKe:Hid (Kept [] w (w5.setCell ⟨b,1,none⟩ (.slice (some ⟨g5,0,none⟩) n5 c5))):=(HK.out.trans HKb.out (by simp)).trans hP5.2.1 (fun k hk=>.inr (HV.out k hk))
     have HVe:Hid (∀ k∈ownT b (.slice (some ⟨g5,0,none⟩) n5 c5),w.heap.size≤k):=fun k hk=>by
      rcases List.mem_cons.1 hk with rfl | hk
      ·exact HVb.out
      ·rw [show k=g5 by simpa [Value.ownBlock] using hk]
       rcases hat5 with e | e
       ·exact HV.out _ (by simp [ownT,e])
       ·rw [e];exact (HK.out.trans HKb.out (by simp)).size
     have HKr:Hid (Kept (ownT b (.slice ao3 n3 c3)) wr w5):=(HKb.out.mono (by simp)).grown hg5 (fun k hk=>.inl (by simp [ownT,hk]))
     have HKs:Hid (Kept (ownT b (.slice ao3 n3 c3)) wr (w5.setCell ⟨b,1,none⟩ (.slice (some ⟨g5,0,none⟩) n5 c5))):=HKr.out.setCell (.inl (by simp [ownT])) _
     have f5:=hP5.2.2
     have c5b:=cell_inC (k:=1) f5 rfl
     have fz5:=froz3 f5 1
     have hgl:g4 ∉ ownT b (.slice ao3 n3 c3):=HGl.out
     have hbl:bt ∉ ownT b (.slice ao3 n3 c3):=HBl.out
     clear hR5 hg5 hat5 hP5 f5
     refine hK0.out _ _ ⟨HKr.out.cell t0 hbl,HKr.out.cell y0 hgl,HKr.out.cell y1 hgl,HKr.out.cell y2 hgl,HKr.out.cell y3 hgl,HKr.out.cell y4 hgl,HKr.out.cell y5 hgl,HKr.out.cell y6 hgl,HKr.out.cell y7 hgl,HKr.out.cell y8 hgl,HKr.out.cell y9 hgl⟩ (fun hHeld=>?_)
     clear hK0 K0
     try simp only [sT,Act.put]
     refine tks [15,16] (by rfl) (by kernel_rfl) (fun _ _ _ _ _ h=>h) hHeld ?_
     iterate 2
      refine yk ?_ rfl (Or.inl ⟨by rfl,?_⟩) ?_
      rotate_left
      ·intro w9 hSw;(try dsimp only at hSw);go_simp;(try with_reducible rfl)
      try simp only [sT,Act.put]
     refine yk0 ?_
     simp only [setK,sT]
     refine rd1 17 (by kernel_rfl) rfl (fun K0 hK0=>?_)
     go_simp
     obtain ⟨w6,hw6⟩:∃ w6,w6=w5.setCell ⟨b,1,none⟩ (.slice (some ⟨g5,0,none⟩) n5 c5):=⟨_,rfl⟩
     rw [← hw6] at HE HKe HKs ⊢
     refine hK0.out _ _ ⟨HKs.out.cell t0 hbl,HKs.out.cell y0 hgl,HKs.out.cell y1 hgl,HKs.out.cell y2 hgl,HKs.out.cell y3 hgl,HKs.out.cell y4 hgl,HKs.out.cell y5 hgl,HKs.out.cell y6 hgl,HKs.out.cell y7 hgl,HKs.out.cell y8 hgl,HKs.out.cell y9 hgl⟩ (fun hHeld=>?_)
     refine wpAnyH_done (by kernel_rfl) ?_ _
     clear hHeld hK0 K0 hw6 t1 y0 y1 y2 y3 y4 y5 y6 y7 y8 y9 c5b fz5 t0
     go_wp2_with fail
     go_roundw
     case rel=>exact ⟨j+1,_,_,by go_num,by omega,HE,HKe,HVe⟩
     case measure=>simp [intOf];omega
  ·have hlt':¬ (j:Int) < n:=by omega
   have HE:Hid (MtA (fun k=>w.heap.size≤k) wr b sz v X' L):=by have h:=HT.out;rw [List.take_of_length_le (by rw [HCl.out];omega)] at h;exact h
   go_wp2_with fail
   go_ret
   exact ⟨b,v,X',rfl,HE.out,HK.out,HV.out⟩
end Go.Proofs.YtgpnlidnbldiiaaGreat
