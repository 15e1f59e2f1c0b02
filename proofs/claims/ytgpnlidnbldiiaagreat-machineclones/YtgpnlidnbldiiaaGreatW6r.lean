/-
  Texts of this claim that are laid as one: GrLib, GrClG, MaClone.
-/
import Derived.Test.YtgpnlidnbldiiaaGreatLay
import Derived.Test.YtgpnlidnbldiiaaGreatQ9r
import Derived.Test.YtgpnlidnbldiiaaGreatQ11r
import Derived.Handy
import Derived.Test.YtgpnlidnbldiiaaGreatQ2r
import Derived.Test.YtgpnlidnbldiiaaGreatW1r
set_option maxHeartbeats 16000000
/-
 The keys of a map of refs,sorted;a map of refs,cloned.
-/
namespace Go.Proofs.YtgpnlidnbldiiaaGreat
open Go.RowKit Go.Maps Go.Sort Go.Shelf
theorem mclone_call (w:World) (b:Nat) (n:Nat) (D:DataW Unit) (hown:w.ownsMap Tryz.prog 9 mapR b n D) :
 Calls Tryz.prog 113 #[.map (some b)] w fun e w'=>∃ mb,e=.returned (.map (some mb))∧w.heap.size≤mb∧w'.ownsMap Tryz.prog 9 mapR mb n D∧Kept [] w w':=by
 refine (AnyW.maps_Clone_owns Tryz.cloneZ 9 mapR b n D w hown).mono ?_
 rintro e w' ⟨rfl,h1,h2,h3⟩
 exact ⟨_,rfl,Nat.le_refl _,h1,Kept.of_below h3⟩
end Go.Proofs.YtgpnlidnbldiiaaGreat
namespace Go.Proofs.YtgpnlidnbldiiaaGreat
open Go.RowKit
theorem row_slice {B:Nat}{w:World}{v:Value}{K:List (Com × Value)}(h:RowK B w v K):∃ ao n c,v=.slice ao n c:=by
 obtain ⟨_,h2⟩:=h
 rcases h2 with ⟨h3,_⟩ | ⟨g,cap,cur,h3,_⟩
 ·exact ⟨_,_,_,h3⟩
 ·exact ⟨_,_,_,h3⟩
def ClP (w:World) (G:Gr) (e:Ending) (w':World):Prop:=∃ b S,e=.returned (.pointer (some ⟨b,0,none⟩))∧GAt w' b S G∧Kept [] w w'∧∀ k∈S,w.heap.size≤k
theorem clone_end {w w4:World}{b b2 mb:Nat}{v v':Value}{p:Option Addr}{t:Tr}{K:List (Com × Value)}{G:Gr}(h:GA w b v p t mb K G) (hK:Kept [] w w4) (hR:RowK w.heap.size w4 v' K) (hm:w4.ownsMap Tryz.prog 9 mapR b2 G.rs.length (rsD G.rs)) (hb2:w.heap.size≤b2) :
 Hid (GAt (w4.alloc (.cells #[v',.pointer p,.map (some b2)] 131)) w4.heap.size (ownS w4.heap.size b2 v') G∧Kept [] w (w4.alloc (.cells #[v',.pointer p,.map (some b2)] 131))∧∀ k∈ownS w4.heap.size b2 v',w.heap.size≤k):=by
 have ha:=(Kept.refl [] w4).alloc (.cells #[v',.pointer p,.map (some b2)] 131)
 have h4:=(h.kept hK).kept ha
 refine ⟨⟨v',p,t,b2,K,⟨heap_alloc_new _ _,?_,h4.own,h4.com,h4.tree,h4.some_,h4.list,h4.good,map_kept ha hm (by simp)⟩,rfl⟩,hK.trans ha (by simp),fun k hk=>?_⟩
 ·obtain ⟨h1,h2⟩:=ha.ownsRow hR (by simp)
  exact ⟨h1,h2.imp id fun ⟨g,cap,cur,hv,hg,r⟩=>⟨g,cap,cur,hv,Nat.zero_le _,r⟩⟩
 ·rcases List.mem_cons.1 hk with rfl | hk
  ·exact hK.size
  rcases List.mem_cons.1 hk with rfl | hk
  ·exact hb2
  ·exact (World.ownsRow.lt hR k (mem_own.1 hk)).1
theorem gclone_call {w:World}{b:Nat}{v:Value}{p:Option Addr}{t:Tr}{mb:Nat}{K:List (Com × Value)}{G:Gr}(h:GA w b v p t mb K G) (hl:G.cs.length≤10000) :
 Calls Tryz.prog 64 #[.pointer (some ⟨b,0,none⟩)] w fun e w'=>ClP w G e w':=by
 obtain ⟨ao,c,rfl,hs,hnil⟩:=h.row.sl h.own
 have hkl:K.length=G.cs.length:=by rw [← h.com];simp
 have cM:=made_call h
 have cK:=fun W (hk:Kept [] w W)=>cloneK_call W ao K.length c K (hs.kept hk) hnil (by omega)
 have cC:=fun W (hk:Kept [] w W)=>mclone_call W mb G.rs.length (rsD G.rs) (h.kept hk).map
 obtain ⟨c0,c1,c2⟩:=cells3 h.at_
 have HG:Hid (GA w b (.slice ao K.length c) p t mb K G):=h
 obtain ⟨n,hn⟩:∃ n,n=K.length:=⟨_,rfl⟩
 rw [← hn] at c0 cK
 clear h hs hnil hkl hl hn
 go_enter Tryz.func64,Tryz.ntmps64
 go_wp2_with fail
 refine cM.mono ?_
 rintro _ W ⟨rfl,hW0⟩
 obtain rfl:=hW0.symm
 go_wp2_with fail
 go_region_held3 (fun w'=>w'.cell? ⟨b,0,none⟩=some (.slice ao n c)∧w'.cell? ⟨b,1,none⟩=some (.pointer p)∧w'.cell? ⟨b,2,none⟩=some (.map (some mb)))
  (first | go_keep | exact ⟨hK4.cell c0 (by simp),hK4.cell c1 (by simp),hK4.cell c2 (by simp)⟩ | exact ⟨hK3.cell c0 (by simp),hK3.cell c1 (by simp),hK3.cell c2 (by simp)⟩)
  (first
    | (go_at_call 112;refine (cK _ ?_).mono ?_;exact (Kept.refl [] _).drew;rintro e w3 ⟨v3,rfl,hR3,hK3⟩;obtain ⟨ao3,n3,c3,rfl⟩:=row_slice hR3;replace hK3:=(Kept.refl [] w).drew.trans hK3 (by simp))
    | (go_at_call 113;refine (cC _ hK3).mono ?_;rintro e w4 ⟨mb4,rfl,hlt4,hm4,hK4'⟩;have hK4:=hK3.trans hK4' (by simp)))
 have HE:=clone_end (b2:=mb4) (v':=.slice ao3 n3 c3) HG.out hK4 (hK4'.ownsRow hR3 (by simp)) hm4 (Nat.le_trans hK3.size hlt4)
 clear hR3 hm4 hK4' hK3 hK4
 go_wp2_with fail
 go_ret
 exact ⟨_,_,rfl,HE.out.1,HE.out.2.1,HE.out.2.2⟩
variable {w0 w : World} {F D : List Nat} {b : Nat} {p : Pl} {al : Int} {sz : Nat} {m : Ma}
theorem eCloneC (h:LiveM w0 w F D b p al sz m) (hl:m.e.length≤1000):Calls Tryz.prog 62 #[.pointer (some ⟨p.e,0,none⟩)] w fun e w'=>∃ q:Nat,e=.returned (.pointer (some ⟨q,0,none⟩))∧Hid (EpA w.heap.size w' q al m.e)∧Hid (Kept [] w w'):=by
 obtain ⟨S,vt,X,h1,_,_,_,_,h6⟩:=h
 exact (cloneE_call _ w p.e al m.e h1.e h6.e (by omega)).mono fun _ _ ⟨q,a,c,d⟩=>⟨q,a,c,d⟩
def TcP (w:World) (sz:Nat) (L:List Se) (q:Nat) (w':World):Prop:=∃ v X,TbA (fun k=>k < w.heap.size) w' q sz v X L∧w.heap.size≤q
theorem tCloneC (h:LiveM w0 w F D b p al sz m):Calls Tryz.prog 63 #[.pointer (some ⟨p.t,0,none⟩)] w fun e w'=>∃ q:Nat,e=.returned (.pointer (some ⟨q,0,none⟩))∧Hid (TcP w sz m.s q w')∧Hid (Kept [] w w'):=by
 obtain ⟨S,vt,X,h1,_,_,_,_,h6⟩:=h
 have ht:TbA (fun k=>k < w.heap.size) w p.t sz vt X m.s:=⟨h1.t.at_,h1.t.pos,h1.t.row,fun x hx=>⟨(h1.t.own x hx).1,fun j hj=>ko_block (h1.t.own x hx) hj⟩,h1.t.ses⟩
 exact (cloneT_call ht).mono fun _ _ ⟨q,a,c,d,e⟩=>⟨q,a,⟨vt,X,c,e⟩,d⟩
theorem gCloneC (h:LiveM w0 w F D b p al sz m) (hl:m.g.cs.length≤10000):Calls Tryz.prog 64 #[.pointer (some ⟨p.g,0,none⟩)] w fun e w'=>∃ q:Nat,e=.returned (.pointer (some ⟨q,0,none⟩))∧Hid (∃ S,GAt w' q S m.g∧∀ k∈S,w.heap.size≤k)∧Hid (Kept [] w w'):=by
 obtain ⟨S,vt,X,h1,_,_,_,_,h6⟩:=h
 obtain ⟨v,q,t,mb,K,hG,_⟩:=h1.g
 exact (gclone_call hG hl).mono fun _ _ ⟨q,S,a,c,d,e⟩=>⟨q,a,⟨S,c,e⟩,d⟩
theorem clone_live {w W1 w2 w3 w4 w7:World}{bn qe qt qg:Nat}{al:Int}{sz:Nat}{m:Ma}(hw:MaW sz al m) (hW1:Kept [] w W1) (hb:w.heap.size≤bn) (hblt:bn < W1.heap.size) (hE:EpA W1.heap.size w2 qe al m.e) (hK2:Kept [] W1 w2) (hT:TcP w2 sz m.s qt w3) (hK3:Kept [] w2 w3) (hG:∃ S,GAt w4 qg S m.g∧∀ k∈S,w3.heap.size≤k) (hK4:Kept [] w3 w4)
 (hat:w7.heap[bn]?=some (.cells #[.int .i64 al,.int .i64 (sz:Int),.int .i64 m.a,.pointer (some ⟨qe,0,none⟩),.pointer (some ⟨qt,0,none⟩),.pointer (some ⟨qg,0,none⟩)] 70 (0,0))) {vs:Array Value}(hB4:w4.heap[bn]?=some (.cells vs 70 (0,0))) (hK7:Kept [bn] w4 w7):∃ F',LiveM w w7 F' [] bn ⟨qe,qt,qg⟩ al sz m:=by
 obtain ⟨S,hg,hS⟩:=hG
 obtain ⟨v,X,ht,hqt⟩:=hT
 have z1:=hW1.size
 have z2:=hK2.size
 have z3:=hK3.size
 have z4:=hK4.size
 have hTy:Typed w4 [bn] [70]:=typed1 hB4
 have h24:=hK3.trans hK4 (by simp)
 refine ⟨_,S,v,X,⟨hat,hg.keep hK7 (fun i hi hm=>?_) hTy (by decide) (by decide) (by decide),?_,?_⟩,rfl,((hW1.trans hK2 (by simp)).trans h24 (by simp)).trans hK7 (fun i hi=>.inr (by simp at hi;omega)),fun k hk=>?_,(fun k hk=>by cases hk),hw⟩
 ·rw [List.mem_singleton] at hm
  have:=hS i hi;omega
 ·have h1:=(ht.kept hK4).keep hK7 (fun i hi hm=>?_) hTy (by decide) (by decide)
  ·exact ⟨h1.at_,h1.pos,h1.row,fun x hx=>⟨(h1.own x hx).1,fun j hj=>⟨fun hm=>by have:=(h1.own x hx).2 j hj;have:=hS j hm;omega,by simp⟩⟩,h1.ses⟩
  ·rw [List.mem_singleton] at hm
   rw [hm] at hi
   obtain ⟨cur,t,hh,htt⟩:=(ht.kept hK4).typed hi
   rw [hB4] at hh
   cases hh
   rcases htt with e | e <;> simp at e
 ·have h1:=(hE.kept h24).keep hK7 hTy (by decide) (by decide)
  obtain ⟨v',e1,e2,e3⟩:=h1
  exact ⟨v',by show w.heap.size≤qe;omega,e2,row_mono e3 z1⟩
 ·rcases List.mem_cons.1 hk with e | hk
  ·rw [e];exact hb
  ·rcases List.mem_cons.1 hk with e | hk
   ·rw [e];show w.heap.size≤qt;omega
   ·have:=hS k hk;omega
set_option linter.unusedSimpArgs false in
set_option maxRecDepth 100000 in
theorem mClone_call (h:LiveM w0 w F D b p al sz m) (hl:m.g.cs.length≤10000) (he:m.e.length≤1000):Calls Tryz.prog 25 #[.pointer (some ⟨b,0,none⟩)] w fun e w'=>∃ (bn:Nat) (q:Pl),e=.returned (.pointer (some ⟨bn,0,none⟩))∧Hid (∃ F',LiveM w w' F' [] bn q al sz m):=by
 obtain ⟨W1,hW1⟩:∃ W1,W1=w.alloc (.cells #[.int .i64 al,.int .i64 (sz:Int),.int .i64 m.a,.pointer (some ⟨p.e,0,none⟩),.pointer (some ⟨p.t,0,none⟩),.pointer (some ⟨p.g,0,none⟩)] 70):=⟨_,rfl⟩
 have hK1:Kept [] w W1:=by rw [hW1];exact (Kept.refl _ _).alloc _
 have HN1:Hid (W1.heap[w.heap.size]?=some (.cells #[.int .i64 al,.int .i64 (sz:Int),.int .i64 m.a,.pointer (some ⟨p.e,0,none⟩),.pointer (some ⟨p.t,0,none⟩),.pointer (some ⟨p.g,0,none⟩)] 70 (0,0))):=by rw [hW1];exact heap_alloc_new w _
 have cM:=madeM_call h
 obtain ⟨m0,m1,m2,m3,m4,m5⟩:=h.cells
 have HW:=hide h.w
 have hblt:=lt_of_at h.at
 have HL1:=hide (h.kept hK1)
 have HK1:=hide hK1
 have HGl:=hide hl
 have HEl:=hide he
 have cE:=fun W (hk:Kept [] W1 W)=>eCloneC (HL1.out.kept hk) HEl.out
 have cT:=fun W (hk:Kept [] W1 W)=>tCloneC (HL1.out.kept hk)
 have cG:=fun W (hk:Kept [] W1 W)=>gCloneC (HL1.out.kept hk) HGl.out
 clear h hK1 hl he
 go_enter Tryz.func25,Tryz.ntmps25
 go_wp2_with fail
 refine cM.mono ?_
 rintro _ W0 ⟨rfl,hW0⟩
 obtain rfl:=hW0.symm
 go_upto_region 4 with fail
 rw [← hW1]
 clear hW1 m0 m1 m2 m3 m4 m5 cM
 refine wp_region_held_drew (S:=fun w'=>McC w' b p al sz m.a) (by kernel_rfl) (HL1.out.kept (Kept.refl [] _).drew).cells (fun hHeld=>?_)
 refine tks [0,1,2,3,5,6,7,8,10,11,12,13] (by rfl) (by kernel_rfl) (fun _ _ _ _ _ h=>h) hHeld ?_
 iterate 12
  refine yk ?_ rfl (Or.inl ⟨by rfl,?_⟩) ?_
  rotate_left
  ·intro w9 hSw;obtain ⟨m0,m1,m2,m3,m4,m5⟩:=hSw;go_simp;(try with_reducible rfl)
  try simp only [sT,Act.put]
 refine yk0 ?_
 simp only [setK,sT]
 refine rd1 4 (by kernel_rfl) rfl (fun K0 hK0=>?_)
 go_simp
 refine (cE _ (Kept.refl [] _).drew).mono ?_
 rintro _ w2 ⟨qe,rfl,HE2,HK2⟩
 have hk2:=(Kept.refl [] W1).drew.trans HK2.out (by simp)
 go_wp2_with fail
 refine hK0.out _ _ (HL1.out.kept hk2).cells (fun hHeld=>?_)
 clear hK0 K0
 try simp only [sT,Act.put]
 refine rd1 9 (by kernel_rfl) rfl (fun K0 hK0=>?_)
 go_simp
 refine (cT _ hk2).mono ?_
 rintro _ w3 ⟨qt,rfl,HT3,HK3⟩
 have hk3:=hk2.trans HK3.out (by simp)
 go_wp2_with fail
 refine hK0.out _ _ (HL1.out.kept hk3).cells (fun hHeld=>?_)
 clear hK0 K0
 try simp only [sT,Act.put]
 refine rd1 14 (by kernel_rfl) rfl (fun K0 hK0=>?_)
 go_simp
 refine (cG _ hk3).mono ?_
 rintro _ w4 ⟨qg,rfl,HG4,HK4⟩
 have hk4:=hk3.trans HK4.out (by simp)
 go_wp2_with fail
 have hN4:=hk4.at HN1.out (by simp)
 have HN4:=hide hN4
 have x3:=cell_inC (k:=3) hN4 rfl
 have x4:=cell_inC (k:=4) hN4 rfl
 have x5:=cell_inC (k:=5) hN4 rfl
 have f3:=froz3 hN4 3
 have f4:=froz3 hN4 4
 have f5:=froz3 hN4 5
 have HC:Hid (∀ W7,Kept [w.heap.size] w4 W7→McC W7 b p al sz m.a):=fun W7 hk=>by
  have hat:=hk.at ((HL1.out.kept hk4).at) (by simp;omega)
  exact ⟨cell_inC (k:=0) hat rfl,cell_inC (k:=1) hat rfl,cell_inC (k:=2) hat rfl,cell_inC (k:=3) hat rfl,cell_inC (k:=4) hat rfl,cell_inC (k:=5) hat rfl⟩
 have HK12:=hide hk2
 clear hk2 hk3 hN4
 refine hK0.out _ _ (HL1.out.kept hk4).cells (fun hHeld=>?_)
 clear hK0 K0
 try simp only [sT,Act.put]
 refine tks [15] (by rfl) (by kernel_rfl) (fun _ _ _ _ _ h=>h) hHeld ?_
 iterate 1
  refine yk ?_ rfl (Or.inl ⟨by rfl,?_⟩) ?_
  rotate_left
  ·intro w9 hSw;obtain ⟨m0,m1,m2,m3,m4,m5⟩:=hSw;go_simp;(try with_reducible rfl)
  try simp only [sT,Act.put]
 refine yk0 ?_
 simp only [setK,sT]
 refine rd1 16 (by kernel_rfl) rfl (fun K0 hK0=>?_)
 go_simp
 have hk5:Kept [w.heap.size] w4 (w4.setCell ⟨w.heap.size,3,none⟩ (.pointer (some ⟨qe,0,none⟩))):=(Kept.refl _ _).setCell (by simp) _
 refine hK0.out _ _ (HC.out _ hk5) (fun hHeld=>?_)
 clear hK0 K0
 try simp only [sT,Act.put]
 refine tks [17] (by rfl) (by kernel_rfl) (fun _ _ _ _ _ h=>h) hHeld ?_
 iterate 1
  refine yk ?_ rfl (Or.inl ⟨by rfl,?_⟩) ?_
  rotate_left
  ·intro w9 hSw;obtain ⟨m0,m1,m2,m3,m4,m5⟩:=hSw;go_simp;(try with_reducible rfl)
  try simp only [sT,Act.put]
 refine yk0 ?_
 simp only [setK,sT]
 refine rd1 18 (by kernel_rfl) rfl (fun K0 hK0=>?_)
 go_simp
 have hk6:Kept [w.heap.size] w4 ((w4.setCell ⟨w.heap.size,3,none⟩ (.pointer (some ⟨qe,0,none⟩))).setCell ⟨w.heap.size,4,none⟩ (.pointer (some ⟨qt,0,none⟩))):=hk5.setCell (by simp) _
 refine hK0.out _ _ (HC.out _ hk6) (fun hHeld=>?_)
 clear hK0 K0
 try simp only [sT,Act.put]
 refine tks [19] (by rfl) (by kernel_rfl) (fun _ _ _ _ _ h=>h) hHeld ?_
 iterate 1
  refine yk ?_ rfl (Or.inl ⟨by rfl,?_⟩) ?_
  rotate_left
  ·intro w9 hSw;obtain ⟨m0,m1,m2,m3,m4,m5⟩:=hSw;go_simp;(try with_reducible rfl)
  try simp only [sT,Act.put]
 refine yk0 ?_
 simp only [setK,sT]
 refine rd1 20 (by kernel_rfl) rfl (fun K0 hK0=>?_)
 go_simp
 have hk7:Kept [w.heap.size] w4 (((w4.setCell ⟨w.heap.size,3,none⟩ (.pointer (some ⟨qe,0,none⟩))).setCell ⟨w.heap.size,4,none⟩ (.pointer (some ⟨qt,0,none⟩))).setCell ⟨w.heap.size,5,none⟩ (.pointer (some ⟨qg,0,none⟩))):=hk6.setCell (by simp) _
 refine hK0.out _ _ (HC.out _ hk7) (fun hHeld=>?_)
 clear hK0 K0
 try simp only [sT,Act.put]
 refine wpAnyH_done (by kernel_rfl) ?_ _
 clear hHeld
 have hat:(((w4.setCell ⟨w.heap.size,3,none⟩ (.pointer (some ⟨qe,0,none⟩))).setCell ⟨w.heap.size,4,none⟩ (.pointer (some ⟨qt,0,none⟩))).setCell ⟨w.heap.size,5,none⟩ (.pointer (some ⟨qg,0,none⟩))).heap[w.heap.size]?=some (.cells #[.int .i64 al,.int .i64 (sz:Int),.int .i64 m.a,.pointer (some ⟨qe,0,none⟩),.pointer (some ⟨qt,0,none⟩),.pointer (some ⟨qg,0,none⟩)] 70 (0,0)):=by
  have e1:=heap_setCell_same w4 w.heap.size 3 _ _ (.pointer (some ⟨qe,0,none⟩)) HN4.out
  have e2:=heap_setCell_same _ w.heap.size 4 _ _ (.pointer (some ⟨qt,0,none⟩)) e1
  have e3:=heap_setCell_same _ w.heap.size 5 _ _ (.pointer (some ⟨qg,0,none⟩)) e2
  simpa using e3
 have HLv:=hide (clone_live HW.out HK1.out (Nat.le_refl _) (lt_of_at HN1.out) HE2.out HK12.out HT3.out HK3.out HG4.out HK4.out hat HN4.out hk7)
 clear hat hk5 hk6 hk7 x3 x4 x5 f3 f4 f5
 go_wp2_with fail
 go_ret
 exact ⟨w.heap.size,_,rfl,HLv.out⟩
end Go.Proofs.YtgpnlidnbldiiaaGreat
