/-
  Texts of this claim that are laid as one: ImMach, ImSave, ImPar.
-/
import Derived.Test.YtddhmfildfdbdaaGreatW6r
import Derived.Test.YtddhmfildfdbdaaGreatW2r
import Derived.Test.YtddhmfildfdbdaaGreatQ2r
import Derived.Test.YtddhmfildfdbdaaGreatImEyPr
set_option maxHeartbeats 16000000
/-
 The image's pen: a machine;Save. (Written by mk/mkmach.py.)
-/
namespace Go.Proofs.YtddhmfildfdbdaaGreat
open Go.RowKit
theorem wsum_fst {α:Type}{f:α × Value→Nat}{g:α→Nat}(h:∀ x,f x=g x.1) {X:List (α × Value)}{L:List α}(hx:X.map Prod.fst=L):wsum f X=wsum g L:=by
 subst hx
 unfold wsum
 rw [List.map_map]
 congr 1
 exact List.map_congr_left fun x _=>h x
theorem atP_eq {p:Nat}{w:World}{O:List Nat}{s:List Int × Int}{m m':Nat}(h:AtP p w O s m) (e:m=m'):AtP p w O s m':=e ▸ h
def wkC (x:Com):Nat:=wsum wt6 x.c+6
def wkS (_:Se):Nat:=7006
def iKs (s:List Int × Int) (L:List Com):List Int × Int:=L.foldl iCo s
def iSs (s:List Int × Int) (L:List Se):List Int × Int:=L.foldl iSe s
theorem iCos_map (s:List Int × Int) (X:List (Com × Value)):iCos s X=iKs s (X.map Prod.fst):=by unfold iCos iKs;rw [List.foldl_map]
theorem iSes_map (s:List Int × Int) (X:List (Se × Value)):iSes s X=iSs s (X.map Prod.fst):=by unfold iSes iSs;rw [List.foldl_map]
def iN3 (s:List Int × Int) (a b c:Int):List Int × Int:=wrNum (wrNum (wrNum s.2 s.1 a).2 (wrNum s.2 s.1 a).1 b).2 (wrNum (wrNum s.2 s.1 a).2 (wrNum s.2 s.1 a).1 b).1 c
def iE (s:List Int × Int) (L:List Ep):List Int × Int:=iEs (wrNum s.2 s.1 L.length) L
def iS (s:List Int × Int) (L:List Se):List Int × Int:=iSs (wrNum s.2 s.1 L.length) L
def iK (s:List Int × Int) (L:List Com):List Int × Int:=iKs (wrNum s.2 s.1 L.length) L
def iMa (s:List Int × Int) (al sz:Int) (M:Ma):List Int × Int:=iK (iS (iE (iN3 s al sz M.a) M.e) M.s) M.g.cs
structure Pm (W0 w W:World) (O:List Nat) (p:Nat) (s:List Int × Int) (m:Nat) (wi:World) (Oi:List Nat):Prop where
 a:AtP p wi Oi s m
 k:Kept O W wi
 n:∀ k∈Oi,k∈O∨W.heap.size≤k
 c:wi.cell? ⟨w.heap.size,0,none⟩=some (.pointer (some ⟨p,0,none⟩))
 m:Kept [] W0 wi
 b:W.heap.size=w.heap.size+1
 o:∀ k∈O,k < w.heap.size
 z:∀ k∈O,W0.heap.size≤k
 l:W0.heap.size≤w.heap.size
theorem Pm.same {W0 w W:World}{O:List Nat}{p:Nat}{s:List Int × Int}{m:Nat}{wi wj:World}{Oi:List Nat}(h:Pm W0 w W O p s m wi Oi) (k:Kept [] wi wj):Pm W0 w W O p s m wj Oi :=
 ⟨(pen_hand p).kept h.a k (by simp),h.k.trans k (by simp),h.n,k.cell h.c (by simp),h.m.trans k (by simp),h.b,h.o,h.z,h.l⟩
theorem Pm.went {W0 w W:World}{O:List Nat}{p:Nat}{s s':List Int × Int}{m m':Nat}{wi wj:World}{Oi:List Nat}(h:Pm W0 w W O p s m wi Oi) (g:Went (AtP p) wi Oi s' m' wj):∃ Oj,Pm W0 w W O p s' m' wj Oj:=by
 obtain ⟨Oj,h1,h2,h3⟩:=g
 have hb:=h.b
 have hl:=h.l
 have hsz:=h.k.size
 have hbx:w.heap.size ∉ Oi:=fun hm=>by
  rcases h.n _ hm with h4 | h4
  ·have:=h.o _ h4;omega
  ·omega
 refine ⟨Oj,h1,h.k.trans h2 h.n,fun k hk=>?_,h2.cell h.c hbx,h.m.trans h2 (fun i hi=>.inr ?_),hb,h.o,h.z,hl⟩
 ·rcases h3 k hk with h4 | h4
  ·exact h.n k h4
  ·exact .inr (Nat.le_trans hsz h4)
 ·rcases h.n i hi with h4 | h4
  ·exact h.z i h4
  ·omega
structure Pen (M:Ma):Prop where
 e:M.e.length≤1000
 c:M.g.cs.length≤10000
 m:∀ x∈M.e,x.m.length≤100
 t:∀ x∈M.g.cs,ShC x
 n:∀ x∈M.s,x.n.length≤900
theorem fst_all {α:Type}{P:α→Prop}{X:List (α × Value)}{L:List α}(hx:X.map Prod.fst=L) (h:∀ x∈L,P x):∀ x∈X,P x.1:=fun x hm=>h _ (by rw [← hx];exact List.mem_map_of_mem hm)
theorem live_okS {w0 w:World}{F D:List Nat}{b:Nat}{q:Pl}{al:Int}{sz:Nat}{M:Ma}(h:LiveM w0 w F D b q al sz M):∀ x∈M.s,okS x:=by
 obtain ⟨S,vt,X,h1,_,_,_,_,h6⟩:=h
 exact h6.so
def wtM (M:Ma):Nat:=(wsum wkC M.g.cs+1)+(wsum wkS M.s+1)+(102*M.e.length+1)+3
set_option linter.unusedSimpArgs false in
set_option maxRecDepth 100000 in
theorem imach_call (p:Nat) (w:World) (O:List Nat) (s:List Int × Int) (m:Nat) {w0 W0:World}{F D:List Nat}{b:Nat}{q:Pl}{al:Int}{sz:Nat}{M:Ma}(hM:LiveM w0 W0 F D b q al sz M) (k0:Kept [] W0 w) (hz:∀ k∈O,W0.heap.size≤k) (hp:Pen M) (hA:AtP p w O s (m+wtM M)) :
 Calls Tryz.prog 18 #[pnV p,.pointer (some ⟨b,0,none⟩)] w fun r w'=>r=.returned (.tuple #[])∧Hid (Went (AtP p) w O (iMa s al sz M) m w'):=by
 have hmf:∀ (fn:Go.Fn) (first cap:Array Value) (w:World),(Instr.makeFunc fn first cap).run Tryz.prog w=.ok (.func fn first cap) w:=fun _ _ _ _=>rfl
 have hO:=(pen_hand p).lt hA
 have hsz:=k0.size
 have k1:Kept [] w (w.alloc (.cells #[.pointer (some ⟨p,0,none⟩)] 48)):=(Kept.refl _ _).alloc _
 have hb1:=heap_alloc_new w (.cells #[.pointer (some ⟨p,0,none⟩)] 48)
 obtain ⟨W,hW⟩:∃ W,W=w.alloc (.cells #[.pointer (some ⟨p,0,none⟩)] 48):=⟨_,rfl⟩
 have hWs:W.heap.size=w.heap.size+1:=by rw [hW];exact World.size_alloc ..
 rw [← hW] at k1 hb1
 obtain ⟨C1,hC1⟩:∃ C1,C1=wsum wkC M.g.cs+1:=⟨_,rfl⟩
 obtain ⟨S1,hS1⟩:∃ S1,S1=wsum wkS M.s+1:=⟨_,rfl⟩
 obtain ⟨E1,hE1⟩:∃ E1,E1=102*M.e.length+1:=⟨_,rfl⟩
 have HP0:Hid (Pm W0 w W O p s (m+C1+S1+E1+2+1) W O):=by
  refine ⟨(pen_hand p).kept ?_ k1 (by simp),Kept.refl _ _,fun k hk=>.inl hk,box_in hb1 (Kept.refl [] W) (by simp) (k:=0) rfl,k0.trans k1 (by simp),hWs,hO,hz,hsz⟩
  unfold wtM at hA
  rw [hC1,hS1,hE1,show m+(wsum wkC M.g.cs+1)+(wsum wkS M.s+1)+(102*M.e.length+1)+2+1=m+((wsum wkC M.g.cs+1)+(wsum wkS M.s+1)+(102*M.e.length+1)+3) by omega]
  exact hA
 have HM:=hide hM
 have HPn:=hide hp
 have HK1:=hide k1
 have HC1:=hide hC1
 have HS1:=hide hS1
 have HE1:=hide hE1
 clear hA k1 hb1 hO hsz hWs hM hp k0 hz hC1 hS1 hE1
 unfold pnV
 go_enter Tryz.func18,Tryz.ntmps18
 go_upto_region 1 with fail
 rw [← hW]
 clear hW
 have HP0d:=hide (HP0.out.same (Kept.refl [] W).drew)
 refine wp_region_held_drew (S:=fun w9=>w9.cell? ⟨w.heap.size,0,none⟩=some (.pointer (some ⟨p,0,none⟩))) (by kernel_rfl) HP0d.out.c (fun hHeld=>?_)
 refine tks [0,1,2] (by rfl) (by kernel_rfl) (fun _ _ _ _ _ h=>h) hHeld ?_
 iterate 3
  refine yk ?_ rfl (Or.inl ⟨by rfl,?_⟩) ?_
  rotate_left
  ·intro w9 hSw;(try dsimp only at hSw);go_simp;(try with_reducible rfl)
  try simp only [sT,Act.put]
 refine yk0 ?_
 simp only [setK,sT]
 refine rd1 3 (by kernel_rfl) rfl (fun K0 hK0=>?_)
 go_simp
 refine (mAlpha_call (HM.out.kept HP0d.out.m)).mono ?_
 rintro _ W ⟨rfl,hW0⟩
 obtain rfl:=hW0.symm
 clear hW0
 go_wp2_with fail
 refine hK0.out _ _ HP0d.out.c (fun hHeld=>?_)
 clear hK0 K0
 try simp only [sT,Act.put]
 refine rd1 4 (by kernel_rfl) rfl (fun K0 hK0=>?_)
 go_simp
 refine (iNum p _ _ _ (m+C1+S1+E1+2) (al) HP0d.out.a).mono ?_
 rintro _ w1 ⟨rfl,HW1⟩
 obtain ⟨O1,hP1⟩:=HP0d.out.went HW1.out
 have HP1:=hide hP1
 clear hP1 HW1 HP0 HP0d
 go_wp2_with fail
 refine hK0.out _ _ HP1.out.c (fun hHeld=>?_)
 clear hK0 K0
 try simp only [sT,Act.put]
 try simp only [sT,Act.put]
 refine wpAnyH_done (by kernel_rfl) ?_ _
 clear hHeld
 go_upto_region 2 with fail
 have HP1d:=hide (HP1.out.same (Kept.refl [] w1).drew)
 refine wp_region_held_drew (S:=fun w9=>w9.cell? ⟨w.heap.size,0,none⟩=some (.pointer (some ⟨p,0,none⟩))) (by kernel_rfl) HP1d.out.c (fun hHeld=>?_)
 refine tks [0,1,2] (by rfl) (by kernel_rfl) (fun _ _ _ _ _ h=>h) hHeld ?_
 iterate 3
  refine yk ?_ rfl (Or.inl ⟨by rfl,?_⟩) ?_
  rotate_left
  ·intro w9 hSw;(try dsimp only at hSw);go_simp;(try with_reducible rfl)
  try simp only [sT,Act.put]
 refine yk0 ?_
 simp only [setK,sT]
 refine rd1 3 (by kernel_rfl) rfl (fun K0 hK0=>?_)
 go_simp
 refine (mSize_call (HM.out.kept HP1d.out.m)).mono ?_
 rintro _ W ⟨rfl,hW0⟩
 obtain rfl:=hW0.symm
 clear hW0
 go_wp2_with fail
 refine hK0.out _ _ HP1d.out.c (fun hHeld=>?_)
 clear hK0 K0
 try simp only [sT,Act.put]
 refine rd1 4 (by kernel_rfl) rfl (fun K0 hK0=>?_)
 go_simp
 refine (iNum p _ _ _ (m+C1+S1+E1+1) ((sz:Int)) HP1d.out.a).mono ?_
 rintro _ w2 ⟨rfl,HW2⟩
 obtain ⟨O2,hP2⟩:=HP1d.out.went HW2.out
 have HP2:=hide hP2
 clear hP2 HW2 HP1 HP1d
 go_wp2_with fail
 refine hK0.out _ _ HP2.out.c (fun hHeld=>?_)
 clear hK0 K0
 try simp only [sT,Act.put]
 try simp only [sT,Act.put]
 refine wpAnyH_done (by kernel_rfl) ?_ _
 clear hHeld
 go_upto_region 3 with fail
 have HP2d:=hide (HP2.out.same (Kept.refl [] w2).drew)
 refine wp_region_held_drew (S:=fun w9=>w9.cell? ⟨w.heap.size,0,none⟩=some (.pointer (some ⟨p,0,none⟩))) (by kernel_rfl) HP2d.out.c (fun hHeld=>?_)
 refine tks [0,1,2] (by rfl) (by kernel_rfl) (fun _ _ _ _ _ h=>h) hHeld ?_
 iterate 3
  refine yk ?_ rfl (Or.inl ⟨by rfl,?_⟩) ?_
  rotate_left
  ·intro w9 hSw;(try dsimp only at hSw);go_simp;(try with_reducible rfl)
  try simp only [sT,Act.put]
 refine yk0 ?_
 simp only [setK,sT]
 refine rd1 3 (by kernel_rfl) rfl (fun K0 hK0=>?_)
 go_simp
 refine (mApplied_call (HM.out.kept HP2d.out.m)).mono ?_
 rintro _ W ⟨rfl,hW0⟩
 obtain rfl:=hW0.symm
 clear hW0
 go_wp2_with fail
 refine hK0.out _ _ HP2d.out.c (fun hHeld=>?_)
 clear hK0 K0
 try simp only [sT,Act.put]
 refine rd1 4 (by kernel_rfl) rfl (fun K0 hK0=>?_)
 go_simp
 refine (iNum p _ _ _ (m+C1+S1+E1) (M.a) HP2d.out.a).mono ?_
 rintro _ w3 ⟨rfl,HW3⟩
 obtain ⟨O3,hP3⟩:=HP2d.out.went HW3.out
 have HP3:=hide hP3
 clear hP3 HW3 HP2 HP2d
 go_wp2_with fail
 refine hK0.out _ _ HP3.out.c (fun hHeld=>?_)
 clear hK0 K0
 try simp only [sT,Act.put]
 try simp only [sT,Act.put]
 refine wpAnyH_done (by kernel_rfl) ?_ _
 clear hHeld
 go_upto_region 4 with fail
 have HP3d:=hide (HP3.out.same (Kept.refl [] w3).drew)
 refine wp_region_held_drew (S:=fun w9=>w9.cell? ⟨w.heap.size,0,none⟩=some (.pointer (some ⟨p,0,none⟩))) (by kernel_rfl) HP3d.out.c (fun hHeld=>?_)
 refine tks [0,1,3,4] (by rfl) (by kernel_rfl) (fun _ _ _ _ _ h=>h) hHeld ?_
 iterate 4
  refine yk ?_ rfl (Or.inl ⟨by rfl,?_⟩) ?_
  rotate_left
  ·intro w9 hSw;(try dsimp only at hSw);go_simp;(try with_reducible rfl)
  try simp only [sT,Act.put]
 refine yk0 ?_
 simp only [setK,sT]
 refine rd1 2 (by kernel_rfl) rfl (fun K0 hK0=>?_)
 go_simp
 refine (mEpochs_call (HM.out.kept HP3d.out.m) HPn.out.e).mono ?_
 rintro _ v4 ⟨v,X,rfl,hr,ho,hx,hk⟩
 have HP3e:=hide (HP3d.out.same hk)
 obtain ⟨ao,cc,rfl,hE⟩:=eoD_of hr ho ((pen_hand p).lt HP3d.out.a) (fst_all (P:=fun x=>x.m.length≤100) hx HPn.out.m)
 have HE:=hide hE
 have HX:=hide hx
 clear hE hx hr ho hk HP3d HP3
 go_wp2_with fail
 refine hK0.out _ _ HP3e.out.c (fun hHeld=>?_)
 clear hK0 K0
 try simp only [sT,Act.put]
 refine rd1 5 (by kernel_rfl) rfl (fun K0 hK0=>?_)
 go_simp
 have cL:=ieps_call p _ _ _ (m+C1+S1) ao X.length cc X HE.out (atP_eq HP3e.out.a (by rw [HE1.out,← HX.out,List.length_map];omega))
 unfold pnV at cL
 refine cL.mono ?_
 clear cL
 rintro _ w4 ⟨rfl,HW4⟩
 obtain ⟨O4,hP4⟩:=HP3e.out.went HW4.out
 have e4:(X.length:Int)=M.e.length:=by rw [← HX.out,List.length_map]
 rw [e4,HX.out] at hP4
 have HP4:=hide hP4
 clear hP4 HW4 HP3e HE HX
 go_wp2_with fail
 refine hK0.out _ _ HP4.out.c (fun hHeld=>?_)
 clear hK0 K0
 try simp only [sT,Act.put]
 try simp only [sT,Act.put]
 refine wpAnyH_done (by kernel_rfl) ?_ _
 clear hHeld
 go_upto_region 5 with fail
 have HP4d:=hide (HP4.out.same (Kept.refl [] w4).drew)
 refine wp_region_held_drew (S:=fun w9=>w9.cell? ⟨w.heap.size,0,none⟩=some (.pointer (some ⟨p,0,none⟩))) (by kernel_rfl) HP4d.out.c (fun hHeld=>?_)
 refine tks [0,1,3,4] (by rfl) (by kernel_rfl) (fun _ _ _ _ _ h=>h) hHeld ?_
 iterate 4
  refine yk ?_ rfl (Or.inl ⟨by rfl,?_⟩) ?_
  rotate_left
  ·intro w9 hSw;(try dsimp only at hSw);go_simp;(try with_reducible rfl)
  try simp only [sT,Act.put]
 refine yk0 ?_
 simp only [setK,sT]
 refine rd1 2 (by kernel_rfl) rfl (fun K0 hK0=>?_)
 go_simp
 refine (mSessions_call (HM.out.kept HP4d.out.m)).mono ?_
 rintro _ v5 ⟨v,X,rfl,hr,ho,hx,hk⟩
 have HP4e:=hide (HP4d.out.same hk)
 obtain ⟨ao,cc,rfl,hE⟩:=swD_of hr ho ((pen_hand p).lt HP4d.out.a) (fst_all hx (live_okS HM.out)) (fst_all (P:=fun x=>x.n.length≤900) hx HPn.out.n)
 have HE:=hide hE
 have HX:=hide hx
 clear hE hx hr ho hk HP4d HP4
 go_wp2_with fail
 refine hK0.out _ _ HP4e.out.c (fun hHeld=>?_)
 clear hK0 K0
 try simp only [sT,Act.put]
 refine rd1 5 (by kernel_rfl) rfl (fun K0 hK0=>?_)
 go_simp
 have cL:=isesss_call p _ _ _ (m+C1) ao X.length cc X HE.out (atP_eq HP4e.out.a (by rw [HS1.out,wsum_fst (f:=wtS) (g:=wkS) (fun _=>rfl) HX.out];omega))
 unfold pnV at cL
 refine cL.mono ?_
 clear cL
 rintro _ w5 ⟨rfl,HW5⟩
 obtain ⟨O5,hP5⟩:=HP4e.out.went HW5.out
 have e5:(X.length:Int)=M.s.length:=by rw [← HX.out,List.length_map]
 rw [e5,iSes_map,HX.out] at hP5
 have HP5:=hide hP5
 clear hP5 HW5 HP4e HE HX
 go_wp2_with fail
 refine hK0.out _ _ HP5.out.c (fun hHeld=>?_)
 clear hK0 K0
 try simp only [sT,Act.put]
 try simp only [sT,Act.put]
 refine wpAnyH_done (by kernel_rfl) ?_ _
 clear hHeld
 go_upto_region 6 with fail
 have HP5d:=hide (HP5.out.same (Kept.refl [] w5).drew)
 refine wp_region_held_drew (S:=fun w9=>w9.cell? ⟨w.heap.size,0,none⟩=some (.pointer (some ⟨p,0,none⟩))) (by kernel_rfl) HP5d.out.c (fun hHeld=>?_)
 refine tks [0,1,3,4] (by rfl) (by kernel_rfl) (fun _ _ _ _ _ h=>h) hHeld ?_
 iterate 4
  refine yk ?_ rfl (Or.inl ⟨by rfl,?_⟩) ?_
  rotate_left
  ·intro w9 hSw;(try dsimp only at hSw);go_simp;(try with_reducible rfl)
  try simp only [sT,Act.put]
 refine yk0 ?_
 simp only [setK,sT]
 refine rd1 2 (by kernel_rfl) rfl (fun K0 hK0=>?_)
 go_simp
 refine (mCommits_call (HM.out.kept HP5d.out.m) HPn.out.c).mono ?_
 rintro _ v6 ⟨v,X,rfl,hx,hr,ho,hk⟩
 have HP5e:=hide (HP5d.out.same hk)
 obtain ⟨ao,cc,rfl,hE⟩:=kwD_of hr ho ((pen_hand p).lt HP5d.out.a) (fst_all hx HPn.out.t)
 have HE:=hide hE
 have HX:=hide hx
 clear hE hx hr ho hk HP5d HP5
 go_wp2_with fail
 refine hK0.out _ _ HP5e.out.c (fun hHeld=>?_)
 clear hK0 K0
 try simp only [sT,Act.put]
 refine rd1 5 (by kernel_rfl) rfl (fun K0 hK0=>?_)
 go_simp
 have cL:=icoms_call p _ _ _ m ao X.length cc X HE.out (atP_eq HP5e.out.a (by rw [HC1.out,wsum_fst (f:=wtK) (g:=wkC) (fun _=>rfl) HX.out];omega))
 unfold pnV at cL
 refine cL.mono ?_
 clear cL
 rintro _ w6 ⟨rfl,HW6⟩
 obtain ⟨O6,hP6⟩:=HP5e.out.went HW6.out
 have e6:(X.length:Int)=M.g.cs.length:=by rw [← HX.out,List.length_map]
 rw [e6,iCos_map,HX.out] at hP6
 have HP6:=hide hP6
 clear hP6 HW6 HP5e HE HX
 go_wp2_with fail
 refine hK0.out _ _ HP6.out.c (fun hHeld=>?_)
 clear hK0 K0
 try simp only [sT,Act.put]
 try simp only [sT,Act.put]
 refine wpAnyH_done (by kernel_rfl) ?_ _
 clear hHeld
 have HWf:Hid (Went (AtP p) w O (iMa s al sz M) m w6):=Went.old HK1.out ⟨O6,HP6.out.a,HP6.out.k,HP6.out.n⟩
 go_wp2_with fail
 go_end0
 exact ⟨rfl,HWf⟩
def SaveP (w:World) (l:List Int) (r:Ending) (w':World):Prop :=
 ∃ a c,r=.returned (.slice a l.length c)∧Sl w' a l.length c l∧(∀ k∈blk a,w.heap.size≤k∧k < w'.heap.size)∧Kept [] w w'∧Oct l
theorem save_nil (w:World):Calls Tryz.prog 9 #[.pointer none] w (SaveP w []):=by
 have HF:Hid (Sl w none 0 0 []):=Sl.nil _
 unfold SaveP
 go_enter Tryz.func9,Tryz.ntmps9
 go_wp2
 go_ret
 exact ⟨none,0,rfl,HF.out,by simp [blk],Kept.refl _ _,fun x hx=>by cases hx⟩
set_option maxRecDepth 100000 in
theorem save_call {w0 w:World}{F D:List Nat}{b:Nat}{q:Pl}{al:Int}{sz:Nat}{M:Ma}(hM:LiveM w0 w F D b q al sz M) (hp:Pen M) (hz:300*wtM M≤1000000000) :
 Calls Tryz.prog 9 #[.pointer (some ⟨b,0,none⟩)] w (SaveP w (iMa ([],0) al sz M).1):=by
 have HM:=hide hM
 have HP:=hide hp
 have HZ:=hide hz
 clear hM hp hz
 obtain ⟨s',hs'⟩:∃ s',s'=iMa ([],0) al sz M:=⟨_,rfl⟩
 rw [← hs']
 have HS:=hide hs'
 clear hs'
 unfold SaveP
 go_enter Tryz.func9,Tryz.ntmps9
 go_wp2_with fail
 refine (newWriter_call w).mono ?_
 rintro _ w1 ⟨rfl,hW1,hk1⟩
 obtain ⟨p,hp⟩:∃ p,p=w.heap.size:=⟨_,rfl⟩
 rw [← hp] at hW1 ⊢
 have HPw:Hid (p=w.heap.size):=hp
 have HK1:=hide hk1
 have HA1:Hid (AtP p w1 [p] ([],0) (0+wtM M)):=⟨none,rfl,hW1,by have:=HZ.out;simp only [List.length_nil];omega⟩
 have cM:=imach_call p w1 [p] ([],0) 0 HM.out HK1.out (fun k hk=>by simp at hk;have:=HPw.out;omega) HP.out HA1.out
 unfold pnV at cM
 rw [← HS.out] at cM
 clear hW1 hk1 hp
 go_wp2_with fail
 refine cM.mono ?_
 clear cM
 rintro _ w2 ⟨rfl,HW2⟩
 obtain ⟨O2,hA2,hk2,hn2⟩:=HW2.out
 obtain ⟨g,he,hw2,hl2⟩:=hA2
 have HOc:Hid (Oct s'.1):=by obtain ⟨_,_,_,_,_,h,_⟩:=hw2;exact h
 have cD:=wdone_call w2 p g s'.1 s'.2 hw2 (by omega)
 have HK2:Hid (Kept [] w w2):=HK1.out.trans hk2 (fun i hi=>.inr (by simp at hi;have:=HPw.out;omega))
 clear hk2 hn2 he hw2 hl2 HW2
 go_wp2_with fail
 refine cD.mono ?_
 clear cD
 rintro _ w3 ⟨a,c,rfl,hs,hb,hk3⟩
 have HS3:=hide hs
 have HB3:=hide hb
 have HK3:=hide (HK2.out.trans hk3 (by simp))
 have HZ2:=hide HK2.out.size
 clear hs hb hk3
 go_wp2_with fail
 go_ret
 exact ⟨a,c,rfl,HS3.out,fun k hk=>⟨Nat.le_trans HZ2.out (HB3.out k hk).1,(HB3.out k hk).2⟩,HK3.out,HOc.out⟩
theorem mkP_parts {x:Pt}{M:Ma}(h:mkP x=.ok M):(1≤x.al∧x.al≤8)∧(1≤x.sz∧x.sz≤16)∧M.s=x.ss∧M.g.cs=revs x.cs.length x.cs∧M.e=cutL x.es x.a∧M.a=x.a:=by
 unfold mkP mkM at h
 split at h
 ·cases h
 rename_i h1
 split at h
 ·cases h
 split at h
 ·cases h
 rename_i h3
 split at h
 ·cases h
 split at h
 ·cases h
 ·rename_i G hG
  split at h
  ·cases h
  ·cases h
   refine ⟨by omega,by omega,rfl,?_,rfl,rfl⟩
   have h5:=(wf_loads wf_void hG).2
   rw [h5];rfl
theorem modA_same {α β:Type}(f:α→α) (p:α→β) (h:∀ x,p (f x)=p x) (j:Nat) (L:List α):(modA f j L).map p=L.map p:=by
 induction L generalizing j with
 | nil=>cases j <;> rfl
 | cons x L ih=>cases j <;> simp [modA,ih,h]
theorem wsum_revs (j:Nat) (L:List Com):wsum wkC (revs j L)=wsum wkC L:=by
 induction j with
 | zero=>rfl
 | succ j ih =>
   rw [← ih]
   unfold wsum
   show ((modA (rvC j) j (revs j L)).map wkC).sum=_
   rw [modA_same (rvC j) wkC (fun _=>rfl)]
theorem wsum_flat {α:Type}(f:α→Nat) (b:α→List Int) (h:∀ x,f x≤6*(b x).length) (L:List α):wsum f L≤6*(L.flatMap b).length:=by
 induction L with
 | nil=>simp [wsum]
 | cons x L ih =>
   have e:wsum f (x :: L)=f x+wsum f L:=by simp [wsum]
   rw [e,List.flatMap_cons,List.length_append]
   have:=h x
   omega
theorem wt6_len (L:List Ch):wsum wt6 L=6*L.length:=by
 induction L with
 | nil=>rfl
 | cons x L ih =>
   have e:wsum wt6 (x :: L)=6+wsum wt6 L:=by simp [wsum,wt6]
   rw [e,ih,List.length_cons];omega
theorem wk_le (x:Com):wkC x≤6*(bCo x).length:=by
 have h1:=flat_ge bC 1 (fun y=>bC_pos y) x.c
 have h2:=encNum_pos x.b
 unfold wkC bCo bLs
 rw [wt6_len]
 simp only [List.length_append]
 omega
theorem im_pen {l t:List Int}{x:Pt}{M:Ma}(ho:Oct l) (hl:l.length≤30000) (h:imR (l,0)=(x,(t,0))) (hm:mkP x=.ok M):Pen M∧300*wtM M≤1000000000∧((x.sz.toNat:Nat):Int)=x.sz:=by
 obtain ⟨hok,hb⟩:=cdc_im.bwd l x t ho h
 obtain ⟨_,_,_,⟨e1,e2⟩,⟨s1,s2⟩,⟨c1,c2⟩⟩:=hok
 obtain ⟨_,hz,hs,hg,he,_⟩:=mkP_parts hm
 have hlen:=congrArg List.length hb
 unfold bPt at hlen
 simp only [List.length_append] at hlen
 have hcs:(bLs bCo x.cs).length=(encNum (x.cs.length:Int)).length+(x.cs.flatMap bCo).length:=by unfold bLs;rw [List.length_append]
 have h3:=flat_ge bCo 3 (fun x=>by
  have a1:=encNum_pos x.b
  have a2:=bT_pos x.n
  have a3:=encNum_pos (x.c.length:Int)
  unfold bCo bLs
  simp only [List.length_append]
  omega) x.cs
 have hw:=wsum_flat wkC bCo wk_le x.cs
 have hel:M.e.length≤16:=by rw [he];unfold cutL;rw [List.length_drop];omega
 have hgl:M.g.cs.length=x.cs.length:=by rw [hg,revs_length]
 have hin:∀ y∈M.e,y∈x.es:=fun y hy=>by rw [he] at hy;exact List.mem_of_mem_drop hy
 refine ⟨⟨by omega,by omega,fun y hy=>?_,fun y hy=>?_,fun y hy=>?_⟩,?_,by omega⟩
 ·have:=(e2 y (hin y hy)).2.1;omega
 ·rw [hg] at hy
  obtain ⟨z,hz,q1,q2,_⟩:=revs_mem hy
  have hz2:=c2 z hz
  refine ⟨by rw [q1];have:=hz2.2.2.1;omega,fun u hu=>?_⟩
  rw [q2] at hu
  have:=okT_len (hz2.2.2.2.2 u hu).1
  omega
 ·rw [hs] at hy
  have:=(s2 y hy).2.2.1;omega
 ·have hss:wsum wkS M.s=7006*M.s.length:=by
   have key:∀ L:List Se,wsum wkS L=7006*L.length:=by
    intro L
    induction L with
    | nil=>rfl
    | cons x L ih =>
      have e:wsum wkS (x :: L)=7006+wsum wkS L:=by simp [wsum,wkS]
      rw [e,ih,List.length_cons];omega
   exact key M.s
  have hsl:M.s.length≤16:=by rw [hs];exact s1
  unfold wtM
  rw [hss,hg,wsum_revs]
  omega
end Go.Proofs.YtddhmfildfdbdaaGreat
