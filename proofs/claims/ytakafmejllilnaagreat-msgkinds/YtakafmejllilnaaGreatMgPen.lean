/-
  The pen: fields are written.
-/
import Derived.Test.YtakafmejllilnaaGreatMgSv
import Derived.Test.YtakafmejllilnaaGreatF2
import Derived.Deep.RegionHeld3
namespace Go.Proofs.YtakafmejllilnaaGreat
open Go.RowKit
def okW:Fd→Ms→Bool
 | .B,x=>goodB x.b
 | .S,x=>goodB x.s
 | .T,x=>goodB x.m
 | .V,x=>mayR x.v
 | .L,x=>goodB x.l.length && x.l.all okVoB
 | .I,_=>true
 | .N,x=>goodB x.n
 | .R,x=>mayV x.r
theorem wNum_call (p:Nat) (w:World) (O:List Nat) (s:List Int × Int) (m:Nat) (n:Int) (hA:AtP p w O s (m+1)) :
 Calls Tryz.prog 55 #[.pointer (some ⟨p,0,none⟩),.int .i64 n] w fun r w'=>r=.returned (.tuple #[])∧Went (AtP p) w O (stepP s (goodB n) (encNum n)) m w':=by
 obtain ⟨g,rfl,hw,hl⟩:=hA
 refine (wnum_call w p g s.1 s.2 n hw (by omega)).mono ?_
 rintro r w' h
 have e:wrNum s.2 s.1 n=stepP s (goodB n) (encNum n):=congrArg Prod.snd (pen_num s n)
 refine ⟨h.1,?_⟩
 rw [← e]
 exact pen_went (Kept.refl [] w) h (by have:=wrNum_len s.2 s.1 n;omega)
theorem stepP_len (s:List Int × Int) (o:Bool) (b:List Int):(stepP s o b).1.length≤s.1.length+b.length:=by
 unfold stepP
 split
 ·cases o <;> simp
 ·simp
theorem step_run (s:List Int × Int) (l:List Int) (h2:l.length≤1048576):wrRun s.2 s.1 l=stepP s true (encNum l.length++l):=by
 unfold wrRun stepP
 by_cases h:s.2=0
 ·rw [if_pos h,if_pos h]
  simp [h2]
 ·rw [if_neg h,if_neg h]
theorem wBytes_call (p:Nat) (w:World) (O:List Nat) (s:List Int × Int) (m:Nat) (ao:Option Addr) (c:Nat) (l:List Int) (hs:Sl w ao l.length c l) (ho:Oct l) (h2:l.length≤1048576) (hd:0 < l.length→∀ k∈blk ao,k ∉ O) (hA:AtP p w O s (m+5000)) :
 Calls Tryz.prog 166 #[.pointer (some ⟨p,0,none⟩),.slice ao l.length c] w fun r w'=>r=.returned (.tuple #[])∧Went (AtP p) w O (stepP s true (encNum l.length++l)) m w':=by
 obtain ⟨g,rfl,hw,hl⟩:=hA
 refine (wbytes_call w p g s.1 s.2 ao l.length c l hw hs ho (by omega) hd).mono ?_
 rintro r w' h
 rw [← step_run s l h2]
 refine ⟨h.1,pen_went (Kept.refl [] w) h ?_⟩
 rw [step_run s l h2]
 have h3:=stepP_len s true (encNum l.length++l)
 have h4:=enc_length 5 (l.length:Int)
 rw [List.length_append] at h3
 unfold encNum at *
 omega
def PnP (p:Nat) (w:World) (O:List Nat) (s:List Int × Int) (m:Nat) (y:Mm) (f:Fd) (r:Ending) (w':World):Prop :=
 r=.returned (.tuple #[])∧Went (AtP p) w O (stepP s (okW f y.ms) (getB f y.ms)) m w'
def penV (p b:Nat):Value:=.agg #[.pointer (some ⟨p,0,none⟩),.pointer (some ⟨b,0,none⟩)]
set_option linter.unusedSimpArgs false in
set_option maxHeartbeats 4000000 in
theorem pnB_call (p b:Nat) (w:World) (O:List Nat) (s:List Int × Int) (m:Nat) (y:Mm) (hB:Bx w b 36 (msC y)) (hbO:b ∉ O) (hA:AtP p w O s (m+1)):Calls Tryz.prog 158 #[penV p b] w (PnP p w O s m y .B):=by
 have k0:=lay1 w 96 [.pointer (some ⟨p,0,none⟩),.pointer (some ⟨b,0,none⟩)]
 have k1:=k0.drew
 have hP:=Bx.new w 96 [.pointer (some ⟨p,0,none⟩),.pointer (some ⟨b,0,none⟩)]
 have q0:=hP.cell 0 rfl
 have q1:=hP.cell 1 rfl
 have q2:=(hB.kept k0 (by simp)).cell 3 rfl
 have hA1:=(pen_hand p).kept hA k1 (by simp)
 have cN:=hide (wNum_call p _ O s m y.b hA1)
 have HK1:=hide k1
 have HlO:=hide ((pen_hand p).lt hA)
 have HbO:=hide hbO
 clear k0 k1 hP hB hA hA1 hbO
 unfold penV
 go_enter Tryz.func158,Tryz.ntmps158
 go_upto_region 1 with fail
 refine wp_region_held_drew (S:=fun w9=>w9.cell? ⟨w.heap.size,0,none⟩=some (.pointer (some ⟨p,0,none⟩))∧w9.cell? ⟨w.heap.size,1,none⟩=some (.pointer (some ⟨b,0,none⟩))∧w9.cell? ⟨b,3,none⟩=some (.int .i64 y.b)) (by kernel_rfl) ⟨q0,q1,q2⟩ (fun hHeld=>?_)
 refine tks [0,1,2,3,4,5,6] (by rfl) (by kernel_rfl) (fun _ _ _ _ _ h=>h) hHeld ?_
 iterate 7
  refine yk ?_ rfl (Or.inl ⟨by rfl,?_⟩) ?_
  rotate_left
  ·intro w9 hSw;obtain ⟨m0,m1,m2⟩:=hSw;go_simp;(try with_reducible rfl)
  try simp only [sT,Act.put]
 refine yk0 ?_
 simp only [setK,sT]
 refine rd1 7 (by kernel_rfl) rfl (fun K0 hK0=>?_)
 go_simp
 refine cN.out.mono ?_
 clear cN
 rintro _ w1 ⟨rfl,hW⟩
 have HW1:=hide (Went.trans (HK1.out.mono (by simp)) (fun k hk=>.inl hk) hW)
 obtain ⟨O2,_,hk2,_⟩:=hW
 have hwO:w.heap.size ∉ O:=fun h=>by have:=HlO.out _ h;omega
 have HC:=hide (And.intro (hk2.cell q0 hwO) (And.intro (hk2.cell q1 hwO) (hk2.cell q2 HbO.out)))
 clear hk2 hwO
 go_wp2_with fail
 refine hK0.out _ _ HC.out (fun hHeld=>?_)
 clear hK0 K0
 refine wpAnyH_done (by kernel_rfl) ?_ _
 clear hHeld
 go_wp2_with fail
 go_returns
 exact ⟨rfl,HW1.out⟩
set_option linter.unusedSimpArgs false in
set_option maxHeartbeats 4000000 in
theorem pnS_call (p b:Nat) (w:World) (O:List Nat) (s:List Int × Int) (m:Nat) (y:Mm) (hB:Bx w b 36 (msC y)) (hbO:b ∉ O) (hA:AtP p w O s (m+1)):Calls Tryz.prog 161 #[penV p b] w (PnP p w O s m y .S):=by
 have k0:=lay1 w 96 [.pointer (some ⟨p,0,none⟩),.pointer (some ⟨b,0,none⟩)]
 have k1:=k0.drew
 have hP:=Bx.new w 96 [.pointer (some ⟨p,0,none⟩),.pointer (some ⟨b,0,none⟩)]
 have q0:=hP.cell 0 rfl
 have q1:=hP.cell 1 rfl
 have q2:=(hB.kept k0 (by simp)).cell 4 rfl
 have hA1:=(pen_hand p).kept hA k1 (by simp)
 have cN:=hide (wNum_call p _ O s m y.s hA1)
 have HK1:=hide k1
 have HlO:=hide ((pen_hand p).lt hA)
 have HbO:=hide hbO
 clear k0 k1 hP hB hA hA1 hbO
 unfold penV
 go_enter Tryz.func161,Tryz.ntmps161
 go_upto_region 1 with fail
 refine wp_region_held_drew (S:=fun w9=>w9.cell? ⟨w.heap.size,0,none⟩=some (.pointer (some ⟨p,0,none⟩))∧w9.cell? ⟨w.heap.size,1,none⟩=some (.pointer (some ⟨b,0,none⟩))∧w9.cell? ⟨b,4,none⟩=some (.int .i64 y.s)) (by kernel_rfl) ⟨q0,q1,q2⟩ (fun hHeld=>?_)
 refine tks [0,1,2,3,4,5,6] (by rfl) (by kernel_rfl) (fun _ _ _ _ _ h=>h) hHeld ?_
 iterate 7
  refine yk ?_ rfl (Or.inl ⟨by rfl,?_⟩) ?_
  rotate_left
  ·intro w9 hSw;obtain ⟨m0,m1,m2⟩:=hSw;go_simp;(try with_reducible rfl)
  try simp only [sT,Act.put]
 refine yk0 ?_
 simp only [setK,sT]
 refine rd1 7 (by kernel_rfl) rfl (fun K0 hK0=>?_)
 go_simp
 refine cN.out.mono ?_
 clear cN
 rintro _ w1 ⟨rfl,hW⟩
 have HW1:=hide (Went.trans (HK1.out.mono (by simp)) (fun k hk=>.inl hk) hW)
 obtain ⟨O2,_,hk2,_⟩:=hW
 have hwO:w.heap.size ∉ O:=fun h=>by have:=HlO.out _ h;omega
 have HC:=hide (And.intro (hk2.cell q0 hwO) (And.intro (hk2.cell q1 hwO) (hk2.cell q2 HbO.out)))
 clear hk2 hwO
 go_wp2_with fail
 refine hK0.out _ _ HC.out (fun hHeld=>?_)
 clear hK0 K0
 refine wpAnyH_done (by kernel_rfl) ?_ _
 clear hHeld
 go_wp2_with fail
 go_returns
 exact ⟨rfl,HW1.out⟩
set_option linter.unusedSimpArgs false in
set_option maxHeartbeats 4000000 in
theorem pnT_call (p b:Nat) (w:World) (O:List Nat) (s:List Int × Int) (m:Nat) (y:Mm) (hB:Bx w b 36 (msC y)) (hbO:b ∉ O) (hA:AtP p w O s (m+1)):Calls Tryz.prog 162 #[penV p b] w (PnP p w O s m y .T):=by
 have k0:=lay1 w 96 [.pointer (some ⟨p,0,none⟩),.pointer (some ⟨b,0,none⟩)]
 have k1:=k0.drew
 have hP:=Bx.new w 96 [.pointer (some ⟨p,0,none⟩),.pointer (some ⟨b,0,none⟩)]
 have q0:=hP.cell 0 rfl
 have q1:=hP.cell 1 rfl
 have q2:=(hB.kept k0 (by simp)).cell 5 rfl
 have hA1:=(pen_hand p).kept hA k1 (by simp)
 have cN:=hide (wNum_call p _ O s m y.m hA1)
 have HK1:=hide k1
 have HlO:=hide ((pen_hand p).lt hA)
 have HbO:=hide hbO
 clear k0 k1 hP hB hA hA1 hbO
 unfold penV
 go_enter Tryz.func162,Tryz.ntmps162
 go_upto_region 1 with fail
 refine wp_region_held_drew (S:=fun w9=>w9.cell? ⟨w.heap.size,0,none⟩=some (.pointer (some ⟨p,0,none⟩))∧w9.cell? ⟨w.heap.size,1,none⟩=some (.pointer (some ⟨b,0,none⟩))∧w9.cell? ⟨b,5,none⟩=some (.int .i64 y.m)) (by kernel_rfl) ⟨q0,q1,q2⟩ (fun hHeld=>?_)
 refine tks [0,1,2,3,4,5,6] (by rfl) (by kernel_rfl) (fun _ _ _ _ _ h=>h) hHeld ?_
 iterate 7
  refine yk ?_ rfl (Or.inl ⟨by rfl,?_⟩) ?_
  rotate_left
  ·intro w9 hSw;obtain ⟨m0,m1,m2⟩:=hSw;go_simp;(try with_reducible rfl)
  try simp only [sT,Act.put]
 refine yk0 ?_
 simp only [setK,sT]
 refine rd1 7 (by kernel_rfl) rfl (fun K0 hK0=>?_)
 go_simp
 refine cN.out.mono ?_
 clear cN
 rintro _ w1 ⟨rfl,hW⟩
 have HW1:=hide (Went.trans (HK1.out.mono (by simp)) (fun k hk=>.inl hk) hW)
 obtain ⟨O2,_,hk2,_⟩:=hW
 have hwO:w.heap.size ∉ O:=fun h=>by have:=HlO.out _ h;omega
 have HC:=hide (And.intro (hk2.cell q0 hwO) (And.intro (hk2.cell q1 hwO) (hk2.cell q2 HbO.out)))
 clear hk2 hwO
 go_wp2_with fail
 refine hK0.out _ _ HC.out (fun hHeld=>?_)
 clear hK0 K0
 refine wpAnyH_done (by kernel_rfl) ?_ _
 clear hHeld
 go_wp2_with fail
 go_returns
 exact ⟨rfl,HW1.out⟩
set_option linter.unusedSimpArgs false in
set_option maxHeartbeats 4000000 in
theorem pnN_call (p b:Nat) (w:World) (O:List Nat) (s:List Int × Int) (m:Nat) (y:Mm) (hB:Bx w b 36 (msC y)) (hbO:b ∉ O) (hA:AtP p w O s (m+1)):Calls Tryz.prog 160 #[penV p b] w (PnP p w O s m y .N):=by
 have k0:=lay1 w 96 [.pointer (some ⟨p,0,none⟩),.pointer (some ⟨b,0,none⟩)]
 have k1:=k0.drew
 have hP:=Bx.new w 96 [.pointer (some ⟨p,0,none⟩),.pointer (some ⟨b,0,none⟩)]
 have q0:=hP.cell 0 rfl
 have q1:=hP.cell 1 rfl
 have q2:=(hB.kept k0 (by simp)).cell 19 rfl
 have hA1:=(pen_hand p).kept hA k1 (by simp)
 have cN:=hide (wNum_call p _ O s m y.n hA1)
 have HK1:=hide k1
 have HlO:=hide ((pen_hand p).lt hA)
 have HbO:=hide hbO
 clear k0 k1 hP hB hA hA1 hbO
 unfold penV
 go_enter Tryz.func160,Tryz.ntmps160
 go_upto_region 1 with fail
 refine wp_region_held_drew (S:=fun w9=>w9.cell? ⟨w.heap.size,0,none⟩=some (.pointer (some ⟨p,0,none⟩))∧w9.cell? ⟨w.heap.size,1,none⟩=some (.pointer (some ⟨b,0,none⟩))∧w9.cell? ⟨b,19,none⟩=some (.int .i64 y.n)) (by kernel_rfl) ⟨q0,q1,q2⟩ (fun hHeld=>?_)
 refine tks [0,1,2,3,4,5,6] (by rfl) (by kernel_rfl) (fun _ _ _ _ _ h=>h) hHeld ?_
 iterate 7
  refine yk ?_ rfl (Or.inl ⟨by rfl,?_⟩) ?_
  rotate_left
  ·intro w9 hSw;obtain ⟨m0,m1,m2⟩:=hSw;go_simp;(try with_reducible rfl)
  try simp only [sT,Act.put]
 refine yk0 ?_
 simp only [setK,sT]
 refine rd1 7 (by kernel_rfl) rfl (fun K0 hK0=>?_)
 go_simp
 refine cN.out.mono ?_
 clear cN
 rintro _ w1 ⟨rfl,hW⟩
 have HW1:=hide (Went.trans (HK1.out.mono (by simp)) (fun k hk=>.inl hk) hW)
 obtain ⟨O2,_,hk2,_⟩:=hW
 have hwO:w.heap.size ∉ O:=fun h=>by have:=HlO.out _ h;omega
 have HC:=hide (And.intro (hk2.cell q0 hwO) (And.intro (hk2.cell q1 hwO) (hk2.cell q2 HbO.out)))
 clear hk2 hwO
 go_wp2_with fail
 refine hK0.out _ _ HC.out (fun hHeld=>?_)
 clear hK0 K0
 refine wpAnyH_done (by kernel_rfl) ?_ _
 clear hHeld
 go_wp2_with fail
 go_returns
 exact ⟨rfl,HW1.out⟩
structure Eld (w0 w:World) (O:List Nat) (y:Mm):Prop where
 h:MsHy w0 y
 k:Kept [] w0 w
 o:∀ k∈O,w0.heap.size≤k
theorem Eld.x {w0 w:World}{O:List Nat}{y:Mm}(h:Eld w0 w O y):RqHy O w y.x:=h.h.x.on h.k (fun k hk=>.inr (h.o k hk))
theorem Eld.r {w0 w:World}{O:List Nat}{y:Mm}(h:Eld w0 w O y):VtHy O w y.r (.slice y.uo y.un y.uc):=h.h.r.on h.k (fun k hk=>.inr (h.o k hk))
theorem Eld.on {w0 w w':World}{O O':List Nat}{y:Mm}(h:Eld w0 w O y) (hk:Kept O w w') (hn:∀ k∈O',k∈O∨w.heap.size≤k):Eld w0 w' O' y :=
 ⟨h.h,h.k.trans hk (fun i hi=>.inr (h.o i hi)),fun k hk'=>by
  rcases hn k hk' with h1 | h1
  ·exact h.o k h1
  ·exact Nat.le_trans h.k.size h1⟩
theorem sl_blk {w:World}{ao:Option Addr}{n c:Nat}{l:List Int}(h:Sl w ao n c l) (hn:0 < n):∀ k∈blk ao,k < w.heap.size:=by
 obtain ⟨b,o,rfl,hc⟩:=h.2.2.2.2 0 hn
 intro k hk
 simp [blk] at hk
 subst hk
 exact cell_ltO hc
set_option linter.unusedSimpArgs false in
set_option maxHeartbeats 4000000 in
set_option maxRecDepth 100000 in
theorem pnI_call (p b:Nat) (w0 w:World) (O:List Nat) (s:List Int × Int) (m:Nat) (y:Mm) (hE:Eld w0 w O y) (hi:y.i.length≤1048576) (hB:Bx w b 36 (msC y)) (hbO:b ∉ O) (hA:AtP p w O s (m+5000)):Calls Tryz.prog 159 #[penV p b] w (PnP p w O s m y .I):=by
 have k0:=lay1 w 96 [.pointer (some ⟨p,0,none⟩),.pointer (some ⟨b,0,none⟩)]
 have k1:=k0.drew
 have hP:=Bx.new w 96 [.pointer (some ⟨p,0,none⟩),.pointer (some ⟨b,0,none⟩)]
 have q0:=hP.cell 0 rfl
 have q1:=hP.cell 1 rfl
 have q2:=(hB.kept k0 (by simp)).cell 18 rfl
 have hA1:=(pen_hand p).kept hA k1 (by simp)
 have cN:=hide (wBytes_call p _ O s m y.io y.ic y.i (Sl.kept (hE.k.trans k1 (by simp)) hE.h.i (by simp)) hE.h.o hi (fun h0 k hk hm=>by have h1:=sl_blk hE.h.i h0 k hk;have h2:=hE.o k hm;omega) hA1)
 have HK1:=hide k1
 have HlO:=hide ((pen_hand p).lt hA)
 have HbO:=hide hbO
 clear k0 k1 hP hB hA hA1 hbO hE
 unfold penV
 go_enter Tryz.func159,Tryz.ntmps159
 go_upto_region 1 with fail
 refine wp_region_held_drew (S:=fun w9=>w9.cell? ⟨w.heap.size,0,none⟩=some (.pointer (some ⟨p,0,none⟩))∧w9.cell? ⟨w.heap.size,1,none⟩=some (.pointer (some ⟨b,0,none⟩))∧w9.cell? ⟨b,18,none⟩=some (.slice y.io y.i.length y.ic)) (by kernel_rfl) ⟨q0,q1,q2⟩ (fun hHeld=>?_)
 refine tks [0,1,2,3,4,5,6] (by rfl) (by kernel_rfl) (fun _ _ _ _ _ h=>h) hHeld ?_
 iterate 7
  refine yk ?_ rfl (Or.inl ⟨by rfl,?_⟩) ?_
  rotate_left
  ·intro w9 hSw;obtain ⟨m0,m1,m2⟩:=hSw;go_simp;(try with_reducible rfl)
  try simp only [sT,Act.put]
 refine yk0 ?_
 simp only [setK,sT]
 refine rd1 7 (by kernel_rfl) rfl (fun K0 hK0=>?_)
 go_simp
 refine cN.out.mono ?_
 clear cN
 rintro _ w1 ⟨rfl,hW⟩
 have HW1:=hide (Went.trans (HK1.out.mono (by simp)) (fun k hk=>.inl hk) hW)
 obtain ⟨O2,_,hk2,_⟩:=hW
 have hwO:w.heap.size ∉ O:=fun h=>by have:=HlO.out _ h;omega
 have HC:=hide (And.intro (hk2.cell q0 hwO) (And.intro (hk2.cell q1 hwO) (hk2.cell q2 HbO.out)))
 clear hk2 hwO
 go_wp2_with fail
 refine hK0.out _ _ HC.out (fun hHeld=>?_)
 clear hK0 K0
 refine wpAnyH_done (by kernel_rfl) ?_ _
 clear hHeld
 go_wp2_with fail
 go_returns
 exact ⟨rfl,HW1.out⟩
theorem kept_range {S:List Nat}{a w:World}{b o:Nat}{cs:List Value}(k:Kept S a w) (h:a.rangeAt b o cs) (hb:b ∉ S):w.rangeAt b o cs:=range_kept h k hb
set_option linter.unusedSimpArgs false in
set_option maxHeartbeats 4000000 in
set_option maxRecDepth 100000 in
theorem pnV_call (p b:Nat) (w0 w:World) (O:List Nat) (s:List Int × Int) (m:Nat) (y:Mm) (hE:Eld w0 w O y) (hB:Bx w b 36 (msC y)) (hbO:b ∉ O) (hA:AtP p w O s (m+200)):Calls Tryz.prog 163 #[penV p b] w (PnP p w O s m y .V):=by
 have k0:=lay1 w 96 [.pointer (some ⟨p,0,none⟩),.pointer (some ⟨b,0,none⟩)]
 have k1:=k0.drew
 have hP:=Bx.new w 96 [.pointer (some ⟨p,0,none⟩),.pointer (some ⟨b,0,none⟩)]
 have q0:=hP.cell 0 rfl
 have q1:=hP.cell 1 rfl
 have q2:=(hB.kept k0 (by simp)).msx
 have hA1:=(pen_hand p).kept hA k1 (by simp)
 have hX:=hE.x.on (k1.mono (by simp)) (fun k hk=>.inl hk)
 have cN0:=putE_call p _ O s m y.x hX hA1
 first | rw [put_may] at cN0 | rw [toldS_may] at cN0
 have cN:Hid (Calls Tryz.prog 140 #[.pointer (some ⟨p,0,none⟩),.agg (rqC y.x).toArray] _ _):=cN0
 have HK1:=hide k1
 have HlO:=hide ((pen_hand p).lt hA)
 have HbO:=hide hbO
 have Q2:=hide q2
 clear k0 k1 hP hB hA hA1 hbO hE hX cN0 q2
 unfold penV
 go_enter Tryz.func163,Tryz.ntmps163
 go_upto_region 1 with fail
 refine wp_region_held_drew (S:=fun w9=>w9.cell? ⟨w.heap.size,0,none⟩=some (.pointer (some ⟨p,0,none⟩))∧w9.cell? ⟨w.heap.size,1,none⟩=some (.pointer (some ⟨b,0,none⟩))∧w9.rangeAt b 6 (rqC y.x)) (by kernel_rfl) ⟨q0,q1,Q2.out⟩ (fun hHeld=>?_)
 refine tks [0,1,2,3,4,5] (by rfl) (by kernel_rfl) (fun _ _ _ _ _ h=>h) hHeld ?_
 iterate 6
  refine yk ?_ rfl (Or.inl ⟨by rfl,?_⟩) ?_
  rotate_left
  ·intro w9 hSw;obtain ⟨m0,m1,m2⟩:=hSw;go_simp;(try with_reducible rfl)
  try simp only [sT,Act.put]
 refine yk0 ?_
 simp only [setK,sT]
 refine wpAnyH_take (i:=6) (v:=.agg (rqC y.x).toArray) rfl (by kernel_rfl) (by kernel_rfl) (by kernel_rfl) (fun _ _ _ h=>h) (yieldsIf_load_mid (by rfl) _ _ rfl b 6 rfl (rqC y.x) _ (fun w9 hSw=>hSw.2.2) Tryz.underlying29 rfl (by first | exact size_rqP | exact size_vtP)) hHeld ?_
 try simp only [sT,Act.put]
 refine rd1 7 (by kernel_rfl) rfl (fun K0 hK0=>?_)
 go_simp
 refine cN.out.mono ?_
 clear cN
 rintro _ w1 ⟨rfl,hW⟩
 have HW1:=hide (Went.trans (HK1.out.mono (by simp)) (fun k hk=>.inl hk) hW)
 obtain ⟨O2,_,hk2,_⟩:=hW
 have hwO:w.heap.size ∉ O:=fun h=>by have:=HlO.out _ h;omega
 have HC:=hide (And.intro (hk2.cell q0 hwO) (And.intro (hk2.cell q1 hwO) (kept_range hk2 Q2.out HbO.out)))
 clear hk2 hwO
 go_wp2_with fail
 refine hK0.out _ _ HC.out (fun hHeld=>?_)
 clear hK0 K0
 refine wpAnyH_done (by kernel_rfl) ?_ _
 clear hHeld
 go_wp2_with fail
 go_returns
 exact ⟨rfl,HW1.out⟩
set_option linter.unusedSimpArgs false in
set_option maxHeartbeats 4000000 in
set_option maxRecDepth 100000 in
theorem pnR_call (p b:Nat) (w0 w:World) (O:List Nat) (s:List Int × Int) (m:Nat) (y:Mm) (hE:Eld w0 w O y) (hB:Bx w b 36 (msC y)) (hbO:b ∉ O) (hA:AtP p w O s (m+7000)):Calls Tryz.prog 164 #[penV p b] w (PnP p w O s m y .R):=by
 have k0:=lay1 w 96 [.pointer (some ⟨p,0,none⟩),.pointer (some ⟨b,0,none⟩)]
 have k1:=k0.drew
 have hP:=Bx.new w 96 [.pointer (some ⟨p,0,none⟩),.pointer (some ⟨b,0,none⟩)]
 have q0:=hP.cell 0 rfl
 have q1:=hP.cell 1 rfl
 have q2:=(hB.kept k0 (by simp)).msr
 have hA1:=(pen_hand p).kept hA k1 (by simp)
 have hX:=hE.r.on (k1.mono (by simp)) (fun k hk=>.inl hk)
 have cN0:=told_call p _ O s m y.r _ hX hA1
 first | rw [put_may] at cN0 | rw [toldS_may] at cN0
 have cN:Hid (Calls Tryz.prog 138 #[.pointer (some ⟨p,0,none⟩),.agg (vtLE y.r (.slice y.uo y.un y.uc)).toArray] _ _):=cN0
 have HK1:=hide k1
 have HlO:=hide ((pen_hand p).lt hA)
 have HbO:=hide hbO
 have Q2:=hide q2
 clear k0 k1 hP hB hA hA1 hbO hE hX cN0 q2
 unfold penV
 go_enter Tryz.func164,Tryz.ntmps164
 go_upto_region 1 with fail
 refine wp_region_held_drew (S:=fun w9=>w9.cell? ⟨w.heap.size,0,none⟩=some (.pointer (some ⟨p,0,none⟩))∧w9.cell? ⟨w.heap.size,1,none⟩=some (.pointer (some ⟨b,0,none⟩))∧w9.rangeAt b 20 (vtLE y.r (.slice y.uo y.un y.uc))) (by kernel_rfl) ⟨q0,q1,Q2.out⟩ (fun hHeld=>?_)
 refine tks [0,1,2,3,4,5] (by rfl) (by kernel_rfl) (fun _ _ _ _ _ h=>h) hHeld ?_
 iterate 6
  refine yk ?_ rfl (Or.inl ⟨by rfl,?_⟩) ?_
  rotate_left
  ·intro w9 hSw;obtain ⟨m0,m1,m2⟩:=hSw;go_simp;(try with_reducible rfl)
  try simp only [sT,Act.put]
 refine yk0 ?_
 simp only [setK,sT]
 refine wpAnyH_take (i:=6) (v:=.agg (vtLE y.r (.slice y.uo y.un y.uc)).toArray) rfl (by kernel_rfl) (by kernel_rfl) (by kernel_rfl) (fun _ _ _ h=>h) (yieldsIf_load_mid (by rfl) _ _ rfl b 20 rfl (vtLE y.r (.slice y.uo y.un y.uc)) _ (fun w9 hSw=>hSw.2.2) Tryz.underlying34 rfl (by first | exact size_rqP | exact size_vtP)) hHeld ?_
 try simp only [sT,Act.put]
 refine rd1 7 (by kernel_rfl) rfl (fun K0 hK0=>?_)
 go_simp
 refine cN.out.mono ?_
 clear cN
 rintro _ w1 ⟨rfl,hW⟩
 have HW1:=hide (Went.trans (HK1.out.mono (by simp)) (fun k hk=>.inl hk) hW)
 obtain ⟨O2,_,hk2,_⟩:=hW
 have hwO:w.heap.size ∉ O:=fun h=>by have:=HlO.out _ h;omega
 have HC:=hide (And.intro (hk2.cell q0 hwO) (And.intro (hk2.cell q1 hwO) (kept_range hk2 Q2.out HbO.out)))
 clear hk2 hwO
 go_wp2_with fail
 refine hK0.out _ _ HC.out (fun hHeld=>?_)
 clear hK0 K0
 refine wpAnyH_done (by kernel_rfl) ?_ _
 clear hHeld
 go_wp2_with fail
 go_returns
 exact ⟨rfl,HW1.out⟩
end Go.Proofs.YtakafmejllilnaaGreat
