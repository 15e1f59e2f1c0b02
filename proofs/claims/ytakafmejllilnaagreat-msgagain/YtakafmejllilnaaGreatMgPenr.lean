/-
  The pen: fields are written.
-/
import Derived.Test.YtakafmejllilnaaGreatMgSvr
import Derived.Test.YtakafmejllilnaaGreatW0r
import Derived.Deep.RegionHeld3
set_option maxHeartbeats 4000000
set_option maxRecDepth 100000
set_option linter.unusedSimpArgs false
namespace Go.Proofs.YtakafmejllilnaaGreat
open Go.RowKit
def xu:Fd→Ms→Bool
 | .B,x=>ah x.b
 | .S,x=>ah x.s
 | .T,x=>ah x.m
 | .V,x=>fe x.v
 | .L,x=>ah x.l.length && x.l.all ge
 | .I,_=>true
 | .N,x=>ah x.n
 | .R,x=>jc x.r
theorem dQ (p:Nat) (w:World) (O:List Nat) (s:List Int × Int) (m:Nat) (n:Int) (hA:ei p w O s (m+1)) :
 Calls Tryz.prog 55 #[.pointer (some ⟨p,0,none⟩),.int .i64 n] w fun r w'=>r=.returned (.tuple #[])∧cg (ei p) w O (bg s (ah n) (ap n)) m w':=by
 obtain ⟨g,rfl,hw,hl⟩:=hA;refine (lq w p g s.1 s.2 n hw (by omega)).mono ?_;rintro r w' h;have e:dU s.2 s.1 n=bg s (ah n) (ap n):=congrArg Prod.snd (iU s n);refine ⟨h.1,?_⟩;rw [← e];exact dF (ab.refl [] w) h (by have:=lT s.2 s.1 n;omega)
theorem pU (s:List Int × Int) (o:Bool) (b:List Int):(bg s o b).1.length≤s.1.length+b.length:=by
 unfold bg;split
 ·cases o <;> simp
 ·simp
theorem nE (s:List Int × Int) (l:List Int) (h2:l.length≤1048576):bI s.2 s.1 l=bg s true (ap l.length++l):=by
 unfold bI bg;by_cases h:s.2=0
 ·rw [if_pos h,if_pos h];simp [h2]
 ·rw [if_neg h,if_neg h]
theorem nV (p:Nat) (w:World) (O:List Nat) (s:List Int × Int) (m:Nat) (ao:Option Addr) (c:Nat) (l:List Int) (hs:Sl w ao l.length c l) (ho:bi l) (h2:l.length≤1048576) (hd:0 < l.length→∀ k∈bO ao,k ∉ O) (hA:ei p w O s (m+5000)) :
 Calls Tryz.prog 166 #[.pointer (some ⟨p,0,none⟩),.slice ao l.length c] w fun r w'=>r=.returned (.tuple #[])∧cg (ei p) w O (bg s true (ap l.length++l)) m w':=by
 obtain ⟨g,rfl,hw,hl⟩:=hA;refine (mS w p g s.1 s.2 ao l.length c l hw hs ho (by omega) hd).mono ?_;rintro r w' h;rw [← nE s l h2];refine ⟨h.1,dF (ab.refl [] w) h ?_⟩;rw [nE s l h2];have h3:=pU s true (ap l.length++l);have h4:=dO 5 (l.length:Int);rw [List.length_append] at h3;unfold ap at *;omega
def qK (p:Nat) (w:World) (O:List Nat) (s:List Int × Int) (m:Nat) (y:Mm) (f:Fd) (r:Ending) (w':World):Prop :=
 r=.returned (.tuple #[])∧cg (ei p) w O (bg s (xu f y.ms) (gi f y.ms)) m w'
def gy (p b:Nat):Value:=.agg #[.pointer (some ⟨p,0,none⟩),.pointer (some ⟨b,0,none⟩)]
theorem qX (p b:Nat) (w:World) (O:List Nat) (s:List Int × Int) (m:Nat) (y:Mm) (hB:Bx w b 36 (aX y)) (hbO:b ∉ O) (hA:ei p w O s (m+1)):Calls Tryz.prog 158 #[gy p b] w (qK p w O s m y .B):=by
 have k0:=ct w 96 [.pointer (some ⟨p,0,none⟩),.pointer (some ⟨b,0,none⟩)];have k1:=k0.drew;have hP:=Bx.new w 96 [.pointer (some ⟨p,0,none⟩),.pointer (some ⟨b,0,none⟩)];have q0:=hP.cell 0 rfl;have q1:=hP.cell 1 rfl;have q2:=(hB.kept k0 (by simp)).cell 3 rfl;have hA1:=(aI p).kept hA k1 (by simp);have cN:=aa (dQ p _ O s m y.b hA1);have HK1:=aa k1;have HlO:=aa ((aI p).lt hA);have HbO:=aa hbO;clear k0 k1 hP hB hA hA1 hbO;unfold gy;go_enter Tryz.func158,Tryz.ntmps158;go_upto_region 1 with fail
 refine wp_region_held_drew (S:=fun w9=>w9.cell? ⟨w.heap.size,0,none⟩=some (.pointer (some ⟨p,0,none⟩))∧w9.cell? ⟨w.heap.size,1,none⟩=some (.pointer (some ⟨b,0,none⟩))∧w9.cell? ⟨b,3,none⟩=some (.int .i64 y.b)) (by kernel_rfl) ⟨q0,q1,q2⟩ (fun hHeld=>?_);refine ay [0,1,2,3,4,5,6] (by rfl) (by kernel_rfl) (fun _ _ _ _ _ h=>h) hHeld ?_
 iterate 7
  refine yk ?_ rfl (Or.inl ⟨by rfl,?_⟩) ?_;rotate_left
  ·intro w9 hSw;obtain ⟨m0,m1,m2⟩:=hSw;go_simp;(try with_reducible rfl)
  try simp only [sT,Act.put]
 refine ax ?_;simp only [ai,sT];refine cd 7 (by kernel_rfl) rfl (fun K0 hK0=>?_);go_simp;refine cN.out.mono ?_;clear cN;rintro _ w1 ⟨rfl,hW⟩;have HW1:=aa (cg.trans (HK1.out.mono (by simp)) (fun k hk=>.inl hk) hW);obtain ⟨O2,_,hk2,_⟩:=hW;have hwO:w.heap.size ∉ O:=fun h=>by have:=HlO.out _ h;omega
 have HC:=aa (And.intro (hk2.cell q0 hwO) (And.intro (hk2.cell q1 hwO) (hk2.cell q2 HbO.out)));clear hk2 hwO;go_wp2_with fail
 refine hK0.out _ _ HC.out (fun hHeld=>?_);clear hK0 K0;refine wpAnyH_done (by kernel_rfl) ?_ _;clear hHeld;go_wp2_with fail
 go_returns
 exact ⟨rfl,HW1.out⟩
theorem ss (p b:Nat) (w:World) (O:List Nat) (s:List Int × Int) (m:Nat) (y:Mm) (hB:Bx w b 36 (aX y)) (hbO:b ∉ O) (hA:ei p w O s (m+1)):Calls Tryz.prog 161 #[gy p b] w (qK p w O s m y .S):=by
 have k0:=ct w 96 [.pointer (some ⟨p,0,none⟩),.pointer (some ⟨b,0,none⟩)];have k1:=k0.drew;have hP:=Bx.new w 96 [.pointer (some ⟨p,0,none⟩),.pointer (some ⟨b,0,none⟩)];have q0:=hP.cell 0 rfl;have q1:=hP.cell 1 rfl;have q2:=(hB.kept k0 (by simp)).cell 4 rfl;have hA1:=(aI p).kept hA k1 (by simp);have cN:=aa (dQ p _ O s m y.s hA1);have HK1:=aa k1;have HlO:=aa ((aI p).lt hA);have HbO:=aa hbO;clear k0 k1 hP hB hA hA1 hbO;unfold gy;go_enter Tryz.func161,Tryz.ntmps161;go_upto_region 1 with fail
 refine wp_region_held_drew (S:=fun w9=>w9.cell? ⟨w.heap.size,0,none⟩=some (.pointer (some ⟨p,0,none⟩))∧w9.cell? ⟨w.heap.size,1,none⟩=some (.pointer (some ⟨b,0,none⟩))∧w9.cell? ⟨b,4,none⟩=some (.int .i64 y.s)) (by kernel_rfl) ⟨q0,q1,q2⟩ (fun hHeld=>?_);refine ay [0,1,2,3,4,5,6] (by rfl) (by kernel_rfl) (fun _ _ _ _ _ h=>h) hHeld ?_
 iterate 7
  refine yk ?_ rfl (Or.inl ⟨by rfl,?_⟩) ?_;rotate_left
  ·intro w9 hSw;obtain ⟨m0,m1,m2⟩:=hSw;go_simp;(try with_reducible rfl)
  try simp only [sT,Act.put]
 refine ax ?_;simp only [ai,sT];refine cd 7 (by kernel_rfl) rfl (fun K0 hK0=>?_);go_simp;refine cN.out.mono ?_;clear cN;rintro _ w1 ⟨rfl,hW⟩;have HW1:=aa (cg.trans (HK1.out.mono (by simp)) (fun k hk=>.inl hk) hW);obtain ⟨O2,_,hk2,_⟩:=hW;have hwO:w.heap.size ∉ O:=fun h=>by have:=HlO.out _ h;omega
 have HC:=aa (And.intro (hk2.cell q0 hwO) (And.intro (hk2.cell q1 hwO) (hk2.cell q2 HbO.out)));clear hk2 hwO;go_wp2_with fail
 refine hK0.out _ _ HC.out (fun hHeld=>?_);clear hK0 K0;refine wpAnyH_done (by kernel_rfl) ?_ _;clear hHeld;go_wp2_with fail
 go_returns
 exact ⟨rfl,HW1.out⟩
theorem rJ (p b:Nat) (w:World) (O:List Nat) (s:List Int × Int) (m:Nat) (y:Mm) (hB:Bx w b 36 (aX y)) (hbO:b ∉ O) (hA:ei p w O s (m+1)):Calls Tryz.prog 162 #[gy p b] w (qK p w O s m y .T):=by
 have k0:=ct w 96 [.pointer (some ⟨p,0,none⟩),.pointer (some ⟨b,0,none⟩)];have k1:=k0.drew;have hP:=Bx.new w 96 [.pointer (some ⟨p,0,none⟩),.pointer (some ⟨b,0,none⟩)];have q0:=hP.cell 0 rfl;have q1:=hP.cell 1 rfl;have q2:=(hB.kept k0 (by simp)).cell 5 rfl;have hA1:=(aI p).kept hA k1 (by simp);have cN:=aa (dQ p _ O s m y.m hA1);have HK1:=aa k1;have HlO:=aa ((aI p).lt hA);have HbO:=aa hbO;clear k0 k1 hP hB hA hA1 hbO;unfold gy;go_enter Tryz.func162,Tryz.ntmps162;go_upto_region 1 with fail
 refine wp_region_held_drew (S:=fun w9=>w9.cell? ⟨w.heap.size,0,none⟩=some (.pointer (some ⟨p,0,none⟩))∧w9.cell? ⟨w.heap.size,1,none⟩=some (.pointer (some ⟨b,0,none⟩))∧w9.cell? ⟨b,5,none⟩=some (.int .i64 y.m)) (by kernel_rfl) ⟨q0,q1,q2⟩ (fun hHeld=>?_);refine ay [0,1,2,3,4,5,6] (by rfl) (by kernel_rfl) (fun _ _ _ _ _ h=>h) hHeld ?_
 iterate 7
  refine yk ?_ rfl (Or.inl ⟨by rfl,?_⟩) ?_;rotate_left
  ·intro w9 hSw;obtain ⟨m0,m1,m2⟩:=hSw;go_simp;(try with_reducible rfl)
  try simp only [sT,Act.put]
 refine ax ?_;simp only [ai,sT];refine cd 7 (by kernel_rfl) rfl (fun K0 hK0=>?_);go_simp;refine cN.out.mono ?_;clear cN;rintro _ w1 ⟨rfl,hW⟩;have HW1:=aa (cg.trans (HK1.out.mono (by simp)) (fun k hk=>.inl hk) hW);obtain ⟨O2,_,hk2,_⟩:=hW;have hwO:w.heap.size ∉ O:=fun h=>by have:=HlO.out _ h;omega
 have HC:=aa (And.intro (hk2.cell q0 hwO) (And.intro (hk2.cell q1 hwO) (hk2.cell q2 HbO.out)));clear hk2 hwO;go_wp2_with fail
 refine hK0.out _ _ HC.out (fun hHeld=>?_);clear hK0 K0;refine wpAnyH_done (by kernel_rfl) ?_ _;clear hHeld;go_wp2_with fail
 go_returns
 exact ⟨rfl,HW1.out⟩
theorem rM (p b:Nat) (w:World) (O:List Nat) (s:List Int × Int) (m:Nat) (y:Mm) (hB:Bx w b 36 (aX y)) (hbO:b ∉ O) (hA:ei p w O s (m+1)):Calls Tryz.prog 160 #[gy p b] w (qK p w O s m y .N):=by
 have k0:=ct w 96 [.pointer (some ⟨p,0,none⟩),.pointer (some ⟨b,0,none⟩)];have k1:=k0.drew;have hP:=Bx.new w 96 [.pointer (some ⟨p,0,none⟩),.pointer (some ⟨b,0,none⟩)];have q0:=hP.cell 0 rfl;have q1:=hP.cell 1 rfl;have q2:=(hB.kept k0 (by simp)).cell 19 rfl;have hA1:=(aI p).kept hA k1 (by simp);have cN:=aa (dQ p _ O s m y.n hA1);have HK1:=aa k1;have HlO:=aa ((aI p).lt hA);have HbO:=aa hbO;clear k0 k1 hP hB hA hA1 hbO;unfold gy;go_enter Tryz.func160,Tryz.ntmps160;go_upto_region 1 with fail
 refine wp_region_held_drew (S:=fun w9=>w9.cell? ⟨w.heap.size,0,none⟩=some (.pointer (some ⟨p,0,none⟩))∧w9.cell? ⟨w.heap.size,1,none⟩=some (.pointer (some ⟨b,0,none⟩))∧w9.cell? ⟨b,19,none⟩=some (.int .i64 y.n)) (by kernel_rfl) ⟨q0,q1,q2⟩ (fun hHeld=>?_);refine ay [0,1,2,3,4,5,6] (by rfl) (by kernel_rfl) (fun _ _ _ _ _ h=>h) hHeld ?_
 iterate 7
  refine yk ?_ rfl (Or.inl ⟨by rfl,?_⟩) ?_;rotate_left
  ·intro w9 hSw;obtain ⟨m0,m1,m2⟩:=hSw;go_simp;(try with_reducible rfl)
  try simp only [sT,Act.put]
 refine ax ?_;simp only [ai,sT];refine cd 7 (by kernel_rfl) rfl (fun K0 hK0=>?_);go_simp;refine cN.out.mono ?_;clear cN;rintro _ w1 ⟨rfl,hW⟩;have HW1:=aa (cg.trans (HK1.out.mono (by simp)) (fun k hk=>.inl hk) hW);obtain ⟨O2,_,hk2,_⟩:=hW;have hwO:w.heap.size ∉ O:=fun h=>by have:=HlO.out _ h;omega
 have HC:=aa (And.intro (hk2.cell q0 hwO) (And.intro (hk2.cell q1 hwO) (hk2.cell q2 HbO.out)));clear hk2 hwO;go_wp2_with fail
 refine hK0.out _ _ HC.out (fun hHeld=>?_);clear hK0 K0;refine wpAnyH_done (by kernel_rfl) ?_ _;clear hHeld;go_wp2_with fail
 go_returns
 exact ⟨rfl,HW1.out⟩
structure pi (w0 w:World) (O:List Nat) (y:Mm):Prop where
 h:cb w0 y
 k:ab [] w0 w
 o:∀ k∈O,w0.heap.size≤k
theorem pi.x {w0 w:World}{O:List Nat}{y:Mm}(h:pi w0 w O y):dS O w y.x:=h.h.x.on h.k (fun k hk=>.inr (h.o k hk))
theorem pi.r {w0 w:World}{O:List Nat}{y:Mm}(h:pi w0 w O y):eb O w y.r (.slice y.uo y.un y.uc):=h.h.r.on h.k (fun k hk=>.inr (h.o k hk))
theorem pi.on {w0 w w':World}{O O':List Nat}{y:Mm}(h:pi w0 w O y) (hk:ab O w w') (hn:∀ k∈O',k∈O∨w.heap.size≤k):pi w0 w' O' y :=
 ⟨h.h,h.k.trans hk (fun i hi=>.inr (h.o i hi)),fun k hk'=>by
  rcases hn k hk' with h1 | h1
  ·exact h.o k h1
  ·exact Nat.le_trans h.k.size h1⟩
theorem wj {w:World}{ao:Option Addr}{n c:Nat}{l:List Int}(h:Sl w ao n c l) (hn:0 < n):∀ k∈bO ao,k < w.heap.size:=by
 obtain ⟨b,o,rfl,hc⟩:=h.2.2.2.2 0 hn;intro k hk;simp [bO] at hk
 subst hk;exact kK hc
theorem rL (p b:Nat) (w0 w:World) (O:List Nat) (s:List Int × Int) (m:Nat) (y:Mm) (hE:pi w0 w O y) (hi:y.i.length≤1048576) (hB:Bx w b 36 (aX y)) (hbO:b ∉ O) (hA:ei p w O s (m+5000)):Calls Tryz.prog 159 #[gy p b] w (qK p w O s m y .I):=by
 have k0:=ct w 96 [.pointer (some ⟨p,0,none⟩),.pointer (some ⟨b,0,none⟩)];have k1:=k0.drew;have hP:=Bx.new w 96 [.pointer (some ⟨p,0,none⟩),.pointer (some ⟨b,0,none⟩)];have q0:=hP.cell 0 rfl;have q1:=hP.cell 1 rfl;have q2:=(hB.kept k0 (by simp)).cell 18 rfl;have hA1:=(aI p).kept hA k1 (by simp);have cN:=aa (nV p _ O s m y.io y.ic y.i (Sl.kept (hE.k.trans k1 (by simp)) hE.h.i (by simp)) hE.h.o hi (fun h0 k hk hm=>by have h1:=wj hE.h.i h0 k hk;have h2:=hE.o k hm;omega) hA1);have HK1:=aa k1;have HlO:=aa ((aI p).lt hA);have HbO:=aa hbO;clear k0 k1 hP hB hA hA1 hbO hE;unfold gy;go_enter Tryz.func159,Tryz.ntmps159;go_upto_region 1 with fail
 refine wp_region_held_drew (S:=fun w9=>w9.cell? ⟨w.heap.size,0,none⟩=some (.pointer (some ⟨p,0,none⟩))∧w9.cell? ⟨w.heap.size,1,none⟩=some (.pointer (some ⟨b,0,none⟩))∧w9.cell? ⟨b,18,none⟩=some (.slice y.io y.i.length y.ic)) (by kernel_rfl) ⟨q0,q1,q2⟩ (fun hHeld=>?_);refine ay [0,1,2,3,4,5,6] (by rfl) (by kernel_rfl) (fun _ _ _ _ _ h=>h) hHeld ?_
 iterate 7
  refine yk ?_ rfl (Or.inl ⟨by rfl,?_⟩) ?_;rotate_left
  ·intro w9 hSw;obtain ⟨m0,m1,m2⟩:=hSw;go_simp;(try with_reducible rfl)
  try simp only [sT,Act.put]
 refine ax ?_;simp only [ai,sT];refine cd 7 (by kernel_rfl) rfl (fun K0 hK0=>?_);go_simp;refine cN.out.mono ?_;clear cN;rintro _ w1 ⟨rfl,hW⟩;have HW1:=aa (cg.trans (HK1.out.mono (by simp)) (fun k hk=>.inl hk) hW);obtain ⟨O2,_,hk2,_⟩:=hW;have hwO:w.heap.size ∉ O:=fun h=>by have:=HlO.out _ h;omega
 have HC:=aa (And.intro (hk2.cell q0 hwO) (And.intro (hk2.cell q1 hwO) (hk2.cell q2 HbO.out)));clear hk2 hwO;go_wp2_with fail
 refine hK0.out _ _ HC.out (fun hHeld=>?_);clear hK0 K0;refine wpAnyH_done (by kernel_rfl) ?_ _;clear hHeld;go_wp2_with fail
 go_returns
 exact ⟨rfl,HW1.out⟩
theorem fO {S:List Nat}{a w:World}{b o:Nat}{cs:List Value}(k:ab S a w) (h:a.rangeAt b o cs) (hb:b ∉ S):w.rangeAt b o cs:=a8 h k hb
theorem rp (p b:Nat) (w0 w:World) (O:List Nat) (s:List Int × Int) (m:Nat) (y:Mm) (hE:pi w0 w O y) (hB:Bx w b 36 (aX y)) (hbO:b ∉ O) (hA:ei p w O s (m+200)):Calls Tryz.prog 163 #[gy p b] w (qK p w O s m y .V):=by
 have k0:=ct w 96 [.pointer (some ⟨p,0,none⟩),.pointer (some ⟨b,0,none⟩)];have k1:=k0.drew;have hP:=Bx.new w 96 [.pointer (some ⟨p,0,none⟩),.pointer (some ⟨b,0,none⟩)];have q0:=hP.cell 0 rfl;have q1:=hP.cell 1 rfl;have q2:=(hB.kept k0 (by simp)).msx;have hA1:=(aI p).kept hA k1 (by simp);have hX:=hE.x.on (k1.mono (by simp)) (fun k hk=>.inl hk);have cN0:=jm p _ O s m y.x hX hA1;first | rw [j1] at cN0 | rw [jz] at cN0
 have cN:Hid (Calls Tryz.prog 140 #[.pointer (some ⟨p,0,none⟩),.agg (bp y.x).toArray] _ _):=cN0;have HK1:=aa k1;have HlO:=aa ((aI p).lt hA);have HbO:=aa hbO;have Q2:=aa q2;clear k0 k1 hP hB hA hA1 hbO hE hX cN0 q2;unfold gy;go_enter Tryz.func163,Tryz.ntmps163;go_upto_region 1 with fail
 refine wp_region_held_drew (S:=fun w9=>w9.cell? ⟨w.heap.size,0,none⟩=some (.pointer (some ⟨p,0,none⟩))∧w9.cell? ⟨w.heap.size,1,none⟩=some (.pointer (some ⟨b,0,none⟩))∧w9.rangeAt b 6 (bp y.x)) (by kernel_rfl) ⟨q0,q1,Q2.out⟩ (fun hHeld=>?_);refine ay [0,1,2,3,4,5] (by rfl) (by kernel_rfl) (fun _ _ _ _ _ h=>h) hHeld ?_
 iterate 6
  refine yk ?_ rfl (Or.inl ⟨by rfl,?_⟩) ?_;rotate_left
  ·intro w9 hSw;obtain ⟨m0,m1,m2⟩:=hSw;go_simp;(try with_reducible rfl)
  try simp only [sT,Act.put]
 refine ax ?_;simp only [ai,sT];refine wpAnyH_take (i:=6) (v:=.agg (bp y.x).toArray) rfl (by kernel_rfl) (by kernel_rfl) (by kernel_rfl) (fun _ _ _ h=>h) (yieldsIf_load_mid (by rfl) _ _ rfl b 6 rfl (bp y.x) _ (fun w9 hSw=>hSw.2.2) Tryz.underlying29 rfl (by first | exact cm | exact dH)) hHeld ?_;try simp only [sT,Act.put]
 refine cd 7 (by kernel_rfl) rfl (fun K0 hK0=>?_);go_simp;refine cN.out.mono ?_;clear cN;rintro _ w1 ⟨rfl,hW⟩;have HW1:=aa (cg.trans (HK1.out.mono (by simp)) (fun k hk=>.inl hk) hW);obtain ⟨O2,_,hk2,_⟩:=hW;have hwO:w.heap.size ∉ O:=fun h=>by have:=HlO.out _ h;omega
 have HC:=aa (And.intro (hk2.cell q0 hwO) (And.intro (hk2.cell q1 hwO) (fO hk2 Q2.out HbO.out)));clear hk2 hwO;go_wp2_with fail
 refine hK0.out _ _ HC.out (fun hHeld=>?_);clear hK0 K0;refine wpAnyH_done (by kernel_rfl) ?_ _;clear hHeld;go_wp2_with fail
 go_returns
 exact ⟨rfl,HW1.out⟩
theorem qN (p b:Nat) (w0 w:World) (O:List Nat) (s:List Int × Int) (m:Nat) (y:Mm) (hE:pi w0 w O y) (hB:Bx w b 36 (aX y)) (hbO:b ∉ O) (hA:ei p w O s (m+7000)):Calls Tryz.prog 164 #[gy p b] w (qK p w O s m y .R):=by
 have k0:=ct w 96 [.pointer (some ⟨p,0,none⟩),.pointer (some ⟨b,0,none⟩)];have k1:=k0.drew;have hP:=Bx.new w 96 [.pointer (some ⟨p,0,none⟩),.pointer (some ⟨b,0,none⟩)];have q0:=hP.cell 0 rfl;have q1:=hP.cell 1 rfl;have q2:=(hB.kept k0 (by simp)).msr;have hA1:=(aI p).kept hA k1 (by simp);have hX:=hE.r.on (k1.mono (by simp)) (fun k hk=>.inl hk);have cN0:=lp p _ O s m y.r _ hX hA1;first | rw [j1] at cN0 | rw [jz] at cN0
 have cN:Hid (Calls Tryz.prog 138 #[.pointer (some ⟨p,0,none⟩),.agg (au y.r (.slice y.uo y.un y.uc)).toArray] _ _):=cN0;have HK1:=aa k1;have HlO:=aa ((aI p).lt hA);have HbO:=aa hbO;have Q2:=aa q2;clear k0 k1 hP hB hA hA1 hbO hE hX cN0 q2;unfold gy;go_enter Tryz.func164,Tryz.ntmps164;go_upto_region 1 with fail
 refine wp_region_held_drew (S:=fun w9=>w9.cell? ⟨w.heap.size,0,none⟩=some (.pointer (some ⟨p,0,none⟩))∧w9.cell? ⟨w.heap.size,1,none⟩=some (.pointer (some ⟨b,0,none⟩))∧w9.rangeAt b 20 (au y.r (.slice y.uo y.un y.uc))) (by kernel_rfl) ⟨q0,q1,Q2.out⟩ (fun hHeld=>?_);refine ay [0,1,2,3,4,5] (by rfl) (by kernel_rfl) (fun _ _ _ _ _ h=>h) hHeld ?_
 iterate 6
  refine yk ?_ rfl (Or.inl ⟨by rfl,?_⟩) ?_;rotate_left
  ·intro w9 hSw;obtain ⟨m0,m1,m2⟩:=hSw;go_simp;(try with_reducible rfl)
  try simp only [sT,Act.put]
 refine ax ?_;simp only [ai,sT];refine wpAnyH_take (i:=6) (v:=.agg (au y.r (.slice y.uo y.un y.uc)).toArray) rfl (by kernel_rfl) (by kernel_rfl) (by kernel_rfl) (fun _ _ _ h=>h) (yieldsIf_load_mid (by rfl) _ _ rfl b 20 rfl (au y.r (.slice y.uo y.un y.uc)) _ (fun w9 hSw=>hSw.2.2) Tryz.underlying34 rfl (by first | exact cm | exact dH)) hHeld ?_;try simp only [sT,Act.put]
 refine cd 7 (by kernel_rfl) rfl (fun K0 hK0=>?_);go_simp;refine cN.out.mono ?_;clear cN;rintro _ w1 ⟨rfl,hW⟩;have HW1:=aa (cg.trans (HK1.out.mono (by simp)) (fun k hk=>.inl hk) hW);obtain ⟨O2,_,hk2,_⟩:=hW;have hwO:w.heap.size ∉ O:=fun h=>by have:=HlO.out _ h;omega
 have HC:=aa (And.intro (hk2.cell q0 hwO) (And.intro (hk2.cell q1 hwO) (fO hk2 Q2.out HbO.out)));clear hk2 hwO;go_wp2_with fail
 refine hK0.out _ _ HC.out (fun hHeld=>?_);clear hK0 K0;refine wpAnyH_done (by kernel_rfl) ?_ _;clear hHeld;go_wp2_with fail
 go_returns
 exact ⟨rfl,HW1.out⟩
end Go.Proofs.YtakafmejllilnaaGreat
