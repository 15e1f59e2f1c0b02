/-
  Texts laid as one.
-/
import Derived.Test.YtgpnlidnbldiiaaGreatQ3r
import Derived.Test.YtgpnlidnbldiiaaGreatQ8r
import Derived.Deep.RegionHeld3
import Derived.Test.YtgpnlidnbldiiaaGreatQ12r
import Derived.Test.YtgpnlidnbldiiaaGreatEdChgr
set_option maxHeartbeats 8000000
set_option maxRecDepth 100000
/-
 The document's own SameCommit,SameCommits,of what is the same.
-/
namespace Go.Proofs.YtgpnlidnbldiiaaGreat
open Go.RowKit
theorem ug (w:World) (x:aV) (ao bo:Option Addr) (n m c d:Nat) (h1:di w ao n c x.c) (h2:di w bo m d x.c) :
 Calls Tryz.prog 73 #[.agg #[.int .i64 x.r,.int .i64 x.b,.string (ak x.n),.slice ao n c],.agg #[.int .i64 x.r,.int .i64 x.b,.string (ak x.n),.slice bo m d]] w fun e w'=>e=.returned (.bool true)∧aa [] w w':=by
 have hKa:aa [] w ((w.alloc (.cells #[.int .i64 x.r,.int .i64 x.b,.string (ak x.n),.slice ao n c] 137)).alloc (.cells #[.int .i64 x.r,.int .i64 x.b,.string (ak x.n),.slice bo m d] 137)):=((aa.refl [] w).alloc _).alloc _;have cS:=mE _ ao bo n m c d x.c x.c (h1.kept hKa (by simp)) (h2.kept hKa (by simp));rw [decide_eq_true rfl] at cS;clear h1 h2;go_enter Tryz.func73,Tryz.ntmps73;go_wp2_with fail
 refine cS.mono ?_;rintro _ w1 ⟨rfl,hK⟩;go_wp2_with fail
 go_ret
 exact ⟨rfl,hKa.trans hK (by simp)⟩
def Eu (w:World) (n:Nat) (iv:Value) (wr:World):Prop:=∃ i:Nat,iv=.int .i64 (i:Int)∧i≤n∧Hid (aa [] w wr)
theorem lu (w:World) (ao bo:Option Addr) (n m c d:Nat) (K M:List (aV × Value)) (hK:iC w ao n c K) (hM:iC w bo m d M) (he:K.map Prod.fst=M.map Prod.fst) :
 Calls Tryz.prog 34 #[.slice ao n c,.slice bo m d] w fun e w'=>e=.returned (.bool true)∧aa [] w w':=by
 have hl:=hK.1;have hl2:=hM.1;have hnm:n=m:=by have:=congrArg List.length he;simp at this;omega
 subst hnm;have HLK:Hid (K.length=n):=hl;have HLM:Hid (M.length=n):=hl2;have hc:=hK.2.1;have hm:=hK.2.2.1;have hd:=hM.2.1;have hm2:=hM.2.2.1;unfold maxLen at hm hm2;have HK:Hid (iC w ao n c K):=hK;have HM:Hid (iC w bo n d M):=hM;have HE:Hid (K.map Prod.fst=M.map Prod.fst):=he;clear hl hl2 hK hM he;go_enter Tryz.func34,Tryz.ntmps34;go_wp2_with fail
 go_loopw [5] (fun iv wr=>Eu w n iv wr) (fun iv _=>n - (intOf iv).toNat)
 case atStart=>exact ⟨0,rfl,Nat.zero_le _,aa.refl _ _⟩
 case round =>
  obtain ⟨i,rfl,hi,HW⟩:=hrel;by_cases hlt:i < n
  ·have hlt':(i:Int) < n:=by omega
   have hic:i≤c:=by omega
   have hid:i≤d:=by omega
   have hiK:i < K.length:=by rw [HLK.out];exact hlt
   have hiM:i < M.length:=by rw [HLM.out];exact hlt
   have hxy:M[i].1=K[i].1:=by
    have h1:(K.map Prod.fst)[i]'(by simpa using hiK)=(M.map Prod.fst)[i]'(by simpa using hiM):=by simp only [HE.out]
    simpa using h1.symm
   obtain ⟨g,o,rfl,hx⟩:=HK.out.2.2.2.1 i hiK;obtain ⟨g2,o2,rfl,hy⟩:=HM.out.2.2.2.1 i hiM;obtain ⟨mo,mm,mc,e1,hs1,_⟩:=HK.out.2.2.2.2 _ (List.getElem_mem hiK);obtain ⟨mo2,mm2,mc2,e2,hs2,_⟩:=HM.out.2.2.2.2 _ (List.getElem_mem hiM);obtain ⟨x0,x1,x2,x3⟩:=hx.kept HW.out (by simp);obtain ⟨y0,y1,y2,y3⟩:=hy.kept HW.out (by simp);rw [e1] at x3;rw [e2] at y3;rw [hxy] at y0 y1 y2 hs2;have cS:=fun W (hk:aa [] wr W)=>ug W K[i].1 mo mo2 mm mm2 mc mc2 ((hs1.kept HW.out (by simp)).kept hk (by simp)) ((hs2.kept HW.out (by simp)).kept hk (by simp));generalize K[i].1=x at *;clear hx hy hs1 hs2 hxy e1 e2;go_wp2_with fail
   go_region_held3 (fun w'=>(w'.cell? ⟨g,o+i*4,none⟩=some (.int .i64 x.r)∧w'.cell? ⟨g,o+i*4+1,none⟩=some (.int .i64 x.b)∧w'.cell? ⟨g,o+i*4+2,none⟩=some (.string (ak x.n))∧w'.cell? ⟨g,o+i*4+3,none⟩=some (.slice mo mm mc))∧w'.cell? ⟨g2,o2+i*4,none⟩=some (.int .i64 x.r)∧w'.cell? ⟨g2,o2+i*4+1,none⟩=some (.int .i64 x.b)∧w'.cell? ⟨g2,o2+i*4+2,none⟩=some (.string (ak x.n))∧w'.cell? ⟨g2,o2+i*4+3,none⟩=some (.slice mo2 mm2 mc2))
    (first | go_keep | exact ⟨⟨hK3.cell x0 (by simp),hK3.cell x1 (by simp),hK3.cell x2 (by simp),hK3.cell x3 (by simp)⟩,hK3.cell y0 (by simp),hK3.cell y1 (by simp),hK3.cell y2 (by simp),hK3.cell y3 (by simp)⟩)
    (first
      | (go_at_call 73;refine (cS _ ?_).mono ?_;exact (aa.refl [] _).drew;rintro e w3 ⟨rfl,hK3⟩;replace hK3:=(aa.refl [] wr).drew.trans hK3 (by simp)))
   have HW3:Hid (aa [] w w3):=HW.out.trans hK3 (by simp);clear cS hK3;(go_wp2_with fail);go_roundw
   case rel=>exact ⟨i+1,by go_num,by omega,HW3⟩
   case measure=>simp [intOf];omega
  ·have hlt':¬ (i:Int) < n:=by omega
   (go_wp2_with fail);go_ret
   exact ⟨rfl,HW.out⟩
theorem lw (w:World) (v:Vt) (u1 u2:Value) (h1:nU w u1 v.k) (h2:nU w u2 v.k) :
 Calls Tryz.prog 10 #[gA v u1,gA v u2] w fun e w'=>e=.returned (.bool true)∧aa [] w w':=by
 obtain ⟨ao,n,c,K,rfl,hK,e1,_⟩:=h1;obtain ⟨bo,m,d,M,rfl,hM,e2,_⟩:=h2;have hKa:aa [] w ((w.alloc (.cells #[.int .i64 v.c,.int .i64 v.s,.int .i64 v.r,.string (ak v.p),.int .u64 v.d,.slice ao n c,.int .i64 v.m] 39)).alloc (.cells #[.int .i64 v.c,.int .i64 v.s,.int .i64 v.r,.string (ak v.p),.int .u64 v.d,.slice bo m d,.int .i64 v.m] 39)):=((aa.refl [] w).alloc _).alloc _;have cS:=lu _ ao bo n m c d K M (hK.kept hKa) (hM.kept hKa) (by rw [e1,e2]);clear hK hM e1 e2;unfold gA;go_enter Tryz.func10,Tryz.ntmps10;go_wp2_with fail
 refine cS.mono ?_;rintro _ w1 ⟨rfl,hK⟩;go_wp2_with fail
 go_ret
 exact ⟨rfl,hKa.trans hK (by simp)⟩
theorem uh (w:World) (x:Se) (u1 u2:Value) (h1:nU w u1 x.v.k) (h2:nU w u2 x.v.k) :
 Calls Tryz.prog 94 #[jN x u1,jN x u2] w fun e w'=>e=.returned (.bool true)∧aa [] w w':=by
 obtain ⟨ao,n,c,rfl⟩:=h1.one;obtain ⟨bo,m,d,rfl⟩:=h2.one;have hKa:aa [] w ((w.alloc (.cells #[.int .i64 x.i,.int .i64 x.q,.string (ak x.n),.int .i64 x.v.c,.int .i64 x.v.s,.int .i64 x.v.r,.string (ak x.v.p),.int .u64 x.v.d,.slice ao n c,.int .i64 x.v.m] 155)).alloc (.cells #[.int .i64 x.i,.int .i64 x.q,.string (ak x.n),.int .i64 x.v.c,.int .i64 x.v.s,.int .i64 x.v.r,.string (ak x.v.p),.int .u64 x.v.d,.slice bo m d,.int .i64 x.v.m] 155)):=((aa.refl [] w).alloc _).alloc _;have cS:=lw _ x.v _ _ (h1.kept hKa) (h2.kept hKa);clear h1 h2;unfold gA at cS;unfold jN;go_enter Tryz.func94,Tryz.ntmps94;go_wp2_with fail
 refine cS.mono ?_;rintro _ w1 ⟨rfl,hK⟩;go_wp2_with fail
 go_ret
 exact ⟨rfl,hKa.trans hK (by simp)⟩
def EF (w:World) (n:Nat) (iv:Value) (wr:World):Prop:=∃ i:Nat,iv=.int .i64 (i:Int)∧i≤n∧Hid (aa [] w wr)
theorem qQ (w:World) (ao' bo':Option Addr) (n' m' c' d':Nat) (Y Z:List (Se × Value)) (hY:vo w ao' n' c' Y) (hZ:vo w bo' m' d' Z) (he:Y.map Prod.fst=Z.map Prod.fst) :
 Calls Tryz.prog 46 #[.slice ao' n' c',.slice bo' m' d'] w fun e w'=>e=.returned (.bool true)∧aa [] w w':=by
 have hl:=hY.1;have hl2:=hZ.1;have hnm:n'=m':=by have:=congrArg List.length he;simp at this;omega
 subst hnm;have HLK:=ah hl;have HLM:=ah hl2;have hc:=hY.2.1;have hm:=hY.2.2.1;have hd:=hZ.2.1;have hm2:=hZ.2.2.1;unfold maxLen at hm hm2;have HK:=ah hY;have HM:=ah hZ;have HE:=ah he;clear hl hl2 hY hZ he;go_enter Tryz.func46,Tryz.ntmps46;go_wp2_with fail
 go_loopw [5] (fun iv wr=>EF w n' iv wr) (fun iv _=>n' - (intOf iv).toNat)
 case atStart=>exact ⟨0,rfl,Nat.zero_le _,aa.refl _ _⟩
 case round =>
  obtain ⟨i,rfl,hi,HW⟩:=hrel;by_cases hlt:i < n'
  ·have hlt':(i:Int) < n':=by omega
   have hic:i≤c':=by omega
   have hid:i≤d':=by omega
   have hiK:i < Y.length:=by rw [HLK.out];exact hlt
   have hiM:i < Z.length:=by rw [HLM.out];exact hlt
   have hxy:Z[i].1=Y[i].1:=by
    have h1:=dm HE.out hiK (by simpa using hiM);simpa using h1.symm
   obtain ⟨g,o,rfl,hx⟩:=HK.out.2.2.2.2.1 i hiK;obtain ⟨g2,o2,rfl,hy⟩:=HM.out.2.2.2.2.1 i hiM;have hs1:=(HK.out.2.2.2.2.2 _ (List.getElem_mem hiK)).kept HW.out;have hs2:=(HM.out.2.2.2.2.2 _ (List.getElem_mem hiM)).kept HW.out;obtain ⟨x0,x1,x2,x3,x4,x5,x6,x7,x8,x9⟩:=hx.kept HW.out (by simp);obtain ⟨y0,y1,y2,y3,y4,y5,y6,y7,y8,y9⟩:=hy.kept HW.out (by simp);rw [hxy] at y0 y1 y2 y3 y4 y5 y6 y7 y9 hs2;obtain ⟨ao,n,c,e1⟩:=hs1.one;obtain ⟨bo,m,d,e2⟩:=hs2.one;rw [e1] at x8 hs1;rw [e2] at y8 hs2;have cS:=fun W (hk:aa [] wr W)=>uh W Y[i].1 _ _ (hs1.kept hk) (hs2.kept hk);generalize Y[i].1=x at *;unfold jN at cS;clear hx hy hs1 hs2 hxy e1 e2;go_wp2_with fail
   go_region_held3 (fun w'=>(w'.cell? ⟨g,o+i*10,none⟩=some (.int .i64 x.i)∧w'.cell? ⟨g,o+i*10+1,none⟩=some (.int .i64 x.q)∧w'.cell? ⟨g,o+i*10+2,none⟩=some (.string (ak x.n))∧w'.cell? ⟨g,o+i*10+3,none⟩=some (.int .i64 x.v.c)∧w'.cell? ⟨g,o+i*10+4,none⟩=some (.int .i64 x.v.s)∧w'.cell? ⟨g,o+i*10+5,none⟩=some (.int .i64 x.v.r)∧w'.cell? ⟨g,o+i*10+6,none⟩=some (.string (ak x.v.p))∧w'.cell? ⟨g,o+i*10+7,none⟩=some (.int .u64 x.v.d)∧w'.cell? ⟨g,o+i*10+8,none⟩=some (.slice ao n c)∧w'.cell? ⟨g,o+i*10+9,none⟩=some (.int .i64 x.v.m))∧w'.cell? ⟨g2,o2+i*10,none⟩=some (.int .i64 x.i)∧w'.cell? ⟨g2,o2+i*10+1,none⟩=some (.int .i64 x.q)∧w'.cell? ⟨g2,o2+i*10+2,none⟩=some (.string (ak x.n))∧w'.cell? ⟨g2,o2+i*10+3,none⟩=some (.int .i64 x.v.c)∧w'.cell? ⟨g2,o2+i*10+4,none⟩=some (.int .i64 x.v.s)∧w'.cell? ⟨g2,o2+i*10+5,none⟩=some (.int .i64 x.v.r)∧w'.cell? ⟨g2,o2+i*10+6,none⟩=some (.string (ak x.v.p))∧w'.cell? ⟨g2,o2+i*10+7,none⟩=some (.int .u64 x.v.d)∧w'.cell? ⟨g2,o2+i*10+8,none⟩=some (.slice bo m d)∧w'.cell? ⟨g2,o2+i*10+9,none⟩=some (.int .i64 x.v.m))
    (first | go_keep | exact ⟨⟨hK3.cell x0 (by simp),hK3.cell x1 (by simp),hK3.cell x2 (by simp),hK3.cell x3 (by simp),hK3.cell x4 (by simp),hK3.cell x5 (by simp),hK3.cell x6 (by simp),hK3.cell x7 (by simp),hK3.cell x8 (by simp),hK3.cell x9 (by simp)⟩,hK3.cell y0 (by simp),hK3.cell y1 (by simp),hK3.cell y2 (by simp),hK3.cell y3 (by simp),hK3.cell y4 (by simp),hK3.cell y5 (by simp),hK3.cell y6 (by simp),hK3.cell y7 (by simp),hK3.cell y8 (by simp),hK3.cell y9 (by simp)⟩)
    (first
      | (go_at_call 94;refine (cS _ ?_).mono ?_;exact (aa.refl [] _).drew;rintro e w3 ⟨rfl,hK3⟩;replace hK3:=(aa.refl [] wr).drew.trans hK3 (by simp)))
   have HW3:Hid (aa [] w w3):=HW.out.trans hK3 (by simp);clear cS hK3;(go_wp2_with fail);go_roundw
   case rel=>exact ⟨i+1,by go_num,by omega,HW3⟩
   case measure=>simp [intOf];omega
  ·have hlt':¬ (i:Int) < n':=by omega
   (go_wp2_with fail);go_ret
   exact ⟨rfl,HW.out⟩
theorem zD {L:List Ep}{i:Nat}(h:i < L.length) (k:Nat):fd (L.take (i+1)) k=(fd (L.take i) k || aK L[i].m k):=by
 unfold fd;rw [List.take_succ_eq_append_getElem h,List.any_append];simp
def ES (w:World) (L:List Ep) (nv ov:Value) (wr:World):Prop:=∃ N:Nat,nv=.int .i64 (N:Int)∧N≤15∧Hid (bJ w.heap.size wr ov (iZ (fd L) N))∧Hid (aa [] w wr)
def EM (L:List Ep) (N n:Nat) (iv bv:Value):Prop:=∃ (i:Nat) (b:Bool),iv=.int .i64 (i:Int)∧bv=.bool b∧i≤n∧Hid (b=fd (L.take i) N)
theorem sj (B:Nat) (w:World) (p:Nat) (al:Int) (L:List Ep) (h:jS B w p al L) (hn:L≠[]) (hl:L.length≤1000000) :
 Calls Tryz.prog 49 #[.pointer (some ⟨p,0,none⟩)] w fun e w'=>∃ v,e=.returned v∧bJ w.heap.size w' v (bc (fd L))∧aa [] w w':=by
 obtain ⟨g,cap,X,h1,hS,hX,_,_,_⟩:=h.open hn;have c1:w.cell? ⟨p,1,none⟩=some (.slice (some ⟨g,0,none⟩) L.length cap):=ag (k:=1) h1 rfl;have HS:=ah hS;have HX:=ah hX;generalize hln:L.length=n at c1 hl;have HL:=ah hln;clear h hn h1 hS hX hln;go_enter Tryz.func49,Tryz.ntmps49;go_wp2_with fail
 go_loopw [4,3] (fun nv ov wr=>ES w L nv ov wr) (fun nv _ _=>15 - (intOf nv).toNat)
 case atStart=>exact ⟨0,rfl,Nat.zero_le _,World.ownsRow_nil _ _ _ _,aa.refl _ _⟩
 case round =>
  obtain ⟨N,rfl,hN,HRo,HK⟩:=hrel;by_cases hlt:N < 15
  ·have hlt':(N:Int) < 15:=by omega
   have d1:=HK.out.cell c1 (by simp);(go_wp2_with fail);go_loop [6,5] (fun iv bv=>EM L N n iv bv) (fun iv _=>n - (intOf iv).toNat)
   case atStart=>exact ⟨0,false,rfl,rfl,Nat.zero_le _,by simp [Hid,fd]⟩
   case round =>
    obtain ⟨i,b,rfl,rfl,hi,HB⟩:=hrel;by_cases hlti:i < n
    ·have hlti':(i:Int) < n:=by omega
     have hiL:i < L.length:=by rw [HL.out];exact hlti
     have hiX:i < X.length:=by rw [HS.out.1];exact hiL
     have HU:=ah (zD hiL N);cases b with
     | true =>
       have HB2:Hid (true=fd (L.take (i+1)) N):=by show _=_;rw [HU.out,← HB.out];rfl
       (go_wp2_with fail);go_round
       case rel=>exact ⟨i+1,true,by go_num,rfl,by omega,HB2⟩
       case measure=>simp [intOf];omega
     | false =>
       obtain ⟨g2,o2,e2,y0,y1⟩:=HS.out.2.2.2.1 i hiX;cases e2
       obtain ⟨so,sc,hv,hsl⟩:=HS.out.2.2.2.2 _ (List.getElem_mem hiX);have hXi:=pF HX.out hiX hiL;rw [hv,Nat.zero_add] at y1;rw [hXi] at y1 hsl;have t1:=HK.out.cell y1 (by simp);have cH:=oU _ so _ sc L[i].m (hsl.kept HK.out) (N:Int);have HJs:Hid (decide ((N:Int)∈L[i].m)=aK L[i].m N):=rfl;rw [HJs.out] at cH;have HB2:Hid (aK L[i].m N=fd (L.take (i+1)) N):=by show _=_;rw [HU.out,← HB.out];rfl
       clear y0 y1 hv hsl hXi HJs HU;generalize aK L[i].m N=s at *;generalize L[i].m.length=sn at *;clear hiX hiL;(go_wp2_with (go_at_call 96;refine cH.mono ?_;clear cH;rintro _ _ ⟨rfl,rfl⟩));go_round
       case rel=>exact ⟨i+1,s,by go_num,rfl,by omega,HB2⟩
       case measure=>simp [intOf];omega
    ·have hlti':¬ (i:Int) < n:=by omega
     have HBn:Hid (fd L N=b):=by
      show _=_;have h1:=HB.out;rw [List.take_of_length_le (by rw [HL.out];omega)] at h1;exact h1.symm
     cases b with
     | true =>
       (go_wp2_with (at_builtin;refine l5 rfl _ _ rfl w.heap.size _ (iZ (fd L) N) rfl (((aa.refl [] _).alloc _).ownsRow HRo.out (by simp)) _ (N:Int) rfl (ag (k:=0) (heap_alloc_new _ _) rfl) (by have:=i5 (fd L) N;omega) (by have:=HK.out.size;simp;omega) ?_;intro v3 w3 hR3 hG3));have HK3:Hid (aa [] w w3):=(HK.out.alloc _).grown hG3 (fun k hk=>.inr (World.ownsRow.lt HRo.out k hk).1);have HR3:=ah hR3;clear hR3 hG3;go_roundw
       case rel=>exact ⟨N+1,by go_num,by omega,by show bJ _ _ _ _;rw [dR,HBn.out];exact HR3.out,HK3⟩
       case measure=>simp [intOf];omega
     | false =>
       (go_wp2_with fail);go_roundw
       case rel=>exact ⟨N+1,by go_num,by omega,by show bJ _ _ _ _;rw [dR,HBn.out];simpa using HRo.out,HK⟩
       case measure=>simp [intOf];omega
  ·obtain rfl:N=15:=by omega
   (go_wp2_with fail);go_ret
   exact ⟨_,rfl,HRo.out,HK.out⟩
end Go.Proofs.YtgpnlidnbldiiaaGreat
