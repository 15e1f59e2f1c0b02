/-
  Texts of this claim that are laid as one: CoSame, MtSame.
-/
import Derived.Test.YtgpnlidnbldiiaaGreatQ3r
import Derived.Test.YtgpnlidnbldiiaaGreatQ8r
import Derived.Deep.RegionHeld3
import Derived.Test.YtgpnlidnbldiiaaGreatQ12r
set_option maxHeartbeats 8000000
/-
 The document's own SameCommit,SameCommits,of what is the same.
-/
namespace Go.Proofs.YtgpnlidnbldiiaaGreat
open Go.RowKit
theorem samec_call (w:World) (x:Com) (ao bo:Option Addr) (n m c d:Nat) (h1:SlC w ao n c x.c) (h2:SlC w bo m d x.c) :
 Calls Tryz.prog 73 #[.agg #[.int .i64 x.r,.int .i64 x.b,.string (str x.n),.slice ao n c],.agg #[.int .i64 x.r,.int .i64 x.b,.string (str x.n),.slice bo m d]] w fun e w'=>e=.returned (.bool true)∧Kept [] w w':=by
 have hKa:Kept [] w ((w.alloc (.cells #[.int .i64 x.r,.int .i64 x.b,.string (str x.n),.slice ao n c] 137)).alloc (.cells #[.int .i64 x.r,.int .i64 x.b,.string (str x.n),.slice bo m d] 137)):=((Kept.refl [] w).alloc _).alloc _
 have cS:=rsame_kept _ ao bo n m c d x.c x.c (h1.kept hKa (by simp)) (h2.kept hKa (by simp))
 rw [decide_eq_true rfl] at cS
 clear h1 h2
 go_enter Tryz.func73,Tryz.ntmps73
 go_wp2_with fail
 refine cS.mono ?_
 rintro _ w1 ⟨rfl,hK⟩
 go_wp2_with fail
 go_ret
 exact ⟨rfl,hKa.trans hK (by simp)⟩
def ScI (w:World) (n:Nat) (iv:Value) (wr:World):Prop:=∃ i:Nat,iv=.int .i64 (i:Int)∧i≤n∧Hid (Kept [] w wr)
set_option maxRecDepth 100000 in
theorem samecs_call (w:World) (ao bo:Option Addr) (n m c d:Nat) (K M:List (Com × Value)) (hK:SlK w ao n c K) (hM:SlK w bo m d M) (he:K.map Prod.fst=M.map Prod.fst) :
 Calls Tryz.prog 34 #[.slice ao n c,.slice bo m d] w fun e w'=>e=.returned (.bool true)∧Kept [] w w':=by
 have hl:=hK.1
 have hl2:=hM.1
 have hnm:n=m:=by have:=congrArg List.length he;simp at this;omega
 subst hnm
 have HLK:Hid (K.length=n):=hl
 have HLM:Hid (M.length=n):=hl2
 have hc:=hK.2.1
 have hm:=hK.2.2.1
 have hd:=hM.2.1
 have hm2:=hM.2.2.1
 unfold maxLen at hm hm2
 have HK:Hid (SlK w ao n c K):=hK
 have HM:Hid (SlK w bo n d M):=hM
 have HE:Hid (K.map Prod.fst=M.map Prod.fst):=he
 clear hl hl2 hK hM he
 go_enter Tryz.func34,Tryz.ntmps34
 go_wp2_with fail
 go_loopw [5] (fun iv wr=>ScI w n iv wr) (fun iv _=>n - (intOf iv).toNat)
 case atStart=>exact ⟨0,rfl,Nat.zero_le _,Kept.refl _ _⟩
 case round =>
  obtain ⟨i,rfl,hi,HW⟩:=hrel
  by_cases hlt:i < n
  ·have hlt':(i:Int) < n:=by omega
   have hic:i≤c:=by omega
   have hid:i≤d:=by omega
   have hiK:i < K.length:=by rw [HLK.out];exact hlt
   have hiM:i < M.length:=by rw [HLM.out];exact hlt
   have hxy:M[i].1=K[i].1:=by
    have h1:(K.map Prod.fst)[i]'(by simpa using hiK)=(M.map Prod.fst)[i]'(by simpa using hiM):=by simp only [HE.out]
    simpa using h1.symm
   obtain ⟨g,o,rfl,hx⟩:=HK.out.2.2.2.1 i hiK
   obtain ⟨g2,o2,rfl,hy⟩:=HM.out.2.2.2.1 i hiM
   obtain ⟨mo,mm,mc,e1,hs1,_⟩:=HK.out.2.2.2.2 _ (List.getElem_mem hiK)
   obtain ⟨mo2,mm2,mc2,e2,hs2,_⟩:=HM.out.2.2.2.2 _ (List.getElem_mem hiM)
   obtain ⟨x0,x1,x2,x3⟩:=hx.kept HW.out (by simp)
   obtain ⟨y0,y1,y2,y3⟩:=hy.kept HW.out (by simp)
   rw [e1] at x3
   rw [e2] at y3
   rw [hxy] at y0 y1 y2 hs2
   have cS:=fun W (hk:Kept [] wr W)=>samec_call W K[i].1 mo mo2 mm mm2 mc mc2 ((hs1.kept HW.out (by simp)).kept hk (by simp)) ((hs2.kept HW.out (by simp)).kept hk (by simp))
   generalize K[i].1=x at *
   clear hx hy hs1 hs2 hxy e1 e2
   go_wp2_with fail
   go_region_held3 (fun w'=>(w'.cell? ⟨g,o+i*4,none⟩=some (.int .i64 x.r)∧w'.cell? ⟨g,o+i*4+1,none⟩=some (.int .i64 x.b)∧w'.cell? ⟨g,o+i*4+2,none⟩=some (.string (str x.n))∧w'.cell? ⟨g,o+i*4+3,none⟩=some (.slice mo mm mc))∧w'.cell? ⟨g2,o2+i*4,none⟩=some (.int .i64 x.r)∧w'.cell? ⟨g2,o2+i*4+1,none⟩=some (.int .i64 x.b)∧w'.cell? ⟨g2,o2+i*4+2,none⟩=some (.string (str x.n))∧w'.cell? ⟨g2,o2+i*4+3,none⟩=some (.slice mo2 mm2 mc2))
    (first | go_keep | exact ⟨⟨hK3.cell x0 (by simp),hK3.cell x1 (by simp),hK3.cell x2 (by simp),hK3.cell x3 (by simp)⟩,hK3.cell y0 (by simp),hK3.cell y1 (by simp),hK3.cell y2 (by simp),hK3.cell y3 (by simp)⟩)
    (first
      | (go_at_call 73;refine (cS _ ?_).mono ?_;exact (Kept.refl [] _).drew;rintro e w3 ⟨rfl,hK3⟩;replace hK3:=(Kept.refl [] wr).drew.trans hK3 (by simp)))
   have HW3:Hid (Kept [] w w3):=HW.out.trans hK3 (by simp)
   clear cS hK3
   go_wp2_with fail
   go_roundw
   case rel=>exact ⟨i+1,by go_num,by omega,HW3⟩
   case measure=>simp [intOf];omega
  ·have hlt':¬ (i:Int) < n:=by omega
   go_wp2_with fail
   go_ret
   exact ⟨rfl,HW.out⟩
set_option maxRecDepth 100000 in
theorem alikeT_call (w:World) (v:Vt) (u1 u2:Value) (h1:KoV w u1 v.k) (h2:KoV w u2 v.k) :
 Calls Tryz.prog 10 #[vtV v u1,vtV v u2] w fun e w'=>e=.returned (.bool true)∧Kept [] w w':=by
 obtain ⟨ao,n,c,K,rfl,hK,e1,_⟩:=h1
 obtain ⟨bo,m,d,M,rfl,hM,e2,_⟩:=h2
 have hKa:Kept [] w ((w.alloc (.cells #[.int .i64 v.c,.int .i64 v.s,.int .i64 v.r,.string (str v.p),.int .u64 v.d,.slice ao n c,.int .i64 v.m] 39)).alloc (.cells #[.int .i64 v.c,.int .i64 v.s,.int .i64 v.r,.string (str v.p),.int .u64 v.d,.slice bo m d,.int .i64 v.m] 39)):=((Kept.refl [] w).alloc _).alloc _
 have cS:=samecs_call _ ao bo n m c d K M (hK.kept hKa) (hM.kept hKa) (by rw [e1,e2])
 clear hK hM e1 e2
 unfold vtV
 go_enter Tryz.func10,Tryz.ntmps10
 go_wp2_with fail
 refine cS.mono ?_
 rintro _ w1 ⟨rfl,hK⟩
 go_wp2_with fail
 go_ret
 exact ⟨rfl,hKa.trans hK (by simp)⟩
set_option maxRecDepth 100000 in
theorem sameS_call (w:World) (x:Se) (u1 u2:Value) (h1:KoV w u1 x.v.k) (h2:KoV w u2 x.v.k) :
 Calls Tryz.prog 94 #[seV x u1,seV x u2] w fun e w'=>e=.returned (.bool true)∧Kept [] w w':=by
 obtain ⟨ao,n,c,rfl⟩:=h1.one
 obtain ⟨bo,m,d,rfl⟩:=h2.one
 have hKa:Kept [] w ((w.alloc (.cells #[.int .i64 x.i,.int .i64 x.q,.string (str x.n),.int .i64 x.v.c,.int .i64 x.v.s,.int .i64 x.v.r,.string (str x.v.p),.int .u64 x.v.d,.slice ao n c,.int .i64 x.v.m] 155)).alloc (.cells #[.int .i64 x.i,.int .i64 x.q,.string (str x.n),.int .i64 x.v.c,.int .i64 x.v.s,.int .i64 x.v.r,.string (str x.v.p),.int .u64 x.v.d,.slice bo m d,.int .i64 x.v.m] 155)):=((Kept.refl [] w).alloc _).alloc _
 have cS:=alikeT_call _ x.v _ _ (h1.kept hKa) (h2.kept hKa)
 clear h1 h2
 unfold vtV at cS
 unfold seV
 go_enter Tryz.func94,Tryz.ntmps94
 go_wp2_with fail
 refine cS.mono ?_
 rintro _ w1 ⟨rfl,hK⟩
 go_wp2_with fail
 go_ret
 exact ⟨rfl,hKa.trans hK (by simp)⟩
def SsI (w:World) (n:Nat) (iv:Value) (wr:World):Prop:=∃ i:Nat,iv=.int .i64 (i:Int)∧i≤n∧Hid (Kept [] w wr)
set_option maxRecDepth 100000 in
theorem sameSs_call (w:World) (ao' bo':Option Addr) (n' m' c' d':Nat) (Y Z:List (Se × Value)) (hY:SlS w ao' n' c' Y) (hZ:SlS w bo' m' d' Z) (he:Y.map Prod.fst=Z.map Prod.fst) :
 Calls Tryz.prog 46 #[.slice ao' n' c',.slice bo' m' d'] w fun e w'=>e=.returned (.bool true)∧Kept [] w w':=by
 have hl:=hY.1
 have hl2:=hZ.1
 have hnm:n'=m':=by have:=congrArg List.length he;simp at this;omega
 subst hnm
 have HLK:=hide hl
 have HLM:=hide hl2
 have hc:=hY.2.1
 have hm:=hY.2.2.1
 have hd:=hZ.2.1
 have hm2:=hZ.2.2.1
 unfold maxLen at hm hm2
 have HK:=hide hY
 have HM:=hide hZ
 have HE:=hide he
 clear hl hl2 hY hZ he
 go_enter Tryz.func46,Tryz.ntmps46
 go_wp2_with fail
 go_loopw [5] (fun iv wr=>SsI w n' iv wr) (fun iv _=>n' - (intOf iv).toNat)
 case atStart=>exact ⟨0,rfl,Nat.zero_le _,Kept.refl _ _⟩
 case round =>
  obtain ⟨i,rfl,hi,HW⟩:=hrel
  by_cases hlt:i < n'
  ·have hlt':(i:Int) < n':=by omega
   have hic:i≤c':=by omega
   have hid:i≤d':=by omega
   have hiK:i < Y.length:=by rw [HLK.out];exact hlt
   have hiM:i < Z.length:=by rw [HLM.out];exact hlt
   have hxy:Z[i].1=Y[i].1:=by
    have h1:=fst_get HE.out hiK (by simpa using hiM)
    simpa using h1.symm
   obtain ⟨g,o,rfl,hx⟩:=HK.out.2.2.2.2.1 i hiK
   obtain ⟨g2,o2,rfl,hy⟩:=HM.out.2.2.2.2.1 i hiM
   have hs1:=(HK.out.2.2.2.2.2 _ (List.getElem_mem hiK)).kept HW.out
   have hs2:=(HM.out.2.2.2.2.2 _ (List.getElem_mem hiM)).kept HW.out
   obtain ⟨x0,x1,x2,x3,x4,x5,x6,x7,x8,x9⟩:=hx.kept HW.out (by simp)
   obtain ⟨y0,y1,y2,y3,y4,y5,y6,y7,y8,y9⟩:=hy.kept HW.out (by simp)
   rw [hxy] at y0 y1 y2 y3 y4 y5 y6 y7 y9 hs2
   obtain ⟨ao,n,c,e1⟩:=hs1.one
   obtain ⟨bo,m,d,e2⟩:=hs2.one
   rw [e1] at x8 hs1
   rw [e2] at y8 hs2
   have cS:=fun W (hk:Kept [] wr W)=>sameS_call W Y[i].1 _ _ (hs1.kept hk) (hs2.kept hk)
   generalize Y[i].1=x at *
   unfold seV at cS
   clear hx hy hs1 hs2 hxy e1 e2
   go_wp2_with fail
   go_region_held3 (fun w'=>(w'.cell? ⟨g,o+i*10,none⟩=some (.int .i64 x.i)∧w'.cell? ⟨g,o+i*10+1,none⟩=some (.int .i64 x.q)∧w'.cell? ⟨g,o+i*10+2,none⟩=some (.string (str x.n))∧w'.cell? ⟨g,o+i*10+3,none⟩=some (.int .i64 x.v.c)∧w'.cell? ⟨g,o+i*10+4,none⟩=some (.int .i64 x.v.s)∧w'.cell? ⟨g,o+i*10+5,none⟩=some (.int .i64 x.v.r)∧w'.cell? ⟨g,o+i*10+6,none⟩=some (.string (str x.v.p))∧w'.cell? ⟨g,o+i*10+7,none⟩=some (.int .u64 x.v.d)∧w'.cell? ⟨g,o+i*10+8,none⟩=some (.slice ao n c)∧w'.cell? ⟨g,o+i*10+9,none⟩=some (.int .i64 x.v.m))∧w'.cell? ⟨g2,o2+i*10,none⟩=some (.int .i64 x.i)∧w'.cell? ⟨g2,o2+i*10+1,none⟩=some (.int .i64 x.q)∧w'.cell? ⟨g2,o2+i*10+2,none⟩=some (.string (str x.n))∧w'.cell? ⟨g2,o2+i*10+3,none⟩=some (.int .i64 x.v.c)∧w'.cell? ⟨g2,o2+i*10+4,none⟩=some (.int .i64 x.v.s)∧w'.cell? ⟨g2,o2+i*10+5,none⟩=some (.int .i64 x.v.r)∧w'.cell? ⟨g2,o2+i*10+6,none⟩=some (.string (str x.v.p))∧w'.cell? ⟨g2,o2+i*10+7,none⟩=some (.int .u64 x.v.d)∧w'.cell? ⟨g2,o2+i*10+8,none⟩=some (.slice bo m d)∧w'.cell? ⟨g2,o2+i*10+9,none⟩=some (.int .i64 x.v.m))
    (first | go_keep | exact ⟨⟨hK3.cell x0 (by simp),hK3.cell x1 (by simp),hK3.cell x2 (by simp),hK3.cell x3 (by simp),hK3.cell x4 (by simp),hK3.cell x5 (by simp),hK3.cell x6 (by simp),hK3.cell x7 (by simp),hK3.cell x8 (by simp),hK3.cell x9 (by simp)⟩,hK3.cell y0 (by simp),hK3.cell y1 (by simp),hK3.cell y2 (by simp),hK3.cell y3 (by simp),hK3.cell y4 (by simp),hK3.cell y5 (by simp),hK3.cell y6 (by simp),hK3.cell y7 (by simp),hK3.cell y8 (by simp),hK3.cell y9 (by simp)⟩)
    (first
      | (go_at_call 94;refine (cS _ ?_).mono ?_;exact (Kept.refl [] _).drew;rintro e w3 ⟨rfl,hK3⟩;replace hK3:=(Kept.refl [] wr).drew.trans hK3 (by simp)))
   have HW3:Hid (Kept [] w w3):=HW.out.trans hK3 (by simp)
   clear cS hK3
   go_wp2_with fail
   go_roundw
   case rel=>exact ⟨i+1,by go_num,by omega,HW3⟩
   case measure=>simp [intOf];omega
  ·have hlt':¬ (i:Int) < n':=by omega
   go_wp2_with fail
   go_ret
   exact ⟨rfl,HW.out⟩
end Go.Proofs.YtgpnlidnbldiiaaGreat
