/-
  Texts laid as one.
-/
import Derived.Test.YtakafmejllilnaaGreatF3e
import Derived.Test.YtakafmejllilnaaGreatW5e
set_option maxHeartbeats 2000000
/-
 The document's own writer,by its contracts.
-/
namespace Go.Proofs.YtakafmejllilnaaGreat
open Go.RowKit
def fe (w:World) (p:Nat) (v:Value) (e:Int):Prop:=w.heap[p]?=some (.cells #[v,.int .i64 e] 63 (0,0))
theorem fe.cells {w:World}{p:Nat}{v:Value}{e:Int}(h:fe w p v e) :
 w.cell? ⟨p,0,none⟩=some v∧w.cell? ⟨p,1,none⟩=some (.int .i64 e)∧(∀ o,w.frozen? ⟨p,o,none⟩=false):=by
 unfold fe at h;refine ⟨?_,?_,fun o=>?_⟩ <;> simp [World.cell?,World.frozen?,h]
theorem fe.set0 {w:World}{p:Nat}{v:Value}{e:Int}(h:fe w p v e) (u:Value):fe (w.setCell ⟨p,0,none⟩ u) p u e:=by
 have:=eb h 0 u
 simpa [fe] using this
theorem fe.set1 {w:World}{p:Nat}{v:Value}{e:Int}(h:fe w p v e) (x:Int):fe (w.setCell ⟨p,1,none⟩ (.int .i64 x)) p v x:=by
 have:=eb h 1 (.int .i64 x)
 simpa [fe] using this
def RW (w:World) (p:Nat) (g:Option Nat) (l:List Int) (e:Int):Prop :=
 ∃ v,fe w p v e∧ev w v l∧v.ownBlock=g∧g≠some p
theorem RW.kept {S:List Nat}{a w:World}(h:ab S a w) {p:Nat}{g:Option Nat}{l:List Int}{e:Int}(hr:RW a p g l e) (hp:p ∉ S) (hg:∀ k,g=some k→k ∉ S):RW w p g l e:=by
 obtain ⟨v,h1,h2,h3,h4⟩:=hr;exact ⟨v,h.at h1 hp,h.ownsRow h2 (fun k hk=>hg k (by rw [← h3];exact hk)),h3,h4⟩
def aH (w:World) (p:Nat) (g:Option Nat) (q:List Int × Int) (r:Ending) (w':World):Prop :=
 r=.returned (.tuple #[])∧∃ g',RW w' p g' q.1 q.2∧bc w g g'∧ab (p :: g.toList) w w'
theorem eO {w w1:World}{p:Nat}{v v1:Value}{l:List Int}{e:Int}(hA:fe w p v e) (h4:v.ownBlock≠some p) (hO:ev w1 v1 l) (hf:bc w v.ownBlock v1.ownBlock) (hK:ab v.ownBlock.toList w w1) :
 fe w1 p v e∧RW (w1.setCell ⟨p,0,none⟩ v1) p v1.ownBlock l e∧ab (p :: v.ownBlock.toList) w (w1.setCell ⟨p,0,none⟩ v1):=by
 have hpw:=ca hA;have hA1:fe w1 p v e:=hK.at hA (by simp;exact h4)
 have hne:v1.ownBlock≠some p:=by
  intro h7;rcases hf p h7 with h8 | h8
  ·exact h4 h8
  ·omega
 refine ⟨hA1,⟨v1,hA1.set0 _,?_,rfl,hne⟩,?_⟩
 ·exact (show ab [p] w1 _ from (ab.refl _ _).setCell (by simp) _).ownsRow hO (by intro k hk h7;simp at h7;subst h7;exact hne hk)
 ·exact (hK.mono (T:=p :: v.ownBlock.toList) (by intro i hi;exact .inl (List.mem_cons_of_mem _ hi))).setCell (by simp) _
def eG (e:Int) (l:List Int) (n:Int):List Int × Int:=if e=0 then (if 0≤n∧n≤1099511627776 then (l++ag n,0) else (l,1)) else (l,e)
theorem vO (m:Int) (h0:0≤m) (h1:m≤1099511627776):bits .and .i64 m 127=m % 128:=bits_mask .i64 63 (by decide) nI 7 (by decide) m h0 (by omega)
theorem wE (m:Int):bits .or .i64 (m % 128) 128=m % 128+128:=by
 have h:=ii (m % 128).toNat 128 7 (by decide) (by omega) (by decide) (by omega);rw [show (((m % 128).toNat:Nat):Int)=m % 128 by omega] at h;exact h
theorem ej {w wr:World}{o:Obj}{g a b:Option Nat}(h1:bc w g a) (h2:bc (wr.alloc o) a b) (h:w.heap.size≤wr.heap.size):bc w g b :=
 h1.trans h2 (by simp;omega)
theorem eP {w a b:World}{p:Nat}{g g1:Option Nat}(h1:ab (p :: g.toList) w a) (hf:bc w g g1) (h2:ab (p :: g1.toList) a b):ab (p :: g.toList) w b :=
 h1.trans h2 (by
  intro i hi;rcases List.mem_cons.1 hi with h3 | h3
  ·left;rw [h3];simp
  ·rcases hf i (by simpa using h3) with h4 | h4
   ·left;rw [h4];simp
   ·exact .inr h4)
theorem ip (w:World) (p:Nat) (g:Option Nat) (l:List Int) (e n:Int) (hw:RW w p g l e) (hl:l.length≤1000000000) :
 Calls Tryz.prog 26 #[.pointer (some ⟨p,0,none⟩),.int .i64 n] w (aH w p g (eG e l n)):=by
 by_cases he:e=0
 ·subst he;by_cases hn:0≤n∧n≤1099511627776
  ·obtain ⟨hn0,hn1⟩:=hn;have HQ:Hid (eG 0 l n=(l++ag n,0)):=by show eG 0 l n=_;unfold eG;rw [if_pos rfl,if_pos ⟨hn0,hn1⟩]
   have HW:Hid (RW w p g l 0):=hw;obtain ⟨v,h1,h2,h3,h4⟩:=hw;obtain ⟨c0,c1,c3⟩:=h1.cells;clear h1 h2 h3;go_enter Tryz.func26,Tryz.ntmps26;go_wp2
   clear c0 c1 c3
   go_loopw [1] (fun t wr=>∃ (f:Nat) (m:Int) (L:List Int) (g':Option Nat),f≤5∧t=.int .i64 m∧0≤m∧m≤1099511627776∧m < 128 ^ (f+1)∧L++enc f m=l++ag n∧L.length≤1000000005 - f∧RW wr p g' L 0∧bc w g g'∧ab (p :: g.toList) w wr)
    (fun t _=>(intOf t).toNat)
   case atStart=>exact ⟨5,n,l,g,by omega,rfl,hn0,hn1,by omega,rfl,by omega,HW.out,bc.refl _ _,ab.refl _ _⟩
   case round =>
    obtain ⟨f,m,L,g',hf,rfl,hm0,hm1,hm2,hL,hLl,hRW,hfr,hk⟩:=hrel;obtain ⟨v,h1,h2,h3,h4⟩:=hRW;subst h3;obtain ⟨c0,c1,c3⟩:=h1.cells;have HA:Hid (fe wr p v 0):=h1;have HO:Hid (ev wr v L):=h2;obtain ⟨a0,n0,cc0,hv0,_,_⟩:=cr h2;subst hv0;have hK0:ab (Value.slice a0 n0 cc0).ownBlock.toList wr wr:=ab.refl _ _;clear h1 h2 HW;by_cases h128:128≤m
    ·have q1:=vO m hm0 hm1;have q2:=wE m;have h127:(127:Int) < m:=by omega
     (go_wp2_with (at_builtin;refine ey rfl _ _ rfl _ L rfl (World.ownsRow.alloc HO.out _) (some ⟨wr.heap.size,0,none⟩) 1 1 [m % 128+128] rfl (Sl.lit rfl rfl (by decide)) (by omega) ?_));intro v1 w1 hO1 hf1 hk1;have hf2:bc wr (Value.slice a0 n0 cc0).ownBlock v1.ownBlock:=ej (bc.refl _ _) hf1 (Nat.le_refl _);obtain ⟨hA1,hR1,hK1⟩:=eO HA.out h4 hO1 hf2 ((hK0.alloc _).trans hk1 (fun i hi=>.inl hi));obtain ⟨d0,d1,d3⟩:=hA1.cells;have HR1:Hid (RW (w1.setCell ⟨p,0,none⟩ v1) p v1.ownBlock (L++[m % 128+128]) 0):=hR1;have HK1:Hid (ab (p :: g.toList) w (w1.setCell ⟨p,0,none⟩ v1)):=eP hk hfr hK1;have HF1:Hid (bc w g v1.ownBlock):=hfr.trans hf2 hk.size;obtain ⟨a1,n1,cc1,rfl,_,_⟩:=cr hO1;clear hR1 hK1 hO1 hf1 hf2 hk1 c0 c1 c3 q1 q2;go_wp2
     go_roundw
     case rel =>
      obtain ⟨f',rfl⟩:∃ f',f=f'+1:=by
       cases f with
       | zero=>simp at hm2;omega
       | succ f'=>exact ⟨f',rfl⟩
      refine ⟨f',m / 128,L++[m % 128+128],_,by omega,rfl,by omega,by omega,?_,?_,by simp;omega,HR1.out,HF1.out,HK1.out⟩
      ·rw [Int.pow_succ] at hm2;exact Int.ediv_lt_of_lt_mul (by decide) hm2
      ·rw [← hL,gG _ _ h128];simp
     case measure=>simp [intOf];omega
    ·have h127:¬ (127:Int) < m:=by omega
     (go_wp2_with (at_builtin;refine ey rfl _ _ rfl _ L rfl (World.ownsRow.alloc HO.out _) (some ⟨wr.heap.size,0,none⟩) 1 1 [m] rfl (Sl.lit rfl rfl (by decide)) (by omega) ?_));intro v1 w1 hO1 hf1 hk1;have hf2:bc wr (Value.slice a0 n0 cc0).ownBlock v1.ownBlock:=ej (bc.refl _ _) hf1 (Nat.le_refl _);obtain ⟨hA1,hR1,hK1⟩:=eO HA.out h4 hO1 hf2 ((hK0.alloc _).trans hk1 (fun i hi=>.inl hi));obtain ⟨d0,d1,d3⟩:=hA1.cells;have HR1:Hid (RW (w1.setCell ⟨p,0,none⟩ v1) p v1.ownBlock (L++[m]) 0):=hR1;have HK1:Hid (ab (p :: g.toList) w (w1.setCell ⟨p,0,none⟩ v1)):=eP hk hfr hK1;have HF1:Hid (bc w g v1.ownBlock):=hfr.trans hf2 hk.size;obtain ⟨a1,n1,cc1,rfl,_,_⟩:=cr hO1;clear hR1 hK1 hO1 hf1 hf2 hk1 c0 c1 c3;go_wp2
     go_returns
     rw [HQ.out];refine ⟨rfl,_,?_,HF1.out,HK1.out⟩;rw [← hL,gL _ _ (by omega)];exact HR1.out
  ·have HQ:Hid (eG 0 l n=(l,1)):=by show eG 0 l n=_;unfold eG;rw [if_pos rfl,if_neg hn]
   obtain ⟨v,h1,h2,h3,h4⟩:=hw;obtain ⟨c0,c1,c3⟩:=h1.cells
   have HR:Hid (aH w p g (l,1) (.returned (.tuple #[])) (w.setCell ⟨p,1,none⟩ (.int .i64 1))) :=
    ⟨rfl,g,⟨v,h1.set1 1,(show ab [p] w _ from (ab.refl _ _).setCell (by simp) _).ownsRow h2 (by intro k hk h7;simp at h7;subst h7;rw [h3] at hk;exact h4 hk),h3,h4⟩,bc.refl _ _,(ab.refl _ _).setCell (by simp) _⟩
   clear h1 h2 h3;rcases (show n < 0∨(¬ n < 0∧1099511627776 < n) by omega) with hn2 | ⟨hn2,hn3⟩
   all_goals
    clear hn;go_enter Tryz.func26,Tryz.ntmps26;go_wp2
    go_returns
    rw [HQ.out];exact HR.out
 ·have HQ:Hid (eG e l n=(l,e)):=by show eG e l n=_;unfold eG;rw [if_neg he]
  have HR:Hid (aH w p g (l,e) (.returned (.tuple #[])) w):=⟨rfl,g,hw,bc.refl _ _,ab.refl _ _⟩;obtain ⟨v,h1,h2,h3,h4⟩:=hw;obtain ⟨c0,c1,c3⟩:=h1.cells;have hb:(e != 0)=true:=by simp [he]
  clear h1 h2 h3 he;go_enter Tryz.func26,Tryz.ntmps26;go_wp2
  go_returns
  rw [HQ.out];exact HR.out
def cX (e:Int) (l m:List Int):List Int × Int:=if e=0 then (if m.length≤1048576 then (l++(ag m.length++m),0) else (l,3)) else (l,e)
def dr (e:Int) (l:List Int) (b:Bool):List Int × Int:=if e=0 then (l++[if b then 1 else 0],0) else (l,e)
def eQ (e:Int) (l:List Int) (x:Int):List Int × Int:=if e=0 then (l++dA 8 x,0) else (l,e)
def eN (e:Int) (l:List Int):List Int × Int:=if e=0 then (l,1) else (l,e)
theorem aH.same {w:World}{p:Nat}{g:Option Nat}{l:List Int}{e:Int}(hw:RW w p g l e):aH w p g (l,e) (.returned (.tuple #[])) w:=⟨rfl,g,hw,bc.refl _ _,ab.refl _ _⟩
theorem aH.fail {w:World}{p:Nat}{g:Option Nat}{l:List Int}{e:Int}(hw:RW w p g l e) (x:Int):aH w p g (l,x) (.returned (.tuple #[])) (w.setCell ⟨p,1,none⟩ (.int .i64 x)):=by
 obtain ⟨v,h1,h2,h3,h4⟩:=hw;exact ⟨rfl,g,⟨v,h1.set1 x,(show ab [p] w _ from (ab.refl _ _).setCell (by simp) _).ownsRow h2 (by intro k hk h7;simp at h7;subst h7;rw [h3] at hk;exact h4 hk),h3,h4⟩,bc.refl _ _,(ab.refl _ _).setCell (by simp) _⟩
theorem RW.cells {w:World}{p:Nat}{g:Option Nat}{l:List Int}{e:Int}(hw:RW w p g l e):∃ a n c,w.cell? ⟨p,0,none⟩=some (.slice a n c)∧w.cell? ⟨p,1,none⟩=some (.int .i64 e)∧(∀ o,w.frozen? ⟨p,o,none⟩=false)∧fe w p (.slice a n c) e∧ev w (.slice a n c) l∧(Value.slice a n c).ownBlock=g∧(Value.slice a n c).ownBlock≠some p:=by
 obtain ⟨v,h1,h2,h3,h4⟩:=hw;obtain ⟨a,n,c,rfl,_,_⟩:=cr h2;obtain ⟨c0,c1,c3⟩:=h1.cells;exact ⟨a,n,c,c0,c1,c3,h1,h2,h3,by rw [h3];exact h4⟩
theorem kM (w:World) (p:Nat) (g:Option Nat) (l:List Int) (e:Int) (hw:RW w p g l e) :
 Calls Tryz.prog 67 #[.pointer (some ⟨p,0,none⟩)] w (aH w p g (eN e l)):=by
 obtain ⟨a,n,c,c0,c1,c3,_⟩:=hw.cells;by_cases he:e=0
 ·subst he;have HR:Hid (aH w p g (eN 0 l) (.returned (.tuple #[])) (w.setCell ⟨p,1,none⟩ (.int .i64 1))):=aH.fail hw 1;clear hw;go_enter Tryz.func67,Tryz.ntmps67;go_wp2
  go_returns
  exact HR.out
 ·have HR:Hid (aH w p g (eN e l) (.returned (.tuple #[])) w):=by show aH w p g (eN e l) _ w;unfold eN;rw [if_neg he];exact aH.same hw
  have hb:(e==0)=false:=by simp [he]
  clear hw he;go_enter Tryz.func67,Tryz.ntmps67;go_wp2
  go_returns
  exact HR.out
theorem lQ (w:World) (p:Nat) (g:Option Nat) (l:List Int) (e:Int) (hw:RW w p g l e) (hl:l.length≤1000000000) :
 Calls Tryz.prog 97 #[.pointer (some ⟨p,0,none⟩),.bool false] w (aH w p g (dr e l false)):=by
 by_cases he:e=0
 ·subst he;have HQ:Hid (dr 0 l false=(l++[0],0)):=by show dr 0 l false=_;unfold dr;rw [if_pos rfl];rfl
  obtain ⟨a0,n0,cc0,c0,c1,c3,h1,h2,h3,h4⟩:=hw.cells;subst h3;have HA:Hid (fe w p (.slice a0 n0 cc0) 0):=h1;have HO:Hid (ev w (.slice a0 n0 cc0) l):=h2;clear h1 h2 hw;go_enter Tryz.func97,Tryz.ntmps97;(go_wp2_with (at_builtin;refine ey rfl _ _ rfl _ l rfl (World.ownsRow.alloc HO.out _) (some ⟨w.heap.size,0,none⟩) 1 1 [0] rfl (Sl.lit rfl rfl (by decide)) (by omega) ?_));intro v1 w1 hO1 hf1 hk1;have hf2:bc w (Value.slice a0 n0 cc0).ownBlock v1.ownBlock:=ej (bc.refl _ _) hf1 (Nat.le_refl _);obtain ⟨hA1,hR1,hK1⟩:=eO HA.out h4 hO1 hf2 (((ab.refl _ _).alloc _).trans hk1 (fun i hi=>.inl hi));obtain ⟨d0,d1,d3⟩:=hA1.cells;have HR:Hid (aH w p (Value.slice a0 n0 cc0).ownBlock (l++[0],0) (.returned (.tuple #[])) (w1.setCell ⟨p,0,none⟩ v1)):=⟨rfl,_,hR1,hf2,hK1⟩;obtain ⟨a1,n1,cc1,rfl,_,_⟩:=cr hO1;clear hR1 hK1 hO1 hf1 hf2 hk1 c0 c1 c3;go_wp2
  go_returns
  rw [HQ.out];exact HR.out
 ·have HR:Hid (aH w p g (dr e l false) (.returned (.tuple #[])) w):=by show aH w p g (dr e l false) _ w;unfold dr;rw [if_neg he];exact aH.same hw
  obtain ⟨a,n,c,c0,c1,c3,_⟩:=hw.cells;have hb:(e != 0)=true:=by simp [he]
  clear hw he;go_enter Tryz.func97,Tryz.ntmps97;go_wp2
  go_returns
  exact HR.out
theorem mj (w:World) (p:Nat) (g:Option Nat) (l:List Int) (e:Int) (hw:RW w p g l e) (hl:l.length≤1000000000) :
 Calls Tryz.prog 97 #[.pointer (some ⟨p,0,none⟩),.bool true] w (aH w p g (dr e l true)):=by
 by_cases he:e=0
 ·subst he;have HQ:Hid (dr 0 l true=(l++[1],0)):=by show dr 0 l true=_;unfold dr;rw [if_pos rfl];rfl
  obtain ⟨a0,n0,cc0,c0,c1,c3,h1,h2,h3,h4⟩:=hw.cells;subst h3;have HA:Hid (fe w p (.slice a0 n0 cc0) 0):=h1;have HO:Hid (ev w (.slice a0 n0 cc0) l):=h2;clear h1 h2 hw;go_enter Tryz.func97,Tryz.ntmps97;(go_wp2_with (at_builtin;refine ey rfl _ _ rfl _ l rfl (World.ownsRow.alloc HO.out _) (some ⟨w.heap.size,0,none⟩) 1 1 [1] rfl (Sl.lit rfl rfl (by decide)) (by omega) ?_));intro v1 w1 hO1 hf1 hk1;have hf2:bc w (Value.slice a0 n0 cc0).ownBlock v1.ownBlock:=ej (bc.refl _ _) hf1 (Nat.le_refl _);obtain ⟨hA1,hR1,hK1⟩:=eO HA.out h4 hO1 hf2 (((ab.refl _ _).alloc _).trans hk1 (fun i hi=>.inl hi));obtain ⟨d0,d1,d3⟩:=hA1.cells;have HR:Hid (aH w p (Value.slice a0 n0 cc0).ownBlock (l++[1],0) (.returned (.tuple #[])) (w1.setCell ⟨p,0,none⟩ v1)):=⟨rfl,_,hR1,hf2,hK1⟩;obtain ⟨a1,n1,cc1,rfl,_,_⟩:=cr hO1;clear hR1 hK1 hO1 hf1 hf2 hk1 c0 c1 c3;go_wp2
  go_returns
  rw [HQ.out];exact HR.out
 ·have HR:Hid (aH w p g (dr e l true) (.returned (.tuple #[])) w):=by show aH w p g (dr e l true) _ w;unfold dr;rw [if_neg he];exact aH.same hw
  obtain ⟨a,n,c,c0,c1,c3,_⟩:=hw.cells;have hb:(e != 0)=true:=by simp [he]
  clear hw he;go_enter Tryz.func97,Tryz.ntmps97;go_wp2
  go_returns
  exact HR.out
theorem nB (w:World) (p:Nat) (g:Option Nat) (l:List Int) (e:Int) (b:Bool) (hw:RW w p g l e) (hl:l.length≤1000000000) :
 Calls Tryz.prog 97 #[.pointer (some ⟨p,0,none⟩),.bool b] w (aH w p g (dr e l b)):=by
 cases b
 ·exact lQ w p g l e hw hl
 ·exact mj w p g l e hw hl
theorem nL (w:World) (p:Nat) (g:Option Nat) (l:List Int) (e:Int) (s:ByteArray) (hw:RW w p g l e) (hl:l.length≤1000000000) (hm:s.size≤9223372036854775807) :
 Calls Tryz.prog 68 #[.pointer (some ⟨p,0,none⟩),.string s] w (aH w p g (cX e l (dg s))):=by
 have hsl:=eM s;obtain ⟨m,hmm⟩:∃ m,m=dg s:=⟨_,rfl⟩;rw [← hmm] at hsl ⊢;have HM:Hid (m=dg s):=hmm;have HSL:Hid (m.length=s.size):=hsl;clear hsl hmm;by_cases he:e=0
 ·subst he;by_cases hbig:1048576 < s.size
  ·have hb2:(1048576:Int) < (s.size:Int):=by omega
   have HR:Hid (aH w p g (cX 0 l m) (.returned (.tuple #[])) (w.setCell ⟨p,1,none⟩ (.int .i64 3))):=by show aH w p g (cX 0 l m) _ _;unfold cX;rw [if_pos rfl,if_neg (by rw [HSL.out];omega)];exact aH.fail hw 3
   obtain ⟨a,n',c',c0,c1,c3,h1,h2,h3,h4⟩:=hw.cells;have d1:=(h1.set1 3).cells.2.1;clear hw h1 h2 h3;go_enter Tryz.func68,Tryz.ntmps68;go_wp2
   go_returns
   exact HR.out
  ·have hb2:¬ (1048576:Int) < (s.size:Int):=by omega
   have HQ:Hid (cX 0 l m=(l++(ag s.size++m),0)):=by show cX 0 l m=_;unfold cX;rw [if_pos rfl,if_pos (by rw [HSL.out];omega),HSL.out]
   have HW:Hid (RW w p g l 0):=hw;obtain ⟨a,n',c',c0,c1,c3,_,_,_,_⟩:=hw.cells;clear hw;go_enter Tryz.func68,Tryz.ntmps68;(go_wp2_with fail);refine (ip _ _ _ _ _ _ HW.out hl).mono ?_;rintro _ w1 ⟨rfl,g1,hR1,hF1,hK1⟩;have hn1:eG 0 l (s.size:Int)=(l++ag (s.size:Int),0):=by unfold eG;rw [if_pos rfl,if_pos ⟨by omega,by omega⟩]
   rw [hn1] at hR1;simp only at hR1;have hlenA:(l++ag (s.size:Int)).length≤1000000006:=by have:=bn 5 (s.size:Int);simp [ag];omega
   generalize hLA:l++ag (s.size:Int)=LA at hR1 hlenA;have HLA:Hid (l++ag (s.size:Int)=LA):=hLA;clear hLA hn1;obtain ⟨a1,n1,cc1,d0,d1,d3,h1,h2,h3,h4⟩:=hR1.cells;subst h3;have HA:Hid (fe w1 p (.slice a1 n1 cc1) 0):=h1;have HO:Hid (ev w1 (.slice a1 n1 cc1) LA):=h2;clear h1 h2 hR1 c0 c1 c3 HW;(go_wp2_with (at_builtin;refine mp rfl _ _ rfl _ LA rfl HO.out s rfl (by omega) ?_));rw [← HM.out];intro v2 w2 hO2 hf2 hk2;obtain ⟨hA2,hR2,hK2⟩:=eO HA.out h4 hO2 hf2 hk2;obtain ⟨e0,e1,e3⟩:=hA2.cells
   have HR:Hid (aH w p g (cX 0 l m) (.returned (.tuple #[])) (w2.setCell ⟨p,0,none⟩ v2)):=by
    show aH w p g (cX 0 l m) _ _;rw [HQ.out,← List.append_assoc,HLA.out];exact ⟨rfl,_,hR2,hF1.trans hf2 hK1.size,eP hK1 hF1 hK2⟩
   obtain ⟨a2,n2,cc2,rfl,_,_⟩:=cr hO2;clear hR2 hK2 hO2 hf2 hk2 d0 d1 d3;go_wp2
   go_returns
   exact HR.out
 ·have HR:Hid (aH w p g (cX e l m) (.returned (.tuple #[])) w):=by show aH w p g (cX e l m) _ w;unfold cX;rw [if_neg he];exact aH.same hw
  obtain ⟨a,n',c',c0,c1,c3,_⟩:=hw.cells;have hb:(e==0)=false:=by simp [he]
  clear hw he;go_enter Tryz.func68,Tryz.ntmps68;go_wp2
  go_returns
  exact HR.out
theorem lw (w:World) (p:Nat) (g:Option Nat) (l:List Int) (e:Int) (ao:Option Addr) (n c:Nat) (m:List Int) (hw:RW w p g l e) (hl:l.length≤1000000000) (hs:Sl w ao n c m) (hd:0 < n→∀ k∈bO ao,k ∉ p :: g.toList) :
 Calls Tryz.prog 29 #[.pointer (some ⟨p,0,none⟩),.slice ao n c] w (aH w p g (cX e l m)):=by
 have hm:=hs.2.2.1;have hc:=hs.2.1;unfold maxLen at hm;have HSL:Hid (m.length=n):=hs.1;have HS:Hid (Sl w ao n c m):=hs;clear hs;by_cases he:e=0
 ·subst he;by_cases hbig:1048576 < n
  ·have hb2:(1048576:Int) < (n:Int):=by omega
   have HR:Hid (aH w p g (cX 0 l m) (.returned (.tuple #[])) (w.setCell ⟨p,1,none⟩ (.int .i64 3))):=by show aH w p g (cX 0 l m) _ _;unfold cX;rw [if_pos rfl,if_neg (by rw [HSL.out];omega)];exact aH.fail hw 3
   obtain ⟨a,n',c',c0,c1,c3,h1,h2,h3,h4⟩:=hw.cells;have d1:=(h1.set1 3).cells.2.1;clear hw h1 h2 h3;go_enter Tryz.func29,Tryz.ntmps29;go_wp2
   go_returns
   exact HR.out
  ·have hb2:¬ (1048576:Int) < (n:Int):=by omega
   have HQ:Hid (cX 0 l m=(l++(ag n++m),0)):=by show cX 0 l m=_;unfold cX;rw [if_pos rfl,if_pos (by rw [HSL.out];omega),HSL.out]
   have HW:Hid (RW w p g l 0):=hw;obtain ⟨a,n',c',c0,c1,c3,_,_,_,_⟩:=hw.cells;clear hw;go_enter Tryz.func29,Tryz.ntmps29;(go_wp2_with fail);refine (ip _ _ _ _ _ _ HW.out hl).mono ?_;rintro _ w1 ⟨rfl,g1,hR1,hF1,hK1⟩;have hn1:eG 0 l (n:Int)=(l++ag (n:Int),0):=by unfold eG;rw [if_pos rfl,if_pos ⟨by omega,by omega⟩]
   rw [hn1] at hR1;simp only at hR1;have hlenA:(l++ag (n:Int)).length≤1000000006:=by have:=bn 5 (n:Int);simp [ag];omega
   generalize hLA:l++ag (n:Int)=LA at hR1 hlenA;have HLA:Hid (l++ag (n:Int)=LA):=hLA;clear hLA hn1;obtain ⟨a1,n1,cc1,d0,d1,d3,h1,h2,h3,h4⟩:=hR1.cells;subst h3;have HA:Hid (fe w1 p (.slice a1 n1 cc1) 0):=h1;have HO:Hid (ev w1 (.slice a1 n1 cc1) LA):=h2;clear h1 h2 hR1 c0 c1 c3 HW;have hs1:Sl w1 ao n c m:=Sl.kept' hK1 HS.out hd;(go_wp2_with (at_builtin;refine ey rfl _ _ rfl _ LA rfl HO.out ao n c m rfl hs1 (by omega) ?_));intro v2 w2 hO2 hf2 hk2;obtain ⟨hA2,hR2,hK2⟩:=eO HA.out h4 hO2 hf2 hk2;obtain ⟨e0,e1,e3⟩:=hA2.cells
   have HR:Hid (aH w p g (cX 0 l m) (.returned (.tuple #[])) (w2.setCell ⟨p,0,none⟩ v2)):=by
    show aH w p g (cX 0 l m) _ _;rw [HQ.out,← List.append_assoc,HLA.out];exact ⟨rfl,_,hR2,hF1.trans hf2 hK1.size,eP hK1 hF1 hK2⟩
   obtain ⟨a2,n2,cc2,rfl,_,_⟩:=cr hO2;clear hR2 hK2 hO2 hf2 hk2 d0 d1 d3;go_wp2
   go_returns
   exact HR.out
 ·have HR:Hid (aH w p g (cX e l m) (.returned (.tuple #[])) w):=by show aH w p g (cX e l m) _ w;unfold cX;rw [if_neg he];exact aH.same hw
  obtain ⟨a,n',c',c0,c1,c3,_⟩:=hw.cells;have hb:(e==0)=false:=by simp [he]
  clear hw he;go_enter Tryz.func29,Tryz.ntmps29;go_wp2
  go_returns
  exact HR.out
set_option maxRecDepth 100000 in
theorem m7 (w:World) (p:Nat) (g:Option Nat) (l:List Int) (e x:Int) (hw:RW w p g l e) (hl:l.length≤1000000000) :
 Calls Tryz.prog 70 #[.pointer (some ⟨p,0,none⟩),.int .u64 x] w (aH w p g (eQ e l x)):=by
 by_cases he:e=0
 ·subst he;have HQ:Hid (eQ 0 l x=(l++dA 8 x,0)):=by show eQ 0 l x=_;unfold eQ;rw [if_pos rfl]
  have HW:Hid (RW w p g l 0):=hw;clear hw;go_enter Tryz.func70,Tryz.ntmps70;go_wp2
  go_loopw [4] (fun t wr=>∃ (k:Nat) (i:Int) (g':Option Nat),k≤8∧t=.int .i64 i∧i=7 - (k:Int)∧RW wr p g' (l++(dA 8 x).take k) 0∧bc w g g'∧ab (p :: g.toList) w wr)
   (fun t _=>(intOf t+1).toNat)
  case atStart=>exact ⟨0,7,g,by omega,rfl,by omega,by simpa using HW.out,bc.refl _ _,ab.refl _ _⟩
  case round =>
   obtain ⟨k,i,g',hk8,rfl,hi,hRW,hfr,hk⟩:=hrel;have hlen:(l++(dA 8 x).take k).length≤1000000008:=by simp [bp];omega
   obtain ⟨L,hL⟩:∃ L,L=l++(dA 8 x).take k:=⟨_,rfl⟩;rw [← hL] at hRW hlen;have HL:Hid (L=l++(dA 8 x).take k):=hL;have HI:Hid (i=7 - (k:Int)):=hi;obtain ⟨a0,n0,cc0,c0,c1,c3,h1,h2,h3,h4⟩:=hRW.cells;subst h3;have HA:Hid (fe wr p (.slice a0 n0 cc0) 0):=h1;have HO:Hid (ev wr (.slice a0 n0 cc0) L):=h2;have HRW:Hid (RW wr p (Value.slice a0 n0 cc0).ownBlock L 0):=hRW;have hi1:-1≤i:=by omega
   have hi2:i≤7:=by omega
   clear h1 h2 hRW HW hL hi;by_cases hlt:k < 8
   ·have hi0:0≤i:=by have:=HI.out;omega
    (go_wp2_with (at_builtin;refine ey rfl _ _ rfl _ L rfl (World.ownsRow.alloc HO.out _) (some ⟨wr.heap.size,0,none⟩) 1 1 [_] rfl (Sl.lit rfl rfl (by decide)) (by omega) ?_));intro v1 w1 hO1 hf1 hk1;have hf2:bc wr (Value.slice a0 n0 cc0).ownBlock v1.ownBlock:=ej (bc.refl _ _) hf1 (Nat.le_refl _);obtain ⟨hA1,hR1,hK1⟩:=eO HA.out h4 hO1 hf2 (((ab.refl _ _).alloc _).trans hk1 (fun i hi=>.inl hi));obtain ⟨d0,d1,d3⟩:=hA1.cells
    have HR1:Hid (RW (w1.setCell ⟨p,0,none⟩ v1) p v1.ownBlock (l++(dA 8 x).take (k+1)) 0):=by
     show RW (w1.setCell ⟨p,0,none⟩ v1) p v1.ownBlock (l++(dA 8 x).take (k+1)) 0;rw [nx _ _ _ hlt,← List.append_assoc,← HL.out,show 8*(8 - 1 - k)=(8*i).toNat by have:=HI.out;omega];exact hR1
    have HK1:Hid (ab (p :: g.toList) w (w1.setCell ⟨p,0,none⟩ v1)):=eP hk hfr hK1;have HF1:Hid (bc w g v1.ownBlock):=hfr.trans hf2 hk.size;obtain ⟨a1,n1,cc1,rfl,_,_⟩:=cr hO1;clear hR1 hK1 hO1 hf1 hf2 hk1 c0 c1 c3;go_wp2
    go_roundw
    case rel=>exact ⟨k+1,i - 1,_,by omega,rfl,by have:=HI.out;omega,HR1.out,HF1.out,HK1.out⟩
    case measure=>simp [intOf];omega
   ·have hi0:¬ 0≤i:=by have:=HI.out;omega
    have HR:Hid (aH w p g (eQ 0 l x) (.returned (.tuple #[])) wr):=by
     show aH w p g (eQ 0 l x) _ wr;rw [HQ.out];have h5:=HRW.out;rw [HL.out,List.take_of_length_le (by rw [bp];omega)] at h5;exact ⟨rfl,_,h5,hfr,hk⟩
    go_wp2
    go_returns
    exact HR.out
 ·have HR:Hid (aH w p g (eQ e l x) (.returned (.tuple #[])) w):=by show aH w p g (eQ e l x) _ w;unfold eQ;rw [if_neg he];exact aH.same hw
  obtain ⟨a,n',c',c0,c1,c3,_⟩:=hw.cells;have hb:(e==0)=false:=by simp [he]
  clear hw he;go_enter Tryz.func70,Tryz.ntmps70;go_wp2
  refine wp_loop_rounds 1 ?_;rw [rounds_succ];go_wp2
  go_returns
  exact HR.out
def ri (e:Int) (l:List Int):List Int:=if e=0 then l else []
theorem nG (w:World) (p:Nat) (g:Option Nat) (l:List Int) (e:Int) (hw:RW w p g l e) (hl:l.length≤100000000000) :
 Calls Tryz.prog 31 #[.pointer (some ⟨p,0,none⟩)] w fun r w'=>∃ a n c,r=.returned (.tuple #[.slice a n c,.int .i64 e])∧Sl w' a n c (ri e l)∧(∀ k∈bO a,w.heap.size≤k∧k < w'.heap.size)∧ab [] w w':=by
 obtain ⟨a0,n0,cc0,c0,c1,c3,h1,h2,h3,h4⟩:=hw.cells;obtain ⟨a1,n1,cc1,hv,hs,_⟩:=cr h2;cases hv
 have HS:Hid (Sl w a0 n0 cc0 l):=hs;have hn:n0≤100000000000:=by have:=hs.1;omega
 clear hs h1 h2 hw c3;by_cases he:e=0
 ·subst he;go_enter Tryz.func31,Tryz.ntmps31;(go_wp2_with fail);refine (k8 _ _ _ _ _ HS.out hn).mono ?_;rintro _ w1 ⟨v1,rfl,hO1,hf1,hk1⟩;obtain ⟨a2,n2,cc2,rfl,hs2,hb2⟩:=cr hO1;have HR:Hid (Sl w1 a2 n2 cc2 l):=hs2;clear hO1 hs2;go_wp2
  go_ret2
  exact ⟨a2,n2,cc2,rfl,by unfold ri;rw [if_pos rfl];exact HR.out,fun k hk=>⟨hf1 k (hb2 k hk).2,(hb2 k hk).1⟩,hk1⟩
 ·have hb:(e != 0)=true:=by simp [he]
  have HE:Hid (¬ e=0):=he;clear he;go_enter Tryz.func31,Tryz.ntmps31;go_wp2
  go_quiet (fail)
  all_goals (try go_wp2)
  all_goals go_ret2
  all_goals exact ⟨none,0,0,rfl,by unfold ri;rw [if_neg HE.out];exact Sl.nil _,by simp [bO],(ab.refl _ _).drewN _⟩
end Go.Proofs.YtakafmejllilnaaGreat
