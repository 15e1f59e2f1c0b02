/-
  Texts laid as one.
-/
import Derived.Test.YtakafmejllilnaaGreatF1r
import Derived.Test.YtakafmejllilnaaGreatRows
import Derived.WalkLawsBesides
import Derived.WalkSpells
import Derived.Handy
import Derived.Deep.QuietTactic
import Derived.BigQuiet
import Derived.Lib.AppendStr
set_option maxHeartbeats 2000000
/-
 The reader's small calls,by their contracts.
-/
namespace Go.Proofs.YtakafmejllilnaaGreat
open Go.RowKit
def aS (w:World) (p:Nat) (v:Value) (e:Int):Prop:=w.heap[p]?=some (.cells #[.bool true,v,.int .i64 e] 128 (0,0))
theorem aS.cells {w:World}{p:Nat}{v:Value}{e:Int}(h:aS w p v e) :
 w.cell? ⟨p,0,none⟩=some (.bool true)∧w.cell? ⟨p,1,none⟩=some v∧w.cell? ⟨p,2,none⟩=some (.int .i64 e)∧(∀ o,w.frozen? ⟨p,o,none⟩=false):=by
 unfold aS at h;refine ⟨?_,?_,?_,fun o=>?_⟩ <;> simp [World.cell?,World.frozen?,h]
theorem cx (w:World) (p:Nat) (v:Value) (e:Int) (h:aS w p v e) :
 Calls Tryz.prog 95 #[.pointer (some ⟨p,0,none⟩)] w fun r w'=>r=.returned (.int .i64 e)∧w=w':=by
 obtain ⟨h0,h1,h2,h3⟩:=h.cells;clear h1 h3;go_enter Tryz.func95,Tryz.ntmps95;go_wp2
 go_ret
 exact ⟨rfl,rfl⟩
theorem m7 (w:World) (p:Nat) (ao:Option Addr) (n c:Nat) (e:Int) (h:aS w p (.slice ao n c) e) :
 Calls Tryz.prog 96 #[.pointer (some ⟨p,0,none⟩)] w fun r w'=>r=.returned (.int .i64 n)∧w=w':=by
 obtain ⟨h0,h1,h2,h3⟩:=h.cells;clear h0 h2 h3;go_enter Tryz.func96,Tryz.ntmps96;go_wp2
 go_ret
 exact ⟨rfl,rfl⟩
theorem es {w:World}{p:Nat}{xs:Array Value}{t:TypeId}{m:Nat × Nat}(h:w.heap[p]?=some (.cells xs t m)) (o:Nat) (u:Value) :
 (w.setCell ⟨p,o,none⟩ u).heap[p]?=some (.cells (xs.setIfInBounds o u) t m):=by
 simp [World.setCell,Array.getElem?_modify,h]
theorem aS.set1 {w:World}{p:Nat}{v:Value}{e:Int}(h:aS w p v e) (u:Value):aS (w.setCell ⟨p,1,none⟩ u) p u e:=by
 have:=es h 1 u
 simpa [aS] using this
theorem aS.set2 {w:World}{p:Nat}{v:Value}{e:Int}(h:aS w p v e) (x:Int):aS (w.setCell ⟨p,2,none⟩ (.int .i64 x)) p v x:=by
 have:=es h 2 (.int .i64 x)
 simpa [aS] using this
theorem fJ (w:World) (p:Nat) (v:Value) (e x:Int) (h:aS w p v e) :
 Calls Tryz.prog 104 #[.pointer (some ⟨p,0,none⟩),.int .i64 x] w fun r w'=>r=.returned (.tuple #[])∧aS w' p (.slice none 0 0) x∧ab [p] w w':=by
 obtain ⟨h0,h1,h2,h3⟩:=h.cells;go_enter Tryz.func104,Tryz.ntmps104;go_wp2
 go_end0
 exact ⟨rfl,(h.set2 x).set1 _,((ab.refl _ _).setCell (by simp) _).setCell (by simp) _⟩
theorem ts (w:World) (p:Nat) (ao:Option Addr) (n c:Nat) (e:Int) (h:aS w p (.slice ao n c) e) :
 Calls Tryz.prog 65 #[.pointer (some ⟨p,0,none⟩)] w fun r w'=>r=.returned (.int .i64 (if e=0 then (if n=0 then 0 else 3) else e))∧w=w':=by
 by_cases he:e=0
 ·subst he;by_cases hn:n=0
  ·subst hn;go_enter Tryz.func65,Tryz.ntmps65;(go_wp2_with (first | (go_at_call 95;refine (cx _ _ _ _ h).mono ?_;rintro _ _ ⟨rfl,rfl⟩) | (go_at_call 96;refine (m7 _ _ _ _ _ _ h).mono ?_;rintro _ _ ⟨rfl,rfl⟩)));go_ret
   exact ⟨rfl,rfl⟩
  ·have hp:(0:Int) < (n:Int):=by omega
   go_enter Tryz.func65,Tryz.ntmps65;(go_wp2_with (first | (go_at_call 95;refine (cx _ _ _ _ h).mono ?_;rintro _ _ ⟨rfl,rfl⟩) | (go_at_call 96;refine (m7 _ _ _ _ _ _ h).mono ?_;rintro _ _ ⟨rfl,rfl⟩)));go_ret
   simp
 ·have hb:(e != 0)=true:=by simp [he]
  go_enter Tryz.func65,Tryz.ntmps65;(go_wp2_with (first | (go_at_call 95;refine (cx _ _ _ _ h).mono ?_;rintro _ _ ⟨rfl,rfl⟩)));go_ret
  simp
theorem fS (w:World) (p:Nat) (ao:Option Addr) (n c k:Nat) (e:Int) (h:aS w p (.slice ao n c) e) (hk:n < k) :
 Calls Tryz.prog 105 #[.pointer (some ⟨p,0,none⟩),.int .i64 k] w fun r w'=>r=.panicked [{ v:=.iface 24 (.int .i64 2),recovered:=false }]∧w=w':=by
 obtain ⟨h0,h1,h2,h3⟩:=h.cells;have hlt:(n:Int) < (k:Int):=by omega
 go_enter Tryz.func105,Tryz.ntmps105;go_wp2
 exact ⟨rfl,rfl,rfl⟩
theorem gL (w:World) (p:Nat) (ao:Option Addr) (n c k:Nat) (e:Int) (l:List Int) (hR:aS w p (.slice ao n c) e) (hs:Sl w ao n c l) (hp:p ∉ bO ao) (hk:k≤n) :
 Calls Tryz.prog 105 #[.pointer (some ⟨p,0,none⟩),.int .i64 k] w fun r w'=>∃ a1 c1 a2 c2,r=.returned (.slice a1 k c1)∧aS w' p (.slice a2 (n - k) c2) e∧Sl w' a1 k c1 (l.take k)∧Sl w' a2 (n - k) c2 (l.drop k)∧bO a1=bO ao∧bO a2=bO ao∧ab [p] w w':=by
 obtain ⟨h0,h1,h2,h3⟩:=hR.cells;have hm:=hs.2.2.1;have hc:=hs.2.1;unfold maxLen at hm;have hlt:¬ (n:Int) < (k:Int):=by omega
 go_enter Tryz.func105,Tryz.ntmps105;go_wp2
 ·go_ret
  have ec:c=k:=by assumption
  subst ec;have hck:n≤c:=by omega
  have hK:ab [p] w (w.setCell ⟨p,1,none⟩ (.slice ao (n - c) 0)):=(ab.refl _ _).setCell (by simp) _;exact ⟨_,_,rfl,_,_,hR.set1 _,Sl.kept hK (hs.take hk) (by intro k hk e;simp at e;subst e;exact hp hk),Sl.kept hK (hs.drop_all hck) (by intro k hk e;simp at e;subst e;exact hp hk),rfl,rfl,hK⟩
 ·go_ret
  have hK:ab [p] w (w.setCell ⟨p,1,none⟩ (.slice (Option.map (fun x=>x.add k) ao) (n - k) (c - k))):=(ab.refl _ _).setCell (by simp) _;exact ⟨_,_,rfl,_,_,hR.set1 _,Sl.kept hK (hs.take hk) (by intro k hk e;simp at e;subst e;exact hp hk),Sl.kept hK (hs.drop hk) (by rw [l9];intro k hk e;simp at e;subst e;exact hp hk),rfl,l9 _ _,hK⟩
theorem eL:(Tryz.prog.info? 5).map (fun i=>(i.zero,i.size,i.bytes))=some (some (.int .u8 0),1,1):=by kernel_rfl
theorem wF:∀ (w:World) (a:Option Addr) (n c n' c':Nat),(binOp .eql 23 (.slice a n c) (.slice none n' c')).run Tryz.prog w=.ok (.bool a.isNone) w :=
 fun w a n c n' c'=>Lib.run_eql_slice_nil w _ _ a n c n' c' Tryz.underlying23
theorem gX (w:World) (ao:Option Addr) (n c:Nat) (l:List Int) (hs:Sl w ao n c l) (hbig:n≤140737488355328) :
 Calls Tryz.prog 61 #[.slice ao n c] w fun e w'=>∃ a c',e=.returned (.slice a n c')∧Sl w' a n c' l∧(∀ k∈bO a,w.heap.size≤k∧k < w'.heap.size)∧ab [] w w':=by
 obtain ⟨i0,hi,hz0,hz1,hz2⟩:=info_parts eL;have qn:=wF;cases ao with
 | none =>
   have hc:c=0:=hs.2.2.2.1 rfl;have hn:n=0:=by have:=hs.2.1;omega
   have hl:l=[]:=by have:=hs.1;rw [hn] at this;simpa using this
   subst hl;go_enter Tryz.func61,Tryz.ntmps61;go_wp2
   go_ret
   subst hn;exact ⟨_,_,rfl,Sl.nil _,by simp [bO],ab.refl _ _⟩
 | some a =>
   have HS:Hid (Sl w (some a) n c l):=hs;clear hs;go_enter Tryz.func61,Tryz.ntmps61;go_wp2_with (at_builtin;refine wpList_append_own _ rfl _ _ 23 rfl w.heap.size 5 i0 (.int .u8 0) 1 1 Tryz.underlying23 hi hz0 hz1 hz2 rfl (by decide) _ _ _ rfl (World.ownsRow_made w #[] 0 (Nat.le_refl _) (Nat.zero_le _) rfl) a n c (l.map (Value.int .u8)) rfl ?qc1 ?qc2 ?qc3 ?qc4 ?qc5 ?qc6 ?_)
   case qc1=>have:=HS.out.1;simp;omega
   case qc2 =>
    intro j u hj
    have hjn:j < n:=by
     have h5:=(List.getElem?_eq_some_iff.1 hj).1;have h6:=HS.out.1;simp at h5
     omega
    obtain ⟨b,o,e,hc⟩:=HS.out.2.2.2.2 j hjn;cases e
    refine Lib.cell?_alloc_some _ ?_;have ea:(⟨b,o,none⟩:Addr).add j=⟨b,o+j,none⟩:=by by_cases hk0:j=0 <;> simp [Addr.add,hk0]
    rw [ea,hc];have e:(l.map (Value.int .u8))[j]?=some (Value.int .u8 (l.getD j 0)):=by simp [List.getD,List.getElem?_eq_getElem (show j < l.length by have:=HS.out.1;omega)]
    rw [e] at hj;exact hj
   case qc3=>intro u hu;obtain ⟨x,_,rfl⟩:=List.mem_map.1 hu;rfl
   case qc4=>unfold maxLen;omega
   case qc5=>omega
   case qc6=>simp
   intro v' w1 hown hgrow hnil;go_wp2
   go_ret
   have hn:=HS.out.1;subst hn;have hown2:w1.ownsRow w.heap.size 5 1 v' l.length (l.map (Value.int .u8)):=by simpa using hown
   clear hown;obtain ⟨a',c',rfl,hsl,hb⟩:=Sl.of_owns hown2;refine ⟨a',c',rfl,hsl,fun k hk=>⟨(hb k hk).1,(hb k hk).2.1⟩,?_⟩;exact ((ab.refl _ w).alloc _).grown hgrow (by intro k hk;simp [Value.ownBlock] at hk;omega)
def dy (w:World) (p:Nat) (v:Value) (e:Int):Prop:=w.heap[p]?=some (.cells #[.bool true,v,.int .i64 e] 125 (0,0))
theorem dy.cells {w:World}{p:Nat}{v:Value}{e:Int}(h:dy w p v e) :
 w.cell? ⟨p,0,none⟩=some (.bool true)∧w.cell? ⟨p,1,none⟩=some v∧w.cell? ⟨p,2,none⟩=some (.int .i64 e)∧(∀ o,w.frozen? ⟨p,o,none⟩=false):=by
 unfold dy at h;refine ⟨?_,?_,?_,fun o=>?_⟩ <;> simp [World.cell?,World.frozen?,h]
theorem dy.set1 {w:World}{p:Nat}{v:Value}{e:Int}(h:dy w p v e) (u:Value):dy (w.setCell ⟨p,1,none⟩ u) p u e:=by
 have:=es h 1 u
 simpa [dy] using this
theorem dy.set2 {w:World}{p:Nat}{v:Value}{e:Int}(h:dy w p v e) (x:Int):dy (w.setCell ⟨p,2,none⟩ (.int .i64 x)) p v x:=by
 have:=es h 2 (.int .i64 x)
 simpa [dy] using this
theorem bj (w:World) (p:Nat) (v:Value) (e:Int) (h:dy w p v e) :
 Calls Tryz.prog 87 #[.pointer (some ⟨p,0,none⟩)] w fun r w'=>r=.returned (.bool (e==0))∧w=w':=by
 obtain ⟨h0,h1,h2,h3⟩:=h.cells;clear h1 h3;go_enter Tryz.func87,Tryz.ntmps87;go_wp2
 go_ret
 exact ⟨rfl,rfl⟩
theorem gT (w:World) (p:Nat) (v:Value) (e x:Int) (h:dy w p v e) :
 Calls Tryz.prog 88 #[.pointer (some ⟨p,0,none⟩),.int .i64 x] w fun r w'=>r=.returned (.tuple #[])∧dy w' p (.slice none 0 0) x∧ab [p] w w':=by
 obtain ⟨h0,h1,h2,h3⟩:=h.cells;go_enter Tryz.func88,Tryz.ntmps88;go_wp2
 go_end0
 exact ⟨rfl,(h.set2 x).set1 _,((ab.refl _ _).setCell (by simp) _).setCell (by simp) _⟩
def fk (w:World) (v:Value) (l:List Int):Prop:=w.ownsRow 0 5 1 v l.length (l.map (Value.int .u8))
theorem gN {v v1 v2:Value}{N M:Nat}(h1:∀ k,v1.ownBlock=some k→v.ownBlock=some k∨N≤k) (h2:∀ k,v2.ownBlock=some k→v1.ownBlock=some k∨M≤k) (h:N≤M) :
 ∀ k,v2.ownBlock=some k→v.ownBlock=some k∨N≤k:=by
 intro k hk;rcases h2 k hk with h3 | h3
 ·exact h1 k h3
 ·exact .inr (by omega)
theorem kM {v v1:Value}{w wr w1:World}{o:Obj}(h1:∀ k,v1.ownBlock=some k→v.ownBlock=some k∨w.heap.size≤k) (hk:ab v.ownBlock.toList w wr) (hg:(wr.alloc o).grownBy w1 v1.ownBlock):ab v.ownBlock.toList w w1 :=
 (hk.alloc o).grown hg (fun k e=>by
   rcases h1 k e with h | h
   ·exact .inl (by rw [h];simp)
   ·exact .inr h)
theorem ep (w:World) (v:Value) (l:List Int) (n:Int) (ho:fk w v l) (h0:0≤n) (h1:n≤1099511627776) (hl:l.length≤1000000000) :
 Calls Tryz.prog 89 #[v,.int .i64 n] w fun r w'=>∃ v',r=.returned v'∧fk w' v' (l++ap n)∧(∀ k,v'.ownBlock=some k→v.ownBlock=some k∨w.heap.size≤k)∧ab v.ownBlock.toList w w':=by
 obtain ⟨i0,hi,hz0,hz1,hz2⟩:=info_parts eL;have HO:Hid (fk w v l):=ho;clear ho;go_enter Tryz.func89,Tryz.ntmps89;go_wp2
 go_loopw [0,1] (fun o t wr=>∃ (f:Nat) (m:Int) (L:List Int),f≤5∧t=.int .i64 m∧0≤m∧m≤1099511627776∧m < 128 ^ (f+1)∧L++enc f m=l++ap n∧L.length≤1000000005 - f∧fk wr o L∧(∀ k,o.ownBlock=some k→v.ownBlock=some k∨w.heap.size≤k)∧ab v.ownBlock.toList w wr)
  (fun _ t _=>(intOf t).toNat)
 case atStart=>exact ⟨5,n,l,by omega,rfl,h0,h1,by omega,rfl,by omega,HO.out,fun k hk=>.inl hk,ab.refl _ _⟩
 case round =>
  obtain ⟨f,m,L,hf,rfl,hm0,hm1,hm2,hL,hLl,hO,hfr,hk⟩:=hrel;by_cases h128:128≤m
  ·have HO1:Hid (fk wr u0 L):=hO;clear hO;go_wp2_with (at_builtin;refine de _ rfl _ _ 23 rfl 5 i0 (.int .u8 0) 1 1 Tryz.underlying23 hi hz0 hz1 hz2 rfl (by decide) _ L.length (L.map (Value.int .u8)) rfl (World.ownsRow.alloc HO1.out _) ⟨wr.heap.size,0,none⟩ 1 1 [.int .u8 (m % 128+128)] rfl rfl ?c1 ?c2 ?c3 ?c4 ?_)
   case c1 =>
    intro j u hj;match j,hj with
    | 0,hj=>simp at hj;subst hj;simp [Addr.add];rw [qw (by omega) (by omega)];omega
   case c2=>intro u hu;simp at hu;subst hu;rfl
   case c3=>unfold maxLen;omega
   case c4=>omega
   intro v' w1 hown hgrow hfr';go_wp2
   go_roundw
   case rel =>
    obtain ⟨g,rfl⟩:∃ g,f=g+1:=by
     cases f with
     | zero=>simp at hm2;omega
     | succ g=>exact ⟨g,rfl⟩
    refine ⟨g,m / 128,L++[m % 128+128],by omega,rfl,by omega,by omega,?_,?_,by simp;omega,?_,gN hfr hfr' (by have:=hk.size;simp;omega),kM hfr hk hgrow⟩
    ·rw [Int.pow_succ] at hm2;exact Int.ediv_lt_of_lt_mul (by decide) hm2
    ·rw [← hL,jk _ _ h128];simp
    ·unfold fk;simpa using hown
   case measure=>simp [intOf];omega
  ·have HO1:Hid (fk wr u0 L):=hO;clear hO;go_wp2_with (at_builtin;refine de _ rfl _ _ 23 rfl 5 i0 (.int .u8 0) 1 1 Tryz.underlying23 hi hz0 hz1 hz2 rfl (by decide) _ L.length (L.map (Value.int .u8)) rfl (World.ownsRow.alloc HO1.out _) ⟨wr.heap.size,0,none⟩ 1 1 [.int .u8 m] rfl rfl ?d1 ?d2 ?d3 ?d4 ?_)
   case d2=>first | rfl | (intro u hu;simp at hu;subst hu;rfl)
   case d3=>unfold maxLen;omega
   case d4=>omega
   intro v' w1 hown hgrow hfr';go_wp2
   go_ret
   refine ⟨v',rfl,?_,gN hfr hfr' (by have:=hk.size;simp;omega),kM hfr hk hgrow⟩;rw [← hL,ju _ _ (by omega)];unfold fk;simpa using hown
def Wr (w:World) (p:Nat) (g:Option Nat) (l:List Int) (e:Int):Prop :=
 ∃ v,dy w p v e∧fk w v l∧v.ownBlock=g∧g≠some p∧bi l∧(e≠0→v=.slice none 0 0∧l=[])
theorem Wr.kept {S:List Nat}{a w:World}(h:ab S a w) {p:Nat}{g:Option Nat}{l:List Int}{e:Int}(hr:Wr a p g l e) (hp:p ∉ S) (hg:∀ k,g=some k→k ∉ S):Wr w p g l e:=by
 obtain ⟨v,h1,h2,h3,h4,h5,h6⟩:=hr;exact ⟨v,h.at h1 hp,h.ownsRow h2 (fun k hk=>hg k (by rw [← h3];exact hk)),h3,h4,h5,h6⟩
theorem Wr.lt {w:World}{p:Nat}{g:Option Nat}{l:List Int}{e:Int}(hr:Wr w p g l e):p < w.heap.size∧∀ k,g=some k→k < w.heap.size:=by
 obtain ⟨v,h1,h2,h3,_⟩:=hr;exact ⟨bZ h1,fun k hk=>(h2.lt k (by rw [h3];exact hk)).2⟩
def eW (w:World) (g g':Option Nat):Prop:=∀ k,g'=some k→g=some k∨w.heap.size≤k
theorem eW.refl (w:World) (g:Option Nat):eW w g g:=fun _ h=>.inl h
theorem eY (w:World) :
 Calls Tryz.prog 54 #[] w fun r w'=>r=.returned (.pointer (some ⟨w.heap.size,0,none⟩))∧Wr w' w.heap.size none [] 0∧ab [] w w':=by
 go_enter Tryz.func54,Tryz.ntmps54;go_wp2
 go_ret
 exact ⟨rfl,⟨.slice none 0 0,heap_alloc_new _ _,World.ownsRow_nil _ _ _ _,rfl,by simp,by intro x hx;simp at hx,by simp⟩,(ab.refl _ _).alloc _⟩
def dU (e:Int) (l:List Int) (n:Int):List Int × Int:=if e=0 then (if 0≤n∧n≤1099511627776 then (l++ap n,0) else ([],1)) else ([],e)
theorem eX (n:Int) (h0:0≤n) (h1:n≤1099511627776):bi (ap n):=tD 5 n h0 (by omega)
theorem bi.append {l m:List Int}(h:bi l) (k:bi m):bi (l++m):=fun x hx=>by
 rcases List.mem_append.1 hx with h1 | h1
 ·exact h x h1
 ·exact k x h1
def bU (w:World) (p:Nat) (g:Option Nat) (q:List Int × Int) (r:Ending) (w':World):Prop :=
 r=.returned (.tuple #[])∧∃ g',Wr w' p g' q.1 q.2∧eW w g g'∧ab (p :: g.toList) w w'
theorem bq:bi []:=by intro x hx;simp at hx
theorem bU.failed {w w':World}{p:Nat}{g:Option Nat}{e:Int}(h1:dy w' p (.slice none 0 0) e) (h2:ab [p] w w'):bU w p g ([],e) (.returned (.tuple #[])) w' :=
 ⟨rfl,none,⟨_,h1,World.ownsRow_nil _ _ _ _,rfl,by simp,bq,fun _=>⟨rfl,rfl⟩⟩,fun k hk=>by simp at hk,h2.mono (by simp)⟩
theorem lq (w:World) (p:Nat) (g:Option Nat) (l:List Int) (e n:Int) (hw:Wr w p g l e) (hl:l.length≤1000000000) :
 Calls Tryz.prog 55 #[.pointer (some ⟨p,0,none⟩),.int .i64 n] w (bU w p g (dU e l n)):=by
 obtain ⟨v,h1,h2,h3,h4,h5,h6⟩:=hw;have H1:Hid (dy w p v e):=h1;have H2:Hid (fk w v l):=h2;obtain ⟨c0,c1,c2,c3⟩:=h1.cells;clear h1 h2;by_cases he:e=0
 ·subst he;by_cases hn:0≤n∧n≤1099511627776
  ·obtain ⟨hn0,hn1⟩:=hn;have hq:dU 0 l n=(l++ap n,0):=by unfold dU;rw [if_pos rfl,if_pos ⟨hn0,hn1⟩]
   have HQ:Hid (dU 0 l n=(l++ap n,0)):=hq;clear hq;go_enter Tryz.func55,Tryz.ntmps55;(go_wp2_with fail);refine (bj _ _ _ _ H1.out).mono ?_;rintro _ _ ⟨rfl,rfl⟩;(go_wp2_with fail);refine (ep _ _ _ _ H2.out hn0 hn1 hl).mono ?_;rintro _ w1 ⟨v',rfl,hO,hfr,hk⟩;have hpS:p ∉ v.ownBlock.toList:=by rw [h3];simp;exact h4
   have hA1:dy w1 p v 0:=hk.at H1.out hpS;obtain ⟨d0,d1,d2,d3⟩:=hA1.cells
   have hv':∃ a n c,v'=.slice a n c:=by
    obtain ⟨_,h | ⟨g,cap,cur,h,_⟩⟩:=hO
    ·exact ⟨_,_,_,h.1⟩
    ·exact ⟨_,_,_,h⟩
   obtain ⟨a',n',c',rfl⟩:=hv';clear c0 c1 c2 c3;go_wp2
   go_end0
   have hpw:=bZ H1.out
   have hne:(Value.slice a' n' c').ownBlock≠some p:=by
    intro h7;rcases hfr p h7 with h8 | h8
    ·exact h4 (by rw [← h3];exact h8)
    ·omega
   rw [HQ.out];refine ⟨rfl,_,⟨_,hA1.set1 _,?_,rfl,hne,h5.append (eX n hn0 hn1),by simp⟩,?_,?_⟩
   ·exact (show ab [p] w1 _ from (ab.refl _ _).setCell (by simp) _).ownsRow hO (by intro k hk h7;simp at h7;subst h7;exact hne hk)
   ·intro k hk;rcases hfr k hk with h8 | h8
    ·exact .inl (by rw [← h3];exact h8)
    ·exact .inr h8
   ·exact (hk.mono (T:=p :: g.toList) (by rw [h3];intro i hi;exact .inl (by simp at hi ⊢;exact .inr hi))).setCell (by simp) _
  ·have hq:dU 0 l n=([],1):=by unfold dU;rw [if_pos rfl,if_neg hn]
   have HQ:Hid (dU 0 l n=([],1)):=hq;clear hq;rcases (show n < 0∨(¬ n < 0∧1099511627776 < n) by omega) with hn2 | ⟨hn2,hn3⟩
   all_goals
    clear hn;go_enter Tryz.func55,Tryz.ntmps55;(go_wp2_with fail);refine (bj _ _ _ _ H1.out).mono ?_;rintro _ _ ⟨rfl,rfl⟩;(go_wp2_with fail);refine (gT _ _ _ _ _ H1.out).mono ?_;rintro _ w1 ⟨rfl,hA1,hk⟩;go_wp2
    go_returns
    rw [HQ.out];exact bU.failed hA1 hk
 ·have hq:dU e l n=([],e):=by unfold dU;rw [if_neg he]
  have HQ:Hid (dU e l n=([],e)):=hq;obtain ⟨rfl,rfl⟩:=h6 he;have hb:(e==0)=false:=by simp [he]
  clear hq he h6;go_enter Tryz.func55,Tryz.ntmps55;(go_wp2_with fail);refine (bj _ _ _ _ H1.out).mono ?_;rintro _ _ ⟨rfl,rfl⟩;go_wp2
  go_returns
  rw [HQ.out];exact bU.failed H1.out (ab.refl _ _)
theorem iF (w:World) (p:Nat) (g:Option Nat) (l:List Int) (e:Int) (hw:Wr w p g l e) (hl:l.length≤140737488355328) :
 Calls Tryz.prog 56 #[.pointer (some ⟨p,0,none⟩)] w fun r w'=>∃ a c,r=.returned (.tuple #[.slice a l.length c,.int .i64 e])∧Sl w' a l.length c l∧(∀ k∈bO a,w.heap.size≤k∧k < w'.heap.size)∧ab [] w w':=by
 obtain ⟨v,h1,h2,h3,h4,h5,h6⟩:=hw;obtain ⟨ao,c,rfl,hs,_⟩:=Sl.of_owns h2;obtain ⟨c0,c1,c2,c3⟩:=h1.cells;have HS:Hid (Sl w ao l.length c l):=hs;clear hs h2 h1 c3;by_cases he:e=0
 ·subst he;clear h6;go_enter Tryz.func56,Tryz.ntmps56;(go_wp2_with fail);refine (gX _ _ _ _ _ HS.out hl).mono ?_;rintro _ w1 ⟨a,c',rfl,hs1,hb1,hk1⟩;go_wp2
  go_ret2
  exact ⟨a,c',rfl,hs1,hb1,hk1⟩
 ·obtain ⟨hv,rfl⟩:=h6 he;have hb:(e != 0)=true:=by simp [he]
  clear h6 he;go_enter Tryz.func56,Tryz.ntmps56;go_wp2
  go_quiet (fail)
  all_goals (try go_wp2)
  all_goals go_ret2
  all_goals exact ⟨none,0,rfl,Sl.nil _,by simp [bO],(ab.refl _ _).drewN _⟩
theorem lY {l m:List Int}{k:Nat}(h1:k < l.length) (h2:k < m.length) (h:l.take k=m.take k) (e:l.getD k 0=m.getD k 0):l.take (k+1)=m.take (k+1):=by
 rw [List.take_succ_eq_append_getElem h1,List.take_succ_eq_append_getElem h2,h];simp [List.getD,List.getElem?_eq_getElem h1,List.getElem?_eq_getElem h2] at e
 rw [e]
theorem iA (w:World) (ao bo:Option Addr) (n c m d:Nat) (l l':List Int) (hs:Sl w ao n c l) (hs':Sl w bo m d l') :
 Calls Tryz.prog 15 #[.slice ao n c,.slice bo m d] w fun r w'=>r=.returned (.bool (decide (l=l')))∧ab [] w w':=by
 have hn:=hs.1;have hm:=hs'.1;subst hn;subst hm;by_cases hne:l.length=l'.length
 ·by_cases h0:l.length=0
  ·have e1:l=[]:=by simpa using h0
   have e2:l'=[]:=by rw [h0] at hne;simpa using hne.symm
   subst e1;subst e2;clear hs hs' hne h0;go_enter Tryz.func15,Tryz.ntmps15;go_wp2
   refine wp_loop_rounds 1 ?_;rw [rounds_succ];go_wp2
   go_ret
   exact ⟨rfl,ab.refl _ _⟩
  ·obtain ⟨b1,o1,rfl,hc1⟩:=hs.some (by omega);obtain ⟨b2,o2,rfl,hc2⟩:=hs'.some (by omega);have hcm:=hs.2.1;have hmm:=hs.2.2.1;have hdm:=hs'.2.1;have hdd:=hs'.2.2.1;unfold maxLen at hmm hdd;have HC1:Hid (∀ i,i < l.length→w.cell? ⟨b1,o1+i,none⟩=some (.int .u8 (l.getD i 0))):=hc1;have HC2:Hid (∀ i,i < l'.length→w.cell? ⟨b2,o2+i,none⟩=some (.int .u8 (l'.getD i 0))):=hc2;have HN:Hid (l.length=l'.length):=hne;have hnb:((l.length:Int) != (l'.length:Int))=false:=by simp [hne]
   clear hc1 hc2 hs hs' hne;go_enter Tryz.func15,Tryz.ntmps15;go_wp2
   go_loopw [5] (fun i wr=>∃ k:Nat,k≤l.length∧i=.int .i64 k∧l.take k=l'.take k∧∃ q,wr=w.drewN q) (fun i _=>l.length - (intOf i).toNat)
   case atStart=>exact ⟨0,Nat.zero_le _,rfl,rfl,0,rfl⟩
   case round =>
    obtain ⟨k,hk,rfl,htk,q,rfl⟩:=hrel;have HT:Hid (l.take k=l'.take k):=htk;clear htk;by_cases hlt:k < l.length
    ·have g1:w.cell? ⟨b1,o1+k,none⟩=some (.int .u8 (l.getD k 0)):=HC1.out k hlt;have g2:w.cell? ⟨b2,o2+k,none⟩=some (.int .u8 (l'.getD k 0)):=HC2.out k (by have:=HN.out;omega);have hlt2:k < l'.length:=by have:=HN.out;omega
     generalize hx:l.getD k 0=x at g1;generalize hy:l'.getD k 0=y at g2;have HX:Hid (l.getD k 0=x):=hx;have HY:Hid (l'.getD k 0=y):=hy;clear hx hy;by_cases hxy:x=y
     ·have hb:(x != y)=false:=by simp [hxy]
      have HXY:Hid (x=y):=hxy;clear hxy;go_wp2
      go_quiet (fail)
      go_wp2
      refine ⟨⟨k+1,by omega,by go_num,lY hlt hlt2 HT.out (by rw [HX.out,HY.out,HXY.out]),_,rfl⟩,?_⟩;simp [intOf];omega
     ·have hb:(x != y)=true:=by simp [hxy]
      have HXY:Hid (¬ x=y):=hxy;clear hxy;go_wp2
      go_quiet (fail)
      go_wp2
      go_ret
      have hn:¬ l=l':=fun e=>HXY.out (by rw [← HX.out,← HY.out,e]);exact ⟨by simp [hn],((ab.refl _ _).drewN _).drewN _⟩
    ·have hk2:k=l.length:=by omega
     have hn:l=l':=by
      have h1:=HT.out;rw [hk2,List.take_length] at h1;rw [h1,List.take_of_length_le (by have:=HN.out;omega)]
     have HN2:Hid (l=l'):=hn;clear hk2 hn;go_wp2
     go_ret
     exact ⟨by simp [HN2.out],(ab.refl _ _).drewN _⟩
 ·have hnb:((l.length:Int) != (l'.length:Int))=true:=by simp;omega
  have HN:Hid (¬ l.length=l'.length):=hne;clear hne hs hs';go_enter Tryz.func15,Tryz.ntmps15;go_wp2
  go_ret
  have hn:¬ l=l':=fun e=>HN.out (by rw [e]);exact ⟨by simp [hn],ab.refl _ _⟩
theorem fz {l:List Int}{k:Nat}(h:k < l.length):l.take (k+1)=l.take k++[l.getD k 0]:=by
 rw [List.take_succ_eq_append_getElem h];simp [List.getD,List.getElem?_eq_getElem h]
theorem gu {l:List Int}(ho:bi l) {k:Nat}(h:k < l.length):0≤l.getD k 0∧l.getD k 0 < 256:=by
 have:l.getD k 0=l[k]:=by simp [List.getD,List.getElem?_eq_getElem h]
 rw [this];exact ho _ (List.getElem_mem h)
theorem kT (w:World) (ao:Option Addr) (n c:Nat) (l:List Int) (hs:Sl w ao n c l) (ho:bi l) :
 Calls Tryz.prog 90 #[.slice ao n c] w fun r w'=>r=.returned (.int .u32 (db l))∧w=w':=by
 have hn:=hs.1;subst hn;have hm:=hs.2.2.1;have hc:=hs.2.1;unfold maxLen at hm;by_cases h0:l.length=0
 ·have e1:l=[]:=by simpa using h0
  subst e1;clear hs;go_enter Tryz.func90,Tryz.ntmps90;go_wp2
  refine wp_loop_rounds 1 ?_;rw [rounds_succ];go_wp2
  go_ret
  exact ⟨rfl,rfl⟩
 ·obtain ⟨b,o,rfl,hcell⟩:=hs.some (by omega);have HC:Hid (∀ i,i < l.length→w.cell? ⟨b,o+i,none⟩=some (.int .u8 (l.getD i 0))):=hcell;have HO:Hid (bi l):=ho;clear hs hcell ho;go_enter Tryz.func90,Tryz.ntmps90;go_wp2
  go_loop [3,9] (fun t i=>∃ (k:Nat) (r:Nat),k≤l.length∧i=.int .i64 k∧t=.int .u32 r∧r < 4294967296∧Hid (r=fl 4294967295 (l.take k))) (fun _ i=>l.length - (intOf i).toNat)
  case atStart=>exact ⟨0,4294967295,Nat.zero_le _,rfl,rfl,by decide,rfl⟩
  case round =>
   obtain ⟨k,r,hk,rfl,rfl,hr,HR⟩:=hrel;by_cases hlt:k < l.length
   ·have g1:w.cell? ⟨b,o+k,none⟩=some (.int .u8 (l.getD k 0)):=HC.out k hlt;have gd:=gu HO.out hlt;generalize hx:l.getD k 0=d at g1 gd;have HX:Hid (l.getD k 0=d):=hx;clear hx;obtain ⟨gd0,gd1⟩:=gd
    have hx1:bits .xor .u32 (r:Int) d=((r ^^^ d.toNat:Nat):Int):=by
     have:=u32_xor_nat r d.toNat hr (by omega)
     rw [show ((d.toNat:Nat):Int)=d by omega] at this;exact this
    have hy2:r ^^^ d.toNat < 4294967296:=Nat.xor_lt_two_pow (n:=32) (by omega) (by omega);obtain ⟨y,hy⟩:∃ y,y=r ^^^ d.toNat:=⟨_,rfl⟩;rw [← hy] at hx1 hy2;have HY:Hid (y=r ^^^ d.toNat):=hy;clear hy;go_wp2
    go_loop [3,17] (fun t j=>∃ (m:Nat) (z:Nat),m≤8∧j=.int .i64 m∧t=.int .u32 z∧z < 4294967296∧Hid (z=dY m y)) (fun _ j=>8 - (intOf j).toNat)
    case atStart=>exact ⟨0,y,by omega,rfl,rfl,hy2,rfl⟩
    case round =>
     obtain ⟨m,z,hm8,rfl,rfl,hz,HZ⟩:=hrel;by_cases hm:m < 8
     ·have hm':(m:Int) < 8:=by omega
      by_cases hodd:z % 2=1
      ·obtain ⟨q1,q2⟩:=pq z hz hodd;clear hodd;go_wp2
       go_round
       case rel=>exact ⟨m+1,bw z,by omega,by go_num,rfl,fU z hz,by show bw z=bw (dY m y);rw [← HZ.out]⟩
       case measure=>simp [intOf];omega
      ·obtain ⟨q1,q2⟩:=nL z hz (by omega);have Q2:Hid ((z:Int) / 2=((bw z:Nat):Int)):=q2;clear hodd q2;go_wp2
       go_round
       case rel=>exact ⟨m+1,bw z,by omega,by go_num,by rw [Q2.out],fU z hz,by show bw z=bw (dY m y);rw [← HZ.out]⟩
       case measure=>simp [intOf];omega
     ·have hm':m=8:=by omega
      subst hm';go_wp2
      go_round
      case rel=>exact ⟨k+1,z,by omega,by go_num,rfl,hz,by show z=fl 4294967295 (l.take (k+1));rw [HZ.out,HY.out,HR.out,fz hlt,jF,HX.out]⟩
      case measure=>simp [intOf];omega
   ·have hke:l.take k=l:=List.take_of_length_le (by omega);have HR2:Hid (r=fl 4294967295 l):=by have:=HR.out;rw [hke] at this;exact this
    clear hke;go_wp2
    go_ret
    refine ⟨?_,rfl⟩;unfold db;rw [← HR2.out];exact gO (pe r hr)
theorem hZ (w:World) (ao:Option Addr) (n c:Nat) (l:List Int) (hs:Sl w ao n c l) (ho:bi l) :
 Calls Tryz.prog 53 #[.slice ao n c] w fun r w'=>r=.returned (.int .u32 (db l))∧w=w':=by
 have hn:=hs.1;subst hn;have hm:=hs.2.2.1;have hc:=hs.2.1;unfold maxLen at hm;by_cases h0:l.length=0
 ·have e1:l=[]:=by simpa using h0
  subst e1;clear hs;go_enter Tryz.func53,Tryz.ntmps53;go_wp2
  refine wp_loop_rounds 1 ?_;rw [rounds_succ];go_wp2
  go_ret
  exact ⟨rfl,rfl⟩
 ·obtain ⟨b,o,rfl,hcell⟩:=hs.some (by omega);have HC:Hid (∀ i,i < l.length→w.cell? ⟨b,o+i,none⟩=some (.int .u8 (l.getD i 0))):=hcell;have HO:Hid (bi l):=ho;clear hs hcell ho;go_enter Tryz.func53,Tryz.ntmps53;go_wp2
  go_loop [3,4] (fun t i=>∃ (k:Nat) (r:Nat),k≤l.length∧i=.int .i64 k∧t=.int .u32 r∧r < 4294967296∧Hid (r=fl 4294967295 (l.take k))) (fun _ i=>l.length - (intOf i).toNat)
  case atStart=>exact ⟨0,4294967295,Nat.zero_le _,rfl,rfl,by decide,rfl⟩
  case round =>
   obtain ⟨k,r,hk,rfl,rfl,hr,HR⟩:=hrel;by_cases hlt:k < l.length
   ·have g1:w.cell? ⟨b,o+k,none⟩=some (.int .u8 (l.getD k 0)):=HC.out k hlt;have gd:=gu HO.out hlt;generalize hx:l.getD k 0=d at g1 gd;have HX:Hid (l.getD k 0=d):=hx;clear hx;obtain ⟨gd0,gd1⟩:=gd
    have hx1:bits .xor .u32 (r:Int) d=((r ^^^ d.toNat:Nat):Int):=by
     have:=u32_xor_nat r d.toNat hr (by omega)
     rw [show ((d.toNat:Nat):Int)=d by omega] at this;exact this
    have hy2:r ^^^ d.toNat < 4294967296:=Nat.xor_lt_two_pow (n:=32) (by omega) (by omega);obtain ⟨y,hy⟩:∃ y,y=r ^^^ d.toNat:=⟨_,rfl⟩;rw [← hy] at hx1 hy2;have HY:Hid (y=r ^^^ d.toNat):=hy;clear hy;go_wp2
    go_loop [3,5] (fun t j=>∃ (m:Nat) (z:Nat),m≤8∧j=.int .i64 m∧t=.int .u32 z∧z < 4294967296∧Hid (z=dY m y)) (fun _ j=>8 - (intOf j).toNat)
    case atStart=>exact ⟨0,y,by omega,rfl,rfl,hy2,rfl⟩
    case round =>
     obtain ⟨m,z,hm8,rfl,rfl,hz,HZ⟩:=hrel;by_cases hm:m < 8
     ·have hm':(m:Int) < 8:=by omega
      by_cases hodd:z % 2=1
      ·obtain ⟨q1,q2⟩:=pq z hz hodd;clear hodd;go_wp2
       go_round
       case rel=>exact ⟨m+1,bw z,by omega,by go_num,rfl,fU z hz,by show bw z=bw (dY m y);rw [← HZ.out]⟩
       case measure=>simp [intOf];omega
      ·obtain ⟨q1,q2⟩:=nL z hz (by omega);have Q2:Hid ((z:Int) / 2=((bw z:Nat):Int)):=q2;clear hodd q2;go_wp2
       go_round
       case rel=>exact ⟨m+1,bw z,by omega,by go_num,by rw [Q2.out],fU z hz,by show bw z=bw (dY m y);rw [← HZ.out]⟩
       case measure=>simp [intOf];omega
     ·have hm':m=8:=by omega
      subst hm';go_wp2
      go_round
      case rel=>exact ⟨k+1,z,by omega,by go_num,rfl,hz,by show z=fl 4294967295 (l.take (k+1));rw [HZ.out,HY.out,HR.out,fz hlt,jF,HX.out]⟩
      case measure=>simp [intOf];omega
   ·have hke:l.take k=l:=List.take_of_length_le (by omega);have HR2:Hid (r=fl 4294967295 l):=by have:=HR.out;rw [hke] at this;exact this
    clear hke;go_wp2
    go_ret
    refine ⟨?_,rfl⟩;unfold db;rw [← HR2.out];exact gO (pe r hr)
def xK (w:World) (v:Value) (l:List Int) (r:Ending) (w':World):Prop :=
 ∃ v',r=.returned v'∧fk w' v' l∧eW w v.ownBlock v'.ownBlock∧ab v.ownBlock.toList w w'
theorem iH {w:World}{v:Value}{L M:List Int}{k:Nat}{N:List Value}(h:w.ownsRow 0 5 1 v (L.length+k) (L.map (Value.int .u8)++N)) (hk:k=M.length) (hN:N=M.map (Value.int .u8)):fk w v (L++M):=by
 subst hk;subst hN;unfold fk;rw [List.length_append,List.map_append];exact h
theorem eg (w:World) (v:Value) (l:List Int) (x:Int) (many:Nat) (ho:fk w v l) (hm:many≤8) (hl:l.length≤1000000000) :
 Calls Tryz.prog 57 #[v,.int .u64 x,.int .i64 many] w (xK w v (l++dR many x)):=by
 obtain ⟨i0,hi,hz0,hz1,hz2⟩:=info_parts eL;have HO:Hid (fk w v l):=ho;clear ho;go_enter Tryz.func57,Tryz.ntmps57;go_wp2
 go_loopw [0,9] (fun o i wr=>∃ (k:Nat),k≤many∧i=.int .i64 k∧fk wr o (l++(dR many x).take k)∧eW w v.ownBlock o.ownBlock∧ab v.ownBlock.toList w wr) (fun _ i _=>many - (intOf i).toNat)
 case atStart=>exact ⟨0,Nat.zero_le _,rfl,by simpa using HO.out,eW.refl _ _,ab.refl _ _⟩
 case round =>
  obtain ⟨k,hk,rfl,hO,hfr,hkept⟩:=hrel;have hlen:(l++(dR many x).take k).length≤1000000008:=by simp [a5];omega
  obtain ⟨L,hL⟩:∃ L,L=l++(dR many x).take k:=⟨_,rfl⟩;rw [← hL] at hO hlen;have HO1:Hid (fk wr u0 L):=hO;have HL:Hid (L=l++(dR many x).take k):=hL;clear hO HO hL;by_cases hlt:k < many
  ·skip
   go_wp2_with (at_builtin;refine de _ rfl _ _ 23 rfl 5 i0 (.int .u8 0) 1 1 Tryz.underlying23 hi hz0 hz1 hz2 rfl (by decide) _ L.length (L.map (Value.int .u8)) rfl (World.ownsRow.alloc HO1.out _) ⟨wr.heap.size,0,none⟩ 1 1 [.int .u8 (x / 2 ^ (8*(many - 1 - k)) % 256)] rfl rfl ?c1 ?c2 ?c3 ?c4 ?_)
   case c1 =>
    intro j u hj;match j,hj with
    | 0,hj=>simp at hj;subst hj;simp [Addr.add]
   case c2=>intro u hu;simp at hu;subst hu;rfl
   case c3=>unfold maxLen;omega
   case c4=>omega
   intro v' w1 hown hgrow hfr';go_wp2
   go_roundw
   case rel =>
    refine ⟨k+1,by omega,by go_num,?_,gN hfr hfr' (by have:=hkept.size;omega),kM hfr hkept hgrow⟩;rw [rx _ _ _ hlt,← List.append_assoc,← HL.out];exact iH hown rfl rfl
   case measure=>simp [intOf];omega
  ·have e:(dR many x).take k=dR many x:=List.take_of_length_le (by rw [a5];omega);have HO2:Hid (fk wr u0 (l++dR many x)):=by have:=HO1.out;rw [HL.out,e] at this;exact this
   clear e HO1;go_wp2
   go_ret
   exact ⟨_,rfl,HO2.out,hfr,hkept⟩
theorem kQ (x d:Int) (hx:0≤x) (hx1:x < 18446744073709551616) (h0:0≤d) (h1:d < 256):bits .or .u64 (x*256 % 18446744073709551616) d=x*256 % 18446744073709551616+d:=by
 obtain ⟨a,rfl⟩:=Int.eq_ofNat_of_zero_le hx;obtain ⟨e,rfl⟩:=Int.eq_ofNat_of_zero_le h0;have h2:=u64_or_nat (a*256 % 18446744073709551616) e (by omega) (by omega);rw [nat_join 8 _ _ (by omega) (by omega)] at h2;have h3:((a*256 % 18446744073709551616:Nat):Int)=(a:Int)*256 % 18446744073709551616:=by omega
 rw [h3] at h2;rw [h2];omega
theorem fm (w:World) (ao:Option Addr) (n c:Nat) (l:List Int) (hs:Sl w ao n c l) (ho:bi l) :
 Calls Tryz.prog 60 #[.slice ao n c] w fun r w'=>r=.returned (.int .u64 (bs l))∧w=w':=by
 have hn:=hs.1;subst hn;have hm:=hs.2.2.1;have hc:=hs.2.1;unfold maxLen at hm;by_cases h0:l.length=0
 ·have e1:l=[]:=by simpa using h0
  subst e1;clear hs;go_enter Tryz.func60,Tryz.ntmps60;go_wp2
  refine wp_loop_rounds 1 ?_;rw [rounds_succ];go_wp2
  go_ret
  exact ⟨rfl,rfl⟩
 ·obtain ⟨b,o,rfl,hcell⟩:=hs.some (by omega);have HC:Hid (∀ i,i < l.length→w.cell? ⟨b,o+i,none⟩=some (.int .u8 (l.getD i 0))):=hcell;have HO:Hid (bi l):=ho;clear hs hcell ho;go_enter Tryz.func60,Tryz.ntmps60;go_wp2
  go_loop [3,8] (fun t i=>∃ (k:Nat) (x:Int),k≤l.length∧i=.int .i64 k∧t=.int .u64 x∧Hid (x=bs (l.take k))) (fun _ i=>l.length - (intOf i).toNat)
  case atStart=>exact ⟨0,0,Nat.zero_le _,rfl,rfl,rfl⟩
  case round =>
   obtain ⟨k,x,hk,rfl,rfl,HX⟩:=hrel;by_cases hlt:k < l.length
   ·have g1:w.cell? ⟨b,o+k,none⟩=some (.int .u8 (l.getD k 0)):=HC.out k hlt;have gd:=gu HO.out hlt;have hb:0≤x∧x < 18446744073709551616:=by rw [HX.out];exact o6 _ (HO.out.take k)
    generalize hd:l.getD k 0=d at g1 gd;have HD:Hid (l.getD k 0=d):=hd;clear hd;obtain ⟨gd0,gd1⟩:=gd
    have HOR:Hid (bits .or .u64 (IntKind.u64.wrap (x*256)) d=x*256 % 18446744073709551616+d):=by
     have hor:=kQ x d hb.1 hb.2 gd0 gd1;rw [← IntKind.wrap_u64] at hor;show bits .or .u64 (IntKind.u64.wrap (x*256)) d=x*256 % 18446744073709551616+d;rw [hor,IntKind.wrap_u64]
    clear hb;go_wp2
    go_round
    case rel=>exact ⟨k+1,_,by omega,by go_num,rfl,by show _=bs (l.take (k+1));rw [HOR.out,fz hlt,jg,← HX.out,HD.out]⟩
    case measure=>simp [intOf];omega
   ·have e:l.take k=l:=List.take_of_length_le (by omega);have HX2:Hid (x=bs l):=by have:=HX.out;rw [e] at this;exact this
    clear e;go_wp2
    go_ret
    exact ⟨gO HX2.out,rfl⟩
theorem i8 {P:Program}{f:FuncId}{args:Array Value}{w:World}{n:Nat}{v:Value}
 (h:Calls P f args (w.drewN n) fun e w'=>e=.returned v∧w.drewN n=w'):Calls P f args (w.drewN n) fun e w''=>e=.returned v∧∃ m,w''=w.drewN m :=
 h.mono fun _ _ ⟨he,hm⟩=>⟨he,n,hm.symm⟩
theorem Sl.drewN {w:World}{ao:Option Addr}{n c:Nat}{l:List Int}(h:Sl w ao n c l) (q:Nat):Sl (w.drewN q) ao n c l:=h
theorem ig (w:World) (ao:Option Addr) (n c:Nat) (l:List Int) (hs:Sl w ao n c l) (ho:bi l) (h4:4≤n) :
 Calls Tryz.prog 59 #[.slice ao n c] w fun r w'=>r=.returned (.bool (bN l))∧∃ q,w'=w.drewN q:=by
 have hn:=hs.1;subst hn;have hm:=hs.2.2.1;have hc:=hs.2.1;unfold maxLen at hm;have hc4:¬ c=l.length - 4:=by omega
 have hsa:Sl w (Option.map (fun x=>x.add (l.length - 4)) ao) (l.length - (l.length - 4)) (c - (l.length - 4)) (l.drop (l.length - 4)):=hs.drop (by omega);have hsb:Sl w ao (l.length - 4) c (l.take (l.length - 4)):=hs.take (by omega);have HA:Hid (Sl w (Option.map (fun x=>x.add (l.length - 4)) ao) (l.length - (l.length - 4)) (c - (l.length - 4)) (l.drop (l.length - 4))):=hsa;have HB:Hid (Sl w ao (l.length - 4) c (l.take (l.length - 4))):=hsb;clear hs hsa hsb;go_enter Tryz.func59,Tryz.ntmps59;go_wp2
 go_quiet (first
  | (go_at_call 60;exact i8 (fm _ _ _ _ _ (Sl.drewN HA.out _) (ho.drop _)))
  | (go_at_call 90;exact i8 (kT _ _ _ _ _ (Sl.drewN HB.out _) (ho.take _))))
 go_wp2
 go_ret
 refine ⟨qT ?_,_,rfl⟩
 have h5:IntKind.u64.wrap (db (l.take (l.length - 4)):Int)=(db (l.take (l.length - 4)):Int):=by
  have:=gG (l.take (l.length - 4))
  rw [IntKind.wrap_u64];omega
 rw [h5];rfl
theorem mw {w:World}{a:Addr}{n c:Nat}{l:List Int}(h:Sl w (some a) n c l):∀ j u,(l.map (Value.int .u8))[j]?=some u→w.cell? (a.add j)=some u:=by
 intro j u hj;have h5:=(List.getElem?_eq_some_iff.1 hj).1;have h6:=h.1;simp at h5
 obtain ⟨b,o,e,hc⟩:=h.2.2.2.2 j (by omega);cases e
 have ea:(⟨b,o,none⟩:Addr).add j=⟨b,o+j,none⟩:=by by_cases hk0:j=0 <;> simp [Addr.add,hk0]
 rw [ea,hc];have e:(l.map (Value.int .u8))[j]?=some (Value.int .u8 (l.getD j 0)):=by simp [List.getD,List.getElem?_eq_getElem h5]
 rw [e] at hj;exact hj
theorem nh (l:List Int):∀ u∈l.map (Value.int .u8),u.oneCell'=true:=by
 intro u hu;obtain ⟨x,_,rfl⟩:=List.mem_map.1 hu;rfl
theorem fy (w:World) (v:Value) (l:List Int) (ao:Option Addr) (n c:Nat) (m:List Int) (hO:fk w v l) (hs:Sl w ao n c m) (hom:bi m) (hd:0 < n→∀ k∈bO ao,v.ownBlock≠some k) (hl:l.length≤100000000) (hml:n≤100000000) :
 Calls Tryz.prog 58 #[v,.slice ao n c] w (xK w v (l++(m++dR 4 (db m)))):=by
 obtain ⟨i0,hi,hz0,hz1,hz2⟩:=info_parts eL;have hn:=hs.1;subst hn;have hcr:=gG m;have HO:Hid (fk w v l):=hO;have HS:Hid (Sl w ao m.length c m):=hs;have hcw:IntKind.u64.wrap (db m:Int)=(db m:Int):=by rw [IntKind.wrap_u64];omega
 clear hO hs;cases ao with
 | none =>
   have hm0:m=[]:=by
    have h1:=HS.out.2.2.2.1 rfl;have h2:=HS.out.2.1;have h3:m.length=0:=by omega
    simpa using h3
   have hc0:c=0:=HS.out.2.2.2.1 rfl;subst hm0;subst hc0;go_enter Tryz.func58,Tryz.ntmps58;(go_wp2_with (at_builtin;refine wpList_append_own_none rfl _ _ 23 rfl 0 5 i0 1 Tryz.underlying23 hi _ _ _ rfl HO.out rfl ?_));(go_wp2_with fail);refine (kT _ _ _ _ _ HS.out hom).mono ?_;rintro _ _ ⟨rfl,rfl⟩;(go_wp2_with fail);refine (eg _ _ _ _ 4 HO.out (by omega) (by omega)).mono ?_;rintro _ w2 ⟨v2,rfl,hO2,hf2,hk2⟩;go_wp2
   go_ret
   exact ⟨v2,rfl,by simpa using hO2,hf2,hk2⟩
 | some a =>
   go_enter Tryz.func58,Tryz.ntmps58;go_wp2_with (at_builtin;refine de _ rfl _ _ 23 rfl 5 i0 (.int .u8 0) 1 1 Tryz.underlying23 hi hz0 hz1 hz2 rfl (by decide) _ l.length (l.map (Value.int .u8)) rfl HO.out a m.length c (m.map (Value.int .u8)) rfl (by simp) (mw HS.out) (nh m) ?c3 ?c4 ?_)
   case c3=>unfold maxLen;omega
   case c4=>omega
   intro v1 w1 hown hgrow hfr;have hO1:fk w1 v1 (l++m):=iH hown rfl rfl;have hk1:ab v.ownBlock.toList w w1:=(ab.refl _ _).grown hgrow (by intro k hk;left;rw [hk];simp);have hs1:Sl w1 (some a) m.length c m:=Sl.kept' hk1 HS.out (by intro h0 k hk h7;simp at h7;exact hd h0 k hk h7);clear hown hgrow;(go_wp2_with fail);refine (kT _ _ _ _ _ hs1 hom).mono ?_;rintro _ _ ⟨rfl,rfl⟩;(go_wp2_with fail);refine (eg _ _ _ _ 4 hO1 (by omega) (by simp;omega)).mono ?_;rintro _ w2 ⟨v2,rfl,hO2,hf2,hk2⟩;go_wp2
   go_ret
   refine ⟨v2,rfl,by simpa using hO2,gN hfr hf2 hk1.size,hk1.trans hk2 ?_⟩;intro i h7;rcases hfr i (by simpa using h7) with h8 | h8
   ·left;rw [h8];simp
   ·exact .inr h8
theorem ef {w:World}{v:Value}{l:List Int}(h:fk w v l):∃ ao n c,v=.slice ao n c∧Sl w ao n c l∧(∀ k∈bO ao,k < w.heap.size∧v.ownBlock=some k):=by
 obtain ⟨ao,n,c,h1,h2,h3⟩:=Sl.of_owns' h;exact ⟨ao,n,c,h1,h2,fun k hk=>⟨(h3 k hk).2.1,(h3 k hk).2.2⟩⟩
theorem jn {w:World}{ops:Array Oper}{rest:List Oper}{o:Oper}{a:Act}{Q:Exit→Act→World→Prop}(hgd:o.guard=none) (s x:Operand)
 (hop:o.op=.call { callee:=.builtin .append,args:=#[s,x],argTypes:=#[23,23] })
 (v:Value) (l:List Int) (hs:a.eval s=v) (hO:fk w v l) (ao:Option Addr) (m c:Nat) (L:List Int) (hx:a.eval x=.slice ao m c) (hS:Sl w ao m c L)
 (hlen:l.length+m≤140737488355328)
 (h:∀ v' w',fk w' v' (l++L)→eW w v.ownBlock v'.ownBlock→ab v.ownBlock.toList w w'→wpList Tryz.prog ops Q rest (a.put o.dst v') w'):wpList Tryz.prog ops Q (o :: rest) a w:=by
 obtain ⟨i0,hi,hz0,hz1,hz2⟩:=info_parts eL;have hm:=hS.1;subst hm;cases ao with
 | none =>
   have h1:=hS.2.2.2.1 rfl;have h2:=hS.2.1
   have h3:L=[]:=by have h4:L.length=0:=by omega
                    simpa using h4
   subst h3;subst h1;refine wpList_append_own_none hgd s x 23 hop 0 5 i0 1 Tryz.underlying23 hi v _ _ hs hO hx ?_;exact h v w (by simpa using hO) (eW.refl _ _) (ab.refl _ _)
 | some ad =>
   refine de w hgd s x 23 hop 5 i0 (.int .u8 0) 1 1 Tryz.underlying23 hi hz0 hz1 hz2 rfl (by decide) v l.length (l.map (Value.int .u8)) hs hO ad L.length c (L.map (Value.int .u8)) hx (by simp) (mw hS) (nh L) (by unfold maxLen;omega) (by omega) ?_;intro v1 w1 hown hgrow hfr;exact h v1 w1 (iH hown rfl rfl) hfr ((ab.refl _ _).grown hgrow (by intro k hk;left;rw [hk];simp))
def bI (e:Int) (l m:List Int):List Int × Int:=if e=0 then (if m.length≤1048576 then (l++(ap m.length++m),0) else ([],3)) else ([],e)
def dD (s:ByteArray):List Int:=s.data.toList.map fun b=>(b.toNat:Int)
theorem fL (s:ByteArray):(dD s).length=s.size:=by simp [dD]
theorem lC (s:ByteArray):bi (dD s):=by
 intro x hx;simp only [dD,List.mem_map] at hx;obtain ⟨b,_,rfl⟩:=hx;have:=b.toNat_lt
 omega
theorem nC (s:ByteArray):Lib.strCells s=(dD s).map (Value.int .u8):=by
 simp [Lib.strCells,dD]
theorem k7 {P:Program}(w:World) (t u ty e:TypeId) (i:TypeInfo) (ht:P.underlying t=some (.slice e)) (hu:P.underlying u=some .string) (hi:P.info? e=some i) (hz:i.zero=some (.int .u8 0))
 (hsize:i.size=1) (hby:i.bytes=1) (v:Value) (n:Nat) (xs:List Value) (hown:w.ownsRow 0 e 1 v n xs) (s:ByteArray)
 (h63:n+s.size≤maxLen) (hbytes:n+s.size≤140737488355328) (v':Value) (w':World) (hr:(Builtin.append_ #[t,u] ty #[v,.string s]).run P w=.ok v' w') :
 ∀ k,v'.ownBlock=some k→v.ownBlock=some k∨w.heap.size≤k:=by
 intro k hk;rcases hown.2 with ⟨rfl,rfl⟩ | ⟨g,cap,cur,rfl,hbg,hg,hnc,hcm,hcs,htake⟩
 ·have hx:xs=[]:=List.eq_nil_of_length_eq_zero (by simpa using hown.1);subst hx;obtain ⟨v2,w2,hr2,ho2,_⟩:=Lib.run_append_own_string (P:=P) w w.heap.size t u ty e i ht hu hi hz hsize hby _ _ _ (World.ownsRow_nil w w.heap.size e 1) s h63 hbytes (Nat.le_refl _);rw [hr] at hr2;obtain ⟨rfl,rfl⟩:v'=v2∧w'=w2:=by simpa using hr2
  exact .inr (ho2.lt k hk).1
 ·by_cases hroom:n+s.size≤cap
  ·have hcs':cur.size=cap:=by simpa using hcs
   have hr2:=Lib.run_append_room_string (P:=P) w t u ty e i ht hu hi hsize g n cap cur hg s hroom (by omega);rw [hr2] at hr;have:v'=.slice (some ⟨g,0,none⟩) (n+s.size) cap:=by simp at hr;exact hr.1.symm
   subst this;exact .inl hk
  ·have hr2:=Lib.run_append_grow_string (P:=P) w t u ty e i (.int .u8 0) ht hu hi hz ⟨g,0,none⟩ n cap xs (by rw [hsize];exact hown.1) (hown.cells (g:=g) rfl) s (by omega) (by unfold maxLen at h63;omega) (by rw [hby];exact growslice_fits (by omega) (by omega));rw [hr2] at hr;have:v'.ownBlock=some w.heap.size:=by simp at hr;rw [← hr.1];rfl
   rw [this] at hk;cases hk;exact .inr (Nat.le_refl _)
theorem sb {w:World}{ops:Array Oper}{rest:List Oper}{o:Oper}{a:Act}{Q:Exit→Act→World→Prop}(hgd:o.guard=none) (sl x:Operand)
 (ho:o.op=.call { callee:=.builtin .append,args:=#[sl,x],argTypes:=#[23,9] })
 (v:Value) (l:List Int) (hs:a.eval sl=v) (hO:fk w v l) (s:ByteArray) (hx:a.eval x=.string s) (hlen:l.length+s.size≤140737488355328)
 (h:∀ v' w',fk w' v' (l++dD s)→eW w v.ownBlock v'.ownBlock→ab v.ownBlock.toList w w'→wpList Tryz.prog ops Q rest (a.put o.dst v') w'):wpList Tryz.prog ops Q (o :: rest) a w:=by
 obtain ⟨i0,hi,hz0,hz1,hz2⟩:=info_parts eL;refine wpList_plain hgd fun K hK=>?_;obtain ⟨v',w',hr,h2,h3,h4⟩:=Lib.run_append_own_string (P:=Tryz.prog) w 0 23 9 o.type 5 i0 Tryz.underlying23 Tryz.underlying9 hi hz0 hz1 hz2 v l.length _ hO s (by unfold maxLen;omega) hlen (Nat.zero_le _);have h5:=k7 (P:=Tryz.prog) w 23 9 o.type 5 i0 Tryz.underlying23 Tryz.underlying9 hi hz0 hz1 hz2 v l.length _ hO s (by unfold maxLen;omega) hlen v' w' hr;unfold Oper.wp execOp;simp only [ho,resolve,invoke,builtin,Sem.run_bind,Sem.run_pure,Result.andThen_ok,List.map_toArray,List.map_cons,List.map_nil,hs,hx,hr];refine hK _ _ (h v' w' (iH h2 (fL s).symm (nC s)) h5 ((ab.refl _ _).grown h3 (by intro k hk;left;rw [hk];simp)))
theorem kS {w w3:World}{p:Nat}{g:Option Nat}{v v3:Value}{l:List Int}(hA:dy w3 p v 0) (hO:fk w3 v3 l) (ho:bi l) (hne:v3.ownBlock≠some p) (hf:eW w g v3.ownBlock) (hK:ab (p :: g.toList) w w3) :
 bU w p g (l,0) (.returned (.tuple #[])) (w3.setCell ⟨p,1,none⟩ v3):=by
 refine ⟨rfl,_,⟨v3,hA.set1 _,?_,rfl,hne,ho,by simp⟩,hf,hK.setCell (by simp) _⟩;exact (show ab [p] w3 _ from (ab.refl _ _).setCell (by simp) _).ownsRow hO (by intro k hk h7;simp at h7;subst h7;exact hne hk)
theorem j4 (w:World) (p:Nat) (g:Option Nat) (l:List Int) (e:Int) (ao:Option Addr) (n c:Nat) (m:List Int) (hw:Wr w p g l e) (hs:Sl w ao n c m) (hom:bi m) (hl:l.length≤1000000000) (hd:0 < n→∀ k∈bO ao,k ∉ p :: g.toList) :
 Calls Tryz.prog 167 #[.pointer (some ⟨p,0,none⟩),.slice ao n c] w (bU w p g (bI e l m)):=by
 have hn:=hs.1;subst hn;have hm:=hs.2.2.1;have hc:=hs.2.1;unfold maxLen at hm;obtain ⟨v,h1,h2,h3,h4,h5,h6⟩:=hw;have H1:Hid (dy w p v e):=h1;have H2:Hid (fk w v l):=h2;have HS:Hid (Sl w ao m.length c m):=hs;obtain ⟨c0,c1,c2,c3⟩:=h1.cells;clear h1 h2 hs;by_cases he:e=0
 ·subst he;by_cases hbig:1048576 < m.length
  ·have hb2:(1048576:Int) < (m.length:Int):=by omega
   have HQ:Hid (bI 0 l m=([],3)):=by show bI 0 l m=([],3);unfold bI;rw [if_pos rfl,if_neg (by omega)]
   go_enter Tryz.func167,Tryz.ntmps167;(go_wp2_with fail);refine (bj _ _ _ _ H1.out).mono ?_;rintro _ _ ⟨rfl,rfl⟩;(go_wp2_with fail);refine (gT _ _ _ _ _ H1.out).mono ?_;rintro _ w1 ⟨rfl,hA1,hk⟩;go_wp2
   go_returns
   rw [HQ.out];exact bU.failed hA1 hk
  ·have hb2:¬ (1048576:Int) < (m.length:Int):=by omega
   have HQ:Hid (bI 0 l m=(l++(ap m.length++m),0)):=by show bI 0 l m=_;unfold bI;rw [if_pos rfl,if_pos (by omega)]
   go_enter Tryz.func167,Tryz.ntmps167;(go_wp2_with fail);refine (bj _ _ _ _ H1.out).mono ?_;rintro _ _ ⟨rfl,rfl⟩;(go_wp2_with fail);refine (ep _ _ _ _ H2.out (by omega) (by omega) hl).mono ?_;rintro _ w1 ⟨v1,rfl,hO1,hfr1,hk1⟩;have hpS:p ∉ v.ownBlock.toList:=by rw [h3];simp;exact h4
   have hA1:dy w1 p v 0:=hk1.at H1.out hpS;obtain ⟨d0,d1,d2,d3⟩:=hA1.cells;have hpw:=bZ H1.out
   have hne:v1.ownBlock≠some p:=by
    intro h7;rcases hfr1 p h7 with h8 | h8
    ·exact h4 (by rw [← h3];exact h8)
    ·omega
   have hlenA:(l++ap (m.length:Int)).length≤1000000006:=by have:=dO 5 (m.length:Int);simp [ap];omega
   generalize hLA:l++ap (m.length:Int)=LA at hO1 hlenA;have HLA:Hid (l++ap (m.length:Int)=LA):=hLA;clear hLA;obtain ⟨a1,n1,cc1,rfl,hs1,hb1⟩:=ef hO1;clear c0 c1 c2 c3;have hKp:ab [p] w1 (w1.setCell ⟨p,1,none⟩ (.slice a1 n1 cc1)):=(ab.refl _ _).setCell (by simp) _;have hO2:fk (w1.setCell ⟨p,1,none⟩ (.slice a1 n1 cc1)) (.slice a1 n1 cc1) LA:=hKp.ownsRow hO1 (by intro k hk h7;simp at h7;subst h7;exact hne hk);have hA2:dy (w1.setCell ⟨p,1,none⟩ (.slice a1 n1 cc1)) p (.slice a1 n1 cc1) 0:=hA1.set1 _;have hK2:ab (p :: g.toList) w (w1.setCell ⟨p,1,none⟩ (.slice a1 n1 cc1)):=(hk1.mono (T:=p :: g.toList) (by rw [h3];intro i hi;exact .inl (by simp at hi ⊢;exact .inr hi))).setCell (by simp) _;have hs2:Sl (w1.setCell ⟨p,1,none⟩ (.slice a1 n1 cc1)) ao m.length c m:=Sl.kept' hK2 HS.out hd;have hsz:w.heap.size≤(w1.setCell ⟨p,1,none⟩ (.slice a1 n1 cc1)).heap.size:=hK2.size;(go_wp2_with (at_builtin;refine jn rfl _ _ rfl _ LA rfl hO2 ao m.length c m rfl hs2 (by omega) ?_));intro v3 w3 hO3 hf3 hk3;have hA3:dy w3 p (.slice a1 n1 cc1) 0:=hk3.at hA2 (by simpa using hne);obtain ⟨e0,e1,e2,e3⟩:=hA3.cells
   have hF3:eW w g v3.ownBlock:=by
    intro k hk;rcases hf3 k hk with h8 | h8
    ·rcases hfr1 k h8 with h9 | h9
     ·exact .inl (by rw [← h3];exact h9)
     ·exact .inr h9
    ·exact .inr (by omega)
   have hne3:v3.ownBlock≠some p:=by
    intro h7;rcases hF3 p h7 with h8 | h8
    ·exact h4 h8
    ·omega
   have hK3:ab (p :: g.toList) w w3:=hK2.trans hk3 (by
    intro i hi;rcases hfr1 i (by simpa using hi) with h9 | h9
    ·left;rw [h3] at h9;rw [h9];simp
    ·exact .inr h9)
   have HOK:Hid (bU w p g (bI 0 l m) (.returned (.tuple #[])) (w3.setCell ⟨p,1,none⟩ v3)):=by
    show bU w p g (bI 0 l m) (.returned (.tuple #[])) (w3.setCell ⟨p,1,none⟩ v3);rw [HQ.out];refine kS hA3 ?_ ?_ hne3 hF3 hK3
    ·rw [← List.append_assoc,HLA.out];exact hO3
    ·exact h5.append ((eX _ (by omega) (by omega)).append hom)
   obtain ⟨a3,n3,cc3,rfl,_,_⟩:=ef hO3;clear hO3 hO2 hA2 hA3 hs2 d0 d1 d2 d3 hf3 hk3;go_wp2
   go_end0
   exact HOK.out
 ·have hq:bI e l m=([],e):=by unfold bI;rw [if_neg he]
  have HQ:Hid (bI e l m=([],e)):=hq;obtain ⟨rfl,rfl⟩:=h6 he;have hb:(e==0)=false:=by simp [he]
  clear hq he h6;go_enter Tryz.func167,Tryz.ntmps167;(go_wp2_with fail);refine (bj _ _ _ _ H1.out).mono ?_;rintro _ _ ⟨rfl,rfl⟩;go_wp2
  go_returns
  rw [HQ.out];exact bU.failed H1.out (ab.refl _ _)
theorem l4 (w:World) (p:Nat) (g:Option Nat) (l:List Int) (e:Int) (s:ByteArray) (hw:Wr w p g l e) (hm:s.size≤9223372036854775807) (hl:l.length≤1000000000) :
 Calls Tryz.prog 157 #[.pointer (some ⟨p,0,none⟩),.string s] w (bU w p g (bI e l (dD s))):=by
 have hsl:=fL s;have hom:=lC s;obtain ⟨m,hmm⟩:∃ m,m=dD s:=⟨_,rfl⟩;rw [← hmm] at hsl hom ⊢;have HM:Hid (m=dD s):=hmm;have HSL:Hid (m.length=s.size):=hsl;clear hsl hmm;obtain ⟨v,h1,h2,h3,h4,h5,h6⟩:=hw;have H1:Hid (dy w p v e):=h1;have H2:Hid (fk w v l):=h2;obtain ⟨c0,c1,c2,c3⟩:=h1.cells;clear h1 h2;by_cases he:e=0
 ·subst he;by_cases hbig:1048576 < s.size
  ·have hb2:(1048576:Int) < (s.size:Int):=by omega
   have HQ:Hid (bI 0 l m=([],3)):=by show bI 0 l m=([],3);unfold bI;rw [if_pos rfl,if_neg (by rw [HSL.out];omega)]
   go_enter Tryz.func157,Tryz.ntmps157;(go_wp2_with fail);refine (bj _ _ _ _ H1.out).mono ?_;rintro _ _ ⟨rfl,rfl⟩;(go_wp2_with fail);refine (gT _ _ _ _ _ H1.out).mono ?_;rintro _ w1 ⟨rfl,hA1,hk⟩;go_wp2
   go_returns
   rw [HQ.out];exact bU.failed hA1 hk
  ·have hb2:¬ (1048576:Int) < (s.size:Int):=by omega
   have HQ:Hid (bI 0 l m=(l++(ap s.size++m),0)):=by show bI 0 l m=_;unfold bI;rw [if_pos rfl,if_pos (by rw [HSL.out];omega),HSL.out]
   go_enter Tryz.func157,Tryz.ntmps157;(go_wp2_with fail);refine (bj _ _ _ _ H1.out).mono ?_;rintro _ _ ⟨rfl,rfl⟩;(go_wp2_with fail);refine (ep _ _ _ _ H2.out (by omega) (by omega) hl).mono ?_;rintro _ w1 ⟨v1,rfl,hO1,hfr1,hk1⟩;have hpS:p ∉ v.ownBlock.toList:=by rw [h3];simp;exact h4
   have hA1:dy w1 p v 0:=hk1.at H1.out hpS;obtain ⟨d0,d1,d2,d3⟩:=hA1.cells;have hpw:=bZ H1.out
   have hne:v1.ownBlock≠some p:=by
    intro h7;rcases hfr1 p h7 with h8 | h8
    ·exact h4 (by rw [← h3];exact h8)
    ·omega
   have hlenA:(l++ap (s.size:Int)).length≤1000000006:=by have:=dO 5 (s.size:Int);simp [ap];omega
   generalize hLA:l++ap (s.size:Int)=LA at hO1 hlenA;have HLA:Hid (l++ap (s.size:Int)=LA):=hLA;clear hLA;obtain ⟨a1,n1,cc1,rfl,hs1,hb1⟩:=ef hO1;clear c0 c1 c2 c3;have hKp:ab [p] w1 (w1.setCell ⟨p,1,none⟩ (.slice a1 n1 cc1)):=(ab.refl _ _).setCell (by simp) _;have hO2:fk (w1.setCell ⟨p,1,none⟩ (.slice a1 n1 cc1)) (.slice a1 n1 cc1) LA:=hKp.ownsRow hO1 (by intro k hk h7;simp at h7;subst h7;exact hne hk);have hA2:dy (w1.setCell ⟨p,1,none⟩ (.slice a1 n1 cc1)) p (.slice a1 n1 cc1) 0:=hA1.set1 _;have hK2:ab (p :: g.toList) w (w1.setCell ⟨p,1,none⟩ (.slice a1 n1 cc1)):=(hk1.mono (T:=p :: g.toList) (by rw [h3];intro i hi;exact .inl (by simp at hi ⊢;exact .inr hi))).setCell (by simp) _;have hsz:w.heap.size≤(w1.setCell ⟨p,1,none⟩ (.slice a1 n1 cc1)).heap.size:=hK2.size;(go_wp2_with (at_builtin;refine sb rfl _ _ rfl _ LA rfl hO2 s rfl (by omega) ?_));intro v3 w3 hO3 hf3 hk3;have hA3:dy w3 p (.slice a1 n1 cc1) 0:=hk3.at hA2 (by simpa using hne);obtain ⟨e0,e1,e2,e3⟩:=hA3.cells
   have hF3:eW w g v3.ownBlock:=by
    intro k hk;rcases hf3 k hk with h8 | h8
    ·rcases hfr1 k h8 with h9 | h9
     ·exact .inl (by rw [← h3];exact h9)
     ·exact .inr h9
    ·exact .inr (by omega)
   have hne3:v3.ownBlock≠some p:=by
    intro h7;rcases hF3 p h7 with h8 | h8
    ·exact h4 h8
    ·omega
   have hK3:ab (p :: g.toList) w w3:=hK2.trans hk3 (by
    intro i hi;rcases hfr1 i (by simpa using hi) with h9 | h9
    ·left;rw [h3] at h9;rw [h9];simp
    ·exact .inr h9)
   have HOK:Hid (bU w p g (bI 0 l m) (.returned (.tuple #[])) (w3.setCell ⟨p,1,none⟩ v3)):=by
    show bU w p g (bI 0 l m) (.returned (.tuple #[])) (w3.setCell ⟨p,1,none⟩ v3);rw [HQ.out];refine kS hA3 ?_ ?_ hne3 hF3 hK3
    ·rw [← List.append_assoc,HLA.out,HM.out];exact hO3
    ·exact h5.append ((eX _ (by omega) (by omega)).append hom)
   obtain ⟨a3,n3,cc3,rfl,_,_⟩:=ef hO3;clear hO3 hO2 hA2 hA3 d0 d1 d2 d3 hf3 hk3;go_wp2
   go_end0
   exact HOK.out
 ·have hq:bI e l m=([],e):=by unfold bI;rw [if_neg he]
  have HQ:Hid (bI e l m=([],e)):=hq;obtain ⟨rfl,rfl⟩:=h6 he;have hb:(e==0)=false:=by simp [he]
  clear hq he h6;go_enter Tryz.func157,Tryz.ntmps157;(go_wp2_with fail);refine (bj _ _ _ _ H1.out).mono ?_;rintro _ _ ⟨rfl,rfl⟩;go_wp2
  go_returns
  rw [HQ.out];exact bU.failed H1.out (ab.refl _ _)
theorem mS (w:World) (p:Nat) (g:Option Nat) (l:List Int) (e:Int) (ao:Option Addr) (n c:Nat) (m:List Int) (hw:Wr w p g l e) (hs:Sl w ao n c m) (hom:bi m) (hl:l.length≤1000000000) (hd:0 < n→∀ k∈bO ao,k ∉ p :: g.toList) :
 Calls Tryz.prog 166 #[.pointer (some ⟨p,0,none⟩),.slice ao n c] w (bU w p g (bI e l m)):=by
 go_enter Tryz.func166,Tryz.ntmps166;go_wp2_with fail
 refine (j4 _ _ _ _ _ _ _ _ _ hw hs hom hl hd).mono ?_;rintro r w1 hW;have h:=hW.1;subst h;clear hs hw;go_wp2
 go_end0
 exact hW
theorem kl (w:World) (p:Nat) (g:Option Nat) (l:List Int) (e:Int) (s:ByteArray) (hw:Wr w p g l e) (hm:s.size≤9223372036854775807) (hl:l.length≤1000000000) :
 Calls Tryz.prog 154 #[.pointer (some ⟨p,0,none⟩),.string s] w (bU w p g (bI e l (dD s))):=by
 go_enter Tryz.func154,Tryz.ntmps154;go_wp2_with fail
 refine (l4 _ _ _ _ _ _ hw hm hl).mono ?_;rintro r w1 hW;have h:=hW.1;subst h;clear hw;go_wp2
 go_end0
 exact hW
def dc (e:Int) (l:List Int) (b:Bool):List Int × Int:=if e=0 then (l++[if b then 1 else 0],0) else ([],e)
def eE (e:Int) (l:List Int) (x:Int):List Int × Int:=if e=0 then (l++dR 8 x,0) else ([],e)
def bh (e:Int):List Int × Int:=if e=0 then ([],1) else ([],e)
theorem gI {w w1:World}{p:Nat}{g:Option Nat}{v v1:Value}{l:List Int}(hA:dy w p v 0) (h3:v.ownBlock=g) (h4:g≠some p) (hO:fk w1 v1 l) (ho:bi l) (hf:eW w v.ownBlock v1.ownBlock) (hK:ab v.ownBlock.toList w w1) :
 dy w1 p v 0∧bU w p g (l,0) (.returned (.tuple #[])) (w1.setCell ⟨p,1,none⟩ v1):=by
 have hpw:=bZ hA;have hA1:dy w1 p v 0:=hK.at hA (by rw [h3];simp;exact h4);refine ⟨hA1,kS hA1 hO ho ?_ (by rw [← h3];exact hf) (hK.mono (by rw [h3];intro i hi;exact .inl (by simp at hi ⊢;exact .inr hi)))⟩;intro h7;rcases hf p h7 with h8 | h8
 ·exact h4 (by rw [← h3];exact h8)
 ·omega
theorem oN (w:World) (p:Nat) (g:Option Nat) (l:List Int) (e x:Int) (hw:Wr w p g l e) (hl:l.length≤1000000000) :
 Calls Tryz.prog 156 #[.pointer (some ⟨p,0,none⟩),.int .u64 x] w (bU w p g (eE e l x)):=by
 obtain ⟨v,h1,h2,h3,h4,h5,h6⟩:=hw;have H1:Hid (dy w p v e):=h1;have H2:Hid (fk w v l):=h2;obtain ⟨c0,c1,c2,c3⟩:=h1.cells;clear h1 h2;by_cases he:e=0
 ·subst he;have HQ:Hid (eE 0 l x=(l++dR 8 x,0)):=by show eE 0 l x=_;unfold eE;rw [if_pos rfl]
  go_enter Tryz.func156,Tryz.ntmps156;(go_wp2_with fail);refine (bj _ _ _ _ H1.out).mono ?_;rintro _ _ ⟨rfl,rfl⟩;(go_wp2_with fail);refine (eg _ _ _ _ 8 H2.out (by omega) hl).mono ?_;rintro _ w1 ⟨v1,rfl,hO1,hf1,hk1⟩;obtain ⟨hA1,hW⟩:=gI H1.out h3 h4 hO1 (h5.append (fg _ _)) hf1 hk1;obtain ⟨d0,d1,d2,d3⟩:=hA1.cells;have HW:Hid (bU w p g (l++dR 8 x,0) (.returned (.tuple #[])) (w1.setCell ⟨p,1,none⟩ v1)):=hW;obtain ⟨a1,n1,cc1,rfl,_,_⟩:=ef hO1;clear hW hO1 c0 c1 c2 c3;go_wp2
  go_end0
  rw [HQ.out];exact HW.out
 ·have HQ:Hid (eE e l x=([],e)):=by show eE e l x=_;unfold eE;rw [if_neg he]
  obtain ⟨rfl,rfl⟩:=h6 he;have hb:(e==0)=false:=by simp [he]
  clear he h6;go_enter Tryz.func156,Tryz.ntmps156;(go_wp2_with fail);refine (bj _ _ _ _ H1.out).mono ?_;rintro _ _ ⟨rfl,rfl⟩;go_wp2
  go_returns
  rw [HQ.out];exact bU.failed H1.out (ab.refl _ _)
theorem nA (w:World) (p:Nat) (g:Option Nat) (l:List Int) (e:Int) (hw:Wr w p g l e) (hl:l.length≤1000000000) :
 Calls Tryz.prog 155 #[.pointer (some ⟨p,0,none⟩),.bool false] w (bU w p g (dc e l false)):=by
 obtain ⟨v,h1,h2,h3,h4,h5,h6⟩:=hw;subst h3;have H1:Hid (dy w p v e):=h1;have H2:Hid (fk w v l):=h2;obtain ⟨c0,c1,c2,c3⟩:=h1.cells;clear h1 h2;by_cases he:e=0
 ·subst he;have HQ:Hid (dc 0 l false=(l++[0],0)):=by show dc 0 l false=_;unfold dc;rw [if_pos rfl];rfl
  go_enter Tryz.func155,Tryz.ntmps155;(go_wp2_with fail);refine (bj _ _ _ _ H1.out).mono ?_;rintro _ _ ⟨rfl,rfl⟩;have hK0:ab v.ownBlock.toList w (w.alloc (.cells #[.int .u8 0] 5)):=(ab.refl _ _).alloc _;(go_wp2_with (at_builtin;refine jn rfl _ _ rfl _ l rfl (World.ownsRow.alloc H2.out _) (some ⟨w.heap.size,0,none⟩) 1 1 [0] rfl (Sl.lit rfl rfl (by decide)) (by omega) ?_));intro v1 w1 hO1 hf1 hk1
  have hf2:eW w v.ownBlock v1.ownBlock:=fun k hk=>by
   rcases hf1 k hk with h7 | h7
   ·exact .inl h7
   ·exact .inr (Nat.le_trans hK0.size h7)
  obtain ⟨hA1,hW⟩:=gI H1.out rfl h4 hO1 (h5.append (by intro x hx;simp at hx;omega)) hf2 (hK0.trans hk1 (fun i hi=>.inl hi));obtain ⟨d0,d1,d2,d3⟩:=hA1.cells;have HW:Hid (bU w p v.ownBlock (l++[0],0) (.returned (.tuple #[])) (w1.setCell ⟨p,1,none⟩ v1)):=hW;obtain ⟨a1,n1,cc1,rfl,_,_⟩:=ef hO1;clear hW hO1 hf1 hf2 hk1 c0 c1 c2 c3;go_wp2
  go_end0
  rw [HQ.out];exact HW.out
 ·have HQ:Hid (dc e l false=([],e)):=by show dc e l false=_;unfold dc;rw [if_neg he]
  obtain ⟨rfl,rfl⟩:=h6 he;have hb:(e==0)=false:=by simp [he]
  clear he h6;go_enter Tryz.func155,Tryz.ntmps155;(go_wp2_with fail);refine (bj _ _ _ _ H1.out).mono ?_;rintro _ _ ⟨rfl,rfl⟩;go_wp2
  go_returns
  rw [HQ.out];exact bU.failed H1.out (ab.refl _ _)
theorem oG (w:World) (p:Nat) (g:Option Nat) (l:List Int) (e:Int) (hw:Wr w p g l e) (hl:l.length≤1000000000) :
 Calls Tryz.prog 155 #[.pointer (some ⟨p,0,none⟩),.bool true] w (bU w p g (dc e l true)):=by
 obtain ⟨v,h1,h2,h3,h4,h5,h6⟩:=hw;subst h3;have H1:Hid (dy w p v e):=h1;have H2:Hid (fk w v l):=h2;obtain ⟨c0,c1,c2,c3⟩:=h1.cells;clear h1 h2;by_cases he:e=0
 ·subst he;have HQ:Hid (dc 0 l true=(l++[1],0)):=by show dc 0 l true=_;unfold dc;rw [if_pos rfl];rfl
  go_enter Tryz.func155,Tryz.ntmps155;(go_wp2_with fail);refine (bj _ _ _ _ H1.out).mono ?_;rintro _ _ ⟨rfl,rfl⟩;have hK0:ab v.ownBlock.toList w (w.alloc (.cells #[.int .u8 1] 5)):=(ab.refl _ _).alloc _;(go_wp2_with (at_builtin;refine jn rfl _ _ rfl _ l rfl (World.ownsRow.alloc H2.out _) (some ⟨w.heap.size,0,none⟩) 1 1 [1] rfl (Sl.lit rfl rfl (by decide)) (by omega) ?_));intro v1 w1 hO1 hf1 hk1
  have hf2:eW w v.ownBlock v1.ownBlock:=fun k hk=>by
   rcases hf1 k hk with h7 | h7
   ·exact .inl h7
   ·exact .inr (Nat.le_trans hK0.size h7)
  obtain ⟨hA1,hW⟩:=gI H1.out rfl h4 hO1 (h5.append (by intro x hx;simp at hx;omega)) hf2 (hK0.trans hk1 (fun i hi=>.inl hi));obtain ⟨d0,d1,d2,d3⟩:=hA1.cells;have HW:Hid (bU w p v.ownBlock (l++[1],0) (.returned (.tuple #[])) (w1.setCell ⟨p,1,none⟩ v1)):=hW;obtain ⟨a1,n1,cc1,rfl,_,_⟩:=ef hO1;clear hW hO1 hf1 hf2 hk1 c0 c1 c2 c3;go_wp2
  go_end0
  rw [HQ.out];exact HW.out
 ·have HQ:Hid (dc e l true=([],e)):=by show dc e l true=_;unfold dc;rw [if_neg he]
  obtain ⟨rfl,rfl⟩:=h6 he;have hb:(e==0)=false:=by simp [he]
  clear he h6;go_enter Tryz.func155,Tryz.ntmps155;(go_wp2_with fail);refine (bj _ _ _ _ H1.out).mono ?_;rintro _ _ ⟨rfl,rfl⟩;go_wp2
  go_returns
  rw [HQ.out];exact bU.failed H1.out (ab.refl _ _)
theorem oJ (w:World) (p:Nat) (g:Option Nat) (l:List Int) (e:Int) (b:Bool) (hw:Wr w p g l e) (hl:l.length≤1000000000) :
 Calls Tryz.prog 155 #[.pointer (some ⟨p,0,none⟩),.bool b] w (bU w p g (dc e l b)):=by
 cases b
 ·exact nA w p g l e hw hl
 ·exact oG w p g l e hw hl
theorem eO (w:World) (p:Nat) (g:Option Nat) (l:List Int) (e:Int) (hw:Wr w p g l e) :
 Calls Tryz.prog 143 #[.pointer (some ⟨p,0,none⟩)] w (bU w p g (bh e)):=by
 obtain ⟨v,h1,h2,h3,h4,h5,h6⟩:=hw;have H1:Hid (dy w p v e):=h1;clear h1 h2;by_cases he:e=0
 ·subst he;have HQ:Hid (bh 0=([],1)):=rfl;go_enter Tryz.func143,Tryz.ntmps143;(go_wp2_with fail);refine (bj _ _ _ _ H1.out).mono ?_;rintro _ _ ⟨rfl,rfl⟩;(go_wp2_with fail);refine (gT _ _ _ _ _ H1.out).mono ?_;rintro _ w1 ⟨rfl,hA1,hk⟩;go_wp2
  go_returns
  rw [HQ.out];exact bU.failed hA1 hk
 ·have HQ:Hid (bh e=([],e)):=by show bh e=_;unfold bh;rw [if_neg he]
  obtain ⟨rfl,rfl⟩:=h6 he;have hb:(e==0)=false:=by simp [he]
  clear he h6;go_enter Tryz.func143,Tryz.ntmps143;(go_wp2_with fail);refine (bj _ _ _ _ H1.out).mono ?_;rintro _ _ ⟨rfl,rfl⟩;go_wp2
  go_returns
  rw [HQ.out];exact bU.failed H1.out (ab.refl _ _)
end Go.Proofs.YtakafmejllilnaaGreat
