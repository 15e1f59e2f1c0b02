/-
  Texts laid as one.
-/
import Derived.Test.YtgpnlidnbldiiaaGreatQ4r
import Derived.Test.YtgpnlidnbldiiaaGreatQ5r
import Derived.Handy
set_option maxHeartbeats 8000000
set_option maxRecDepth 100000
/-
 put: one leaf more.
-/
namespace Go.Proofs.YtgpnlidnbldiiaaGreat
open Go.RowKit
theorem np (t:Tr):t.level.size=t.size:=by rw [← qq,← qq,jP]
theorem qW (x:Lf) (t:Tr):t.size≤(t.put x).size∧(t.put x).size≤t.size+1:=by
 induction t with
 | nil=>simp [Tr.put,Tr.size]
 | node l y r h1 h2 =>
   simp only [Tr.put];split
   ·rw [np];simp only [Tr.size];omega
   ·split
    ·rw [np];simp only [Tr.size];omega
    ·simp only [Tr.size];omega
theorem yQ (x:Lf) (hx:x.p.length≤140737488355328) (t:Tr):∀ (B:Nat) (w:World) (p:Option Addr),dY B w p t→t.size≤100000000000 →
 Calls Tryz.prog 189 #[.pointer p,jm x] w (tV w (t.put x)):=by
 induction t with
 | nil =>
   intro B w p h hs;obtain rfl:p=none:=h;have j1:=fun w'=>dG 0 w' none none .nil .nil x rfl rfl (by simp [Tr.size]) hx;have ev:Tr.put x .nil=.node .nil x .nil:=rfl;rw [ev];have hK0:=(aa.refl [] w).alloc (.cells #[.string (ak x.p),.int .u64 x.d,.int .i64 x.r,.bool x.g] 141);unfold jm at j1 ⊢;go_enter Tryz.func189,Tryz.ntmps189;(go_wp2_with fail);refine (j1 _).mono ?_;rintro e w1 ⟨q,rfl,hq,hK⟩;(go_wp2_with fail);go_ret
   exact ⟨_,rfl,hq,hK0.trans hK (by simp)⟩
 | node l y r ihl ihr =>
   intro B w p h hs;obtain ⟨g,pl,pr,rfl,hg,h0,hy,hl,hr⟩:=h;obtain ⟨c0,c1,c2,c3,c4,c5,_,_⟩:=gB h0;have hK0:=(aa.refl [] w).alloc (.cells #[.string (ak x.p),.int .u64 x.d,.int .i64 x.r,.bool x.g] 141);obtain ⟨b0,b1,b2,b3⟩:=br (heap_alloc_new w (.cells #[.string (ak x.p),.int .u64 x.d,.int .i64 x.r,.bool x.g] 141));have cc:=fun w'=>gU x.p y.p w' hx hy;simp only [Tr.size] at hs;have p1:=qW x l;have p2:=qW x r;rcases fA x.p y.p with e | e | e
   ·have ev:Tr.put x (.node l y r)=Tr.level (.node (l.put x) y r):=by simp only [Tr.put];rw [if_pos e]
    rw [ev];rw [e] at cc;have j1:=fun w' (hk:aa [] w w')=>ihl B w' pl (hl.kept hk) (by omega);have j2:=fun w' q (hk:aa [] w w') (hq:dY w'.heap.size w' q (l.put x))=>dG w'.heap.size w' q pr (l.put x) r y hq (hr.kept hk).full (by omega) hy;have j3:=fun w' q (hq:dY w'.heap.size w' q (.node (l.put x) y r))=>nT w'.heap.size w' q (l.put x) r y hq (by simp only [Tr.size];omega);unfold jm at j1 j2 ⊢;clear h0 hs hy hg hl hr ihl ihr e ev p1 p2;go_enter Tryz.func189,Tryz.ntmps189;go_wp2_with fail
    go_region_held3 (fun w'=>w'.cell? ⟨g,0,none⟩=some (.string (ak y.p))∧w'.cell? ⟨g,1,none⟩=some (.int .u64 y.d)∧w'.cell? ⟨g,2,none⟩=some (.int .i64 y.r)∧w'.cell? ⟨g,3,none⟩=some (.bool y.g)∧w'.cell? ⟨g,4,none⟩=some (.pointer pl)∧w'.cell? ⟨g,5,none⟩=some (.pointer pr)∧w'.cell? ⟨w.heap.size,0,none⟩=some (.string (ak x.p))∧w'.cell? ⟨w.heap.size,1,none⟩=some (.int .u64 x.d)∧w'.cell? ⟨w.heap.size,2,none⟩=some (.int .i64 x.r)∧w'.cell? ⟨w.heap.size,3,none⟩=some (.bool x.g))
     (first | go_keep | exact ⟨hK1.cell c0 (by simp),hK1.cell c1 (by simp),hK1.cell c2 (by simp),hK1.cell c3 (by simp),hK1.cell c4 (by simp),hK1.cell c5 (by simp),hKb.cell b0 (by simp),hKb.cell b1 (by simp),hKb.cell b2 (by simp),hKb.cell b3 (by simp)⟩)
     (first
       | (go_at_call 179;refine (cc _).mono ?_;rintro e w1 ⟨rfl,hKb⟩;have hK1:aa [] w w1:=hK0.drew.trans hKb (by simp)))
    all_goals
     go_wp2_with fail
    have m0:=hK1.cell c0 (by simp);have m1:=hK1.cell c1 (by simp);have m2:=hK1.cell c2 (by simp);have m3:=hK1.cell c3 (by simp);have m4:=hK1.cell c4 (by simp);have m5:=hK1.cell c5 (by simp);have n0:=hKb.cell b0 (by simp);have n1:=hKb.cell b1 (by simp);have n2:=hKb.cell b2 (by simp);have n3:=hKb.cell b3 (by simp);clear c0 c1 c2 c3 c4 c5 b0 b1 b2 b3 hKb hK0
    go_region_held3 (fun w'=>w'.cell? ⟨g,0,none⟩=some (.string (ak y.p))∧w'.cell? ⟨g,1,none⟩=some (.int .u64 y.d)∧w'.cell? ⟨g,2,none⟩=some (.int .i64 y.r)∧w'.cell? ⟨g,3,none⟩=some (.bool y.g)∧w'.cell? ⟨g,4,none⟩=some (.pointer pl)∧w'.cell? ⟨g,5,none⟩=some (.pointer pr)∧w'.cell? ⟨w.heap.size,0,none⟩=some (.string (ak x.p))∧w'.cell? ⟨w.heap.size,1,none⟩=some (.int .u64 x.d)∧w'.cell? ⟨w.heap.size,2,none⟩=some (.int .i64 x.r)∧w'.cell? ⟨w.heap.size,3,none⟩=some (.bool x.g))
     (first | go_keep | exact ⟨hKc.cell m0 (by simp),hKc.cell m1 (by simp),hKc.cell m2 (by simp),hKc.cell m3 (by simp),hKc.cell m4 (by simp),hKc.cell m5 (by simp),hKc.cell n0 (by simp),hKc.cell n1 (by simp),hKc.cell n2 (by simp),hKc.cell n3 (by simp)⟩)
     (first
       | (go_at_call 189;refine (j1 _ ?_).mono ?_;exact hK1.drew;rintro e w2 ⟨q,rfl,hq,hKc⟩;replace hK1:aa [] w w2:=hK1.drew.trans hKc (by simp);replace hKc:aa [] w1 w2:=(aa.refl [] w1).drew.trans hKc (by simp))
       | (go_at_call 200;refine (j2 _ q ?_ ?_).mono ?_;exact hK1;exact hq;rintro e w3 ⟨q2,rfl,hq2,hK2⟩;replace hK1:=hK1.trans hK2 (by simp);replace hKc:=hKc.trans hK2 (by simp))
       | (go_at_call 201;refine (j3 _ q2 ?_).mono ?_;exact hq2;rintro e w4 ⟨q3,rfl,hq3,hK3⟩;replace hK1:=hK1.trans hK3 (by simp);replace hKc:=hKc.trans hK3 (by simp)))
    all_goals go_wp2
    all_goals go_ret
    all_goals exact ⟨_,rfl,hq3,hK1⟩
   ·have ev:Tr.put x (.node l y r)=.node l x r:=by simp only [Tr.put];rw [if_neg (by omega),if_neg (by omega)]
    rw [ev];rw [e] at cc;have j2:=fun w' (hk:aa [] w w')=>dG B w' pl pr l r x (hl.kept hk) (hr.kept hk) (by omega) hx;unfold jm at j2 ⊢;clear h0 hs hy hg hl hr ihl ihr e ev p1 p2;go_enter Tryz.func189,Tryz.ntmps189;go_wp2_with fail
    go_region_held3 (fun w'=>w'.cell? ⟨g,0,none⟩=some (.string (ak y.p))∧w'.cell? ⟨g,1,none⟩=some (.int .u64 y.d)∧w'.cell? ⟨g,2,none⟩=some (.int .i64 y.r)∧w'.cell? ⟨g,3,none⟩=some (.bool y.g)∧w'.cell? ⟨g,4,none⟩=some (.pointer pl)∧w'.cell? ⟨g,5,none⟩=some (.pointer pr)∧w'.cell? ⟨w.heap.size,0,none⟩=some (.string (ak x.p))∧w'.cell? ⟨w.heap.size,1,none⟩=some (.int .u64 x.d)∧w'.cell? ⟨w.heap.size,2,none⟩=some (.int .i64 x.r)∧w'.cell? ⟨w.heap.size,3,none⟩=some (.bool x.g))
     (first | go_keep | exact ⟨hK1.cell c0 (by simp),hK1.cell c1 (by simp),hK1.cell c2 (by simp),hK1.cell c3 (by simp),hK1.cell c4 (by simp),hK1.cell c5 (by simp),hKb.cell b0 (by simp),hKb.cell b1 (by simp),hKb.cell b2 (by simp),hKb.cell b3 (by simp)⟩)
     (first
       | (go_at_call 179;refine (cc _).mono ?_;rintro e w1 ⟨rfl,hKb⟩;have hK1:aa [] w w1:=hK0.drew.trans hKb (by simp)))
    all_goals
     go_wp2_with fail
    have m0:=hK1.cell c0 (by simp);have m1:=hK1.cell c1 (by simp);have m2:=hK1.cell c2 (by simp);have m3:=hK1.cell c3 (by simp);have m4:=hK1.cell c4 (by simp);have m5:=hK1.cell c5 (by simp);have n0:=hKb.cell b0 (by simp);have n1:=hKb.cell b1 (by simp);have n2:=hKb.cell b2 (by simp);have n3:=hKb.cell b3 (by simp);clear c0 c1 c2 c3 c4 c5 b0 b1 b2 b3 hKb hK0
    go_region_held3 (fun w'=>w'.cell? ⟨g,0,none⟩=some (.string (ak y.p))∧w'.cell? ⟨g,1,none⟩=some (.int .u64 y.d)∧w'.cell? ⟨g,2,none⟩=some (.int .i64 y.r)∧w'.cell? ⟨g,3,none⟩=some (.bool y.g)∧w'.cell? ⟨g,4,none⟩=some (.pointer pl)∧w'.cell? ⟨g,5,none⟩=some (.pointer pr)∧w'.cell? ⟨w.heap.size,0,none⟩=some (.string (ak x.p))∧w'.cell? ⟨w.heap.size,1,none⟩=some (.int .u64 x.d)∧w'.cell? ⟨w.heap.size,2,none⟩=some (.int .i64 x.r)∧w'.cell? ⟨w.heap.size,3,none⟩=some (.bool x.g))
     (first | go_keep | exact ⟨hKc.cell m0 (by simp),hKc.cell m1 (by simp),hKc.cell m2 (by simp),hKc.cell m3 (by simp),hKc.cell m4 (by simp),hKc.cell m5 (by simp),hKc.cell n0 (by simp),hKc.cell n1 (by simp),hKc.cell n2 (by simp),hKc.cell n3 (by simp)⟩)
     (first
       | (go_at_call 200;refine (j2 _ ?_).mono ?_;exact hK1.drew;rintro e w2 ⟨q2,rfl,hq2,hKc⟩;replace hK1:aa [] w w2:=hK1.drew.trans hKc (by simp);replace hKc:aa [] w1 w2:=(aa.refl [] w1).drew.trans hKc (by simp)))
    all_goals go_wp2
    all_goals go_ret
    all_goals exact ⟨_,rfl,hq2,hK1⟩
   ·have ev:Tr.put x (.node l y r)=Tr.level (.node l y (r.put x)):=by simp only [Tr.put];rw [if_neg (by omega),if_pos e]
    rw [ev];rw [e] at cc;have j1:=fun w' (hk:aa [] w w')=>ihr B w' pr (hr.kept hk) (by omega);have j2:=fun w' q (hk:aa [] w w') (hq:dY w'.heap.size w' q (r.put x))=>dG w'.heap.size w' pl q l (r.put x) y (hl.kept hk).full hq (by omega) hy;have j3:=fun w' q (hq:dY w'.heap.size w' q (.node l y (r.put x)))=>nT w'.heap.size w' q l (r.put x) y hq (by simp only [Tr.size];omega);unfold jm at j1 j2 ⊢;clear h0 hs hy hg hl hr ihl ihr e ev p1 p2;go_enter Tryz.func189,Tryz.ntmps189;go_wp2_with fail
    go_region_held3 (fun w'=>w'.cell? ⟨g,0,none⟩=some (.string (ak y.p))∧w'.cell? ⟨g,1,none⟩=some (.int .u64 y.d)∧w'.cell? ⟨g,2,none⟩=some (.int .i64 y.r)∧w'.cell? ⟨g,3,none⟩=some (.bool y.g)∧w'.cell? ⟨g,4,none⟩=some (.pointer pl)∧w'.cell? ⟨g,5,none⟩=some (.pointer pr)∧w'.cell? ⟨w.heap.size,0,none⟩=some (.string (ak x.p))∧w'.cell? ⟨w.heap.size,1,none⟩=some (.int .u64 x.d)∧w'.cell? ⟨w.heap.size,2,none⟩=some (.int .i64 x.r)∧w'.cell? ⟨w.heap.size,3,none⟩=some (.bool x.g))
     (first | go_keep | exact ⟨hK1.cell c0 (by simp),hK1.cell c1 (by simp),hK1.cell c2 (by simp),hK1.cell c3 (by simp),hK1.cell c4 (by simp),hK1.cell c5 (by simp),hKb.cell b0 (by simp),hKb.cell b1 (by simp),hKb.cell b2 (by simp),hKb.cell b3 (by simp)⟩)
     (first
       | (go_at_call 179;refine (cc _).mono ?_;rintro e w1 ⟨rfl,hKb⟩;have hK1:aa [] w w1:=hK0.drew.trans hKb (by simp)))
    all_goals
     go_wp2_with fail
    have m0:=hK1.cell c0 (by simp);have m1:=hK1.cell c1 (by simp);have m2:=hK1.cell c2 (by simp);have m3:=hK1.cell c3 (by simp);have m4:=hK1.cell c4 (by simp);have m5:=hK1.cell c5 (by simp);have n0:=hKb.cell b0 (by simp);have n1:=hKb.cell b1 (by simp);have n2:=hKb.cell b2 (by simp);have n3:=hKb.cell b3 (by simp);clear c0 c1 c2 c3 c4 c5 b0 b1 b2 b3 hKb hK0
    go_region_held3 (fun w'=>w'.cell? ⟨g,0,none⟩=some (.string (ak y.p))∧w'.cell? ⟨g,1,none⟩=some (.int .u64 y.d)∧w'.cell? ⟨g,2,none⟩=some (.int .i64 y.r)∧w'.cell? ⟨g,3,none⟩=some (.bool y.g)∧w'.cell? ⟨g,4,none⟩=some (.pointer pl)∧w'.cell? ⟨g,5,none⟩=some (.pointer pr)∧w'.cell? ⟨w.heap.size,0,none⟩=some (.string (ak x.p))∧w'.cell? ⟨w.heap.size,1,none⟩=some (.int .u64 x.d)∧w'.cell? ⟨w.heap.size,2,none⟩=some (.int .i64 x.r)∧w'.cell? ⟨w.heap.size,3,none⟩=some (.bool x.g))
     (first | go_keep | exact ⟨hKc.cell m0 (by simp),hKc.cell m1 (by simp),hKc.cell m2 (by simp),hKc.cell m3 (by simp),hKc.cell m4 (by simp),hKc.cell m5 (by simp),hKc.cell n0 (by simp),hKc.cell n1 (by simp),hKc.cell n2 (by simp),hKc.cell n3 (by simp)⟩)
     (first
       | (go_at_call 189;refine (j1 _ ?_).mono ?_;exact hK1.drew;rintro e w2 ⟨q,rfl,hq,hKc⟩;replace hK1:aa [] w w2:=hK1.drew.trans hKc (by simp);replace hKc:aa [] w1 w2:=(aa.refl [] w1).drew.trans hKc (by simp))
       | (go_at_call 200;refine (j2 _ q ?_ ?_).mono ?_;exact hK1;exact hq;rintro e w3 ⟨q2,rfl,hq2,hK2⟩;replace hK1:=hK1.trans hK2 (by simp);replace hKc:=hKc.trans hK2 (by simp))
       | (go_at_call 201;refine (j3 _ q2 ?_).mono ?_;exact hq2;rintro e w4 ⟨q3,rfl,hq3,hK3⟩;replace hK1:=hK1.trans hK3 (by simp);replace hKc:=hKc.trans hK3 (by simp)))
    all_goals go_wp2
    all_goals go_ret
    all_goals exact ⟨_,rfl,hq3,hK1⟩
def mw (B:Nat) (w:World) (p:Option Addr) (t:Tr):Prop :=
 (p=none∧t=.nil)∨∃ (b:Nat) (q:Option Addr),p=some ⟨b,0,none⟩∧b < B∧w.heap[b]?=some (.cells #[.bool true,.pointer q] 169 (0,0))∧dY B w q t
theorem mw.same {B:Nat}{a w:World}(h:∀ k,k < B→k < a.heap.size→w.heap[k]?=a.heap[k]?) {p:Option Addr}{t:Tr}(ht:mw B a p t):mw B w p t:=by
 rcases ht with ht | ⟨b,q,h1,h2,h3,h4⟩
 ·exact .inl ht
 ·exact .inr ⟨b,q,h1,h2,by rw [h b h2 (aq h3),h3],h4.same h⟩
theorem mw.kept {B:Nat}{a w:World}(h:aa [] a w) {p:Option Addr}{t:Tr}(ht:mw B a p t):mw B w p t :=
 ht.same fun k _ hk=>h.block k hk (by simp)
theorem mw.mono {B C:Nat}{w:World}(hB:B≤C) {p:Option Addr}{t:Tr}(ht:mw B w p t):mw C w p t:=by
 rcases ht with ht | ⟨b,q,h1,h2,h3,h4⟩
 ·exact .inl ht
 ·exact .inr ⟨b,q,h1,by omega,h3,h4.mono hB⟩
theorem mw.full {B:Nat}{w:World}{p:Option Addr}{t:Tr}(ht:mw B w p t):mw w.heap.size w p t:=by
 rcases ht with ht | ⟨b,q,h1,_,h3,h4⟩
 ·exact .inl ht
 ·exact .inr ⟨b,q,h1,aq h3,h3,h4.full⟩
theorem zY {w:World}{b:Nat}{v0 v1:Value}{t:TypeId}(h:w.heap[b]?=some (.cells #[v0,v1] t (0,0))):w.cell? ⟨b,0,none⟩=some v0∧w.cell? ⟨b,1,none⟩=some v1 :=
 ⟨bz h rfl,bz h rfl⟩
theorem ai {w:World}{b:Nat}{vs:Array Value}{t:TypeId}(h:w.heap[b]?=some (.cells vs t (0,0))) (k:Nat):w.frozen? ⟨b,k,none⟩=false:=by
 simp [World.frozen?,h]
theorem mZ {w:World}{b:Nat}{v0 v1 v2 v3:Value}{t:TypeId}(h:w.heap[b]?=some (.cells #[v0,v1,v2,v3] t (0,0))):(w.setCell ⟨b,0,none⟩ v0).heap[b]?=some (.cells #[v0,v1,v2,v3] t (0,0)):=by
 obtain ⟨hlt,hk⟩:=Array.getElem?_eq_some_iff.1 h;show (w.heap.modify b _)[b]?=_;rw [Array.getElem?_eq_getElem (by rw [Array.size_modify];exact hlt),Array.getElem_modify_self,hk];rfl
theorem rc (B:Nat) (w:World) (p:Option Addr) (t:Tr) (h:mw B w p t) :
 Calls Tryz.prog 171 #[.pointer p] w fun e w'=>(∃ q,e=.returned (.pointer q)∧dY B w q t)∧w'=w:=by
 rcases h with ⟨rfl,rfl⟩ | ⟨b,q,rfl,h2,h3,h4⟩
 ·go_enter Tryz.func171,Tryz.ntmps171;go_wp2
  go_ret
  exact ⟨⟨none,rfl,rfl⟩,rfl⟩
 ·obtain ⟨c0,c1⟩:=zY h3;clear h3;go_enter Tryz.func171,Tryz.ntmps171;go_wp2
  go_ret
  exact ⟨⟨q,rfl,h4⟩,rfl⟩
theorem mG (l:List UInt8) (w:World) (hl:l.length≤140737488355328) :
 Calls Tryz.prog 135 #[.string (ak l)] w fun e w'=>e=.returned (.string (ak l))∧aa [] w w':=by
 have cC:=Tryz.stringslite_Clone (ak l);have hl':(ak l).size≤281474976710656:=by rw [bw];omega
 go_enter Tryz.func135,Tryz.ntmps135;go_wp2_with fail
 refine (cC _ hl').mono ?_;rintro e w' ⟨rfl,hB⟩;go_wp2
 go_ret
 exact ⟨rfl,aa.of_below hB⟩
theorem vY (x:Lf) (hx:x.p.length≤140737488355328) (B:Nat) (w:World) (p:Option Addr) (t:Tr) (h:mw B w p t) (hs:t.size≤100000000000) :
 Calls Tryz.prog 180 #[.pointer p,jm x] w fun e w'=>∃ q,e=.returned (.pointer q)∧mw w'.heap.size w' q (t.put x)∧aa [] w w':=by
 have c1:=fun w' (hk:aa [] w w')=>rc B w' p t (h.kept hk);have c2:=fun w' q (hq:dY B w' q t)=>yQ x hx t B w' q hq hs;have cC:=fun w'=>mG x.p w' hx
 have hp:p=none∨∃ b,p=some ⟨b,0,none⟩∧w.cell? ⟨b,0,none⟩=some (.bool true):=by
  rcases h with ⟨rfl,_⟩ | ⟨b,q,rfl,h2,h3,h4⟩
  ·exact .inl rfl
  ·exact .inr ⟨b,rfl,(zY h3).1⟩
 have q4:=heap_alloc_new w (.cells #[.string (ak x.p),.int .u64 x.d,.int .i64 x.r,.bool x.g] 141);obtain ⟨b0,b1,b2,b3⟩:=br q4;have hK0:=(aa.refl [] w).alloc (.cells #[.string (ak x.p),.int .u64 x.d,.int .i64 x.r,.bool x.g] 141);unfold jm at c2 ⊢;clear h hs;rcases hp with rfl | ⟨b,rfl,hb⟩
 ·go_enter Tryz.func180,Tryz.ntmps180;(go_wp2_with fail);refine (cC _).mono ?_;rintro e w1 ⟨rfl,hK1⟩;have q5:=hK1.at q4 (by simp);have f5:=ai q5 0;obtain ⟨m0,m1,m2,m3⟩:=br q5;obtain ⟨n0,n1,n2,n3⟩:=br (mZ q5);have hK2:aa [] w (w1.setCell ⟨w.heap.size,0,none⟩ (.string (ak x.p))):=(hK0.trans hK1 (by simp)).setCell (.inr (Nat.le_refl _)) _;clear b0 b1 b2 b3 q4;go_wp2_with fail
  go_region_held3 (fun w'=>w'.cell? ⟨w.heap.size,0,none⟩=some (.string (ak x.p))∧w'.cell? ⟨w.heap.size,1,none⟩=some (.int .u64 x.d)∧w'.cell? ⟨w.heap.size,2,none⟩=some (.int .i64 x.r)∧w'.cell? ⟨w.heap.size,3,none⟩=some (.bool x.g))
   (first | go_keep | exact ⟨n0,n1,n2,n3⟩ | exact ⟨hK3.cell n0 (by simp),hK3.cell n1 (by simp),hK3.cell n2 (by simp),hK3.cell n3 (by simp)⟩ | exact ⟨hK4.cell n0 (by simp),hK4.cell n1 (by simp),hK4.cell n2 (by simp),hK4.cell n3 (by simp)⟩)
   (first
     | (go_at_call 171;refine (c1 _ ?_).mono ?_;exact hK2.drew;rintro e w' ⟨⟨q,rfl,hq⟩,rfl⟩)
     | (go_at_call 189;refine (c2 _ q ?_).mono ?_;exact hq;rintro e w3 ⟨q2,rfl,hq2,hK3⟩;replace hK2:aa [] w w3:=hK2.drew.trans hK3 (by simp);have hK4:=hK3.alloc (.cells #[.bool true,.pointer q2] 169)))
  all_goals go_wp2
  all_goals go_ret
  all_goals exact ⟨_,rfl,.inr ⟨w3.heap.size,q2,rfl,by simp,heap_alloc_new w3 _,(hq2.kept ((aa.refl _ _).alloc _)).full⟩,hK2.alloc _⟩
 ·have hb2:=hK0.cell hb (by simp);go_enter Tryz.func180,Tryz.ntmps180;(go_wp2_with fail);refine (cC _).mono ?_;rintro e w1 ⟨rfl,hK1⟩;have q5:=hK1.at q4 (by simp);have f5:=ai q5 0;obtain ⟨m0,m1,m2,m3⟩:=br q5;obtain ⟨n0,n1,n2,n3⟩:=br (mZ q5);have hK2:aa [] w (w1.setCell ⟨w.heap.size,0,none⟩ (.string (ak x.p))):=(hK0.trans hK1 (by simp)).setCell (.inr (Nat.le_refl _)) _;clear b0 b1 b2 b3 q4;go_wp2_with fail
  go_region_held3 (fun w'=>w'.cell? ⟨w.heap.size,0,none⟩=some (.string (ak x.p))∧w'.cell? ⟨w.heap.size,1,none⟩=some (.int .u64 x.d)∧w'.cell? ⟨w.heap.size,2,none⟩=some (.int .i64 x.r)∧w'.cell? ⟨w.heap.size,3,none⟩=some (.bool x.g))
   (first | go_keep | exact ⟨n0,n1,n2,n3⟩ | exact ⟨hK3.cell n0 (by simp),hK3.cell n1 (by simp),hK3.cell n2 (by simp),hK3.cell n3 (by simp)⟩ | exact ⟨hK4.cell n0 (by simp),hK4.cell n1 (by simp),hK4.cell n2 (by simp),hK4.cell n3 (by simp)⟩)
   (first
     | (go_at_call 171;refine (c1 _ ?_).mono ?_;exact hK2.drew;rintro e w' ⟨⟨q,rfl,hq⟩,rfl⟩)
     | (go_at_call 189;refine (c2 _ q ?_).mono ?_;exact hq;rintro e w3 ⟨q2,rfl,hq2,hK3⟩;replace hK2:aa [] w w3:=hK2.drew.trans hK3 (by simp);have hK4:=hK3.alloc (.cells #[.bool true,.pointer q2] 169)))
  all_goals go_wp2
  all_goals go_ret
  all_goals exact ⟨_,rfl,.inr ⟨w3.heap.size,q2,rfl,by simp,heap_alloc_new w3 _,(hq2.kept ((aa.refl _ _).alloc _)).full⟩,hK2.alloc _⟩
def eW:Option Lf→Value
 | some x=>.tuple #[jm x,.bool true]
 | none=>.tuple #[.agg #[.string ⟨#[]⟩,.int .u64 0,.int .i64 0,.bool false],.bool false]
def hOf (w:World):Value→Nat
 | .pointer (some a)=>match w.cell? ⟨a.block,7,none⟩ with
   | some (.int _ d)=>d.toNat
   | _=>0
 | _=>0
theorem dY.hOf {B:Nat}{w:World}{p:Option Addr}{t:Tr}(h:dY B w p t):hOf w (.pointer p)=t.height:=by
 cases t with
 | nil=>obtain rfl:p=none:=h;rfl
 | node l x r =>
   obtain ⟨b,pl,pr,rfl,hb,h0,h1,hl,hr⟩:=h;obtain ⟨_,_,_,_,_,_,_,c7⟩:=gB h0;simp only [Go.Proofs.YtgpnlidnbldiiaaGreat.hOf];rw [c7];simp
theorem jW {w:World}{b:Nat}{a0 a1 a2 a3:Value}{t:TypeId}(h:w.heap[b]?=some (.cells #[a0,a1,a2,a3] t (0,0))) (v0 v1 v2 v3:Value) :
 (w.setCell ⟨b,0,none⟩ v0).cell? ⟨b,0,none⟩=some v0 ∧
 ((w.setCell ⟨b,0,none⟩ v0).setCell ⟨b,1,none⟩ v1).cell? ⟨b,1,none⟩=some v1 ∧
 (((w.setCell ⟨b,0,none⟩ v0).setCell ⟨b,1,none⟩ v1).setCell ⟨b,2,none⟩ v2).cell? ⟨b,2,none⟩=some v2 ∧
 ((((w.setCell ⟨b,0,none⟩ v0).setCell ⟨b,1,none⟩ v1).setCell ⟨b,2,none⟩ v2).setCell ⟨b,3,none⟩ v3).cell? ⟨b,3,none⟩=some v3:=by
 obtain ⟨c0,c1,c2,c3⟩:=br h;refine ⟨World.cell?_setCell_same' _ _ _ (by rw [c0];rfl),World.cell?_setCell_same' _ _ _ ?_,World.cell?_setCell_same' _ _ _ ?_,World.cell?_setCell_same' _ _ _ ?_⟩
 ·simp [go_sem,c1]
 ·simp [go_sem,c2]
 ·simp [go_sem,c3]
theorem rp {a w:World}(h:aa [] a w) {b:Nat}(hb:a.heap.size≤b) (v0 v1 v2 v3:Value):aa [] a ((((w.setCell ⟨b,0,none⟩ v0).setCell ⟨b,1,none⟩ v1).setCell ⟨b,2,none⟩ v2).setCell ⟨b,3,none⟩ v3) :=
 (((h.setCell (.inr hb) _).setCell (.inr hb) _).setCell (.inr hb) _).setCell (.inr hb) _
theorem zN (B:Nat) (w:World) (p:Option Addr) (t:Tr) (f:List UInt8) (h:dY B w p t) (hf:f.length≤140737488355328) :
 Calls Tryz.prog 172 #[.pointer p,.string (ak f)] w fun e w'=>e=.returned (eW (t.get f))∧aa [] w w':=by
 obtain ⟨R,hR⟩:∃ R,R=t.get f:=⟨_,rfl⟩;rw [← hR];have q4:=heap_alloc_new w (.cells #[.string ⟨#[]⟩,.int .u64 0,.int .i64 0,.bool false] 141);have hK0:=(aa.refl [] w).alloc (.cells #[.string ⟨#[]⟩,.int .u64 0,.int .i64 0,.bool false] 141);go_enter Tryz.func172,Tryz.ntmps172;go_wp2_with fail
 go_loopw [0] (fun nv wr=>∃ p' t',nv=.pointer p'∧dY B wr p' t'∧t'.get f=R∧aa [] (w.alloc (.cells #[.string ⟨#[]⟩,.int .u64 0,.int .i64 0,.bool false] 141)) wr) (fun nv wr=>hOf wr nv)
 case atStart=>exact ⟨p,t,rfl,h.kept hK0,hR.symm,aa.refl _ _⟩
 case round =>
  obtain ⟨p',t',rfl,hN,hg,hK⟩:=hrel;have q5:=hK.at q4 (by simp);have f5:=ai q5;have hKw:aa [] w wr:=hK0.trans hK (by simp);clear h hR;cases t' with
  | nil =>
    obtain rfl:p'=none:=hN;obtain ⟨m0,m1,m2,m3⟩:=br q5;obtain ⟨s0,s1,s2,s3⟩:=jW q5 (.string ⟨#[]⟩) (.int .u64 0) (.int .i64 0) (.bool false);have g0:=f5 0;have g1:=f5 1;have g2:=f5 2;have g3:=f5 3;obtain rfl:none=R:=hg;clear hK q5 f5 q4 hK0;(go_wp2_with fail);refine bodyPost_ret (v:=eW none) ?_ rfl ⟨rfl,rp hKw (Nat.le_refl _) _ _ _ _⟩;rw [results_cell_tmp rfl];unfold eW;go_simp
  | node l x r =>
    have hh:=hN.hOf;obtain ⟨b,pl,pr,rfl,hb,h0,hx,hl,hr⟩:=hN;obtain ⟨c0,c1,c2,c3,c4,c5,_,_⟩:=gB h0;have cc:=fun w'=>gU f x.p w' hf hx;simp only [Tr.get] at hg;have hB:∀ w',aa [] wr w'→dY B w' pl l∧dY B w' pr r:=fun w' hk=>⟨hl.kept hk,hr.kept hk⟩;clear hl hr;rcases fA f x.p with e | e | e
    ·rw [if_pos e] at hg;rw [e] at cc;(go_wp2_with fail);refine (cc _).mono ?_;rintro e w1 ⟨rfl,hK1⟩;have m4:=hK1.cell c4 (by simp);(go_wp2_with fail);go_roundw
     case rel=>exact ⟨pl,l,rfl,(hB _ hK1).1,hg,hK.trans hK1 (by simp)⟩
     case measure =>
      show hOf w1 (.pointer pl) < hOf wr (.pointer (some ⟨b,0,none⟩));rw [hh,(hB _ hK1).1.hOf];simp only [Tr.height];omega
    ·rw [if_neg (by omega),if_neg (by omega)] at hg;subst hg;rw [e] at cc;(go_wp2_with fail);refine (cc _).mono ?_;rintro e w1 ⟨rfl,hK1⟩;have m0:=hK1.cell c0 (by simp);have m1:=hK1.cell c1 (by simp);have m2:=hK1.cell c2 (by simp);have m3:=hK1.cell c3 (by simp);have q6:=hK1.at q5 (by simp);have f6:=ai q6;have g0:=f6 0;have g1:=f6 1;have g2:=f6 2;have g3:=f6 3;obtain ⟨k0,k1,k2,k3⟩:=br q6;obtain ⟨s0,s1,s2,s3⟩:=jW q6 (.string (ak x.p)) (.int .u64 x.d) (.int .i64 x.r) (.bool x.g);have hKw2:aa [] w w1:=hKw.trans hK1 (by simp);clear hK q5 f5 q4 hK0 q6 f6 h0 c0 c1 c2 c3 c4 c5 hh hB hKw hK1;go_wp2_with fail
     (try simp only [Exit.inBlock,Exit.then])
     refine bodyPost_ret (v:=eW (some x)) ?_ rfl ⟨rfl,rp hKw2 (Nat.le_refl _) _ _ _ _⟩;rw [results_cell_tmp rfl];unfold eW jm;go_simp
    ·rw [if_neg (by omega),if_pos e] at hg;rw [e] at cc;(go_wp2_with fail);refine (cc _).mono ?_;rintro e w1 ⟨rfl,hK1⟩;have m4:=hK1.cell c5 (by simp);(go_wp2_with fail);go_roundw
     case rel=>exact ⟨pr,r,rfl,(hB _ hK1).2,hg,hK.trans hK1 (by simp)⟩
     case measure =>
      show hOf w1 (.pointer pr) < hOf wr (.pointer (some ⟨b,0,none⟩));rw [hh,(hB _ hK1).2.hOf];simp only [Tr.height];omega
theorem ox (B:Nat) (w:World) (p:Option Addr) (t:Tr) (f:List UInt8) (h:mw B w p t) (hf:f.length≤140737488355328) :
 Calls Tryz.prog 147 #[.pointer p,.string (ak f)] w fun e w'=>e=.returned (eW (t.get f))∧aa [] w w':=by
 have q4:=heap_alloc_new w (.cells #[.string ⟨#[]⟩,.int .u64 0,.int .i64 0,.bool false] 141);have hK0:=(aa.refl [] w).alloc (.cells #[.string ⟨#[]⟩,.int .u64 0,.int .i64 0,.bool false] 141);have c1:=fun w' (hk:aa [] w w')=>rc B w' p t (h.kept hk);have c2:=fun w' q (hq:dY B w' q t)=>zN B w' q t f hq hf;obtain ⟨R,hR⟩:∃ R,R=t.get f:=⟨_,rfl⟩;rw [← hR];rw [← hR] at c2;clear hR h
 obtain ⟨y0,y1,y2,y3,y4,hy⟩:∃ y0 y1 y2 y3 y4,eW R=.tuple #[.agg #[.string y0,.int .u64 y1,.int .i64 y2,.bool y3],.bool y4]:=by
  cases R with
  | none=>exact ⟨_,_,_,_,_,rfl⟩
  | some x=>exact ⟨_,_,_,_,_,rfl⟩
 rw [hy] at c2 ⊢;clear hy;go_enter Tryz.func147,Tryz.ntmps147;go_wp2_with fail
 refine (c1 _ hK0).mono ?_;rintro e w' ⟨⟨q,rfl,hq⟩,rfl⟩;go_wp2_with fail
 refine (c2 _ q hq).mono ?_;rintro e w1 ⟨rfl,hK1⟩;have q6:=hK1.at q4 (by simp);have f6:=ai q6;have g0:=f6 0;have g1:=f6 1;have g2:=f6 2;have g3:=f6 3;obtain ⟨k0,k1,k2,k3⟩:=br q6;obtain ⟨s0,s1,s2,s3⟩:=jW q6 (.string y0) (.int .u64 y1) (.int .i64 y2) (.bool y3);have hKw:aa [] w w1:=hK0.trans hK1 (by simp);clear q4 hK0 q6 f6 hK1 hq c1 c2;go_wp2_with fail
 refine bodyPost_ret (v:=.tuple #[.agg #[.string y0,.int .u64 y1,.int .i64 y2,.bool y3],.bool y4]) ?_ rfl ⟨rfl,rp hKw (Nat.le_refl _) _ _ _ _⟩;rw [results_cell_tmp rfl];go_simp
end Go.Proofs.YtgpnlidnbldiiaaGreat
