/-
  Texts laid as one.
-/
import Derived.Test.YtgpnlidnbldiiaaGreatQ1r
import Derived.Test.YtgpnlidnbldiiaaGreatProg
import Derived.Deep.QuietTactic
import Derived.BigQuiet
import Derived.Deep.RegionHeld3
set_option maxHeartbeats 4000000
set_option maxRecDepth 100000
/-
 Nodes in memory: what they hold;size,height,lean by their contracts.
-/
namespace Go.Proofs.YtgpnlidnbldiiaaGreat
open Go.RowKit
def jm (x:Lf):Value:=.agg #[.string (ak x.p),.int .u64 x.d,.int .i64 x.r,.bool x.g]
def dY (B:Nat) (w:World):Option Addr→Tr→Prop
 | p,.nil=>p=none
 | p,.node l x r=>∃ (b:Nat) (pl pr:Option Addr),p=some ⟨b,0,none⟩∧b < B ∧
  w.heap[b]?=some (.cells #[.string (ak x.p),.int .u64 x.d,.int .i64 x.r,.bool x.g,.pointer pl,.pointer pr,.int .i64 ((Tr.node l x r).size:Int),.int .i64 ((Tr.node l x r).height:Int)] 223 (0,0)) ∧
  x.p.length≤140737488355328∧dY B w pl l∧dY B w pr r
theorem dY.same {B:Nat}{a w:World}(h:∀ k,k < B→k < a.heap.size→w.heap[k]?=a.heap[k]?):∀ {p:Option Addr}{t:Tr},dY B a p t→dY B w p t
 | _,.nil,ht=>ht
 | _,.node _ _ _,⟨b,pl,pr,hp,hb,h0,h1,hl,hr⟩=>⟨b,pl,pr,hp,hb,by rw [h b hb (aq h0),h0],h1,dY.same h hl,dY.same h hr⟩
theorem dY.kept {B:Nat}{a w:World}(h:aa [] a w) {p:Option Addr}{t:Tr}(ht:dY B a p t):dY B w p t :=
 ht.same fun k _ hk=>h.block k hk (by simp)
theorem dY.mono {B C:Nat}{w:World}(hB:B≤C):∀ {p:Option Addr}{t:Tr},dY B w p t→dY C w p t
 | _,.nil,ht=>ht
 | _,.node _ _ _,⟨b,pl,pr,hp,hb,h0,h1,hl,hr⟩=>⟨b,pl,pr,hp,by omega,h0,h1,dY.mono hB hl,dY.mono hB hr⟩
theorem dY.full {B:Nat}{w:World}:∀ {p:Option Addr}{t:Tr},dY B w p t→dY w.heap.size w p t
 | _,.nil,ht=>ht
 | _,.node _ _ _,⟨b,pl,pr,hp,_,h0,h1,hl,hr⟩=>⟨b,pl,pr,hp,aq h0,h0,h1,dY.full hl,dY.full hr⟩
theorem bz {w:World}{b k:Nat}{vs:Array Value}{t:TypeId}{v:Value}(h:w.heap[b]?=some (.cells vs t (0,0))) (hv:vs[k]?=some v):w.cell? ⟨b,k,none⟩=some v:=by
 simp [World.cell?,h,hv]
theorem gB {w:World}{b:Nat}{v0 v1 v2 v3 v4 v5 v6 v7:Value}{t:TypeId}(h:w.heap[b]?=some (.cells #[v0,v1,v2,v3,v4,v5,v6,v7] t (0,0))) :
 w.cell? ⟨b,0,none⟩=some v0∧w.cell? ⟨b,1,none⟩=some v1∧w.cell? ⟨b,2,none⟩=some v2∧w.cell? ⟨b,3,none⟩=some v3∧w.cell? ⟨b,4,none⟩=some v4∧w.cell? ⟨b,5,none⟩=some v5∧w.cell? ⟨b,6,none⟩=some v6∧w.cell? ⟨b,7,none⟩=some v7 :=
 ⟨bz h rfl,bz h rfl,bz h rfl,bz h rfl,bz h rfl,bz h rfl,bz h rfl,bz h rfl⟩
theorem br {w:World}{b:Nat}{v0 v1 v2 v3:Value}{t:TypeId}(h:w.heap[b]?=some (.cells #[v0,v1,v2,v3] t (0,0))) :
 w.cell? ⟨b,0,none⟩=some v0∧w.cell? ⟨b,1,none⟩=some v1∧w.cell? ⟨b,2,none⟩=some v2∧w.cell? ⟨b,3,none⟩=some v3 :=
 ⟨bz h rfl,bz h rfl,bz h rfl,bz h rfl⟩
theorem oD (B:Nat) (w:World) (p:Option Addr) (t:Tr) (h:dY B w p t) :
 Calls Tryz.prog 209 #[.pointer p] w fun e w'=>e=.returned (.int .i64 (t.size:Int))∧w'=w:=by
 cases t with
 | nil =>
   obtain rfl:p=none:=h;go_enter Tryz.func209,Tryz.ntmps209;go_wp2
   go_ret
   exact ⟨rfl,rfl⟩
 | node l x r =>
   obtain ⟨b,pl,pr,rfl,hb,h0,h1,hl,hr⟩:=h;have c6:=bz (k:=6) h0 rfl;clear h0;generalize ((Tr.node l x r).size:Int)=n at *;go_enter Tryz.func209,Tryz.ntmps209;go_wp2
   go_ret
   exact ⟨rfl,rfl⟩
theorem gm (B:Nat) (w:World) (p:Option Addr) (t:Tr) (h:dY B w p t) :
 Calls Tryz.prog 210 #[.pointer p] w fun e w'=>e=.returned (.int .i64 (t.height:Int))∧w'=w:=by
 cases t with
 | nil =>
   obtain rfl:p=none:=h;go_enter Tryz.func210,Tryz.ntmps210;go_wp2
   go_ret
   exact ⟨rfl,rfl⟩
 | node l x r =>
   obtain ⟨b,pl,pr,rfl,hb,h0,h1,hl,hr⟩:=h;have c7:=bz (k:=7) h0 rfl;clear h0;generalize ((Tr.node l x r).height:Int)=n at *;go_enter Tryz.func210,Tryz.ntmps210;go_wp2
   go_ret
   exact ⟨rfl,rfl⟩
theorem uP {P:Program}{f:FuncId}{args:Array Value}{w:World}{n:Nat}{v:Value}
 (h:Calls P f args (w.drewN n) fun e w'=>e=.returned v∧w'=w.drewN n):Calls P f args (w.drewN n) fun e w''=>e=.returned v∧∃ m,w''=w.drewN m :=
 h.mono fun _ _ ⟨he,hm⟩=>⟨he,n,hm⟩
theorem dY.drewN {B:Nat}{w:World}{p:Option Addr}{t:Tr}(h:dY B w p t) (n:Nat):dY B (w.drewN n) p t:=dY.same (a:=w) (w:=w.drewN n) (fun _ _ _=>rfl) h
theorem kK (B:Nat) (w:World) (p:Option Addr) (l r:Tr) (x:Lf) (h:dY B w p (.node l x r)) (hs:(Tr.node l x r).size≤1000000000000) :
 Calls Tryz.prog 212 #[.pointer p] w fun e w'=>e=.returned (.int .i64 ((Tr.node l x r).lean))∧∃ n,w'=w.drewN n:=by
 obtain ⟨b,pl,pr,rfl,hb,h0,h1,hl,hr⟩:=h;have c4:=bz (k:=4) h0 rfl;have c5:=bz (k:=5) h0 rfl;have hh1:=i4 l;have hh2:=i4 r;simp only [Tr.size] at hs;have hLn:(Tr.node l x r).lean=(r.height:Int) - l.height:=rfl;rw [hLn];have cl:=fun n=>gm B _ pl l (hl.drewN n);have cr:=fun n=>gm B _ pr r (hr.drewN n);have b1:(l.height:Int)≤1000000000000:=by omega
 have b2:(r.height:Int)≤1000000000000:=by omega
 have b3:(0:Int)≤l.height:=by omega
 have b4:(0:Int)≤r.height:=by omega
 clear h0 hl hr hLn hs hh1 hh2;generalize (l.height:Int)=hl at *;generalize (r.height:Int)=hr at *;go_enter Tryz.func212,Tryz.ntmps212;go_wp2_with fail
 go_quiet (first | (go_at_call_of 210 pr;exact uP (cr _)) | (go_at_call_of 210 pl;exact uP (cl _)))
 go_wp2
 go_ret
 exact ⟨rfl,_,rfl⟩
theorem B5 {B:Nat}{w:World}{pl pr:Option Addr}{l r:Tr}{x:Lf}(o:Obj) {y z:Int}(hl:dY B w pl l) (hr:dY B w pr r) (hx:x.p.length≤140737488355328) (hy:((Tr.node l x r).size:Int)=y) (hz:((Tr.node l x r).height:Int)=z) :
 dY ((w.alloc o).alloc (.cells #[.string (ak x.p),.int .u64 x.d,.int .i64 x.r,.bool x.g,.pointer pl,.pointer pr,.int .i64 y,.int .i64 z] 223)).drew.heap.size ((w.alloc o).alloc (.cells #[.string (ak x.p),.int .u64 x.d,.int .i64 x.r,.bool x.g,.pointer pl,.pointer pr,.int .i64 y,.int .i64 z] 223)).drew (some ⟨w.heap.size+1,0,none⟩) (.node l x r):=by
 subst hy;subst hz;have hk:aa [] w ((w.alloc o).alloc (.cells #[.string (ak x.p),.int .u64 x.d,.int .i64 x.r,.bool x.g,.pointer pl,.pointer pr,.int .i64 ((Tr.node l x r).size:Int),.int .i64 ((Tr.node l x r).height:Int)] 223)).drew:=(((aa.refl _ _).alloc _).alloc _).drew;refine ⟨w.heap.size+1,pl,pr,rfl,by show _ < ((w.alloc _).alloc _).heap.size;simp,?_,hx,(hl.kept hk).full,(hr.kept hk).full⟩;have:=heap_alloc_new (w.alloc o) (.cells #[.string (ak x.p),.int .u64 x.d,.int .i64 x.r,.bool x.g,.pointer pl,.pointer pr,.int .i64 ((Tr.node l x r).size:Int),.int .i64 ((Tr.node l x r).height:Int)] 223)
 rw [World.size_alloc] at this;exact this
theorem tD (B:Nat) (w:World) (pl pr:Option Addr) (l r:Tr) (x:Lf) (hl:dY B w pl l) (hr:dY B w pr r) (hs:l.size+r.size≤1000000000000) (hx:x.p.length≤140737488355328) :
 Calls Tryz.prog 200 #[.pointer pl,jm x,.pointer pr] w fun e w'=>∃ b,e=.returned (.pointer (some ⟨b,0,none⟩))∧w.heap.size≤b∧dY w'.heap.size w' (some ⟨b,0,none⟩) (.node l x r)∧aa [] w w':=by
 have sl:=fun w' (hk:aa [] w w')=>oD B w' pl l (hl.kept hk);have sr:=fun w' (hk:aa [] w w')=>oD B w' pr r (hr.kept hk);have tl:=fun w' (hk:aa [] w w')=>gm B w' pl l (hl.kept hk);have tr:=fun w' (hk:aa [] w w')=>gm B w' pr r (hr.kept hk);have hh1:=i4 l;have hh2:=i4 r;have b1:(l.height:Int)≤1000000000000:=by omega
 have b2:(r.height:Int)≤1000000000000:=by omega
 have b3:(0:Int)≤l.height:=by omega
 have b4:(0:Int)≤r.height:=by omega
 have d1:(l.size:Int)≤1000000000000:=by omega
 have d2:(r.size:Int)≤1000000000000:=by omega
 have d3:(0:Int)≤l.size:=by omega
 have d4:(0:Int)≤r.size:=by omega
 have e1:((Tr.node l x r).size:Int)=(l.size:Int)+1+r.size:=by simp only [Tr.size];omega
 have e2:((Tr.node l x r).height:Int)=max (l.height:Int) r.height+1:=by simp only [Tr.height];omega
 have HS:Hid (((Tr.node l x r).size:Int)=(l.size:Int)+1+r.size∧((Tr.node l x r).height:Int)=max (l.height:Int) r.height+1):=⟨e1,e2⟩;have HN:Hid (dY B w pl l∧dY B w pr r):=⟨hl,hr⟩;clear hh1 hh2 hl hr e1 e2 hs;generalize (l.height:Int)=zl at *;generalize (r.height:Int)=zr at *;generalize (l.size:Int)=yl at *;generalize (r.size:Int)=yr at *;unfold jm;go_enter Tryz.func200,Tryz.ntmps200;go_wp2_with fail
 go_region_held3 (fun w'=>w'.cell? ⟨w.heap.size,0,none⟩=some (.string (ak x.p))∧w'.cell? ⟨w.heap.size,1,none⟩=some (.int .u64 x.d)∧w'.cell? ⟨w.heap.size,2,none⟩=some (.int .i64 x.r)∧w'.cell? ⟨w.heap.size,3,none⟩=some (.bool x.g)) (go_keep)
  (first
    | (go_at_call_of 209 pl;refine (sl _ ?_).mono ?_;exact ((aa.refl _ _).alloc _).drew;rintro e w' ⟨rfl,rfl⟩)
    | (go_at_call_of 209 pr;refine (sr _ ?_).mono ?_;exact ((aa.refl _ _).alloc _).drew;rintro e w' ⟨rfl,rfl⟩)
    | (go_at_call_of 210 pl;refine (tl _ ?_).mono ?_;exact ((aa.refl _ _).alloc _).drew;rintro e w' ⟨rfl,rfl⟩)
    | (go_at_call_of 210 pr;refine (tr _ ?_).mono ?_;exact ((aa.refl _ _).alloc _).drew;rintro e w' ⟨rfl,rfl⟩))
 all_goals go_wp2
 all_goals go_ret
 all_goals
  refine ⟨_,rfl,Nat.le_succ _,B5 _ HN.out.1 HN.out.2 hx ?_ ?_,(((aa.refl _ _).alloc _).alloc _).drew⟩
  ·rw [HS.out.1,IntWalk.i64_in (yl+1) (by omega),IntWalk.i64_in (yl+1+yr) (by omega)]
  ·first | rw [HS.out.2,IntWalk.i64_in (zr+1) (by omega)] | rw [HS.out.2,IntWalk.i64_in (zl+1) (by omega)]
   omega
def tV (w:World) (t:Tr) (e:Ending) (w':World):Prop:=∃ p,e=.returned (.pointer p)∧dY w'.heap.size w' p t∧aa [] w w'
theorem dG (B:Nat) (w:World) (pl pr:Option Addr) (l r:Tr) (x:Lf) (hl:dY B w pl l) (hr:dY B w pr r) (hs:l.size+r.size≤1000000000000) (hx:x.p.length≤140737488355328) :
 Calls Tryz.prog 200 #[.pointer pl,jm x,.pointer pr] w (tV w (.node l x r)) :=
 (tD B w pl pr l r x hl hr hs hx).mono fun _ _ ⟨_,he,_,hN,hK⟩=>⟨_,he,hN,hK⟩
theorem jz (B:Nat) (w:World) (p:Option Addr) (a b r:Tr) (y x:Lf) (h:dY B w p (.node (.node a y b) x r)) (hs:(Tr.size (.node (.node a y b) x r))≤1000000000000) :
 Calls Tryz.prog 214 #[.pointer p] w (tV w (.node a y (.node b x r))):=by
 obtain ⟨g,pl,pr,rfl,hg,h0,hx,hl,hr⟩:=h;obtain ⟨u,pa,pb,rfl,hu,k0,hy,ha,hb⟩:=hl;obtain ⟨c0,c1,c2,c3,c4,c5,_,_⟩:=gB h0;obtain ⟨d0,d1,d2,d3,d4,d5,_,_⟩:=gB k0;simp only [Tr.size] at hs;have j1:=fun w' (hk:aa [] w w')=>dG B w' pb pr b r x (hb.kept hk) (hr.kept hk) (by omega) hx;have j2:=fun w' q (hk:aa [] w w') (hq:dY w'.heap.size w' q (.node b x r))=>dG w'.heap.size w' pa q a (.node b x r) y (ha.kept hk).full hq (by simp only [Tr.size];omega) hy;unfold jm at j1 j2;clear h0 k0 ha hb hs hx hy hg hu;go_enter Tryz.func214,Tryz.ntmps214;go_wp2_with fail
 go_region_held3 (fun w'=>w'.cell? ⟨g,0,none⟩=some (.string (ak x.p))∧w'.cell? ⟨g,1,none⟩=some (.int .u64 x.d)∧w'.cell? ⟨g,2,none⟩=some (.int .i64 x.r)∧w'.cell? ⟨g,3,none⟩=some (.bool x.g)∧w'.cell? ⟨g,4,none⟩=some (.pointer (some ⟨u,0,none⟩))∧w'.cell? ⟨g,5,none⟩=some (.pointer pr)∧w'.cell? ⟨u,0,none⟩=some (.string (ak y.p))∧w'.cell? ⟨u,1,none⟩=some (.int .u64 y.d)∧w'.cell? ⟨u,2,none⟩=some (.int .i64 y.r)∧w'.cell? ⟨u,3,none⟩=some (.bool y.g)∧w'.cell? ⟨u,4,none⟩=some (.pointer pa)∧w'.cell? ⟨u,5,none⟩=some (.pointer pb))
  (first | go_keep | exact ⟨hK1.cell c0 (by simp),hK1.cell c1 (by simp),hK1.cell c2 (by simp),hK1.cell c3 (by simp),hK1.cell c4 (by simp),hK1.cell c5 (by simp),hK1.cell d0 (by simp),hK1.cell d1 (by simp),hK1.cell d2 (by simp),hK1.cell d3 (by simp),hK1.cell d4 (by simp),hK1.cell d5 (by simp)⟩)
  (first
    | (go_at_call_of 200 pb;refine (j1 _ ?_).mono ?_;exact (aa.refl _ _).drew;rintro e w1 ⟨q,rfl,hq,hK1⟩;replace hK1:aa [] w w1:=(aa.refl [] w).drew.trans hK1 (by simp))
    | (go_at_call_of 200 pa;refine (j2 _ q ?_ ?_).mono ?_;exact hK1;exact hq;rintro e w2 ⟨q2,rfl,hq2,hK2⟩;replace hK1:=hK1.trans hK2 (by simp)))
 all_goals go_wp2
 all_goals go_ret
 all_goals exact ⟨_,rfl,hq2,hK1⟩
theorem jA (B:Nat) (w:World) (p:Option Addr) (a b r:Tr) (y x:Lf) (h:dY B w p (.node r x (.node a y b))) (hs:(Tr.size (.node r x (.node a y b)))≤1000000000000) :
 Calls Tryz.prog 216 #[.pointer p] w (tV w (.node (.node r x a) y b)):=by
 obtain ⟨g,pl,pr,rfl,hg,h0,hx,hl,hr⟩:=h;obtain ⟨u,pa,pb,rfl,hu,k0,hy,ha,hb⟩:=hr;obtain ⟨c0,c1,c2,c3,c4,c5,_,_⟩:=gB h0;obtain ⟨d0,d1,d2,d3,d4,d5,_,_⟩:=gB k0;simp only [Tr.size] at hs;have j1:=fun w' (hk:aa [] w w')=>dG B w' pl pa r a x (hl.kept hk) (ha.kept hk) (by omega) hx;have j2:=fun w' q (hk:aa [] w w') (hq:dY w'.heap.size w' q (.node r x a))=>dG w'.heap.size w' q pb (.node r x a) b y hq (hb.kept hk).full (by simp only [Tr.size];omega) hy;unfold jm at j1 j2;clear h0 k0 ha hb hs hx hy hg hu;go_enter Tryz.func216,Tryz.ntmps216;go_wp2_with fail
 go_region_held3 (fun w'=>w'.cell? ⟨g,0,none⟩=some (.string (ak x.p))∧w'.cell? ⟨g,1,none⟩=some (.int .u64 x.d)∧w'.cell? ⟨g,2,none⟩=some (.int .i64 x.r)∧w'.cell? ⟨g,3,none⟩=some (.bool x.g)∧w'.cell? ⟨g,4,none⟩=some (.pointer pl)∧w'.cell? ⟨g,5,none⟩=some (.pointer (some ⟨u,0,none⟩))∧w'.cell? ⟨u,0,none⟩=some (.string (ak y.p))∧w'.cell? ⟨u,1,none⟩=some (.int .u64 y.d)∧w'.cell? ⟨u,2,none⟩=some (.int .i64 y.r)∧w'.cell? ⟨u,3,none⟩=some (.bool y.g)∧w'.cell? ⟨u,4,none⟩=some (.pointer pa)∧w'.cell? ⟨u,5,none⟩=some (.pointer pb))
  (first | go_keep | exact ⟨hK1.cell c0 (by simp),hK1.cell c1 (by simp),hK1.cell c2 (by simp),hK1.cell c3 (by simp),hK1.cell c4 (by simp),hK1.cell c5 (by simp),hK1.cell d0 (by simp),hK1.cell d1 (by simp),hK1.cell d2 (by simp),hK1.cell d3 (by simp),hK1.cell d4 (by simp),hK1.cell d5 (by simp)⟩)
  (first
    | (go_at_call_of 200 pa;refine (j1 _ ?_).mono ?_;exact (aa.refl _ _).drew;rintro e w1 ⟨q,rfl,hq,hK1⟩;replace hK1:aa [] w w1:=(aa.refl [] w).drew.trans hK1 (by simp))
    | (go_at_call_of 200 pb;refine (j2 _ q ?_ ?_).mono ?_;exact hK1;exact hq;rintro e w2 ⟨q2,rfl,hq2,hK2⟩;replace hK1:=hK1.trans hK2 (by simp)))
 all_goals go_wp2
 all_goals go_ret
 all_goals exact ⟨_,rfl,hq2,hK1⟩
theorem ra (B:Nat) (w:World) (p:Option Addr) (a c d r:Tr) (z u x:Lf) (h:dY B w p (.node (.node a z (.node c u d)) x r)) (hs:(Tr.node (.node a z (.node c u d)) x r).size≤1000000000000) :
 Calls Tryz.prog 213 #[.pointer p] w (tV w (.node (.node a z c) u (.node d x r))):=by
 obtain ⟨g,pl,pr,rfl,hg,h0,hx,hl,hr⟩:=h;obtain ⟨c0,c1,c2,c3,c4,c5,_,_⟩:=gB h0;simp only [Tr.size] at hs;have j1:=fun w' (hk:aa [] w w')=>jA B w' pl c d a u z (hl.kept hk) (by simp only [Tr.size];omega);have j2:=fun w' q (hk:aa [] w w') (hq:dY w'.heap.size w' q (.node (.node a z c) u d))=>dG w'.heap.size w' q pr (.node (.node a z c) u d) r x hq (hr.kept hk).full (by simp only [Tr.size];omega) hx;have j3:=fun w' q (hq:dY w'.heap.size w' q (.node (.node (.node a z c) u d) x r))=>jz w'.heap.size w' q (.node a z c) d r u x hq (by simp only [Tr.size];omega);unfold jm at j2;clear h0 hs hx hg hl hr;go_enter Tryz.func213,Tryz.ntmps213;go_wp2_with fail
 go_region_held3 (fun w'=>w'.cell? ⟨g,0,none⟩=some (.string (ak x.p))∧w'.cell? ⟨g,1,none⟩=some (.int .u64 x.d)∧w'.cell? ⟨g,2,none⟩=some (.int .i64 x.r)∧w'.cell? ⟨g,3,none⟩=some (.bool x.g)∧w'.cell? ⟨g,4,none⟩=some (.pointer pl)∧w'.cell? ⟨g,5,none⟩=some (.pointer pr))
  (first | go_keep | exact ⟨hK1.cell c0 (by simp),hK1.cell c1 (by simp),hK1.cell c2 (by simp),hK1.cell c3 (by simp),hK1.cell c4 (by simp),hK1.cell c5 (by simp)⟩)
  (first
    | (go_at_call 216;refine (j1 _ ?_).mono ?_;exact (aa.refl _ _).drew;rintro e w1 ⟨q,rfl,hq,hK1⟩;replace hK1:aa [] w w1:=(aa.refl [] w).drew.trans hK1 (by simp))
    | (go_at_call 200;refine (j2 _ q ?_ ?_).mono ?_;exact hK1;exact hq;rintro e w2 ⟨q2,rfl,hq2,hK2⟩;replace hK1:=hK1.trans hK2 (by simp))
    | (go_at_call 214;refine (j3 _ q2 ?_).mono ?_;exact hq2;rintro e w3 ⟨q3,rfl,hq3,hK3⟩;replace hK1:=hK1.trans hK3 (by simp)))
 all_goals go_wp2
 all_goals go_ret
 all_goals exact ⟨_,rfl,hq3,hK1⟩
theorem sw (B:Nat) (w:World) (p:Option Addr) (l c d b:Tr) (x u z:Lf) (h:dY B w p (.node l x (.node (.node c u d) z b))) (hs:(Tr.node l x (.node (.node c u d) z b)).size≤1000000000000) :
 Calls Tryz.prog 215 #[.pointer p] w (tV w (.node (.node l x c) u (.node d z b))):=by
 obtain ⟨g,pl,pr,rfl,hg,h0,hx,hl,hr⟩:=h;obtain ⟨c0,c1,c2,c3,c4,c5,_,_⟩:=gB h0;simp only [Tr.size] at hs;have j1:=fun w' (hk:aa [] w w')=>jz B w' pr c d b u z (hr.kept hk) (by simp only [Tr.size];omega);have j2:=fun w' q (hk:aa [] w w') (hq:dY w'.heap.size w' q (.node c u (.node d z b)))=>dG w'.heap.size w' pl q l (.node c u (.node d z b)) x (hl.kept hk).full hq (by simp only [Tr.size];omega) hx;have j3:=fun w' q (hq:dY w'.heap.size w' q (.node l x (.node c u (.node d z b))))=>jA w'.heap.size w' q c (.node d z b) l u x hq (by simp only [Tr.size];omega);unfold jm at j2;clear h0 hs hx hg hl hr;go_enter Tryz.func215,Tryz.ntmps215;go_wp2_with fail
 go_region_held3 (fun w'=>w'.cell? ⟨g,0,none⟩=some (.string (ak x.p))∧w'.cell? ⟨g,1,none⟩=some (.int .u64 x.d)∧w'.cell? ⟨g,2,none⟩=some (.int .i64 x.r)∧w'.cell? ⟨g,3,none⟩=some (.bool x.g)∧w'.cell? ⟨g,4,none⟩=some (.pointer pl)∧w'.cell? ⟨g,5,none⟩=some (.pointer pr))
  (first | go_keep | exact ⟨hK1.cell c0 (by simp),hK1.cell c1 (by simp),hK1.cell c2 (by simp),hK1.cell c3 (by simp),hK1.cell c4 (by simp),hK1.cell c5 (by simp)⟩)
  (first
    | (go_at_call 214;refine (j1 _ ?_).mono ?_;exact (aa.refl _ _).drew;rintro e w1 ⟨q,rfl,hq,hK1⟩;replace hK1:aa [] w w1:=(aa.refl [] w).drew.trans hK1 (by simp))
    | (go_at_call 200;refine (j2 _ q ?_ ?_).mono ?_;exact hK1;exact hq;rintro e w2 ⟨q2,rfl,hq2,hK2⟩;replace hK1:=hK1.trans hK2 (by simp))
    | (go_at_call 216;refine (j3 _ q2 ?_).mono ?_;exact hq2;rintro e w3 ⟨q3,rfl,hq3,hK3⟩;replace hK1:=hK1.trans hK3 (by simp)))
 all_goals go_wp2
 all_goals go_ret
 all_goals exact ⟨_,rfl,hq3,hK1⟩
theorem wY (w:World) (p:Option Addr) :
 Calls Tryz.prog 211 #[.pointer p] w fun e w'=>e=.returned (.pointer p)∧w'=w:=by
 go_enter Tryz.func211,Tryz.ntmps211;go_wp2
 go_ret
 exact ⟨rfl,rfl⟩
theorem fV {S:List Nat}{a w:World}(h:aa S a w) (n:Nat):aa S a (w.drewN n):=⟨h.os,h.tape,h.output,h.size,h.block⟩
theorem nT (B:Nat) (w:World) (p:Option Addr) (l r:Tr) (x:Lf) (h:dY B w p (.node l x r)) (hs:(Tr.node l x r).size≤1000000000000) :
 Calls Tryz.prog 201 #[.pointer p] w (tV w (Tr.level (.node l x r))):=by
 have hh:=h;obtain ⟨g,pl,pr,rfl,hg,h0,hx,hl,hr⟩:=h;obtain ⟨_,_,_,_,c4,c5,_,_⟩:=gB h0;have LN:=kK B w _ l r x hh hs;have hLn:(Tr.node l x r).lean=(r.height:Int) - l.height:=rfl;clear h0;by_cases e1:(Tr.node l x r).lean < -1
 ·cases l with
  | nil=>simp only [Tr.height] at hLn;omega
  | node a z b =>
    have LL:=fun n=>kK B (w.drewN n) pl a b z (hl.drewN n) (by simp only [Tr.size] at hs ⊢;omega);have hL2:(Tr.node a z b).lean=(b.height:Int) - a.height:=rfl;by_cases e2:0 < (Tr.node a z b).lean
    ·cases b with
     | nil=>simp only [Tr.height] at hL2;omega
     | node c u d =>
       have ev:Tr.level (.node (.node a z (.node c u d)) x r)=.node (.node a z c) u (.node d x r):=by
        unfold Tr.level;rw [if_pos e1,if_pos (show 0 < (Tr.node (.node a z (.node c u d)) x r).left.lean from e2)];rfl
       rw [ev];have TT:=fun n=>ra B (w.drewN n) _ a c d r z u x (hh.drewN n) hs;clear hLn hL2 ev hl hr hx hg hs hh;generalize (Tr.node (.node a z (.node c u d)) x r).lean=L1 at *;generalize (Tr.node a z (.node c u d)).lean=L2 at *;go_enter Tryz.func201,Tryz.ntmps201;(go_wp2_with fail);refine LN.mono ?_;rintro e w' ⟨rfl,n1,rfl⟩;(go_wp2_with fail);refine (LL n1).mono ?_;rintro e w' ⟨rfl,n2,rfl⟩;(go_wp2_with fail);refine (TT _).mono ?_;rintro e w' ⟨q,rfl,hq,hK⟩;(go_wp2_with fail);go_ret
       exact ⟨q,rfl,hq,(fV (aa.refl _ _) _).trans hK (by simp)⟩
    ·have ev:Tr.level (.node (.node a z b) x r)=.node a z (.node b x r):=by
      unfold Tr.level;rw [if_pos e1,if_neg (show ¬ 0 < (Tr.node (.node a z b) x r).left.lean from e2)];rfl
     rw [ev];have TT:=fun n=>jz B (w.drewN n) _ a b r z x (hh.drewN n) hs;clear hLn hL2 ev hl hr hx hg hs hh;generalize (Tr.node (.node a z b) x r).lean=L1 at *;generalize (Tr.node a z b).lean=L2 at *;go_enter Tryz.func201,Tryz.ntmps201;(go_wp2_with fail);refine LN.mono ?_;rintro e w' ⟨rfl,n1,rfl⟩;(go_wp2_with fail);refine (LL n1).mono ?_;rintro e w' ⟨rfl,n2,rfl⟩;(go_wp2_with fail);refine (TT _).mono ?_;rintro e w' ⟨q,rfl,hq,hK⟩;(go_wp2_with fail);go_ret
     exact ⟨q,rfl,hq,(fV (aa.refl _ _) _).trans hK (by simp)⟩
 ·by_cases e2:1 < (Tr.node l x r).lean
  ·cases r with
   | nil=>simp only [Tr.height] at hLn;omega
   | node a z b =>
     have LL:=fun n=>kK B (w.drewN n) pr a b z (hr.drewN n) (by simp only [Tr.size] at hs ⊢;omega);have hL2:(Tr.node a z b).lean=(b.height:Int) - a.height:=rfl;by_cases e3:(Tr.node a z b).lean < 0
     ·cases a with
      | nil=>simp only [Tr.height] at hL2;omega
      | node c u d =>
        have ev:Tr.level (.node l x (.node (.node c u d) z b))=.node (.node l x c) u (.node d z b):=by
         unfold Tr.level;rw [if_neg e1,if_pos e2,if_pos (show (Tr.node l x (.node (.node c u d) z b)).right.lean < 0 from e3)];rfl
        rw [ev];have TT:=fun n=>sw B (w.drewN n) _ l c d b x u z (hh.drewN n) hs;clear hLn hL2 ev hl hr hx hg hs hh;generalize (Tr.node l x (.node (.node c u d) z b)).lean=L1 at *;generalize (Tr.node (.node c u d) z b).lean=L2 at *;go_enter Tryz.func201,Tryz.ntmps201;(go_wp2_with fail);refine LN.mono ?_;rintro e w' ⟨rfl,n1,rfl⟩;(go_wp2_with fail);refine (LL n1).mono ?_;rintro e w' ⟨rfl,n2,rfl⟩;(go_wp2_with fail);refine (TT _).mono ?_;rintro e w' ⟨q,rfl,hq,hK⟩;(go_wp2_with fail);go_ret
        exact ⟨q,rfl,hq,(fV (aa.refl _ _) _).trans hK (by simp)⟩
     ·have ev:Tr.level (.node l x (.node a z b))=.node (.node l x a) z b:=by
       unfold Tr.level;rw [if_neg e1,if_pos e2,if_neg (show ¬ (Tr.node l x (.node a z b)).right.lean < 0 from e3)];rfl
      rw [ev];have TT:=fun n=>jA B (w.drewN n) _ a b l z x (hh.drewN n) hs;clear hLn hL2 ev hl hr hx hg hs hh;generalize (Tr.node l x (.node a z b)).lean=L1 at *;generalize (Tr.node a z b).lean=L2 at *;go_enter Tryz.func201,Tryz.ntmps201;(go_wp2_with fail);refine LN.mono ?_;rintro e w' ⟨rfl,n1,rfl⟩;(go_wp2_with fail);refine (LL n1).mono ?_;rintro e w' ⟨rfl,n2,rfl⟩;(go_wp2_with fail);refine (TT _).mono ?_;rintro e w' ⟨q,rfl,hq,hK⟩;(go_wp2_with fail);go_ret
      exact ⟨q,rfl,hq,(fV (aa.refl _ _) _).trans hK (by simp)⟩
  ·have ev:Tr.level (.node l x r)=.node l x r:=by
    unfold Tr.level;rw [if_neg e1,if_neg e2]
   rw [ev];have HN:Hid (dY B w (some ⟨g,0,none⟩) (.node l x r)):=hh;clear hLn ev hl hr hx hg hs hh;generalize (Tr.node l x r).lean=L1 at *;go_enter Tryz.func201,Tryz.ntmps201;(go_wp2_with fail);refine LN.mono ?_;rintro e w' ⟨rfl,n1,rfl⟩;(go_wp2_with fail);refine (wY _ _).mono ?_;rintro e w' ⟨rfl,rfl⟩;(go_wp2_with fail);go_ret
   exact ⟨_,rfl,(HN.out.drewN n1).full,fV (aa.refl _ _) _⟩
def uy (t:Tr):Prop:=qe t.list∧t.bal
theorem yE:uy .nil:=⟨by unfold qe;simp [Tr.list],trivial⟩
theorem uy.put {t:Tr}(h:uy t) (x:Lf):uy (t.put x):=⟨AB x t h.1,(Bg x t h.2).1⟩
end Go.Proofs.YtgpnlidnbldiiaaGreat
