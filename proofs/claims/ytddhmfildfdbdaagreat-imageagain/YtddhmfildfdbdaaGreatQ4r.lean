/-
  Texts of this claim that are laid as one: TrNode, TrJoin, TrTurn, TrLevel, TrGood.
-/
import Derived.Test.YtddhmfildfdbdaaGreatQ1r
import Derived.Test.YtddhmfildfdbdaaGreatProg
import Derived.Deep.QuietTactic
import Derived.BigQuiet
import Derived.Deep.RegionHeld3
set_option maxHeartbeats 4000000
/-
 Nodes in memory: what they hold;size,height,lean by their contracts.
-/
namespace Go.Proofs.YtddhmfildfdbdaaGreat
open Go.RowKit
def lfV (x:Lf):Value:=.agg #[.string (str x.p),.int .u64 x.d,.int .i64 x.r,.bool x.g]
def NAt (B:Nat) (w:World):Option Addr→Tr→Prop
 | p,.nil=>p=none
 | p,.node l x r=>∃ (b:Nat) (pl pr:Option Addr),p=some ⟨b,0,none⟩∧b < B ∧
  w.heap[b]?=some (.cells #[.string (str x.p),.int .u64 x.d,.int .i64 x.r,.bool x.g,.pointer pl,.pointer pr,.int .i64 ((Tr.node l x r).size:Int),.int .i64 ((Tr.node l x r).height:Int)] 228 (0,0)) ∧
  x.p.length≤140737488355328∧NAt B w pl l∧NAt B w pr r
theorem NAt.same {B:Nat}{a w:World}(h:∀ k,k < B→k < a.heap.size→w.heap[k]?=a.heap[k]?):∀ {p:Option Addr}{t:Tr},NAt B a p t→NAt B w p t
 | _,.nil,ht=>ht
 | _,.node _ _ _,⟨b,pl,pr,hp,hb,h0,h1,hl,hr⟩=>⟨b,pl,pr,hp,hb,by rw [h b hb (lt_of_at h0),h0],h1,NAt.same h hl,NAt.same h hr⟩
theorem NAt.kept {B:Nat}{a w:World}(h:Kept [] a w) {p:Option Addr}{t:Tr}(ht:NAt B a p t):NAt B w p t :=
 ht.same fun k _ hk=>h.block k hk (by simp)
theorem NAt.mono {B C:Nat}{w:World}(hB:B≤C):∀ {p:Option Addr}{t:Tr},NAt B w p t→NAt C w p t
 | _,.nil,ht=>ht
 | _,.node _ _ _,⟨b,pl,pr,hp,hb,h0,h1,hl,hr⟩=>⟨b,pl,pr,hp,by omega,h0,h1,NAt.mono hB hl,NAt.mono hB hr⟩
theorem NAt.full {B:Nat}{w:World}:∀ {p:Option Addr}{t:Tr},NAt B w p t→NAt w.heap.size w p t
 | _,.nil,ht=>ht
 | _,.node _ _ _,⟨b,pl,pr,hp,_,h0,h1,hl,hr⟩=>⟨b,pl,pr,hp,lt_of_at h0,h0,h1,NAt.full hl,NAt.full hr⟩
theorem cell_in {w:World}{b k:Nat}{vs:Array Value}{t:TypeId}{v:Value}(h:w.heap[b]?=some (.cells vs t (0,0))) (hv:vs[k]?=some v):w.cell? ⟨b,k,none⟩=some v:=by
 simp [World.cell?,h,hv]
theorem cells8 {w:World}{b:Nat}{v0 v1 v2 v3 v4 v5 v6 v7:Value}{t:TypeId}(h:w.heap[b]?=some (.cells #[v0,v1,v2,v3,v4,v5,v6,v7] t (0,0))) :
 w.cell? ⟨b,0,none⟩=some v0∧w.cell? ⟨b,1,none⟩=some v1∧w.cell? ⟨b,2,none⟩=some v2∧w.cell? ⟨b,3,none⟩=some v3∧w.cell? ⟨b,4,none⟩=some v4∧w.cell? ⟨b,5,none⟩=some v5∧w.cell? ⟨b,6,none⟩=some v6∧w.cell? ⟨b,7,none⟩=some v7 :=
 ⟨cell_in h rfl,cell_in h rfl,cell_in h rfl,cell_in h rfl,cell_in h rfl,cell_in h rfl,cell_in h rfl,cell_in h rfl⟩
theorem cells4 {w:World}{b:Nat}{v0 v1 v2 v3:Value}{t:TypeId}(h:w.heap[b]?=some (.cells #[v0,v1,v2,v3] t (0,0))) :
 w.cell? ⟨b,0,none⟩=some v0∧w.cell? ⟨b,1,none⟩=some v1∧w.cell? ⟨b,2,none⟩=some v2∧w.cell? ⟨b,3,none⟩=some v3 :=
 ⟨cell_in h rfl,cell_in h rfl,cell_in h rfl,cell_in h rfl⟩
theorem size_call (B:Nat) (w:World) (p:Option Addr) (t:Tr) (h:NAt B w p t) :
 Calls Tryz.prog 204 #[.pointer p] w fun e w'=>e=.returned (.int .i64 (t.size:Int))∧w'=w:=by
 cases t with
 | nil =>
   obtain rfl:p=none:=h
   go_enter Tryz.func204,Tryz.ntmps204
   go_wp2
   go_ret
   exact ⟨rfl,rfl⟩
 | node l x r =>
   obtain ⟨b,pl,pr,rfl,hb,h0,h1,hl,hr⟩:=h
   have c6:=cell_in (k:=6) h0 rfl
   clear h0
   generalize ((Tr.node l x r).size:Int)=n at *
   go_enter Tryz.func204,Tryz.ntmps204
   go_wp2
   go_ret
   exact ⟨rfl,rfl⟩
theorem height_call (B:Nat) (w:World) (p:Option Addr) (t:Tr) (h:NAt B w p t) :
 Calls Tryz.prog 205 #[.pointer p] w fun e w'=>e=.returned (.int .i64 (t.height:Int))∧w'=w:=by
 cases t with
 | nil =>
   obtain rfl:p=none:=h
   go_enter Tryz.func205,Tryz.ntmps205
   go_wp2
   go_ret
   exact ⟨rfl,rfl⟩
 | node l x r =>
   obtain ⟨b,pl,pr,rfl,hb,h0,h1,hl,hr⟩:=h
   have c7:=cell_in (k:=7) h0 rfl
   clear h0
   generalize ((Tr.node l x r).height:Int)=n at *
   go_enter Tryz.func205,Tryz.ntmps205
   go_wp2
   go_ret
   exact ⟨rfl,rfl⟩
theorem quiet_n {P:Program}{f:FuncId}{args:Array Value}{w:World}{n:Nat}{v:Value}
 (h:Calls P f args (w.drewN n) fun e w'=>e=.returned v∧w'=w.drewN n):Calls P f args (w.drewN n) fun e w''=>e=.returned v∧∃ m,w''=w.drewN m :=
 h.mono fun _ _ ⟨he,hm⟩=>⟨he,n,hm⟩
theorem NAt.drewN {B:Nat}{w:World}{p:Option Addr}{t:Tr}(h:NAt B w p t) (n:Nat):NAt B (w.drewN n) p t:=NAt.same (a:=w) (w:=w.drewN n) (fun _ _ _=>rfl) h
theorem lean_call (B:Nat) (w:World) (p:Option Addr) (l r:Tr) (x:Lf) (h:NAt B w p (.node l x r)) (hs:(Tr.node l x r).size≤1000000000000) :
 Calls Tryz.prog 207 #[.pointer p] w fun e w'=>e=.returned (.int .i64 ((Tr.node l x r).lean))∧∃ n,w'=w.drewN n:=by
 obtain ⟨b,pl,pr,rfl,hb,h0,h1,hl,hr⟩:=h
 have c4:=cell_in (k:=4) h0 rfl
 have c5:=cell_in (k:=5) h0 rfl
 have hh1:=tr_height l
 have hh2:=tr_height r
 simp only [Tr.size] at hs
 have hLn:(Tr.node l x r).lean=(r.height:Int) - l.height:=rfl
 rw [hLn]
 have cl:=fun n=>height_call B _ pl l (hl.drewN n)
 have cr:=fun n=>height_call B _ pr r (hr.drewN n)
 have b1:(l.height:Int)≤1000000000000:=by omega
 have b2:(r.height:Int)≤1000000000000:=by omega
 have b3:(0:Int)≤l.height:=by omega
 have b4:(0:Int)≤r.height:=by omega
 clear h0 hl hr hLn hs hh1 hh2
 generalize (l.height:Int)=hl at *
 generalize (r.height:Int)=hr at *
 go_enter Tryz.func207,Tryz.ntmps207
 go_wp2_with fail
 go_quiet (first | (go_at_call_of 205 pr;exact quiet_n (cr _)) | (go_at_call_of 205 pl;exact quiet_n (cl _)))
 go_wp2
 go_ret
 exact ⟨rfl,_,rfl⟩
theorem joined {B:Nat}{w:World}{pl pr:Option Addr}{l r:Tr}{x:Lf}(o:Obj) {y z:Int}(hl:NAt B w pl l) (hr:NAt B w pr r) (hx:x.p.length≤140737488355328) (hy:((Tr.node l x r).size:Int)=y) (hz:((Tr.node l x r).height:Int)=z) :
 NAt ((w.alloc o).alloc (.cells #[.string (str x.p),.int .u64 x.d,.int .i64 x.r,.bool x.g,.pointer pl,.pointer pr,.int .i64 y,.int .i64 z] 228)).drew.heap.size ((w.alloc o).alloc (.cells #[.string (str x.p),.int .u64 x.d,.int .i64 x.r,.bool x.g,.pointer pl,.pointer pr,.int .i64 y,.int .i64 z] 228)).drew (some ⟨w.heap.size+1,0,none⟩) (.node l x r):=by
 subst hy;subst hz
 have hk:Kept [] w ((w.alloc o).alloc (.cells #[.string (str x.p),.int .u64 x.d,.int .i64 x.r,.bool x.g,.pointer pl,.pointer pr,.int .i64 ((Tr.node l x r).size:Int),.int .i64 ((Tr.node l x r).height:Int)] 228)).drew:=(((Kept.refl _ _).alloc _).alloc _).drew
 refine ⟨w.heap.size+1,pl,pr,rfl,by show _ < ((w.alloc _).alloc _).heap.size;simp,?_,hx,(hl.kept hk).full,(hr.kept hk).full⟩
 have:=heap_alloc_new (w.alloc o) (.cells #[.string (str x.p),.int .u64 x.d,.int .i64 x.r,.bool x.g,.pointer pl,.pointer pr,.int .i64 ((Tr.node l x r).size:Int),.int .i64 ((Tr.node l x r).height:Int)] 228)
 rw [World.size_alloc] at this
 exact this
set_option maxRecDepth 100000 in
theorem tjoin_call (B:Nat) (w:World) (pl pr:Option Addr) (l r:Tr) (x:Lf) (hl:NAt B w pl l) (hr:NAt B w pr r) (hs:l.size+r.size≤1000000000000) (hx:x.p.length≤140737488355328) :
 Calls Tryz.prog 194 #[.pointer pl,lfV x,.pointer pr] w fun e w'=>∃ b,e=.returned (.pointer (some ⟨b,0,none⟩))∧w.heap.size≤b∧NAt w'.heap.size w' (some ⟨b,0,none⟩) (.node l x r)∧Kept [] w w':=by
 have sl:=fun w' (hk:Kept [] w w')=>size_call B w' pl l (hl.kept hk)
 have sr:=fun w' (hk:Kept [] w w')=>size_call B w' pr r (hr.kept hk)
 have tl:=fun w' (hk:Kept [] w w')=>height_call B w' pl l (hl.kept hk)
 have tr:=fun w' (hk:Kept [] w w')=>height_call B w' pr r (hr.kept hk)
 have hh1:=tr_height l
 have hh2:=tr_height r
 have b1:(l.height:Int)≤1000000000000:=by omega
 have b2:(r.height:Int)≤1000000000000:=by omega
 have b3:(0:Int)≤l.height:=by omega
 have b4:(0:Int)≤r.height:=by omega
 have d1:(l.size:Int)≤1000000000000:=by omega
 have d2:(r.size:Int)≤1000000000000:=by omega
 have d3:(0:Int)≤l.size:=by omega
 have d4:(0:Int)≤r.size:=by omega
 have e1:((Tr.node l x r).size:Int)=(l.size:Int)+1+r.size:=by simp only [Tr.size];omega
 have e2:((Tr.node l x r).height:Int)=max (l.height:Int) r.height+1:=by simp only [Tr.height];omega
 have HS:Hid (((Tr.node l x r).size:Int)=(l.size:Int)+1+r.size∧((Tr.node l x r).height:Int)=max (l.height:Int) r.height+1):=⟨e1,e2⟩
 have HN:Hid (NAt B w pl l∧NAt B w pr r):=⟨hl,hr⟩
 clear hh1 hh2 hl hr e1 e2 hs
 generalize (l.height:Int)=zl at *
 generalize (r.height:Int)=zr at *
 generalize (l.size:Int)=yl at *
 generalize (r.size:Int)=yr at *
 unfold lfV
 go_enter Tryz.func194,Tryz.ntmps194
 go_wp2_with fail
 go_region_held3 (fun w'=>w'.cell? ⟨w.heap.size,0,none⟩=some (.string (str x.p))∧w'.cell? ⟨w.heap.size,1,none⟩=some (.int .u64 x.d)∧w'.cell? ⟨w.heap.size,2,none⟩=some (.int .i64 x.r)∧w'.cell? ⟨w.heap.size,3,none⟩=some (.bool x.g)) (go_keep)
  (first
    | (go_at_call_of 204 pl;refine (sl _ ?_).mono ?_;exact ((Kept.refl _ _).alloc _).drew;rintro e w' ⟨rfl,rfl⟩)
    | (go_at_call_of 204 pr;refine (sr _ ?_).mono ?_;exact ((Kept.refl _ _).alloc _).drew;rintro e w' ⟨rfl,rfl⟩)
    | (go_at_call_of 205 pl;refine (tl _ ?_).mono ?_;exact ((Kept.refl _ _).alloc _).drew;rintro e w' ⟨rfl,rfl⟩)
    | (go_at_call_of 205 pr;refine (tr _ ?_).mono ?_;exact ((Kept.refl _ _).alloc _).drew;rintro e w' ⟨rfl,rfl⟩))
 all_goals go_wp2
 all_goals go_ret
 all_goals
  refine ⟨_,rfl,Nat.le_succ _,joined _ HN.out.1 HN.out.2 hx ?_ ?_,(((Kept.refl _ _).alloc _).alloc _).drew⟩
  ·rw [HS.out.1,IntWalk.i64_in (yl+1) (by omega),IntWalk.i64_in (yl+1+yr) (by omega)]
  ·first | rw [HS.out.2,IntWalk.i64_in (zr+1) (by omega)] | rw [HS.out.2,IntWalk.i64_in (zl+1) (by omega)]
   omega
def Made (w:World) (t:Tr) (e:Ending) (w':World):Prop:=∃ p,e=.returned (.pointer p)∧NAt w'.heap.size w' p t∧Kept [] w w'
theorem join_made (B:Nat) (w:World) (pl pr:Option Addr) (l r:Tr) (x:Lf) (hl:NAt B w pl l) (hr:NAt B w pr r) (hs:l.size+r.size≤1000000000000) (hx:x.p.length≤140737488355328) :
 Calls Tryz.prog 194 #[.pointer pl,lfV x,.pointer pr] w (Made w (.node l x r)) :=
 (tjoin_call B w pl pr l r x hl hr hs hx).mono fun _ _ ⟨_,he,_,hN,hK⟩=>⟨_,he,hN,hK⟩
set_option maxRecDepth 100000 in
theorem turnR_call (B:Nat) (w:World) (p:Option Addr) (a b r:Tr) (y x:Lf) (h:NAt B w p (.node (.node a y b) x r)) (hs:(Tr.size (.node (.node a y b) x r))≤1000000000000) :
 Calls Tryz.prog 209 #[.pointer p] w (Made w (.node a y (.node b x r))):=by
 obtain ⟨g,pl,pr,rfl,hg,h0,hx,hl,hr⟩:=h
 obtain ⟨u,pa,pb,rfl,hu,k0,hy,ha,hb⟩:=hl
 obtain ⟨c0,c1,c2,c3,c4,c5,_,_⟩:=cells8 h0
 obtain ⟨d0,d1,d2,d3,d4,d5,_,_⟩:=cells8 k0
 simp only [Tr.size] at hs
 have j1:=fun w' (hk:Kept [] w w')=>join_made B w' pb pr b r x (hb.kept hk) (hr.kept hk) (by omega) hx
 have j2:=fun w' q (hk:Kept [] w w') (hq:NAt w'.heap.size w' q (.node b x r))=>join_made w'.heap.size w' pa q a (.node b x r) y (ha.kept hk).full hq (by simp only [Tr.size];omega) hy
 unfold lfV at j1 j2
 clear h0 k0 ha hb hs hx hy hg hu
 go_enter Tryz.func209,Tryz.ntmps209
 go_wp2_with fail
 go_region_held3 (fun w'=>w'.cell? ⟨g,0,none⟩=some (.string (str x.p))∧w'.cell? ⟨g,1,none⟩=some (.int .u64 x.d)∧w'.cell? ⟨g,2,none⟩=some (.int .i64 x.r)∧w'.cell? ⟨g,3,none⟩=some (.bool x.g)∧w'.cell? ⟨g,4,none⟩=some (.pointer (some ⟨u,0,none⟩))∧w'.cell? ⟨g,5,none⟩=some (.pointer pr)∧w'.cell? ⟨u,0,none⟩=some (.string (str y.p))∧w'.cell? ⟨u,1,none⟩=some (.int .u64 y.d)∧w'.cell? ⟨u,2,none⟩=some (.int .i64 y.r)∧w'.cell? ⟨u,3,none⟩=some (.bool y.g)∧w'.cell? ⟨u,4,none⟩=some (.pointer pa)∧w'.cell? ⟨u,5,none⟩=some (.pointer pb))
  (first | go_keep | exact ⟨hK1.cell c0 (by simp),hK1.cell c1 (by simp),hK1.cell c2 (by simp),hK1.cell c3 (by simp),hK1.cell c4 (by simp),hK1.cell c5 (by simp),hK1.cell d0 (by simp),hK1.cell d1 (by simp),hK1.cell d2 (by simp),hK1.cell d3 (by simp),hK1.cell d4 (by simp),hK1.cell d5 (by simp)⟩)
  (first
    | (go_at_call_of 194 pb;refine (j1 _ ?_).mono ?_;exact (Kept.refl _ _).drew;rintro e w1 ⟨q,rfl,hq,hK1⟩;replace hK1:Kept [] w w1:=(Kept.refl [] w).drew.trans hK1 (by simp))
    | (go_at_call_of 194 pa;refine (j2 _ q ?_ ?_).mono ?_;exact hK1;exact hq;rintro e w2 ⟨q2,rfl,hq2,hK2⟩;replace hK1:=hK1.trans hK2 (by simp)))
 all_goals go_wp2
 all_goals go_ret
 all_goals exact ⟨_,rfl,hq2,hK1⟩
set_option maxRecDepth 100000 in
theorem turnL_call (B:Nat) (w:World) (p:Option Addr) (a b r:Tr) (y x:Lf) (h:NAt B w p (.node r x (.node a y b))) (hs:(Tr.size (.node r x (.node a y b)))≤1000000000000) :
 Calls Tryz.prog 211 #[.pointer p] w (Made w (.node (.node r x a) y b)):=by
 obtain ⟨g,pl,pr,rfl,hg,h0,hx,hl,hr⟩:=h
 obtain ⟨u,pa,pb,rfl,hu,k0,hy,ha,hb⟩:=hr
 obtain ⟨c0,c1,c2,c3,c4,c5,_,_⟩:=cells8 h0
 obtain ⟨d0,d1,d2,d3,d4,d5,_,_⟩:=cells8 k0
 simp only [Tr.size] at hs
 have j1:=fun w' (hk:Kept [] w w')=>join_made B w' pl pa r a x (hl.kept hk) (ha.kept hk) (by omega) hx
 have j2:=fun w' q (hk:Kept [] w w') (hq:NAt w'.heap.size w' q (.node r x a))=>join_made w'.heap.size w' q pb (.node r x a) b y hq (hb.kept hk).full (by simp only [Tr.size];omega) hy
 unfold lfV at j1 j2
 clear h0 k0 ha hb hs hx hy hg hu
 go_enter Tryz.func211,Tryz.ntmps211
 go_wp2_with fail
 go_region_held3 (fun w'=>w'.cell? ⟨g,0,none⟩=some (.string (str x.p))∧w'.cell? ⟨g,1,none⟩=some (.int .u64 x.d)∧w'.cell? ⟨g,2,none⟩=some (.int .i64 x.r)∧w'.cell? ⟨g,3,none⟩=some (.bool x.g)∧w'.cell? ⟨g,4,none⟩=some (.pointer pl)∧w'.cell? ⟨g,5,none⟩=some (.pointer (some ⟨u,0,none⟩))∧w'.cell? ⟨u,0,none⟩=some (.string (str y.p))∧w'.cell? ⟨u,1,none⟩=some (.int .u64 y.d)∧w'.cell? ⟨u,2,none⟩=some (.int .i64 y.r)∧w'.cell? ⟨u,3,none⟩=some (.bool y.g)∧w'.cell? ⟨u,4,none⟩=some (.pointer pa)∧w'.cell? ⟨u,5,none⟩=some (.pointer pb))
  (first | go_keep | exact ⟨hK1.cell c0 (by simp),hK1.cell c1 (by simp),hK1.cell c2 (by simp),hK1.cell c3 (by simp),hK1.cell c4 (by simp),hK1.cell c5 (by simp),hK1.cell d0 (by simp),hK1.cell d1 (by simp),hK1.cell d2 (by simp),hK1.cell d3 (by simp),hK1.cell d4 (by simp),hK1.cell d5 (by simp)⟩)
  (first
    | (go_at_call_of 194 pa;refine (j1 _ ?_).mono ?_;exact (Kept.refl _ _).drew;rintro e w1 ⟨q,rfl,hq,hK1⟩;replace hK1:Kept [] w w1:=(Kept.refl [] w).drew.trans hK1 (by simp))
    | (go_at_call_of 194 pb;refine (j2 _ q ?_ ?_).mono ?_;exact hK1;exact hq;rintro e w2 ⟨q2,rfl,hq2,hK2⟩;replace hK1:=hK1.trans hK2 (by simp)))
 all_goals go_wp2
 all_goals go_ret
 all_goals exact ⟨_,rfl,hq2,hK1⟩
set_option maxRecDepth 100000 in
theorem turnRR_call (B:Nat) (w:World) (p:Option Addr) (a c d r:Tr) (z u x:Lf) (h:NAt B w p (.node (.node a z (.node c u d)) x r)) (hs:(Tr.node (.node a z (.node c u d)) x r).size≤1000000000000) :
 Calls Tryz.prog 208 #[.pointer p] w (Made w (.node (.node a z c) u (.node d x r))):=by
 obtain ⟨g,pl,pr,rfl,hg,h0,hx,hl,hr⟩:=h
 obtain ⟨c0,c1,c2,c3,c4,c5,_,_⟩:=cells8 h0
 simp only [Tr.size] at hs
 have j1:=fun w' (hk:Kept [] w w')=>turnL_call B w' pl c d a u z (hl.kept hk) (by simp only [Tr.size];omega)
 have j2:=fun w' q (hk:Kept [] w w') (hq:NAt w'.heap.size w' q (.node (.node a z c) u d))=>join_made w'.heap.size w' q pr (.node (.node a z c) u d) r x hq (hr.kept hk).full (by simp only [Tr.size];omega) hx
 have j3:=fun w' q (hq:NAt w'.heap.size w' q (.node (.node (.node a z c) u d) x r))=>turnR_call w'.heap.size w' q (.node a z c) d r u x hq (by simp only [Tr.size];omega)
 unfold lfV at j2
 clear h0 hs hx hg hl hr
 go_enter Tryz.func208,Tryz.ntmps208
 go_wp2_with fail
 go_region_held3 (fun w'=>w'.cell? ⟨g,0,none⟩=some (.string (str x.p))∧w'.cell? ⟨g,1,none⟩=some (.int .u64 x.d)∧w'.cell? ⟨g,2,none⟩=some (.int .i64 x.r)∧w'.cell? ⟨g,3,none⟩=some (.bool x.g)∧w'.cell? ⟨g,4,none⟩=some (.pointer pl)∧w'.cell? ⟨g,5,none⟩=some (.pointer pr))
  (first | go_keep | exact ⟨hK1.cell c0 (by simp),hK1.cell c1 (by simp),hK1.cell c2 (by simp),hK1.cell c3 (by simp),hK1.cell c4 (by simp),hK1.cell c5 (by simp)⟩)
  (first
    | (go_at_call 211;refine (j1 _ ?_).mono ?_;exact (Kept.refl _ _).drew;rintro e w1 ⟨q,rfl,hq,hK1⟩;replace hK1:Kept [] w w1:=(Kept.refl [] w).drew.trans hK1 (by simp))
    | (go_at_call 194;refine (j2 _ q ?_ ?_).mono ?_;exact hK1;exact hq;rintro e w2 ⟨q2,rfl,hq2,hK2⟩;replace hK1:=hK1.trans hK2 (by simp))
    | (go_at_call 209;refine (j3 _ q2 ?_).mono ?_;exact hq2;rintro e w3 ⟨q3,rfl,hq3,hK3⟩;replace hK1:=hK1.trans hK3 (by simp)))
 all_goals go_wp2
 all_goals go_ret
 all_goals exact ⟨_,rfl,hq3,hK1⟩
set_option maxRecDepth 100000 in
theorem turnLL_call (B:Nat) (w:World) (p:Option Addr) (l c d b:Tr) (x u z:Lf) (h:NAt B w p (.node l x (.node (.node c u d) z b))) (hs:(Tr.node l x (.node (.node c u d) z b)).size≤1000000000000) :
 Calls Tryz.prog 210 #[.pointer p] w (Made w (.node (.node l x c) u (.node d z b))):=by
 obtain ⟨g,pl,pr,rfl,hg,h0,hx,hl,hr⟩:=h
 obtain ⟨c0,c1,c2,c3,c4,c5,_,_⟩:=cells8 h0
 simp only [Tr.size] at hs
 have j1:=fun w' (hk:Kept [] w w')=>turnR_call B w' pr c d b u z (hr.kept hk) (by simp only [Tr.size];omega)
 have j2:=fun w' q (hk:Kept [] w w') (hq:NAt w'.heap.size w' q (.node c u (.node d z b)))=>join_made w'.heap.size w' pl q l (.node c u (.node d z b)) x (hl.kept hk).full hq (by simp only [Tr.size];omega) hx
 have j3:=fun w' q (hq:NAt w'.heap.size w' q (.node l x (.node c u (.node d z b))))=>turnL_call w'.heap.size w' q c (.node d z b) l u x hq (by simp only [Tr.size];omega)
 unfold lfV at j2
 clear h0 hs hx hg hl hr
 go_enter Tryz.func210,Tryz.ntmps210
 go_wp2_with fail
 go_region_held3 (fun w'=>w'.cell? ⟨g,0,none⟩=some (.string (str x.p))∧w'.cell? ⟨g,1,none⟩=some (.int .u64 x.d)∧w'.cell? ⟨g,2,none⟩=some (.int .i64 x.r)∧w'.cell? ⟨g,3,none⟩=some (.bool x.g)∧w'.cell? ⟨g,4,none⟩=some (.pointer pl)∧w'.cell? ⟨g,5,none⟩=some (.pointer pr))
  (first | go_keep | exact ⟨hK1.cell c0 (by simp),hK1.cell c1 (by simp),hK1.cell c2 (by simp),hK1.cell c3 (by simp),hK1.cell c4 (by simp),hK1.cell c5 (by simp)⟩)
  (first
    | (go_at_call 209;refine (j1 _ ?_).mono ?_;exact (Kept.refl _ _).drew;rintro e w1 ⟨q,rfl,hq,hK1⟩;replace hK1:Kept [] w w1:=(Kept.refl [] w).drew.trans hK1 (by simp))
    | (go_at_call 194;refine (j2 _ q ?_ ?_).mono ?_;exact hK1;exact hq;rintro e w2 ⟨q2,rfl,hq2,hK2⟩;replace hK1:=hK1.trans hK2 (by simp))
    | (go_at_call 211;refine (j3 _ q2 ?_).mono ?_;exact hq2;rintro e w3 ⟨q3,rfl,hq3,hK3⟩;replace hK1:=hK1.trans hK3 (by simp)))
 all_goals go_wp2
 all_goals go_ret
 all_goals exact ⟨_,rfl,hq3,hK1⟩
theorem stay_call (w:World) (p:Option Addr) :
 Calls Tryz.prog 206 #[.pointer p] w fun e w'=>e=.returned (.pointer p)∧w'=w:=by
 go_enter Tryz.func206,Tryz.ntmps206
 go_wp2
 go_ret
 exact ⟨rfl,rfl⟩
theorem kept_drewN {S:List Nat}{a w:World}(h:Kept S a w) (n:Nat):Kept S a (w.drewN n):=⟨h.os,h.tape,h.output,h.size,h.block⟩
set_option maxRecDepth 100000 in
theorem level_call (B:Nat) (w:World) (p:Option Addr) (l r:Tr) (x:Lf) (h:NAt B w p (.node l x r)) (hs:(Tr.node l x r).size≤1000000000000) :
 Calls Tryz.prog 195 #[.pointer p] w (Made w (Tr.level (.node l x r))):=by
 have hh:=h
 obtain ⟨g,pl,pr,rfl,hg,h0,hx,hl,hr⟩:=h
 obtain ⟨_,_,_,_,c4,c5,_,_⟩:=cells8 h0
 have LN:=lean_call B w _ l r x hh hs
 have hLn:(Tr.node l x r).lean=(r.height:Int) - l.height:=rfl
 clear h0
 by_cases e1:(Tr.node l x r).lean < -1
 ·cases l with
  | nil=>simp only [Tr.height] at hLn;omega
  | node a z b =>
    have LL:=fun n=>lean_call B (w.drewN n) pl a b z (hl.drewN n) (by simp only [Tr.size] at hs ⊢;omega)
    have hL2:(Tr.node a z b).lean=(b.height:Int) - a.height:=rfl
    by_cases e2:0 < (Tr.node a z b).lean
    ·cases b with
     | nil=>simp only [Tr.height] at hL2;omega
     | node c u d =>
       have ev:Tr.level (.node (.node a z (.node c u d)) x r)=.node (.node a z c) u (.node d x r):=by
        unfold Tr.level;rw [if_pos e1,if_pos (show 0 < (Tr.node (.node a z (.node c u d)) x r).left.lean from e2)];rfl
       rw [ev]
       have TT:=fun n=>turnRR_call B (w.drewN n) _ a c d r z u x (hh.drewN n) hs
       clear hLn hL2 ev hl hr hx hg hs hh
       generalize (Tr.node (.node a z (.node c u d)) x r).lean=L1 at *
       generalize (Tr.node a z (.node c u d)).lean=L2 at *
       go_enter Tryz.func195,Tryz.ntmps195
       go_wp2_with fail
       refine LN.mono ?_
       rintro e w' ⟨rfl,n1,rfl⟩
       go_wp2_with fail
       refine (LL n1).mono ?_
       rintro e w' ⟨rfl,n2,rfl⟩
       go_wp2_with fail
       refine (TT _).mono ?_
       rintro e w' ⟨q,rfl,hq,hK⟩
       go_wp2_with fail
       go_ret
       exact ⟨q,rfl,hq,(kept_drewN (Kept.refl _ _) _).trans hK (by simp)⟩
    ·have ev:Tr.level (.node (.node a z b) x r)=.node a z (.node b x r):=by
      unfold Tr.level;rw [if_pos e1,if_neg (show ¬ 0 < (Tr.node (.node a z b) x r).left.lean from e2)];rfl
     rw [ev]
     have TT:=fun n=>turnR_call B (w.drewN n) _ a b r z x (hh.drewN n) hs
     clear hLn hL2 ev hl hr hx hg hs hh
     generalize (Tr.node (.node a z b) x r).lean=L1 at *
     generalize (Tr.node a z b).lean=L2 at *
     go_enter Tryz.func195,Tryz.ntmps195
     go_wp2_with fail
     refine LN.mono ?_
     rintro e w' ⟨rfl,n1,rfl⟩
     go_wp2_with fail
     refine (LL n1).mono ?_
     rintro e w' ⟨rfl,n2,rfl⟩
     go_wp2_with fail
     refine (TT _).mono ?_
     rintro e w' ⟨q,rfl,hq,hK⟩
     go_wp2_with fail
     go_ret
     exact ⟨q,rfl,hq,(kept_drewN (Kept.refl _ _) _).trans hK (by simp)⟩
 ·by_cases e2:1 < (Tr.node l x r).lean
  ·cases r with
   | nil=>simp only [Tr.height] at hLn;omega
   | node a z b =>
     have LL:=fun n=>lean_call B (w.drewN n) pr a b z (hr.drewN n) (by simp only [Tr.size] at hs ⊢;omega)
     have hL2:(Tr.node a z b).lean=(b.height:Int) - a.height:=rfl
     by_cases e3:(Tr.node a z b).lean < 0
     ·cases a with
      | nil=>simp only [Tr.height] at hL2;omega
      | node c u d =>
        have ev:Tr.level (.node l x (.node (.node c u d) z b))=.node (.node l x c) u (.node d z b):=by
         unfold Tr.level;rw [if_neg e1,if_pos e2,if_pos (show (Tr.node l x (.node (.node c u d) z b)).right.lean < 0 from e3)];rfl
        rw [ev]
        have TT:=fun n=>turnLL_call B (w.drewN n) _ l c d b x u z (hh.drewN n) hs
        clear hLn hL2 ev hl hr hx hg hs hh
        generalize (Tr.node l x (.node (.node c u d) z b)).lean=L1 at *
        generalize (Tr.node (.node c u d) z b).lean=L2 at *
        go_enter Tryz.func195,Tryz.ntmps195
        go_wp2_with fail
        refine LN.mono ?_
        rintro e w' ⟨rfl,n1,rfl⟩
        go_wp2_with fail
        refine (LL n1).mono ?_
        rintro e w' ⟨rfl,n2,rfl⟩
        go_wp2_with fail
        refine (TT _).mono ?_
        rintro e w' ⟨q,rfl,hq,hK⟩
        go_wp2_with fail
        go_ret
        exact ⟨q,rfl,hq,(kept_drewN (Kept.refl _ _) _).trans hK (by simp)⟩
     ·have ev:Tr.level (.node l x (.node a z b))=.node (.node l x a) z b:=by
       unfold Tr.level;rw [if_neg e1,if_pos e2,if_neg (show ¬ (Tr.node l x (.node a z b)).right.lean < 0 from e3)];rfl
      rw [ev]
      have TT:=fun n=>turnL_call B (w.drewN n) _ a b l z x (hh.drewN n) hs
      clear hLn hL2 ev hl hr hx hg hs hh
      generalize (Tr.node l x (.node a z b)).lean=L1 at *
      generalize (Tr.node a z b).lean=L2 at *
      go_enter Tryz.func195,Tryz.ntmps195
      go_wp2_with fail
      refine LN.mono ?_
      rintro e w' ⟨rfl,n1,rfl⟩
      go_wp2_with fail
      refine (LL n1).mono ?_
      rintro e w' ⟨rfl,n2,rfl⟩
      go_wp2_with fail
      refine (TT _).mono ?_
      rintro e w' ⟨q,rfl,hq,hK⟩
      go_wp2_with fail
      go_ret
      exact ⟨q,rfl,hq,(kept_drewN (Kept.refl _ _) _).trans hK (by simp)⟩
  ·have ev:Tr.level (.node l x r)=.node l x r:=by
    unfold Tr.level;rw [if_neg e1,if_neg e2]
   rw [ev]
   have HN:Hid (NAt B w (some ⟨g,0,none⟩) (.node l x r)):=hh
   clear hLn ev hl hr hx hg hs hh
   generalize (Tr.node l x r).lean=L1 at *
   go_enter Tryz.func195,Tryz.ntmps195
   go_wp2_with fail
   refine LN.mono ?_
   rintro e w' ⟨rfl,n1,rfl⟩
   go_wp2_with fail
   refine (stay_call _ _).mono ?_
   rintro e w' ⟨rfl,rfl⟩
   go_wp2_with fail
   go_ret
   exact ⟨_,rfl,(HN.out.drewN n1).full,kept_drewN (Kept.refl _ _) _⟩
def Good (t:Tr):Prop:=Srt t.list∧t.bal
theorem good_nil:Good .nil:=⟨by unfold Srt;simp [Tr.list],trivial⟩
theorem Good.put {t:Tr}(h:Good t) (x:Lf):Good (t.put x):=⟨put_srt x t h.1,(put_bal x t h.2).1⟩
end Go.Proofs.YtddhmfildfdbdaaGreat
