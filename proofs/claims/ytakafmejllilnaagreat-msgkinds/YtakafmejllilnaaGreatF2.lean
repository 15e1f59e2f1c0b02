/-
  Texts of this claim that are laid as one: MemG, BoxG, ChMem, ChApp, CoMem, RqMem, VtMem, RegG.
-/
import Derived.Test.YtakafmejllilnaaGreatF1
import Derived.Test.YtakafmejllilnaaGreatProg
import Derived.Deep.AppendLies
import Derived.Deep.Draws
import Derived.Laws.OwnMore
import Derived.Deep.QuietTactic
import Derived.BigQuiet
import Derived.Deep.RegionHeld3
import Derived.Handy
import Derived.Deep.MidRow
import Derived.Deep.WholeRow
import Derived.Laws.Rows
import Derived.Laws.ResultCell
import Derived.Deep.CutRange
import Derived.Laws.AppendOwn
import Derived.OwnWalk
import Derived.WalkSmall
/-
 Memory: what stays and what turns;over any program.
-/
namespace Go.Proofs.YtakafmejllilnaaGreat
open Go.RowKit
theorem hide {p:Prop}(h:p):Hid p:=h
theorem adr_addC (b o i:Nat):(⟨b,o,none⟩:Addr).add i=⟨b,o+i,none⟩:=by
 by_cases h:i=0 <;> simp [Addr.add,h]
theorem cell_inC {w:World}{b k:Nat}{vs:Array Value}{t:TypeId}{v:Value}(h:w.heap[b]?=some (.cells vs t (0,0))) (hv:vs[k]?=some v):w.cell? ⟨b,k,none⟩=some v:=by
 simp [World.cell?,h,hv]
theorem drewN_kept (w:World) (n:Nat):Kept [] w (w.drewN n):=⟨rfl,rfl,rfl,Nat.le_refl _,fun _ _ _=>rfl⟩
def Typed (w:World) (S:List Nat) (Ts:List TypeId):Prop:=∀ k∈S,∀ cur t mk,w.heap[k]?=some (.cells cur t mk)→t∈Ts
theorem typed_nil (w:World) (Ts:List TypeId):Typed w [] Ts:=fun _ h=>by cases h
theorem Kept.typed {S:List Nat}{Ts:List TypeId}{w w':World}(hk:Kept S w w') (hT:Typed w S Ts) {k:Nat}{cur:Array Value}{t:TypeId}{mk:Nat × Nat}(h:w.heap[k]?=some (.cells cur t mk)) (ht:t ∉ Ts):w'.heap[k]?=some (.cells cur t mk) :=
 hk.at h fun hm=>ht (hT k hm _ _ _ h)
theorem row_typed {S:List Nat}{Ts:List TypeId}{w w':World}(hk:Kept S w w') (hT:Typed w S Ts) {B e size n:Nat}{v:Value}{xs:List Value}(h:w.ownsRow B e size v n xs) (ht:e ∉ Ts):w'.ownsRow B e size v n xs:=by
 refine hk.ownsRow h fun k hv hm=>?_
 obtain ⟨_,h2⟩:=h
 rcases h2 with ⟨rfl,_⟩ | ⟨g,cap,cur,rfl,_,hh,_⟩
 ·cases hv
 ·cases hv;exact ht (hT _ hm _ _ _ hh)
theorem mem_own {v:Value}{k:Nat}:k∈v.ownBlock.toList↔v.ownBlock=some k:=by
 cases v.ownBlock <;> simp [eq_comm]
theorem row_block {w:World}{B e size n:Nat}{v:Value}{xs:List Value}(h:w.ownsRow B e size v n xs) {k:Nat}(hk:v.ownBlock=some k):∃ cur,w.heap[k]?=some (.cells cur e (0,0)):=by
 obtain ⟨_,h2⟩:=h
 rcases h2 with ⟨rfl,_⟩ | ⟨g,cap,cur,rfl,_,hh,_⟩
 ·cases hk
 ·cases hk;exact ⟨cur,hh⟩
theorem froz3 {w:World}{b:Nat}{vs:Array Value}{t:TypeId}(h:w.heap[b]?=some (.cells vs t (0,0))) (j:Nat):w.frozen? ⟨b,j,none⟩=false:=by
 simp [World.frozen?,h]
theorem row_mono {w:World}{B B' e size n:Nat}{v:Value}{xs:List Value}(h:w.ownsRow B e size v n xs) (hB:B'≤B):w.ownsRow B' e size v n xs:=by
 obtain ⟨h1,h2⟩:=h
 refine ⟨h1,?_⟩
 rcases h2 with h2 | ⟨g,cap,cur,hv,hg,r⟩
 ·exact .inl h2
 ·exact .inr ⟨g,cap,cur,hv,Nat.le_trans hB hg,r⟩
theorem lay2 (w:World) (a b:Array Value) (t:TypeId):((w.alloc (.cells a t)).alloc (.cells b t)).heap[w.heap.size]?=some (.cells a t (0,0))∧((w.alloc (.cells a t)).alloc (.cells b t)).heap[w.heap.size+1]?=some (.cells b t (0,0)):=by
 refine ⟨(Below.heap_alloc _ _ _ (by simp)).trans (heap_alloc_new w _),?_⟩
 have:=heap_alloc_new (w.alloc (.cells a t)) (.cells b t)
 rw [World.size_alloc] at this
 exact this
theorem typed2 {w:World}{b c:Nat}{t:TypeId}{x y:Array Value}(hb:w.heap[b]?=some (.cells x t (0,0))) (hc:w.heap[c]?=some (.cells y t (0,0))):Typed w [b,c] [t]:=fun k hk cur t' mk hh=>by
 simp at hk
 rcases hk with rfl | rfl
 ·rw [hb] at hh;cases hh;simp
 ·rw [hc] at hh;cases hh;simp
theorem setCells_block (b:Nat):∀ (vs:List Value) (o:Nat) (w:World) (k:Nat),k≠b→(w.setCells b o vs).heap[k]?=w.heap[k]?
 | [],_,_,_,_=>rfl
 | v :: r,o,w,k,h=>by
   rw [World.setCells,setCells_block b r (o+1) _ k h,heap_setCell_other _ _ _ _ h]
theorem setCells_row (b:Nat):∀ (vs pre old post:List Value) (w:World) (t:TypeId),w.heap[b]?=some (.cells (pre++old++post).toArray t (0,0))→old.length=vs.length →
 (w.setCells b pre.length vs).heap[b]?=some (.cells (pre++vs++post).toArray t (0,0))
 | [],pre,old,post,w,t,h,hl=>by
   obtain rfl:=List.eq_nil_of_length_eq_zero (by simpa using hl)
   simpa [World.setCells] using h
 | v :: r,pre,[],post,w,t,h,hl=>by simp at hl
 | v :: r,pre,x :: old,post,w,t,h,hl=>by
   have h1:=heap_setCell_same w b pre.length _ _ v h
   have h2:=setCells_row b r (pre++[v]) old post (w.setCell ⟨b,pre.length,none⟩ v) t (by
    rw [h1]
    congr 2
    apply Array.ext'
    rw [Array.toList_setIfInBounds]
    simp) (by simpa using hl)
   rw [World.setCells]
   simpa using h2
theorem setCells_kept {S:List Nat}{a:World}{b:Nat}(hb:b∈S∨a.heap.size≤b):∀ (l:List Value) (k:Nat) {w:World},Kept S a w→Kept S a (w.setCells b k l)
 | [],_,_,h=>h
 | u :: l,k,w,h=>by rw [World.setCells];exact setCells_kept hb l (k+1) (h.setCell hb u)
def Bx (w:World) (b:Nat) (T:TypeId) (cs:List Value):Prop:=w.heap[b]?=some (.cells cs.toArray T (0,0))
theorem Bx.kept {S:List Nat}{a w:World}{b:Nat}{T:TypeId}{cs:List Value}(h:Bx a b T cs) (k:Kept S a w) (hb:b ∉ S):Bx w b T cs:=k.at h hb
theorem Bx.lt {w:World}{b:Nat}{T:TypeId}{cs:List Value}(h:Bx w b T cs):b < w.heap.size:=lt_of_at h
theorem Bx.cell {w:World}{b:Nat}{T:TypeId}{cs:List Value}(h:Bx w b T cs) (j:Nat) {v:Value}(hv:cs[j]?=some v):w.cell? ⟨b,j,none⟩=some v:=cell_inC h (by simpa using hv)
theorem Bx.froz {w:World}{b:Nat}{T:TypeId}{cs:List Value}(h:Bx w b T cs) (j:Nat):w.frozen? ⟨b,j,none⟩=false:=froz3 h j
theorem Bx.new (w:World) (T:TypeId) (cs:List Value):Bx (w.alloc (.cells cs.toArray T)) w.heap.size T cs:=heap_alloc_new w _
theorem Bx.range {w:World}{b:Nat}{T:TypeId}{cs:List Value}(h:Bx w b T cs):w.rangeAt b 0 cs:=fun j v hv=>by
 rw [Nat.zero_add];exact h.cell j hv
theorem Bx.set {w:World}{b:Nat}{T:TypeId}{cs:List Value}(h:Bx w b T cs) (j:Nat) (v:Value):Bx (w.setCell ⟨b,j,none⟩ v) b T (cs.set j v):=by
 have h1:=heap_setCell_same w b j _ _ v h
 unfold Bx
 rw [h1]
 congr 2
 apply Array.ext'
 rw [Array.toList_setIfInBounds]
theorem Bx.store {w:World}{b:Nat}{T:TypeId}{cs:List Value}(h:Bx w b T cs) {ds:List Value}(hl:ds.length=cs.length):Bx (w.setCells b 0 ds) b T ds:=by
 have h1:=setCells_row b ds [] cs [] w _ (by simpa [Bx] using h) hl.symm
 simpa [Bx] using h1
theorem Bx.there {w:World}{b:Nat}{T:TypeId}{cs:List Value}(h:Bx w b T cs):w.there b 0 cs.length:=fun j hj=>by
 rw [Nat.zero_add]
 exact ⟨by rw [h.cell j (List.getElem?_eq_getElem hj)];rfl,h.froz j⟩
def RowT (P:Program) (T:TypeId) (n:Nat):Prop:=∃ D,P.underlying T=some D∧D.isRow=true∧(P.info? T).map (·.size)=some n
theorem wl_load_bx {P:Program}{ops:Array Oper}{rest:List Oper}{a:Act}{w:World}{Q:Exit→Act→World→Prop}{d:Option Tmp}{x:Operand}{T ty:TypeId}{ps:String}{af:Array Edge}
 {b:Nat}{cs:List Value}(hc:Bx w b T cs) (hT:RowT P T cs.length) (hx:a.eval x=.pointer (some ⟨b,0,none⟩))
 (h:wpList P ops Q rest (a.put d (.agg cs.toArray)) w):wpList P ops Q (⟨d,.load T x,ty,ps,af,none⟩ :: rest) a w:=by
 obtain ⟨D,hu,hd,hi⟩:=hT
 exact wpList_load_mid rfl _ x rfl b 0 hx cs D hc.range hu hd hi h
theorem wl_store_bx {P:Program}{ops:Array Oper}{rest:List Oper}{a:Act}{w:World}{Q:Exit→Act→World→Prop}{d:Option Tmp}{x y:Operand}{T ty:TypeId}{ps:String}{af:Array Edge}
 {b:Nat}{cs ds:List Value}(hc:Bx w b T cs) (hl:ds.length=cs.length) (h1:∀ v∈ds,v.oneCell'=true) (hT:RowT P T ds.length)
 (hx:a.eval x=.pointer (some ⟨b,0,none⟩)) (hy:a.eval y=.agg ds.toArray) (h:∀ w',Hid (Bx w' b T ds)→Hid (Kept [b] w w')→wpList P ops Q rest (a.put d undef) w'):wpList P ops Q (⟨d,.store T x y,ty,ps,af,none⟩ :: rest) a w:=by
 obtain ⟨D,hu,hd,hi⟩:=hT
 exact wpList_store_mid rfl _ x y rfl b 0 ds.toArray hx hy (by rw [List.size_toArray,hl];exact hc.there) (by rw [List.size_toArray];exact hi) (all_oneCell_toArray h1) (h _ (hc.store hl) (setCells_kept (by simp) _ _ (Kept.refl _ _)))
theorem bx_result {P:Program}{w:World}{g:Nat}{T:TypeId}{cs:List Value}{fn:Func}{p:Tmp}(hr:fn.results=#[.cell p T]) (tmps:Array Value) (hp:tmps.getD p undef=.pointer (some ⟨g,0,none⟩)) (hg:Bx w g T cs)
 (hT:RowT P T cs.length):(results fn tmps).run P w=.ok (.agg cs.toArray) w:=by
 obtain ⟨D,hu,hd,hi⟩:=hT
 exact results_cell_row hr tmps w g _ cs.toArray _ _ hp hg hu (by cases D <;> first | rfl | cases hd) (by rw [List.size_toArray];exact hi)
def chC (x:Ch):List Value:=[.string (str x.p),.bool x.g,.int .u64 x.d]
def chV (x:Ch):Value:=.agg #[.string (str x.p),.bool x.g,.int .u64 x.d]
structure ChAt (w:World) (b o:Nat) (x:Ch):Prop where
 c0:w.cell? ⟨b,o,none⟩=some (.string (str x.p))
 c1:w.cell? ⟨b,o+1,none⟩=some (.bool x.g)
 c2:w.cell? ⟨b,o+2,none⟩=some (.int .u64 x.d)
theorem ChAt.kept {S:List Nat}{a w:World}{b o:Nat}{x:Ch}(h:ChAt a b o x) (k:Kept S a w) (hb:b ∉ S):ChAt w b o x :=
 ⟨k.cell h.c0 hb,k.cell h.c1 hb,k.cell h.c2 hb⟩
def SlC (w:World) (ao:Option Addr) (n c:Nat) (L:List Ch):Prop :=
 L.length=n∧n≤c∧c≤maxLen∧∀ i (h:i < L.length),∃ b o,ao=some ⟨b,o,none⟩∧ChAt w b (o+i*3) L[i]
theorem SlC.kept {S:List Nat}{a w:World}{ao:Option Addr}{n c:Nat}{L:List Ch}(h:SlC a ao n c L) (k:Kept S a w) (hb:∀ g∈blk ao,g ∉ S):SlC w ao n c L :=
 ⟨h.1,h.2.1,h.2.2.1,fun i hi=>by obtain ⟨b,o,e,h1⟩:=h.2.2.2 i hi;exact ⟨b,o,e,h1.kept k (hb b (by rw [e];simp [blk]))⟩⟩
theorem SlC.some {w:World}{ao:Option Addr}{n c:Nat}{L:List Ch}(h:SlC w ao n c L) (hn:0 < n) :
 ∃ b o,ao=Option.some ⟨b,o,none⟩∧∀ i (hi:i < L.length),ChAt w b (o+i*3) L[i]:=by
 obtain ⟨b,o,e,_⟩:=h.2.2.2 0 (by rw [h.1];exact hn)
 refine ⟨b,o,e,fun i hi=>?_⟩
 obtain ⟨b',o',e',h⟩:=h.2.2.2 i hi
 rw [e] at e'
 cases e'
 exact h
theorem chC_length (L:List Ch):(L.flatMap chC).length=L.length*3:=by
 induction L with
 | nil=>rfl
 | cons x L ih=>simp [chC,ih];omega
theorem chC_get (L:List Ch) (i:Nat) (h:i < L.length) (j:Nat) (hj:j < 3):(L.flatMap chC)[i*3+j]?=(chC L[i])[j]?:=by
 induction L generalizing i with
 | nil=>simp at h
 | cons x L ih =>
   rw [List.flatMap_cons]
   cases i with
   | zero=>rw [List.getElem?_append_left (by simp [chC];omega)];simp
   | succ i =>
     rw [List.getElem?_append_right (by simp [chC];omega)]
     have e:(i+1)*3+j - (chC x).length=i*3+j:=by simp [chC];omega
     rw [e,ih i (by simpa using h)]
     simp
def OwnC (B:Nat) (w:World) (v:Value) (L:List Ch):Prop:=w.ownsRow B 134 3 v L.length (L.flatMap chC)
theorem OwnC.sl {B:Nat}{w:World}{v:Value}{L:List Ch}(h:OwnC B w v L):∃ ao c,v=.slice ao L.length c∧SlC w ao L.length c L:=by
 have h':=h
 obtain ⟨h1,h2⟩:=h
 rcases h2 with ⟨hv,hn⟩ | ⟨g,cap,cur,hv,hg,hh,h3,h4,h5,h6⟩
 ·have:L=[]:=by simpa using hn
  subst this
  exact ⟨none,0,by rw [hv];rfl,rfl,Nat.le_refl _,Nat.zero_le _,fun i hi=>by simp at hi⟩
 ·refine ⟨some ⟨g,0,none⟩,cap,hv,rfl,h3,h4,fun i hi=>⟨g,0,rfl,?_⟩⟩
  unfold OwnC at h'
  rw [hv] at h'
  have c:∀ j,j < 3→w.cell? ⟨g,0+i*3+j,none⟩=(chC L[i])[j]?:=fun j hj=>by
   rw [Nat.zero_add,World.ownsRow.cellAt h' (i*3+j) (by omega),chC_get L i hi j hj]
  exact ⟨c 0 (by omega),c 1 (by omega),c 2 (by omega)⟩
structure RowC (w:World) (g n cap:Nat) (f:Nat→Ch):Prop where
 le:n≤cap
 max:cap≤maxLen
 row:∃ cur:Array Value,w.heap[g]?=some (.cells cur 134 (0,0))∧cur.size=cap*3 ∧
  ∀ i,i < n→cur[i*3]?=some (.string (str (f i).p))∧cur[i*3+1]?=some (.bool (f i).g)∧cur[i*3+2]?=some (.int .u64 (f i).d)
theorem RowC.ch {w:World}{g n cap:Nat}{f:Nat→Ch}(h:RowC w g n cap f) {i:Nat}(hi:i < n):ChAt w g (i*3) (f i):=by
 obtain ⟨cur,hh,hs,hc⟩:=h.row
 obtain ⟨c0,c1,c2⟩:=hc i hi
 refine ⟨?_,?_,?_⟩ <;> simp [World.cell?,hh,c0,c1,c2]
theorem RowC.froz {w:World}{g n cap:Nat}{f:Nat→Ch}(h:RowC w g n cap f) (j:Nat):w.frozen? ⟨g,j,none⟩=false:=by
 obtain ⟨cur,hh,_⟩:=h.row
 simp [World.frozen?,hh]
theorem RowC.lt {w:World}{g n cap:Nat}{f:Nat→Ch}(h:RowC w g n cap f):g < w.heap.size:=by
 obtain ⟨cur,hh,_⟩:=h.row
 exact lt_of_at hh
theorem RowC.kept {S:List Nat}{a w:World}{g n cap:Nat}{f:Nat→Ch}(h:RowC a g n cap f) (k:Kept S a w) (hg:g ∉ S):RowC w g n cap f:=by
 obtain ⟨h1,h2,cur,hh,r⟩:=h
 exact ⟨h1,h2,cur,k.at hh hg,r⟩
theorem RowC.congr {w:World}{g n cap:Nat}{f f':Nat→Ch}(h:RowC w g n cap f) (e:∀ i,i < n→f' i=f i):RowC w g n cap f':=by
 obtain ⟨h1,h2,cur,hh,hs,r⟩:=h
 exact ⟨h1,h2,cur,hh,hs,fun i hi=>by rw [e i hi];exact r i hi⟩
def put3 (w:World) (g i:Nat) (x:Ch):World :=
 ((w.setCell ⟨g,i*3,none⟩ (.string (str x.p))).setCell ⟨g,i*3+1,none⟩ (.bool x.g)).setCell ⟨g,i*3+2,none⟩ (.int .u64 x.d)
theorem RowC.put {w:World}{g n cap:Nat}{f:Nat→Ch}(h:RowC w g n cap f) {i:Nat}(hi:i < n) (x:Ch):RowC (put3 w g i x) g n cap (fun k=>if k=i then x else f k):=by
 obtain ⟨h1,h2,cur,hh,hs,r⟩:=h
 have e1:=heap_setCell_same w g (i*3) cur _ (.string (str x.p)) hh
 have e2:=heap_setCell_same _ g (i*3+1) _ _ (.bool x.g) e1
 have e3:=heap_setCell_same _ g (i*3+2) _ _ (.int .u64 x.d) e2
 refine ⟨h1,h2,_,e3,by simpa using hs,fun k hk=>?_⟩
 obtain ⟨r0,r1,r2⟩:=r k hk
 by_cases hki:k=i
 ·subst hki
  simp only [if_true]
  have hb:k*3+2 < cur.size:=by omega
  refine ⟨?_,?_,?_⟩ <;> simp [Array.getElem?_setIfInBounds] <;> omega
 ·simp only [if_neg hki]
  refine ⟨?_,?_,?_⟩
  ·rw [Array.getElem?_setIfInBounds_ne (by omega),Array.getElem?_setIfInBounds_ne (by omega),Array.getElem?_setIfInBounds_ne (by omega)];exact r0
  ·rw [Array.getElem?_setIfInBounds_ne (by omega),Array.getElem?_setIfInBounds_ne (by omega),Array.getElem?_setIfInBounds_ne (by omega)];exact r1
  ·rw [Array.getElem?_setIfInBounds_ne (by omega),Array.getElem?_setIfInBounds_ne (by omega),Array.getElem?_setIfInBounds_ne (by omega)];exact r2
theorem put3_kept (w:World) (g i:Nat) (x:Ch):Kept [g] w (put3 w g i x) :=
 (((Kept.refl [g] w).setCell (by simp) _).setCell (by simp) _).setCell (by simp) _
theorem RowC.swap {w:World}{g n cap:Nat}{f:Nat→Ch}(h:RowC w g n cap f) {i j:Nat}(hi:i < n) (hj:j < n):RowC (put3 (put3 w g i (f j)) g j (f i)) g n cap (swp f i j):=by
 refine ((h.put hi (f j)).put hj (f i)).congr fun k _=>?_
 simp only [swp]
 by_cases h1:k=i <;> by_cases h2:k=j <;> simp_all
theorem OwnC.row {B:Nat}{w:World}{v:Value}{L:List Ch}(h:OwnC B w v L) (hn:0 < L.length) (z:Ch):∃ g cap,v=.slice (some ⟨g,0,none⟩) L.length cap∧B≤g∧RowC w g L.length cap (fun i=>L.getD i z):=by
 obtain ⟨h1,h2⟩:=h
 rcases h2 with ⟨hv,h0⟩ | ⟨g,cap,cur,hv,hg,hh,h3,h4,h5,h6⟩
 ·omega
 ·refine ⟨g,cap,hv,hg,h3,h4,cur,hh,h5,fun i hi=>?_⟩
  have c:∀ j,j < 3→cur[i*3+j]?=(chC (L.getD i z))[j]?:=fun j hj=>by
   have e:L.getD i z=L[i]:=by simp [List.getD,hi]
   rw [e,← chC_get L i hi j hj,← h6,List.getElem?_take,if_pos (by omega)]
   simp
  exact ⟨c 0 (by omega),c 1 (by omega),c 2 (by omega)⟩
theorem RowC.own {w:World}{g n cap:Nat}{f:Nat→Ch}(h:RowC w g n cap f) {B:Nat}(hB:B≤g):OwnC B w (.slice (some ⟨g,0,none⟩) n cap) (seg f 0 n):=by
 obtain ⟨h1,h2,cur,hh,hs,r⟩:=h
 have hl:(seg f 0 n).length=n:=by rw [seg_length];omega
 unfold OwnC
 refine ⟨chC_length _,.inr ⟨g,cap,cur,by rw [hl],hB,hh,by rw [hl];exact h1,h2,hs,?_⟩⟩
 rw [hl]
 apply List.ext_getElem?
 intro q
 by_cases hq:q < n*3
 ·rw [List.getElem?_take,if_pos hq]
  obtain ⟨r0,r1,r2⟩:=r (q / 3) (by omega)
  have e:=chC_get (seg f 0 n) (q / 3) (by rw [hl];omega) (q % 3) (by omega)
  have e2:q / 3*3+q % 3=q:=by omega
  rw [e2,seg_get,Nat.zero_add] at e
  rw [e]
  have h3:q % 3=0∨q % 3=1∨q % 3=2:=by omega
  generalize q / 3=u at *
  rcases h3 with h3 | h3 | h3
  ·rw [h3] at e2 ⊢;subst e2;simpa [chC] using r0
  ·rw [h3] at e2 ⊢;subst e2;simpa [chC] using r1
  ·rw [h3] at e2 ⊢;subst e2;simpa [chC] using r2
 ·rw [List.getElem?_eq_none (by simp;omega),List.getElem?_eq_none (by rw [chC_length,hl];omega)]
theorem info_change:(Tryz.prog.info? 134).map (fun i=>(i.zero,i.size,i.bytes))=some (some (.agg #[.string ⟨#[]⟩,.bool false,.int .u64 0]),3,32):=by kernel_rfl
theorem one_cellsC (L:List Ch):∀ u∈L.flatMap chC,u.oneCell'=true:=by
 intro u hu
 simp only [List.mem_flatMap,chC] at hu
 obtain ⟨x,_,hx⟩:=hu
 simp at hx
 rcases hx with rfl | rfl | rfl <;> rfl
theorem cells_runC {w:World}{b o:Nat}{L:List Ch}(h:∀ i (hi:i < L.length),ChAt w b (o+i*3) L[i]):∀ (j:Nat) (u:Value),(L.flatMap chC)[j]?=some u→w.cell? ⟨b,o+j,none⟩=some u:=by
 intro j u hj
 have hlt:j < (L.flatMap chC).length:=by
  by_cases hl:j < (L.flatMap chC).length
  ·exact hl
  ·rw [List.getElem?_eq_none (by omega)] at hj;cases hj
 rw [chC_length] at hlt
 have hi:j / 3 < L.length:=by omega
 have e:=chC_get L (j / 3) hi (j % 3) (by omega)
 have e2:j / 3*3+j % 3=j:=by omega
 rw [e2,hj] at e
 obtain ⟨c0,c1,c2⟩:=h (j / 3) hi
 have h3:j % 3=0∨j % 3=1∨j % 3=2:=by omega
 generalize j / 3=q at *
 rcases h3 with h3 | h3 | h3 <;> rw [h3] at e e2 <;> simp [chC] at e <;> subst e <;> subst e2
 ·exact c0
 ·rw [← Nat.add_assoc];exact c1
 ·rw [← Nat.add_assoc];exact c2
theorem SlC.runs {w:World}{b o n c:Nat}{L:List Ch}(h:SlC w (Option.some ⟨b,o,none⟩) n c L):∀ (j:Nat) (u:Value),(L.flatMap chC)[j]?=Option.some u→w.cell? ((⟨b,o,none⟩:Addr).add j)=Option.some u:=by
 intro j u hj
 rw [adr_addC]
 refine cells_runC (fun i hi=>?_) j u hj
 obtain ⟨b',o',e,h1⟩:=h.2.2.2 i hi
 cases e
 exact h1
theorem wp_appC {w:World}{ops:Array Oper}{rest:List Oper}{o:Oper}{a:Act}{Q:Exit→Act→World→Prop}(hgd:o.guard=none) (s x:Operand)
 (hop:o.op=.call { callee:=.builtin .append,args:=#[s,x],argTypes:=#[27,27] })
 (B:Nat) (v:Value) (M:List Ch) (hs:a.eval s=v) (hO:OwnC B w v M) (ad:Addr) (m c:Nat) (N:List Ch) (hx:a.eval x=.slice (some ad) m c) (hm:m=N.length) (hc:∀ (j:Nat) (u:Value),(N.flatMap chC)[j]?=some u→w.cell? (ad.add j)=some u)
 (hlen:M.length+N.length≤4398046511104) (hB:B≤w.heap.size)
 (h:∀ v' w',OwnC B w' v' (M++N)→w.grownBy w' v.ownBlock→wpList Tryz.prog ops Q rest (a.put o.dst v') w'):wpList Tryz.prog ops Q (o :: rest) a w:=by
 subst hm
 obtain ⟨i0,hi,hz0,hz1,hz2⟩:=info_parts info_change
 refine wpList_append_own w hgd s x 27 hop B 134 i0 (.agg #[.string ⟨#[]⟩,.bool false,.int .u64 0]) 3 32 Tryz.underlying27 hi hz0 hz1 hz2 rfl (by decide) v M.length (M.flatMap chC) hs hO ad N.length c (N.flatMap chC) hx (chC_length N) hc (one_cellsC N) (by unfold maxLen;omega) (by omega) hB ?_
 intro v' w' h1 h2 _
 refine h v' w' ?_ h2
 unfold OwnC
 rw [List.length_append,List.flatMap_append]
 exact h1
theorem grown_keptC {B:Nat}{a w w':World}{v:Value}{L:List Ch}(h:Kept [] a w) (hO:OwnC B w v L) (hB:a.heap.size≤B) (hg:w.grownBy w' v.ownBlock):Kept [] a w' :=
 h.grown hg fun k hk=>.inr (Nat.le_trans hB (World.ownsRow.lt hO k hk).1)
theorem OwnC.nil (B:Nat) (w:World):OwnC B w (.slice none 0 0) []:=World.ownsRow_nil w B 134 3
theorem own_voidC (w:World) (B:Nat) (hB:B≤w.heap.size):OwnC B (w.alloc (.cells #[] 134)) (.slice (some ⟨w.heap.size,0,none⟩) 0 0) [] :=
 ⟨rfl,.inr ⟨w.heap.size,0,#[],rfl,hB,heap_alloc_new w _,Nat.le_refl _,Nat.zero_le _,rfl,rfl⟩⟩
theorem OwnC.kept {B:Nat}{a w:World}{v:Value}{L:List Ch}(h:OwnC B a v L) (k:Kept [] a w):OwnC B w v L:=k.ownsRow h (by simp)
theorem SlC.runs' {w:World}{ad:Addr}{n c:Nat}{L:List Ch}(h:SlC w (Option.some ad) n c L):∀ (j:Nat) (u:Value),(L.flatMap chC)[j]?=Option.some u→w.cell? (ad.add j)=Option.some u:=by
 cases L with
 | nil=>intro j u hj;simp at hj
 | cons x L =>
   obtain ⟨b,o,e,_⟩:=h.2.2.2 0 (by simp)
   cases e
   exact h.runs
theorem SlC.drop {w:World}{b o n c:Nat}{L:List Ch}(h:SlC w (Option.some ⟨b,o,none⟩) n c L) {k:Nat}(hk:k≤n):SlC w (Option.some ⟨b,o+k*3,none⟩) (n - k) (c - k) (L.drop k):=by
 refine ⟨by rw [List.length_drop,h.1],by have:=h.2.1;omega,by have:=h.2.2.1;omega,fun i hi=>⟨b,o+k*3,rfl,?_⟩⟩
 rw [List.length_drop] at hi
 obtain ⟨b',o',e,h1⟩:=h.2.2.2 (k+i) (by omega)
 cases e
 rw [List.getElem_drop]
 have e:o+k*3+i*3=o+(k+i)*3:=by omega
 rw [e]
 exact h1
theorem OwnC.mono {B C:Nat}{w:World}{v:Value}{L:List Ch}(h:OwnC C w v L) (hB:B≤C):OwnC B w v L:=by
 obtain ⟨h1,h2⟩:=h
 refine ⟨h1,?_⟩
 rcases h2 with h2 | ⟨g,cap,cur,hv,hg,r⟩
 ·exact .inl h2
 ·exact .inr ⟨g,cap,cur,hv,Nat.le_trans hB hg,r⟩
theorem OwnC.slice {B:Nat}{w:World}{ao:Option Addr}{n c:Nat}{L:List Ch}(h:OwnC B w (.slice ao n c) L):SlC w ao n c L:=by
 obtain ⟨ao',c',e,hS⟩:=h.sl
 cases e
 exact hS
theorem SlC.lit (w:World) (L:List Ch) {n:Nat}(hn:n=L.length) (hm:n≤maxLen) {vs:Array Value}(hv:vs=(L.flatMap chC).toArray):SlC (w.alloc (.cells vs 134)) (Option.some ⟨w.heap.size,0,none⟩) n n L:=by
 subst hn
 subst hv
 have h:=heap_alloc_new w (.cells (L.flatMap chC).toArray 134)
 refine ⟨rfl,Nat.le_refl _,hm,fun i hi=>⟨w.heap.size,0,rfl,?_⟩⟩
 have e:∀ j,j < 3→(L.flatMap chC).toArray[i*3+j]?=(chC L[i])[j]?:=fun j hj=>by
  rw [List.getElem?_toArray];exact chC_get L i hi j hj
 rw [Nat.zero_add]
 exact ⟨cell_inC h (e 0 (by omega)),cell_inC h (e 1 (by omega)),cell_inC h (e 2 (by omega))⟩
def coC (x:Com × Value):List Value:=[.int .i64 x.1.r,.int .i64 x.1.b,.string (str x.1.n),x.2]
def coV (x:Com × Value):Value:=.agg #[.int .i64 x.1.r,.int .i64 x.1.b,.string (str x.1.n),x.2]
theorem coC_length (K:List (Com × Value)):(K.flatMap coC).length=K.length*4:=by
 induction K with
 | nil=>rfl
 | cons x K ih=>simp [List.flatMap_cons,ih,coC];omega
theorem coC_get (K:List (Com × Value)) (i:Nat) (h:i < K.length) (j:Nat) (hj:j < 4):(K.flatMap coC)[i*4+j]?=(coC K[i])[j]?:=by
 induction K generalizing i with
 | nil=>simp at h
 | cons x K ih =>
   cases i with
   | zero=>simp only [List.flatMap_cons,Nat.zero_mul,Nat.zero_add,List.getElem_cons_zero];rw [List.getElem?_append_left (by simp [coC];omega)]
   | succ i =>
     simp only [List.flatMap_cons,List.getElem_cons_succ]
     rw [List.getElem?_append_right (by simp [coC];omega)]
     rw [← ih i (by simpa using h)]
     congr 1
     simp [coC];omega
structure CoAt (w:World) (b o:Nat) (x:Com × Value):Prop where
 c0:w.cell? ⟨b,o,none⟩=some (.int .i64 x.1.r)
 c1:w.cell? ⟨b,o+1,none⟩=some (.int .i64 x.1.b)
 c2:w.cell? ⟨b,o+2,none⟩=some (.string (str x.1.n))
 c3:w.cell? ⟨b,o+3,none⟩=some x.2
theorem CoAt.kept {S:List Nat}{a w:World}{b o:Nat}{x:Com × Value}(h:CoAt a b o x) (k:Kept S a w) (hb:b ∉ S):CoAt w b o x :=
 ⟨k.cell h.c0 hb,k.cell h.c1 hb,k.cell h.c2 hb,k.cell h.c3 hb⟩
def ChV (w:World) (v:Value) (L:List Ch):Prop:=∃ ao n c,v=.slice ao n c∧SlC w ao n c L∧(ao=none→c=0)
theorem ChV.kept {a w:World}{v:Value}{L:List Ch}(h:ChV a v L) (k:Kept [] a w):ChV w v L:=by
 obtain ⟨ao,n,c,h1,h2,h3⟩:=h
 exact ⟨ao,n,c,h1,h2.kept k (by simp),h3⟩
def SlK (w:World) (ao:Option Addr) (n c:Nat) (K:List (Com × Value)):Prop :=
 K.length=n∧n≤c∧c≤maxLen∧(∀ i (h:i < K.length),∃ b o,ao=some ⟨b,o,none⟩∧CoAt w b (o+i*4) K[i])∧∀ x∈K,ChV w x.2 x.1.c
theorem SlK.kept {a w:World}{ao:Option Addr}{n c:Nat}{K:List (Com × Value)}(h:SlK a ao n c K) (k:Kept [] a w):SlK w ao n c K :=
 ⟨h.1,h.2.1,h.2.2.1,fun i hi=>by obtain ⟨b,o,e,h1⟩:=h.2.2.2.1 i hi;exact ⟨b,o,e,h1.kept k (by simp)⟩,fun x hx=>(h.2.2.2.2 x hx).kept k⟩
theorem SlK.some {w:World}{ao:Option Addr}{n c:Nat}{K:List (Com × Value)}(h:SlK w ao n c K) (hn:0 < n) :
 ∃ b o,ao=Option.some ⟨b,o,none⟩∧∀ i (hi:i < K.length),CoAt w b (o+i*4) K[i]:=by
 obtain ⟨b,o,e,_⟩:=h.2.2.2.1 0 (by rw [h.1];exact hn)
 refine ⟨b,o,e,fun i hi=>?_⟩
 obtain ⟨b',o',e',h'⟩:=h.2.2.2.1 i hi
 rw [e] at e';cases e';exact h'
def RowK (B:Nat) (w:World) (v:Value) (K:List (Com × Value)):Prop:=w.ownsRow B 108 4 v K.length (K.flatMap coC)
def OwnK (C:Nat) (w:World) (K:List (Com × Value)):Prop:=∀ x∈K,OwnC C w x.2 x.1.c
theorem OwnC.chV {B:Nat}{w:World}{v:Value}{L:List Ch}(h:OwnC B w v L):ChV w v L:=by
 have h':=h
 obtain ⟨ao,c,rfl,hs⟩:=h.sl
 refine ⟨ao,_,c,rfl,hs,fun e=>?_⟩
 subst e
 obtain ⟨_,h2⟩:=h'
 rcases h2 with ⟨hv,_⟩ | ⟨g,cap,cur,hv,_⟩
 ·simp at hv;exact hv.2
 ·cases hv
theorem RowK.sl {B C:Nat}{w:World}{v:Value}{K:List (Com × Value)}(h:RowK B w v K) (ho:OwnK C w K):∃ ao c,v=.slice ao K.length c∧SlK w ao K.length c K∧(ao=none→c=0):=by
 have h':=h
 obtain ⟨h1,h2⟩:=h
 rcases h2 with ⟨hv,hn⟩ | ⟨g,cap,cur,hv,hg,hh,h3,h4,h5,h6⟩
 ·have:K=[]:=by simpa using hn
  subst this
  exact ⟨none,0,by rw [hv];rfl,⟨rfl,Nat.le_refl _,Nat.zero_le _,fun i hi=>by simp at hi,fun x hx=>by simp at hx⟩,fun _=>rfl⟩
 ·refine ⟨some ⟨g,0,none⟩,cap,hv,⟨rfl,h3,h4,fun i hi=>⟨g,0,rfl,?_⟩,fun x hx=>(ho x hx).chV⟩,by simp⟩
  have hc:∀ j,j < 4→w.cell? ⟨g,0+i*4+j,none⟩=(coC K[i])[j]?:=fun j hj=>by
   have:=World.ownsRow.cellAt (w:=w) (base:=B) (e:=108) (size:=4) (n:=K.length) (cap:=cap) (g:=g) (xs:=K.flatMap coC) (by rw [← hv];exact h') (i*4+j) (by omega)
   rw [Nat.zero_add,this,coC_get K i hi j hj]
  refine ⟨?_,?_,?_,?_⟩
  ·have:=hc 0 (by omega);simpa [coC] using this
  ·have:=hc 1 (by omega);simpa [coC] using this
  ·have:=hc 2 (by omega);simpa [coC] using this
  ·have:=hc 3 (by omega);simpa [coC] using this
theorem RowK.nil (B:Nat) (w:World):RowK B w (.slice none 0 0) []:=World.ownsRow_nil w B 108 4
theorem cells3 {w:World}{b:Nat}{v0 v1 v2:Value}{t:TypeId}(h:w.heap[b]?=some (.cells #[v0,v1,v2] t (0,0))) :
 w.cell? ⟨b,0,none⟩=some v0∧w.cell? ⟨b,1,none⟩=some v1∧w.cell? ⟨b,2,none⟩=some v2:=by
 simp [World.cell?,h]
theorem info_commit:(Tryz.prog.info? 108).map (fun i=>(i.zero,i.size,i.bytes))=some (some (.agg #[.int .i64 0,.int .i64 0,.string ⟨#[]⟩,.slice none 0 0]),4,56):=by kernel_rfl
theorem one_coC {K:List (Com × Value)}(h:∀ x∈K,x.2.oneCell'=true):∀ u∈K.flatMap coC,u.oneCell'=true:=by
 intro u hu
 obtain ⟨x,hx,hu⟩:=List.mem_flatMap.1 hu
 simp [coC] at hu
 rcases hu with rfl | rfl | rfl | rfl
 ·rfl
 ·rfl
 ·rfl
 ·exact h x hx
theorem own_one {B:Nat}{w:World}{v:Value}{L:List Ch}(h:OwnC B w v L):v.oneCell'=true:=by
 obtain ⟨ao,c,rfl,_⟩:=h.sl
 rfl
theorem cells_runK {w:World}{b o:Nat}{K:List (Com × Value)}(h:∀ i (hi:i < K.length),CoAt w b (o+i*4) K[i]):∀ (j:Nat) (u:Value),(K.flatMap coC)[j]?=some u→w.cell? ⟨b,o+j,none⟩=some u:=by
 intro j u hj
 have hlt:j < (K.flatMap coC).length:=by
  by_cases hl:j < (K.flatMap coC).length
  ·exact hl
  ·rw [List.getElem?_eq_none (by omega)] at hj;cases hj
 rw [coC_length] at hlt
 have hi:j / 4 < K.length:=by omega
 have e:=coC_get K (j / 4) hi (j % 4) (by omega)
 have e2:j / 4*4+j % 4=j:=by omega
 rw [e2,hj] at e
 obtain ⟨c0,c1,c2,c3⟩:=h (j / 4) hi
 have h3:j % 4=0∨j % 4=1∨j % 4=2∨j % 4=3:=by omega
 generalize j / 4=q at *
 rcases h3 with h3 | h3 | h3 | h3 <;> rw [h3] at e e2 <;> simp [coC] at e <;> subst e <;> subst e2
 ·exact c0
 ·rw [← Nat.add_assoc];exact c1
 ·rw [← Nat.add_assoc];exact c2
 ·rw [← Nat.add_assoc];exact c3
theorem SlK.runs {w:World}{ad:Addr}{n c:Nat}{K:List (Com × Value)}(h:SlK w (Option.some ad) n c K):∀ (j:Nat) (u:Value),(K.flatMap coC)[j]?=Option.some u→w.cell? (ad.add j)=Option.some u:=by
 cases K with
 | nil=>intro j u hj;simp at hj
 | cons x K =>
   obtain ⟨b,o,e,_⟩:=h.2.2.2.1 0 (by simp)
   cases e
   intro j u hj
   rw [adr_addC]
   refine cells_runK (fun i hi=>?_) j u hj
   obtain ⟨b',o',e,h1⟩:=h.2.2.2.1 i hi
   cases e
   exact h1
theorem SlK.ones {w:World}{ao:Option Addr}{n c:Nat}{K:List (Com × Value)}(h:SlK w ao n c K):∀ x∈K,x.2.oneCell'=true:=fun x hx=>by
 obtain ⟨mo,m,mc,e,_⟩:=h.2.2.2.2 x hx
 rw [e];rfl
theorem wp_appK {w:World}{ops:Array Oper}{rest:List Oper}{o:Oper}{a:Act}{Q:Exit→Act→World→Prop}(hgd:o.guard=none) (s x:Operand)
 (hop:o.op=.call { callee:=.builtin .append,args:=#[s,x],argTypes:=#[32,32] })
 (B:Nat) (v:Value) (M:List (Com × Value)) (hs:a.eval s=v) (hO:RowK B w v M) (ad:Addr) (m c:Nat) (N:List (Com × Value)) (hx:a.eval x=.slice (some ad) m c) (hm:m=N.length) (hc:∀ (j:Nat) (u:Value),(N.flatMap coC)[j]?=some u→w.cell? (ad.add j)=some u) (h1:∀ x∈N,x.2.oneCell'=true)
 (hlen:M.length+N.length≤2513169434916) (hB:B≤w.heap.size)
 (h:∀ v' w',RowK B w' v' (M++N)→w.grownBy w' v.ownBlock→wpList Tryz.prog ops Q rest (a.put o.dst v') w'):wpList Tryz.prog ops Q (o :: rest) a w:=by
 subst hm
 obtain ⟨i0,hi,hz0,hz1,hz2⟩:=info_parts info_commit
 refine wpList_append_own w hgd s x 32 hop B 108 i0 (.agg #[.int .i64 0,.int .i64 0,.string ⟨#[]⟩,.slice none 0 0]) 4 56 Tryz.underlying32 hi hz0 hz1 hz2 rfl (by decide) v M.length (M.flatMap coC) hs hO ad N.length c (N.flatMap coC) hx (coC_length N) hc (one_coC h1) (by unfold maxLen;omega) (by omega) hB ?_
 intro v' w' h2 h3 _
 refine h v' w' ?_ h3
 unfold RowK
 rw [List.length_append,List.flatMap_append]
 exact h2
theorem own_voidK (w:World) (B:Nat) (hB:B≤w.heap.size):RowK B (w.alloc (.cells #[] 108)) (.slice (some ⟨w.heap.size,0,none⟩) 0 0) [] :=
 ⟨rfl,.inr ⟨w.heap.size,0,#[],rfl,hB,heap_alloc_new w _,Nat.le_refl _,Nat.zero_le _,rfl,rfl⟩⟩
theorem coC_set (K:List (Com × Value)) (i:Nat) (h:i < K.length) (u:Value):(K.set i (K[i].1,u)).flatMap coC=(K.flatMap coC).set (i*4+3) u:=by
 induction K generalizing i with
 | nil=>simp at h
 | cons x K ih =>
   cases i with
   | zero=>simp [List.flatMap_cons,coC]
   | succ i =>
     simp only [List.set_cons_succ,List.flatMap_cons,List.getElem_cons_succ]
     rw [ih i (by simpa using h),List.set_append,if_neg (by simp [coC];omega)]
     congr 2
     simp [coC];omega
theorem RowK.set {B:Nat}{w:World}{g n cap:Nat}{K:List (Com × Value)}(h:RowK B w (.slice (some ⟨g,0,none⟩) n cap) K) {i:Nat}(hi:i < K.length) (u:Value) :
 RowK B (w.setCell ⟨g,i*4+3,none⟩ u) (.slice (some ⟨g,0,none⟩) n cap) (K.set i (K[i].1,u)):=by
 obtain ⟨h1,h2⟩:=h
 rcases h2 with ⟨h2,_⟩ | ⟨g',cap',cur,hv,hg,hh,h3,h4,h5,h6⟩
 ·cases h2
 ·obtain ⟨rfl,rfl,rfl⟩:g=g'∧n=K.length∧cap=cap':=by simpa using hv
  refine ⟨by rw [coC_set K i hi,List.length_set,List.length_set];exact h1,.inr ⟨g,cap,cur.setIfInBounds (i*4+3) u,by simp,hg,heap_setCell_same w g (i*4+3) cur _ u hh,by simpa using h3,h4,by simpa using h5,?_⟩⟩
  rw [coC_set K i hi,List.length_set,Array.toList_setIfInBounds,← h6]
  rw [List.take_set]
structure Rm where
 r:Rq
 mo:Option Addr
 m:Nat
 mc:Nat
def rm0:Rm:=⟨⟨0,[],0,0,0,[],[],[],0,0,0⟩,none,0,0⟩
def rqC (x:Rm):List Value:=[.int .i64 x.r.k,.string (str x.r.n),.int .i64 x.r.s,.int .i64 x.r.q,.int .i64 x.r.b,.string (str x.r.f),.slice x.mo x.m x.mc,.string (str x.r.p),.int .i64 x.r.fr,.int .i64 x.r.mn,.int .i64 x.r.mb]
def rqV (x:Rm):Value:=.agg #[.int .i64 x.r.k,.string (str x.r.n),.int .i64 x.r.s,.int .i64 x.r.q,.int .i64 x.r.b,.string (str x.r.f),.slice x.mo x.m x.mc,.string (str x.r.p),.int .i64 x.r.fr,.int .i64 x.r.mn,.int .i64 x.r.mb]
def RqIn (w:World) (x:Rm):Prop:=SlC w x.mo x.m x.mc x.r.c∧(x.mo=none→x.mc=0)∧(-9223372036854775808≤x.r.q∧x.r.q≤9223372036854775807)∧(-9223372036854775808≤x.r.fr∧x.r.fr≤9223372036854775807)∧(-9223372036854775808≤x.r.mn∧x.r.mn≤9223372036854775807)
theorem RqIn.kept {a w:World}{x:Rm}(h:RqIn a x) (k:Kept [] a w):RqIn w x:=⟨h.1.kept k (by simp),h.2⟩
structure RqAt (w:World) (b o:Nat) (x:Rm):Prop where
 c0:w.cell? ⟨b,o,none⟩=some (.int .i64 x.r.k)
 c1:w.cell? ⟨b,o+1,none⟩=some (.string (str x.r.n))
 c2:w.cell? ⟨b,o+2,none⟩=some (.int .i64 x.r.s)
 c3:w.cell? ⟨b,o+3,none⟩=some (.int .i64 x.r.q)
 c4:w.cell? ⟨b,o+4,none⟩=some (.int .i64 x.r.b)
 c5:w.cell? ⟨b,o+5,none⟩=some (.string (str x.r.f))
 c6:w.cell? ⟨b,o+6,none⟩=some (.slice x.mo x.m x.mc)
 c7:w.cell? ⟨b,o+7,none⟩=some (.string (str x.r.p))
 c8:w.cell? ⟨b,o+8,none⟩=some (.int .i64 x.r.fr)
 c9:w.cell? ⟨b,o+9,none⟩=some (.int .i64 x.r.mn)
 c10:w.cell? ⟨b,o+10,none⟩=some (.int .i64 x.r.mb)
theorem RqAt.kept {S:List Nat}{a w:World}{b o:Nat}{x:Rm}(h:RqAt a b o x) (k:Kept S a w) (hb:b ∉ S):RqAt w b o x :=
 ⟨k.cell h.c0 hb,k.cell h.c1 hb,k.cell h.c2 hb,k.cell h.c3 hb,k.cell h.c4 hb,k.cell h.c5 hb,k.cell h.c6 hb,k.cell h.c7 hb,k.cell h.c8 hb,k.cell h.c9 hb,k.cell h.c10 hb⟩
theorem RqAt.of {w:World}{b o:Nat}{x:Rm}(h:∀ j,j < 11→w.cell? ⟨b,o+j,none⟩=(rqC x)[j]?):RqAt w b o x :=
 ⟨h 0 (by omega),h 1 (by omega),h 2 (by omega),h 3 (by omega),h 4 (by omega),h 5 (by omega),h 6 (by omega),h 7 (by omega),h 8 (by omega),h 9 (by omega),h 10 (by omega)⟩
def SlR (w:World) (ao:Option Addr) (n c:Nat) (D:List Rm):Prop :=
 D.length=n∧n≤c∧c≤maxLen∧(∀ i (h:i < D.length),∃ b o,ao=some ⟨b,o,none⟩∧RqAt w b (o+i*11) D[i])∧∀ x∈D,RqIn w x
theorem SlR.kept {a w:World}{ao:Option Addr}{n c:Nat}{D:List Rm}(h:SlR a ao n c D) (k:Kept [] a w):SlR w ao n c D :=
 ⟨h.1,h.2.1,h.2.2.1,fun i hi=>by obtain ⟨b,o,e,h1⟩:=h.2.2.2.1 i hi;exact ⟨b,o,e,h1.kept k (by simp)⟩,fun x hx=>(h.2.2.2.2 x hx).kept k⟩
def vtV (v:Vt) (u:Value):Value:=.agg #[.int .i64 v.c,.int .i64 v.s,.int .i64 v.r,.string (str v.p),.int .u64 v.d,u,.int .i64 v.m]
def KoV (w:World) (u:Value) (k:List Com):Prop:=∃ ao n c K,u=.slice ao n c∧SlK w ao n c K∧K.map Prod.fst=k∧(ao=none→c=0)
def KoO (B:Nat) (w:World) (u:Value) (k:List Com):Prop:=∃ K,RowK B w u K∧OwnK B w K∧K.map Prod.fst=k
theorem KoV.kept {a w:World}{u:Value}{k:List Com}(h:KoV a u k) (hk:Kept [] a w):KoV w u k:=by
 obtain ⟨ao,n,c,K,h1,h2,h3,h4⟩:=h
 exact ⟨ao,n,c,K,h1,h2.kept hk,h3,h4⟩
theorem KoO.ko {B:Nat}{w:World}{u:Value}{k:List Com}(h:KoO B w u k):KoV w u k:=by
 obtain ⟨K,h1,h2,h3⟩:=h
 obtain ⟨ao,c,e,h4,h5⟩:=h1.sl h2
 exact ⟨ao,K.length,c,K,e,h4,h3,h5⟩
theorem KoO.keep {B:Nat}{S:List Nat}{Ts:List TypeId}{w w':World}{u:Value}{k:List Com}(h:KoO B w u k) (hk:Kept S w w') (hT:Typed w S Ts) (h1:108 ∉ Ts) (h2:134 ∉ Ts):KoO B w' u k:=by
 obtain ⟨K,hr,ho,he⟩:=h
 exact ⟨K,row_typed hk hT hr h1,fun x hx=>row_typed hk hT (ho x hx) h2,he⟩
theorem KoO.kept {B:Nat}{w w':World}{u:Value}{k:List Com}(h:KoO B w u k) (hk:Kept [] w w'):KoO B w' u k :=
 h.keep hk (typed_nil w []) (by simp) (by simp)
theorem RowK.mono {B C:Nat}{w:World}{v:Value}{K:List (Com × Value)}(h:RowK C w v K) (hB:B≤C):RowK B w v K:=by
 obtain ⟨h1,h2⟩:=h
 refine ⟨h1,?_⟩
 rcases h2 with h2 | ⟨g,cap,cur,hv,hg,r⟩
 ·exact .inl h2
 ·exact .inr ⟨g,cap,cur,hv,Nat.le_trans hB hg,r⟩
theorem KoO.mono {B C:Nat}{w:World}{u:Value}{k:List Com}(h:KoO C w u k) (hB:B≤C):KoO B w u k:=by
 obtain ⟨K,hr,ho,he⟩:=h
 exact ⟨K,hr.mono hB,fun x hx=>(ho x hx).mono hB,he⟩
theorem KoO.nil (B:Nat) (w:World):KoO B w (.slice none 0 0) []:=⟨[],RowK.nil B w,(fun _ h=>by cases h),rfl⟩
def KoP (P:Nat→Prop) (w:World) (u:Value) (k:List Com):Prop:=KoO 0 w u k∧∀ j,u.ownBlock=some j→P j
theorem KoP.ko {P:Nat→Prop}{w:World}{u:Value}{k:List Com}(h:KoP P w u k):KoV w u k:=h.1.ko
theorem KoP.keep {P:Nat→Prop}{S:List Nat}{Ts:List TypeId}{w w':World}{u:Value}{k:List Com}(h:KoP P w u k) (hk:Kept S w w') (hT:Typed w S Ts) (h1:108 ∉ Ts) (h2:134 ∉ Ts):KoP P w' u k:=⟨h.1.keep hk hT h1 h2,h.2⟩
theorem KoP.kept {P:Nat→Prop}{w w':World}{u:Value}{k:List Com}(h:KoP P w u k) (hk:Kept [] w w'):KoP P w' u k:=⟨h.1.kept hk,h.2⟩
theorem KoP.nil {P:Nat→Prop}(w:World):KoP P w (.slice none 0 0) []:=⟨KoO.nil 0 w,fun j hj=>by cases hj⟩
theorem KoP.imp {P Q:Nat→Prop}{w:World}{u:Value}{k:List Com}(h:KoP P w u k) (hq:∀ j,P j→Q j):KoP Q w u k:=⟨h.1,fun j hj=>hq j (h.2 j hj)⟩
theorem KoO.toP {P:Nat→Prop}{B:Nat}{w:World}{u:Value}{k:List Com}(h:KoO B w u k) (hP:∀ j,B≤j→P j):KoP P w u k:=by
 refine ⟨h.mono (Nat.zero_le _),fun j hj=>hP j ?_⟩
 obtain ⟨K,⟨_,hr⟩,_⟩:=h
 rcases hr with ⟨rfl,_⟩ | ⟨g,cap,cur,rfl,hg,_⟩
 ·cases hj
 ·cases hj;exact hg
theorem KoV.one {w:World}{u:Value}{k:List Com}(h:KoV w u k):∃ ao n c,u=.slice ao n c:=by
 obtain ⟨ao,n,c,K,h1,_⟩:=h
 exact ⟨ao,n,c,h1⟩
theorem wpAnyH_more {P:Program}{md:Region.Mode}{ops:Array Oper}{Q:Exit→Act→World→Prop}{S S':World→Prop}(hS:∀ w,S' w→S w):∀ (fuel:Nat) (listed:Array Bool) (a:Act) (w:World),wpAnyH P md ops Q S' fuel listed a w→wpAnyH P md ops Q S fuel listed a w
 | 0,_,_,_,h=>h
 | fuel+1,_,_,_,h=>⟨h.1,fun i hi=>wpOp_mono (fun a' w' h'=>⟨hS _ h'.1,wpAnyH_more hS fuel _ a' w' h'.2⟩) (h.2 i hi)⟩
theorem wpAnyH_list {P:Program}{md:Region.Mode}{ops:Array Oper}{Q:Exit→Act→World→Prop}{S:World→Prop}{fuel fuel':Nat}{listed l':Array Bool}{a:Act}{w:World}(hf:fuel=fuel') (h:listed=l') (k:wpAnyH P md ops Q S fuel' l' a w):wpAnyH P md ops Q S fuel listed a w:=by
 subst hf;subst h;exact k
theorem sT:(∀ {α:Type}{xs:List α}{i:Nat}(h:i < xs.toArray.size),xs.toArray[i]=xs[i]'(by simpa using h))∧(∀ {α:Type}{i:Nat}(a:α) (l:List α) (h:i+1 < (a :: l).length),(a :: l)[i+1]=l[i]'(Nat.lt_of_succ_lt_succ h))∧(∀ {α:Type}(a:α) (l:List α) (h:0 < (a :: l).length),(a :: l)[0]=a)∧(∀ {α:Type}(l:List α) (i:Nat) (x:α),l.toArray.setIfInBounds i x=(l.set i x).toArray)∧(∀ {α:Type}(a b:α) (l:List α),(a :: l).set 0 b=b :: l)∧(∀ {α:Type}(a b:α) (l:List α) (n:Nat),(a :: l).set (n+1) b=a :: l.set n b) :=
 ⟨fun h=>List.getElem_toArray h,fun _ _ _=>rfl,fun _ _ _=>rfl,fun l i x=>List.setIfInBounds_toArray l i x,fun _ _ _=>rfl,fun _ _ _ _=>rfl⟩
def runK (md:Region.Mode) (ops:Array Oper):List Nat→Array Bool→Bool
 | [],_=>true
 | i :: is,l=>((ops[i]?.any (·.dst.isSome)) && (Region.free md ops l i && (Region.ready md ops l).contains i)) && runK md ops is (l.setIfInBounds i true)
def setK:List Nat→Array Bool→Array Bool
 | [],l=>l
 | i :: is,l=>setK is (l.setIfInBounds i true)
def YK (P:Program) (ops:Array Oper) (S:World→Prop) (K:Act→Prop):List Nat→Act→Prop
 | [],a=>K a
 | i :: is,a=>∃ oi v,ops[i]?=some oi∧YieldsIf P ops S oi v a∧YK P ops S K is (a.put oi.dst v)
theorem yk {P:Program}{ops:Array Oper}{S:World→Prop}{K:Act→Prop}{i:Nat}{is:List Nat}{a:Act}(v:Value) {oi:Oper}(hi:ops[i]?=some oi) (hy:YieldsIf P ops S oi v a) (h:YK P ops S K is (a.put oi.dst v)):YK P ops S K (i :: is) a:=⟨oi,v,hi,hy,h⟩
theorem yk0 {P:Program}{ops:Array Oper}{S:World→Prop}{K:Act→Prop}{a:Act}(h:K a):YK P ops S K [] a:=h
theorem tksK {P:Program}{ops:Array Oper}{Q:Exit→Act→World→Prop}{md:Region.Mode}{S:World→Prop}{w:World}(hs:Region.noSelect ops=true) (hQ:∀ c a w t v,Q (.panic c) (Act.put a (some t) v) w→Q (.panic c) a w) (hS:S w):∀ (is:List Nat) {fuel:Nat}{listed:Array Bool}{a:Act},runK md ops is listed=true→YK P ops S (fun a'=>wpAnyH P md ops Q S fuel (setK is listed) a' w) is a→wpAnyH P md ops Q S (fuel+is.length) listed a w
 | [],_,_,_,_,h=>h
 | i :: is,fuel,listed,a,hk,h=>by
   obtain ⟨oi,v,hi,hy,h⟩:=h
   simp only [runK,Bool.and_eq_true] at hk
   have hd:=hk.1.1
   rw [hi] at hd
   obtain ⟨t,ht⟩:=Option.isSome_iff_exists.1 (show oi.dst.isSome=true from hd)
   exact wpAnyH_take hi hs hk.1.2.1 hk.1.2.2 (fun c a w hq=>hQ c a w t v (by rw [ht] at hq;exact hq)) hy hS (tksK hs hQ hS is hk.2 h)
theorem tks {P:Program}{ops:Array Oper}{Q:Exit→Act→World→Prop}{md:Region.Mode}{S:World→Prop}{w:World}(is:List Nat) {fuel fuel':Nat}{listed:Array Bool}{a:Act}(hf:fuel=fuel'+is.length) (hk:(Region.noSelect ops && runK md ops is listed)=true) (hQ:∀ c a w t v,Q (.panic c) (Act.put a (some t) v) w→Q (.panic c) a w) (hS:S w) (h:YK P ops S (fun a'=>wpAnyH P md ops Q S fuel' (setK is listed) a' w) is a):wpAnyH P md ops Q S fuel listed a w:=by
 rw [Bool.and_eq_true] at hk
 subst hf
 exact tksK hk.1 hQ hS is hk.2 h
theorem rd1 {P:Program}{ops:Array Oper}{Q:Exit→Act→World→Prop}{md:Region.Mode}{S:World→Prop}{w:World}{fuel:Nat}{listed:Array Bool}{a:Act}{o:Oper}(i:Nat) (hr:Region.ready md ops listed=[i]) (ho:ops[i]?=some o) (h:∀ K':Act→World→Prop,Shut (∀ a w,S w→(S w→wpAnyH P md ops Q S fuel (listed.setIfInBounds i true) a w)→K' a w)→if Region.wanted o (yielded ops a.tmps)=true then Oper.wp P o a w K' Q else K' (a.put o.dst undef) w):wpAnyH P md ops Q S (fuel+1) listed a w :=
 wpAnyH_ready hr (by simp) (AllReadyH.cons ho h AllReadyH.nil)
theorem tk {P:Program}{ops:Array Oper}{Q:Exit→Act→World→Prop}{md:Region.Mode}{S:World→Prop}{w:World}{fuel:Nat}{listed:Array Bool}{a:Act}{oi:Oper}(i:Nat) (v:Value) (hi:ops[i]?=some oi) (hk:(Region.noSelect ops && (Region.free md ops listed i && (Region.ready md ops listed).contains i))=true) (hQ:∀ c a w,Q (.panic c) (a.put oi.dst v) w→Q (.panic c) a w) (hy:YieldsIf P ops S oi v a) (hS:S w) (h:wpAnyH P md ops Q S fuel (listed.setIfInBounds i true) (a.put oi.dst v) w):wpAnyH P md ops Q S (fuel+1) listed a w:=by
 rw [Bool.and_eq_true,Bool.and_eq_true] at hk
 exact wpAnyH_take hi hk.1 hk.2.1 hk.2.2 hQ hy hS h
end Go.Proofs.YtakafmejllilnaaGreat
