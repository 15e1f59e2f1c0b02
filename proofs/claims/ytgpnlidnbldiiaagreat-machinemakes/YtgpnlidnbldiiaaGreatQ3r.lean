/-
  Texts laid as one.
-/
import Derived.Test.YtgpnlidnbldiiaaGreatQ1r
import Derived.Test.YtgpnlidnbldiiaaGreatProg
import Derived.Laws.OwnMore
import Derived.Deep.QuietTactic
import Derived.BigQuiet
import Derived.Deep.RegionHeld3
import Derived.Handy
import Derived.Test.YtgpnlidnbldiiaaGreatQ2r
import Derived.Laws.AppendOwn
import Derived.OwnWalk
import Derived.WalkSmall
import Derived.Laws.Rows
import Derived.Laws.ResultCell
/-
 Changes in memory: rows that are read,rows that are written in their place.
-/
namespace Go.Proofs.YtgpnlidnbldiiaaGreat
open Go.RowKit
def iA (x:Ch):List Value:=[.string (ak x.p),.bool x.g,.int .u64 x.d]
def chV (x:Ch):Value:=.agg #[.string (ak x.p),.bool x.g,.int .u64 x.d]
structure j5 (w:World) (b o:Nat) (x:Ch):Prop where
 c0:w.cell? ⟨b,o,none⟩=some (.string (ak x.p))
 c1:w.cell? ⟨b,o+1,none⟩=some (.bool x.g)
 c2:w.cell? ⟨b,o+2,none⟩=some (.int .u64 x.d)
theorem j5.kept {S:List Nat}{a w:World}{b o:Nat}{x:Ch}(h:j5 a b o x) (k:aa S a w) (hb:b ∉ S):j5 w b o x :=
 ⟨k.cell h.c0 hb,k.cell h.c1 hb,k.cell h.c2 hb⟩
def di (w:World) (ao:Option Addr) (n c:Nat) (L:List Ch):Prop :=
 L.length=n∧n≤c∧c≤maxLen∧∀ i (h:i < L.length),∃ b o,ao=some ⟨b,o,none⟩∧j5 w b (o+i*3) L[i]
theorem di.kept {S:List Nat}{a w:World}{ao:Option Addr}{n c:Nat}{L:List Ch}(h:di a ao n c L) (k:aa S a w) (hb:∀ g∈Er ao,g ∉ S):di w ao n c L :=
 ⟨h.1,h.2.1,h.2.2.1,fun i hi=>by obtain ⟨b,o,e,h1⟩:=h.2.2.2 i hi;exact ⟨b,o,e,h1.kept k (hb b (by rw [e];simp [Er]))⟩⟩
theorem di.some {w:World}{ao:Option Addr}{n c:Nat}{L:List Ch}(h:di w ao n c L) (hn:0 < n) :
 ∃ b o,ao=Option.some ⟨b,o,none⟩∧∀ i (hi:i < L.length),j5 w b (o+i*3) L[i]:=by
 obtain ⟨b,o,e,_⟩:=h.2.2.2 0 (by rw [h.1];exact hn);refine ⟨b,o,e,fun i hi=>?_⟩;obtain ⟨b',o',e',h⟩:=h.2.2.2 i hi;rw [e] at e';cases e'
 exact h
theorem ib (L:List Ch):(L.flatMap iA).length=L.length*3:=by
 induction L with
 | nil=>rfl
 | cons x L ih=>simp [iA,ih];omega
theorem j8 (L:List Ch) (i:Nat) (h:i < L.length) (j:Nat) (hj:j < 3):(L.flatMap iA)[i*3+j]?=(iA L[i])[j]?:=by
 induction L generalizing i with
 | nil=>simp at h
 | cons x L ih =>
   rw [List.flatMap_cons];cases i with
   | zero=>rw [List.getElem?_append_left (by simp [iA];omega)];simp
   | succ i =>
     rw [List.getElem?_append_right (by simp [iA];omega)];have e:(i+1)*3+j - (iA x).length=i*3+j:=by simp [iA];omega
     rw [e,ih i (by simpa using h)];simp
def aP (B:Nat) (w:World) (v:Value) (L:List Ch):Prop:=w.ownsRow B 60 3 v L.length (L.flatMap iA)
theorem aP.sl {B:Nat}{w:World}{v:Value}{L:List Ch}(h:aP B w v L):∃ ao c,v=.slice ao L.length c∧di w ao L.length c L:=by
 have h':=h;obtain ⟨h1,h2⟩:=h;rcases h2 with ⟨hv,hn⟩ | ⟨g,cap,cur,hv,hg,hh,h3,h4,h5,h6⟩
 ·have:L=[]:=by simpa using hn
  subst this;exact ⟨none,0,by rw [hv];rfl,rfl,Nat.le_refl _,Nat.zero_le _,fun i hi=>by simp at hi⟩
 ·refine ⟨some ⟨g,0,none⟩,cap,hv,rfl,h3,h4,fun i hi=>⟨g,0,rfl,?_⟩⟩;unfold aP at h';rw [hv] at h'
  have c:∀ j,j < 3→w.cell? ⟨g,0+i*3+j,none⟩=(iA L[i])[j]?:=fun j hj=>by
   rw [Nat.zero_add,World.ownsRow.cellAt h' (i*3+j) (by omega),j8 L i hi j hj]
  exact ⟨c 0 (by omega),c 1 (by omega),c 2 (by omega)⟩
structure aG (w:World) (g n cap:Nat) (f:Nat→Ch):Prop where
 le:n≤cap
 max:cap≤maxLen
 row:∃ cur:Array Value,w.heap[g]?=some (.cells cur 60 (0,0))∧cur.size=cap*3 ∧
  ∀ i,i < n→cur[i*3]?=some (.string (ak (f i).p))∧cur[i*3+1]?=some (.bool (f i).g)∧cur[i*3+2]?=some (.int .u64 (f i).d)
theorem aG.ch {w:World}{g n cap:Nat}{f:Nat→Ch}(h:aG w g n cap f) {i:Nat}(hi:i < n):j5 w g (i*3) (f i):=by
 obtain ⟨cur,hh,hs,hc⟩:=h.row;obtain ⟨c0,c1,c2⟩:=hc i hi;refine ⟨?_,?_,?_⟩ <;> simp [World.cell?,hh,c0,c1,c2]
theorem aG.froz {w:World}{g n cap:Nat}{f:Nat→Ch}(h:aG w g n cap f) (j:Nat):w.frozen? ⟨g,j,none⟩=false:=by
 obtain ⟨cur,hh,_⟩:=h.row;simp [World.frozen?,hh]
theorem aG.lt {w:World}{g n cap:Nat}{f:Nat→Ch}(h:aG w g n cap f):g < w.heap.size:=by
 obtain ⟨cur,hh,_⟩:=h.row;exact aq hh
theorem aG.kept {S:List Nat}{a w:World}{g n cap:Nat}{f:Nat→Ch}(h:aG a g n cap f) (k:aa S a w) (hg:g ∉ S):aG w g n cap f:=by
 obtain ⟨h1,h2,cur,hh,r⟩:=h;exact ⟨h1,h2,cur,k.at hh hg,r⟩
theorem aG.congr {w:World}{g n cap:Nat}{f f':Nat→Ch}(h:aG w g n cap f) (e:∀ i,i < n→f' i=f i):aG w g n cap f':=by
 obtain ⟨h1,h2,cur,hh,hs,r⟩:=h;exact ⟨h1,h2,cur,hh,hs,fun i hi=>by rw [e i hi];exact r i hi⟩
def jk (w:World) (g i:Nat) (x:Ch):World :=
 ((w.setCell ⟨g,i*3,none⟩ (.string (ak x.p))).setCell ⟨g,i*3+1,none⟩ (.bool x.g)).setCell ⟨g,i*3+2,none⟩ (.int .u64 x.d)
theorem aG.put {w:World}{g n cap:Nat}{f:Nat→Ch}(h:aG w g n cap f) {i:Nat}(hi:i < n) (x:Ch):aG (jk w g i x) g n cap (fun k=>if k=i then x else f k):=by
 obtain ⟨h1,h2,cur,hh,hs,r⟩:=h;have e1:=heap_setCell_same w g (i*3) cur _ (.string (ak x.p)) hh;have e2:=heap_setCell_same _ g (i*3+1) _ _ (.bool x.g) e1;have e3:=heap_setCell_same _ g (i*3+2) _ _ (.int .u64 x.d) e2;refine ⟨h1,h2,_,e3,by simpa using hs,fun k hk=>?_⟩;obtain ⟨r0,r1,r2⟩:=r k hk;by_cases hki:k=i
 ·subst hki;simp only [if_true];have hb:k*3+2 < cur.size:=by omega
  refine ⟨?_,?_,?_⟩ <;> simp [Array.getElem?_setIfInBounds] <;> omega
 ·simp only [if_neg hki];refine ⟨?_,?_,?_⟩
  ·rw [Array.getElem?_setIfInBounds_ne (by omega),Array.getElem?_setIfInBounds_ne (by omega),Array.getElem?_setIfInBounds_ne (by omega)];exact r0
  ·rw [Array.getElem?_setIfInBounds_ne (by omega),Array.getElem?_setIfInBounds_ne (by omega),Array.getElem?_setIfInBounds_ne (by omega)];exact r1
  ·rw [Array.getElem?_setIfInBounds_ne (by omega),Array.getElem?_setIfInBounds_ne (by omega),Array.getElem?_setIfInBounds_ne (by omega)];exact r2
theorem pk (w:World) (g i:Nat) (x:Ch):aa [g] w (jk w g i x) :=
 (((aa.refl [g] w).setCell (by simp) _).setCell (by simp) _).setCell (by simp) _
theorem aG.swap {w:World}{g n cap:Nat}{f:Nat→Ch}(h:aG w g n cap f) {i j:Nat}(hi:i < n) (hj:j < n):aG (jk (jk w g i (f j)) g j (f i)) g n cap (jE f i j):=by
 refine ((h.put hi (f j)).put hj (f i)).congr fun k _=>?_;simp only [jE];by_cases h1:k=i <;> by_cases h2:k=j <;> simp_all
theorem aP.row {B:Nat}{w:World}{v:Value}{L:List Ch}(h:aP B w v L) (hn:0 < L.length) (z:Ch):∃ g cap,v=.slice (some ⟨g,0,none⟩) L.length cap∧B≤g∧aG w g L.length cap (fun i=>L.getD i z):=by
 obtain ⟨h1,h2⟩:=h;rcases h2 with ⟨hv,h0⟩ | ⟨g,cap,cur,hv,hg,hh,h3,h4,h5,h6⟩
 ·omega
 ·refine ⟨g,cap,hv,hg,h3,h4,cur,hh,h5,fun i hi=>?_⟩
  have c:∀ j,j < 3→cur[i*3+j]?=(iA (L.getD i z))[j]?:=fun j hj=>by
   have e:L.getD i z=L[i]:=by simp [List.getD,hi]
   rw [e,← j8 L i hi j hj,← h6,List.getElem?_take,if_pos (by omega)];simp
  exact ⟨c 0 (by omega),c 1 (by omega),c 2 (by omega)⟩
theorem aG.own {w:World}{g n cap:Nat}{f:Nat→Ch}(h:aG w g n cap f) {B:Nat}(hB:B≤g):aP B w (.slice (some ⟨g,0,none⟩) n cap) (iu f 0 n):=by
 obtain ⟨h1,h2,cur,hh,hs,r⟩:=h;have hl:(iu f 0 n).length=n:=by rw [ft];omega
 unfold aP;refine ⟨ib _,.inr ⟨g,cap,cur,by rw [hl],hB,hh,by rw [hl];exact h1,h2,hs,?_⟩⟩;rw [hl];apply List.ext_getElem?
 intro q;by_cases hq:q < n*3
 ·rw [List.getElem?_take,if_pos hq];obtain ⟨r0,r1,r2⟩:=r (q / 3) (by omega);have e:=j8 (iu f 0 n) (q / 3) (by rw [hl];omega) (q % 3) (by omega);have e2:q / 3*3+q % 3=q:=by omega
  rw [e2,i6,Nat.zero_add] at e;rw [e];have h3:q % 3=0∨q % 3=1∨q % 3=2:=by omega
  generalize q / 3=u at *;rcases h3 with h3 | h3 | h3
  ·rw [h3] at e2 ⊢;subst e2;simpa [iA] using r0
  ·rw [h3] at e2 ⊢;subst e2;simpa [iA] using r1
  ·rw [h3] at e2 ⊢;subst e2;simpa [iA] using r2
 ·rw [List.getElem?_eq_none (by simp;omega),List.getElem?_eq_none (by rw [ib,hl];omega)]
theorem iJ:(Tryz.prog.info? 60).map (fun i=>(i.zero,i.size,i.bytes))=some (some (.agg #[.string ⟨#[]⟩,.bool false,.int .u64 0]),3,32):=by kernel_rfl
theorem uG (L:List Ch):∀ u∈L.flatMap iA,u.oneCell'=true:=by
 intro u hu;simp only [List.mem_flatMap,iA] at hu;obtain ⟨x,_,hx⟩:=hu;simp at hx
 rcases hx with rfl | rfl | rfl <;> rfl
theorem up {w:World}{b o:Nat}{L:List Ch}(h:∀ i (hi:i < L.length),j5 w b (o+i*3) L[i]):∀ (j:Nat) (u:Value),(L.flatMap iA)[j]?=some u→w.cell? ⟨b,o+j,none⟩=some u:=by
 intro j u hj
 have hlt:j < (L.flatMap iA).length:=by
  by_cases hl:j < (L.flatMap iA).length
  ·exact hl
  ·rw [List.getElem?_eq_none (by omega)] at hj;cases hj
 rw [ib] at hlt;have hi:j / 3 < L.length:=by omega
 have e:=j8 L (j / 3) hi (j % 3) (by omega);have e2:j / 3*3+j % 3=j:=by omega
 rw [e2,hj] at e;obtain ⟨c0,c1,c2⟩:=h (j / 3) hi;have h3:j % 3=0∨j % 3=1∨j % 3=2:=by omega
 generalize j / 3=q at *;rcases h3 with h3 | h3 | h3 <;> rw [h3] at e e2 <;> simp [iA] at e <;> subst e <;> subst e2
 ·exact c0
 ·rw [← Nat.add_assoc];exact c1
 ·rw [← Nat.add_assoc];exact c2
theorem di.runs {w:World}{b o n c:Nat}{L:List Ch}(h:di w (Option.some ⟨b,o,none⟩) n c L):∀ (j:Nat) (u:Value),(L.flatMap iA)[j]?=Option.some u→w.cell? ((⟨b,o,none⟩:Addr).add j)=Option.some u:=by
 intro j u hj;rw [dd];refine up (fun i hi=>?_) j u hj;obtain ⟨b',o',e,h1⟩:=h.2.2.2 i hi;cases e
 exact h1
theorem dV {w:World}{ops:Array Oper}{rest:List Oper}{o:Oper}{a:Act}{Q:Exit→Act→World→Prop}(hgd:o.guard=none) (s x:Operand)
 (hop:o.op=.call { callee:=.builtin .append,args:=#[s,x],argTypes:=#[41,41] })
 (B:Nat) (v:Value) (M:List Ch) (hs:a.eval s=v) (hO:aP B w v M) (ad:Addr) (m c:Nat) (N:List Ch) (hx:a.eval x=.slice (some ad) m c) (hm:m=N.length) (hc:∀ (j:Nat) (u:Value),(N.flatMap iA)[j]?=some u→w.cell? (ad.add j)=some u)
 (hlen:M.length+N.length≤4398046511104) (hB:B≤w.heap.size)
 (h:∀ v' w',aP B w' v' (M++N)→w.grownBy w' v.ownBlock→wpList Tryz.prog ops Q rest (a.put o.dst v') w'):wpList Tryz.prog ops Q (o :: rest) a w:=by
 subst hm;obtain ⟨i0,hi,hz0,hz1,hz2⟩:=info_parts iJ;refine wpList_append_own w hgd s x 41 hop B 60 i0 (.agg #[.string ⟨#[]⟩,.bool false,.int .u64 0]) 3 32 Tryz.underlying41 hi hz0 hz1 hz2 rfl (by decide) v M.length (M.flatMap iA) hs hO ad N.length c (N.flatMap iA) hx (ib N) hc (uG N) (by unfold maxLen;omega) (by omega) hB ?_;intro v' w' h1 h2 _;refine h v' w' ?_ h2;unfold aP;rw [List.length_append,List.flatMap_append];exact h1
theorem bI {B:Nat}{a w w':World}{v:Value}{L:List Ch}(h:aa [] a w) (hO:aP B w v L) (hB:a.heap.size≤B) (hg:w.grownBy w' v.ownBlock):aa [] a w' :=
 h.grown hg fun k hk=>.inr (Nat.le_trans hB (World.ownsRow.lt hO k hk).1)
theorem aP.nil (B:Nat) (w:World):aP B w (.slice none 0 0) []:=World.ownsRow_nil w B 60 3
theorem fw (w:World) (B:Nat) (hB:B≤w.heap.size):aP B (w.alloc (.cells #[] 60)) (.slice (some ⟨w.heap.size,0,none⟩) 0 0) [] :=
 ⟨rfl,.inr ⟨w.heap.size,0,#[],rfl,hB,heap_alloc_new w _,Nat.le_refl _,Nat.zero_le _,rfl,rfl⟩⟩
theorem aP.kept {B:Nat}{a w:World}{v:Value}{L:List Ch}(h:aP B a v L) (k:aa [] a w):aP B w v L:=k.ownsRow h (by simp)
theorem di.runs' {w:World}{ad:Addr}{n c:Nat}{L:List Ch}(h:di w (Option.some ad) n c L):∀ (j:Nat) (u:Value),(L.flatMap iA)[j]?=Option.some u→w.cell? (ad.add j)=Option.some u:=by
 cases L with
 | nil=>intro j u hj;simp at hj
 | cons x L =>
   obtain ⟨b,o,e,_⟩:=h.2.2.2 0 (by simp);cases e
   exact h.runs
theorem di.drop {w:World}{b o n c:Nat}{L:List Ch}(h:di w (Option.some ⟨b,o,none⟩) n c L) {k:Nat}(hk:k≤n):di w (Option.some ⟨b,o+k*3,none⟩) (n - k) (c - k) (L.drop k):=by
 refine ⟨by rw [List.length_drop,h.1],by have:=h.2.1;omega,by have:=h.2.2.1;omega,fun i hi=>⟨b,o+k*3,rfl,?_⟩⟩;rw [List.length_drop] at hi;obtain ⟨b',o',e,h1⟩:=h.2.2.2 (k+i) (by omega);cases e
 rw [List.getElem_drop];have e:o+k*3+i*3=o+(k+i)*3:=by omega
 rw [e];exact h1
theorem aP.mono {B C:Nat}{w:World}{v:Value}{L:List Ch}(h:aP C w v L) (hB:B≤C):aP B w v L:=by
 obtain ⟨h1,h2⟩:=h;refine ⟨h1,?_⟩;rcases h2 with h2 | ⟨g,cap,cur,hv,hg,r⟩
 ·exact .inl h2
 ·exact .inr ⟨g,cap,cur,hv,Nat.le_trans hB hg,r⟩
theorem aP.slice {B:Nat}{w:World}{ao:Option Addr}{n c:Nat}{L:List Ch}(h:aP B w (.slice ao n c) L):di w ao n c L:=by
 obtain ⟨ao',c',e,hS⟩:=h.sl;cases e
 exact hS
theorem di.lit (w:World) (L:List Ch) {n:Nat}(hn:n=L.length) (hm:n≤maxLen) {vs:Array Value}(hv:vs=(L.flatMap iA).toArray):di (w.alloc (.cells vs 60)) (Option.some ⟨w.heap.size,0,none⟩) n n L:=by
 subst hn;subst hv;have h:=heap_alloc_new w (.cells (L.flatMap iA).toArray 60);refine ⟨rfl,Nat.le_refl _,hm,fun i hi=>⟨w.heap.size,0,rfl,?_⟩⟩
 have e:∀ j,j < 3→(L.flatMap iA).toArray[i*3+j]?=(iA L[i])[j]?:=fun j hj=>by
  rw [List.getElem?_toArray];exact j8 L i hi j hj
 rw [Nat.zero_add];exact ⟨ag h (e 0 (by omega)),ag h (e 1 (by omega)),ag h (e 2 (by omega))⟩
def gE (x:aV × Value):List Value:=[.int .i64 x.1.r,.int .i64 x.1.b,.string (ak x.1.n),x.2]
theorem nJ (K:List (aV × Value)):(K.flatMap gE).length=K.length*4:=by
 induction K with
 | nil=>rfl
 | cons x K ih=>simp [List.flatMap_cons,ih,gE];omega
theorem ql (K:List (aV × Value)) (i:Nat) (h:i < K.length) (j:Nat) (hj:j < 4):(K.flatMap gE)[i*4+j]?=(gE K[i])[j]?:=by
 induction K generalizing i with
 | nil=>simp at h
 | cons x K ih =>
   cases i with
   | zero=>simp only [List.flatMap_cons,Nat.zero_mul,Nat.zero_add,List.getElem_cons_zero];rw [List.getElem?_append_left (by simp [gE];omega)]
   | succ i =>
     simp only [List.flatMap_cons,List.getElem_cons_succ];rw [List.getElem?_append_right (by simp [gE];omega)];rw [← ih i (by simpa using h)];congr 1
     simp [gE];omega
structure zA (w:World) (b o:Nat) (x:aV × Value):Prop where
 c0:w.cell? ⟨b,o,none⟩=some (.int .i64 x.1.r)
 c1:w.cell? ⟨b,o+1,none⟩=some (.int .i64 x.1.b)
 c2:w.cell? ⟨b,o+2,none⟩=some (.string (ak x.1.n))
 c3:w.cell? ⟨b,o+3,none⟩=some x.2
theorem zA.kept {S:List Nat}{a w:World}{b o:Nat}{x:aV × Value}(h:zA a b o x) (k:aa S a w) (hb:b ∉ S):zA w b o x :=
 ⟨k.cell h.c0 hb,k.cell h.c1 hb,k.cell h.c2 hb,k.cell h.c3 hb⟩
def Dk (w:World) (v:Value) (L:List Ch):Prop:=∃ ao n c,v=.slice ao n c∧di w ao n c L∧(ao=none→c=0)
theorem Dk.kept {a w:World}{v:Value}{L:List Ch}(h:Dk a v L) (k:aa [] a w):Dk w v L:=by
 obtain ⟨ao,n,c,h1,h2,h3⟩:=h;exact ⟨ao,n,c,h1,h2.kept k (by simp),h3⟩
def iC (w:World) (ao:Option Addr) (n c:Nat) (K:List (aV × Value)):Prop :=
 K.length=n∧n≤c∧c≤maxLen∧(∀ i (h:i < K.length),∃ b o,ao=some ⟨b,o,none⟩∧zA w b (o+i*4) K[i])∧∀ x∈K,Dk w x.2 x.1.c
theorem iC.kept {a w:World}{ao:Option Addr}{n c:Nat}{K:List (aV × Value)}(h:iC a ao n c K) (k:aa [] a w):iC w ao n c K :=
 ⟨h.1,h.2.1,h.2.2.1,fun i hi=>by obtain ⟨b,o,e,h1⟩:=h.2.2.2.1 i hi;exact ⟨b,o,e,h1.kept k (by simp)⟩,fun x hx=>(h.2.2.2.2 x hx).kept k⟩
def bk (B:Nat) (w:World) (v:Value) (K:List (aV × Value)):Prop:=w.ownsRow B 137 4 v K.length (K.flatMap gE)
def gK (C:Nat) (w:World) (K:List (aV × Value)):Prop:=∀ x∈K,aP C w x.2 x.1.c
theorem aP.chV {B:Nat}{w:World}{v:Value}{L:List Ch}(h:aP B w v L):Dk w v L:=by
 have h':=h;obtain ⟨ao,c,rfl,hs⟩:=h.sl;refine ⟨ao,_,c,rfl,hs,fun e=>?_⟩;subst e;obtain ⟨_,h2⟩:=h';rcases h2 with ⟨hv,_⟩ | ⟨g,cap,cur,hv,_⟩
 ·simp at hv;exact hv.2
 ·cases hv
theorem bk.sl {B C:Nat}{w:World}{v:Value}{K:List (aV × Value)}(h:bk B w v K) (ho:gK C w K):∃ ao c,v=.slice ao K.length c∧iC w ao K.length c K∧(ao=none→c=0):=by
 have h':=h;obtain ⟨h1,h2⟩:=h;rcases h2 with ⟨hv,hn⟩ | ⟨g,cap,cur,hv,hg,hh,h3,h4,h5,h6⟩
 ·have:K=[]:=by simpa using hn
  subst this;exact ⟨none,0,by rw [hv];rfl,⟨rfl,Nat.le_refl _,Nat.zero_le _,fun i hi=>by simp at hi,fun x hx=>by simp at hx⟩,fun _=>rfl⟩
 ·refine ⟨some ⟨g,0,none⟩,cap,hv,⟨rfl,h3,h4,fun i hi=>⟨g,0,rfl,?_⟩,fun x hx=>(ho x hx).chV⟩,by simp⟩
  have hc:∀ j,j < 4→w.cell? ⟨g,0+i*4+j,none⟩=(gE K[i])[j]?:=fun j hj=>by
   have:=World.ownsRow.cellAt (w:=w) (base:=B) (e:=137) (size:=4) (n:=K.length) (cap:=cap) (g:=g) (xs:=K.flatMap gE) (by rw [← hv];exact h') (i*4+j) (by omega)
   rw [Nat.zero_add,this,ql K i hi j hj]
  refine ⟨?_,?_,?_,?_⟩
  ·have:=hc 0 (by omega);simpa [gE] using this
  ·have:=hc 1 (by omega);simpa [gE] using this
  ·have:=hc 2 (by omega);simpa [gE] using this
  ·have:=hc 3 (by omega);simpa [gE] using this
theorem bk.nil (B:Nat) (w:World):bk B w (.slice none 0 0) []:=World.ownsRow_nil w B 137 4
theorem bC {w:World}{b:Nat}{v0 v1 v2:Value}{t:TypeId}(h:w.heap[b]?=some (.cells #[v0,v1,v2] t (0,0))) :
 w.cell? ⟨b,0,none⟩=some v0∧w.cell? ⟨b,1,none⟩=some v1∧w.cell? ⟨b,2,none⟩=some v2:=by
 simp [World.cell?,h]
theorem gt:(Tryz.prog.info? 137).map (fun i=>(i.zero,i.size,i.bytes))=some (some (.agg #[.int .i64 0,.int .i64 0,.string ⟨#[]⟩,.slice none 0 0]),4,56):=by kernel_rfl
theorem Ar {K:List (aV × Value)}(h:∀ x∈K,x.2.oneCell'=true):∀ u∈K.flatMap gE,u.oneCell'=true:=by
 intro u hu;obtain ⟨x,hx,hu⟩:=List.mem_flatMap.1 hu;simp [gE] at hu
 rcases hu with rfl | rfl | rfl | rfl
 ·rfl
 ·rfl
 ·rfl
 ·exact h x hx
theorem uH {w:World}{b o:Nat}{K:List (aV × Value)}(h:∀ i (hi:i < K.length),zA w b (o+i*4) K[i]):∀ (j:Nat) (u:Value),(K.flatMap gE)[j]?=some u→w.cell? ⟨b,o+j,none⟩=some u:=by
 intro j u hj
 have hlt:j < (K.flatMap gE).length:=by
  by_cases hl:j < (K.flatMap gE).length
  ·exact hl
  ·rw [List.getElem?_eq_none (by omega)] at hj;cases hj
 rw [nJ] at hlt;have hi:j / 4 < K.length:=by omega
 have e:=ql K (j / 4) hi (j % 4) (by omega);have e2:j / 4*4+j % 4=j:=by omega
 rw [e2,hj] at e;obtain ⟨c0,c1,c2,c3⟩:=h (j / 4) hi;have h3:j % 4=0∨j % 4=1∨j % 4=2∨j % 4=3:=by omega
 generalize j / 4=q at *;rcases h3 with h3 | h3 | h3 | h3 <;> rw [h3] at e e2 <;> simp [gE] at e <;> subst e <;> subst e2
 ·exact c0
 ·rw [← Nat.add_assoc];exact c1
 ·rw [← Nat.add_assoc];exact c2
 ·rw [← Nat.add_assoc];exact c3
theorem iC.runs {w:World}{ad:Addr}{n c:Nat}{K:List (aV × Value)}(h:iC w (Option.some ad) n c K):∀ (j:Nat) (u:Value),(K.flatMap gE)[j]?=Option.some u→w.cell? (ad.add j)=Option.some u:=by
 cases K with
 | nil=>intro j u hj;simp at hj
 | cons x K =>
   obtain ⟨b,o,e,_⟩:=h.2.2.2.1 0 (by simp);cases e
   intro j u hj;rw [dd];refine uH (fun i hi=>?_) j u hj;obtain ⟨b',o',e,h1⟩:=h.2.2.2.1 i hi;cases e
   exact h1
theorem iC.ones {w:World}{ao:Option Addr}{n c:Nat}{K:List (aV × Value)}(h:iC w ao n c K):∀ x∈K,x.2.oneCell'=true:=fun x hx=>by
 obtain ⟨mo,m,mc,e,_⟩:=h.2.2.2.2 x hx;rw [e];rfl
theorem qj {w:World}{ops:Array Oper}{rest:List Oper}{o:Oper}{a:Act}{Q:Exit→Act→World→Prop}(hgd:o.guard=none) (s x:Operand)
 (hop:o.op=.call { callee:=.builtin .append,args:=#[s,x],argTypes:=#[37,37] })
 (B:Nat) (v:Value) (M:List (aV × Value)) (hs:a.eval s=v) (hO:bk B w v M) (ad:Addr) (m c:Nat) (N:List (aV × Value)) (hx:a.eval x=.slice (some ad) m c) (hm:m=N.length) (hc:∀ (j:Nat) (u:Value),(N.flatMap gE)[j]?=some u→w.cell? (ad.add j)=some u) (h1:∀ x∈N,x.2.oneCell'=true)
 (hlen:M.length+N.length≤2513169434916) (hB:B≤w.heap.size)
 (h:∀ v' w',bk B w' v' (M++N)→w.grownBy w' v.ownBlock→wpList Tryz.prog ops Q rest (a.put o.dst v') w'):wpList Tryz.prog ops Q (o :: rest) a w:=by
 subst hm;obtain ⟨i0,hi,hz0,hz1,hz2⟩:=info_parts gt;refine wpList_append_own w hgd s x 37 hop B 137 i0 (.agg #[.int .i64 0,.int .i64 0,.string ⟨#[]⟩,.slice none 0 0]) 4 56 Tryz.underlying37 hi hz0 hz1 hz2 rfl (by decide) v M.length (M.flatMap gE) hs hO ad N.length c (N.flatMap gE) hx (nJ N) hc (Ar h1) (by unfold maxLen;omega) (by omega) hB ?_;intro v' w' h2 h3 _;refine h v' w' ?_ h3;unfold bk;rw [List.length_append,List.flatMap_append];exact h2
theorem wV (w:World) (B:Nat) (hB:B≤w.heap.size):bk B (w.alloc (.cells #[] 137)) (.slice (some ⟨w.heap.size,0,none⟩) 0 0) [] :=
 ⟨rfl,.inr ⟨w.heap.size,0,#[],rfl,hB,heap_alloc_new w _,Nat.le_refl _,Nat.zero_le _,rfl,rfl⟩⟩
theorem uX (K:List (aV × Value)) (i:Nat) (h:i < K.length) (u:Value):(K.set i (K[i].1,u)).flatMap gE=(K.flatMap gE).set (i*4+3) u:=by
 induction K generalizing i with
 | nil=>simp at h
 | cons x K ih =>
   cases i with
   | zero=>simp [List.flatMap_cons,gE]
   | succ i =>
     simp only [List.set_cons_succ,List.flatMap_cons,List.getElem_cons_succ];rw [ih i (by simpa using h),List.set_append,if_neg (by simp [gE];omega)];congr 2
     simp [gE];omega
theorem bk.set {B:Nat}{w:World}{g n cap:Nat}{K:List (aV × Value)}(h:bk B w (.slice (some ⟨g,0,none⟩) n cap) K) {i:Nat}(hi:i < K.length) (u:Value) :
 bk B (w.setCell ⟨g,i*4+3,none⟩ u) (.slice (some ⟨g,0,none⟩) n cap) (K.set i (K[i].1,u)):=by
 obtain ⟨h1,h2⟩:=h;rcases h2 with ⟨h2,_⟩ | ⟨g',cap',cur,hv,hg,hh,h3,h4,h5,h6⟩
 ·cases h2
 ·obtain ⟨rfl,rfl,rfl⟩:g=g'∧n=K.length∧cap=cap':=by simpa using hv
  refine ⟨by rw [uX K i hi,List.length_set,List.length_set];exact h1,.inr ⟨g,cap,cur.setIfInBounds (i*4+3) u,by simp,hg,heap_setCell_same w g (i*4+3) cur _ u hh,by simpa using h3,h4,by simpa using h5,?_⟩⟩;rw [uX K i hi,List.length_set,Array.toList_setIfInBounds,← h6];rw [List.take_set]
structure Rm where
 r:Rq
 mo:Option Addr
 m:Nat
 mc:Nat
def EJ:Rm:=⟨⟨0,[],0,0,0,[],[],[],0,0,0⟩,none,0,0⟩
def oH (x:Rm):List Value:=[.int .i64 x.r.k,.string (ak x.r.n),.int .i64 x.r.s,.int .i64 x.r.q,.int .i64 x.r.b,.string (ak x.r.f),.slice x.mo x.m x.mc,.string (ak x.r.p),.int .i64 x.r.fr,.int .i64 x.r.mn,.int .i64 x.r.mb]
def eh (x:Rm):Value:=.agg #[.int .i64 x.r.k,.string (ak x.r.n),.int .i64 x.r.s,.int .i64 x.r.q,.int .i64 x.r.b,.string (ak x.r.f),.slice x.mo x.m x.mc,.string (ak x.r.p),.int .i64 x.r.fr,.int .i64 x.r.mn,.int .i64 x.r.mb]
def tS (w:World) (x:Rm):Prop:=di w x.mo x.m x.mc x.r.c∧(x.mo=none→x.mc=0)∧(-9223372036854775808≤x.r.q∧x.r.q≤9223372036854775807)∧(-9223372036854775808≤x.r.fr∧x.r.fr≤9223372036854775807)∧(-9223372036854775808≤x.r.mn∧x.r.mn≤9223372036854775807)
theorem tS.kept {a w:World}{x:Rm}(h:tS a x) (k:aa [] a w):tS w x:=⟨h.1.kept k (by simp),h.2⟩
structure qE (w:World) (b o:Nat) (x:Rm):Prop where
 c0:w.cell? ⟨b,o,none⟩=some (.int .i64 x.r.k)
 c1:w.cell? ⟨b,o+1,none⟩=some (.string (ak x.r.n))
 c2:w.cell? ⟨b,o+2,none⟩=some (.int .i64 x.r.s)
 c3:w.cell? ⟨b,o+3,none⟩=some (.int .i64 x.r.q)
 c4:w.cell? ⟨b,o+4,none⟩=some (.int .i64 x.r.b)
 c5:w.cell? ⟨b,o+5,none⟩=some (.string (ak x.r.f))
 c6:w.cell? ⟨b,o+6,none⟩=some (.slice x.mo x.m x.mc)
 c7:w.cell? ⟨b,o+7,none⟩=some (.string (ak x.r.p))
 c8:w.cell? ⟨b,o+8,none⟩=some (.int .i64 x.r.fr)
 c9:w.cell? ⟨b,o+9,none⟩=some (.int .i64 x.r.mn)
 c10:w.cell? ⟨b,o+10,none⟩=some (.int .i64 x.r.mb)
theorem qE.kept {S:List Nat}{a w:World}{b o:Nat}{x:Rm}(h:qE a b o x) (k:aa S a w) (hb:b ∉ S):qE w b o x :=
 ⟨k.cell h.c0 hb,k.cell h.c1 hb,k.cell h.c2 hb,k.cell h.c3 hb,k.cell h.c4 hb,k.cell h.c5 hb,k.cell h.c6 hb,k.cell h.c7 hb,k.cell h.c8 hb,k.cell h.c9 hb,k.cell h.c10 hb⟩
theorem qE.of {w:World}{b o:Nat}{x:Rm}(h:∀ j,j < 11→w.cell? ⟨b,o+j,none⟩=(oH x)[j]?):qE w b o x :=
 ⟨h 0 (by omega),h 1 (by omega),h 2 (by omega),h 3 (by omega),h 4 (by omega),h 5 (by omega),h 6 (by omega),h 7 (by omega),h 8 (by omega),h 9 (by omega),h 10 (by omega)⟩
def BO (w:World) (ao:Option Addr) (n c:Nat) (D:List Rm):Prop :=
 D.length=n∧n≤c∧c≤maxLen∧(∀ i (h:i < D.length),∃ b o,ao=some ⟨b,o,none⟩∧qE w b (o+i*11) D[i])∧∀ x∈D,tS w x
theorem BO.kept {a w:World}{ao:Option Addr}{n c:Nat}{D:List Rm}(h:BO a ao n c D) (k:aa [] a w):BO w ao n c D :=
 ⟨h.1,h.2.1,h.2.2.1,fun i hi=>by obtain ⟨b,o,e,h1⟩:=h.2.2.2.1 i hi;exact ⟨b,o,e,h1.kept k (by simp)⟩,fun x hx=>(h.2.2.2.2 x hx).kept k⟩
def gA (v:Vt) (u:Value):Value:=.agg #[.int .i64 v.c,.int .i64 v.s,.int .i64 v.r,.string (ak v.p),.int .u64 v.d,u,.int .i64 v.m]
def nU (w:World) (u:Value) (k:List aV):Prop:=∃ ao n c K,u=.slice ao n c∧iC w ao n c K∧K.map Prod.fst=k∧(ao=none→c=0)
def cw (B:Nat) (w:World) (u:Value) (k:List aV):Prop:=∃ K,bk B w u K∧gK B w K∧K.map Prod.fst=k
theorem nU.kept {a w:World}{u:Value}{k:List aV}(h:nU a u k) (hk:aa [] a w):nU w u k:=by
 obtain ⟨ao,n,c,K,h1,h2,h3,h4⟩:=h;exact ⟨ao,n,c,K,h1,h2.kept hk,h3,h4⟩
theorem cw.ko {B:Nat}{w:World}{u:Value}{k:List aV}(h:cw B w u k):nU w u k:=by
 obtain ⟨K,h1,h2,h3⟩:=h;obtain ⟨ao,c,e,h4,h5⟩:=h1.sl h2;exact ⟨ao,K.length,c,K,e,h4,h3,h5⟩
theorem cw.keep {B:Nat}{S:List Nat}{Ts:List TypeId}{w w':World}{u:Value}{k:List aV}(h:cw B w u k) (hk:aa S w w') (hT:aJ w S Ts) (h1:137 ∉ Ts) (h2:60 ∉ Ts):cw B w' u k:=by
 obtain ⟨K,hr,ho,he⟩:=h;exact ⟨K,ap hk hT hr h1,fun x hx=>ap hk hT (ho x hx) h2,he⟩
theorem cw.kept {B:Nat}{w w':World}{u:Value}{k:List aV}(h:cw B w u k) (hk:aa [] w w'):cw B w' u k :=
 h.keep hk (cm w []) (by simp) (by simp)
theorem bk.mono {B C:Nat}{w:World}{v:Value}{K:List (aV × Value)}(h:bk C w v K) (hB:B≤C):bk B w v K:=by
 obtain ⟨h1,h2⟩:=h;refine ⟨h1,?_⟩;rcases h2 with h2 | ⟨g,cap,cur,hv,hg,r⟩
 ·exact .inl h2
 ·exact .inr ⟨g,cap,cur,hv,Nat.le_trans hB hg,r⟩
theorem cw.mono {B C:Nat}{w:World}{u:Value}{k:List aV}(h:cw C w u k) (hB:B≤C):cw B w u k:=by
 obtain ⟨K,hr,ho,he⟩:=h;exact ⟨K,hr.mono hB,fun x hx=>(ho x hx).mono hB,he⟩
theorem cw.nil (B:Nat) (w:World):cw B w (.slice none 0 0) []:=⟨[],bk.nil B w,(fun _ h=>by cases h),rfl⟩
def io (P:Nat→Prop) (w:World) (u:Value) (k:List aV):Prop:=cw 0 w u k∧∀ j,u.ownBlock=some j→P j
theorem io.ko {P:Nat→Prop}{w:World}{u:Value}{k:List aV}(h:io P w u k):nU w u k:=h.1.ko
theorem io.keep {P:Nat→Prop}{S:List Nat}{Ts:List TypeId}{w w':World}{u:Value}{k:List aV}(h:io P w u k) (hk:aa S w w') (hT:aJ w S Ts) (h1:137 ∉ Ts) (h2:60 ∉ Ts):io P w' u k:=⟨h.1.keep hk hT h1 h2,h.2⟩
theorem io.kept {P:Nat→Prop}{w w':World}{u:Value}{k:List aV}(h:io P w u k) (hk:aa [] w w'):io P w' u k:=⟨h.1.kept hk,h.2⟩
theorem io.nil {P:Nat→Prop}(w:World):io P w (.slice none 0 0) []:=⟨cw.nil 0 w,fun j hj=>by cases hj⟩
theorem cw.toP {P:Nat→Prop}{B:Nat}{w:World}{u:Value}{k:List aV}(h:cw B w u k) (hP:∀ j,B≤j→P j):io P w u k:=by
 refine ⟨h.mono (Nat.zero_le _),fun j hj=>hP j ?_⟩;obtain ⟨K,⟨_,hr⟩,_⟩:=h;rcases hr with ⟨rfl,_⟩ | ⟨g,cap,cur,rfl,hg,_⟩
 ·cases hj
 ·cases hj;exact hg
theorem nU.one {w:World}{u:Value}{k:List aV}(h:nU w u k):∃ ao n c,u=.slice ao n c:=by
 obtain ⟨ao,n,c,K,h1,_⟩:=h;exact ⟨ao,n,c,h1⟩
def Bl (w:World) (b:Nat):Nat→List Value→World
 | _,[]=>w
 | k,u :: l=>Bl (w.setCell ⟨b,k,none⟩ u) b (k+1) l
theorem pY:∀ (l:List Value) {w:World}{b:Nat}{vs:Array Value}{t:TypeId}(pre old post:List Value),w.heap[b]?=some (.cells vs t (0,0))→vs.toList=pre++old++post→old.length=l.length →
 (Bl w b pre.length l).heap[b]?=some (.cells (pre++l++post).toArray t (0,0))
 | [],w,b,vs,t,pre,old,post,h,hv,hl=>by
   have:old=[]:=List.eq_nil_of_length_eq_zero (by simpa using hl)
   subst this;rw [show vs=(pre++[]++post).toArray by rw [← hv]] at h;exact h
 | u :: l,w,b,vs,t,pre,old,post,h,hv,hl=>by
   cases old with
   | nil=>simp at hl
   | cons x old =>
     have h1:=heap_setCell_same w b pre.length vs _ u h
     have h2:=pY l (pre++[u]) old post h1 (by
      rw [Array.toList_setIfInBounds,hv];simp) (by simpa using hl)
     simp only [List.length_append,List.length_singleton] at h2;rw [show pre++u :: l++post=pre++[u]++l++post by simp];exact h2
theorem km {w:World}{b:Nat}{vs:Array Value}{t:TypeId}(h:w.heap[b]?=some (.cells vs t (0,0))) (l:List Value) (hs:vs.size=l.length):(Bl w b 0 l).heap[b]?=some (.cells l.toArray t (0,0)):=by
 have:=pY l [] vs.toList [] h (by simp) (by simpa using hs)
 simpa using this
theorem fQ {S:List Nat}{a:World}{b:Nat}(hb:b∈S∨a.heap.size≤b):∀ (l:List Value) (k:Nat) {w:World},aa S a w→aa S a (Bl w b k l)
 | [],_,_,h=>h
 | u :: l,k,_,h=>fQ hb l (k+1) (h.setCell hb u)
def B0 (w:World) (b:Nat) (u0 u1 u2:Value):World:=((w.setCell ⟨b,0,none⟩ u0).setCell ⟨b,1,none⟩ u1).setCell ⟨b,2,none⟩ u2
theorem zb {w:World}{b:Nat}{vs:Array Value}{t:TypeId}(h:w.heap[b]?=some (.cells vs t (0,0))) (hs:vs.size=3) (u0 u1 u2:Value):(B0 w b u0 u1 u2).heap[b]?=some (.cells #[u0,u1,u2] t (0,0)):=km h [u0,u1,u2] hs
theorem tx {S:List Nat}{a w:World}(h:aa S a w) {b:Nat}(hb:b∈S∨a.heap.size≤b) (u0 u1 u2:Value):aa S a (B0 w b u0 u1 u2):=fQ hb [u0,u1,u2] 0 h
def uZ (w:World) (b:Nat) (u0 u1 u2 u3:Value):World:=(((w.setCell ⟨b,0,none⟩ u0).setCell ⟨b,1,none⟩ u1).setCell ⟨b,2,none⟩ u2).setCell ⟨b,3,none⟩ u3
theorem rZ {w:World}{b:Nat}{vs:Array Value}{t:TypeId}(h:w.heap[b]?=some (.cells vs t (0,0))) (hs:vs.size=4) (u0 u1 u2 u3:Value):(uZ w b u0 u1 u2 u3).heap[b]?=some (.cells #[u0,u1,u2,u3] t (0,0)):=km h [u0,u1,u2,u3] hs
theorem mM {S:List Nat}{a w:World}(h:aa S a w) {b:Nat}(hb:b∈S∨a.heap.size≤b) (u0 u1 u2 u3:Value):aa S a (uZ w b u0 u1 u2 u3):=fQ hb [u0,u1,u2,u3] 0 h
def vd (w:World) (b:Nat) (u0 u1 u2 u3 u4 u5 u6:Value):World:=((((((w.setCell ⟨b,0,none⟩ u0).setCell ⟨b,1,none⟩ u1).setCell ⟨b,2,none⟩ u2).setCell ⟨b,3,none⟩ u3).setCell ⟨b,4,none⟩ u4).setCell ⟨b,5,none⟩ u5).setCell ⟨b,6,none⟩ u6
theorem aD {w:World}{b:Nat}{vs:Array Value}{t:TypeId}(h:w.heap[b]?=some (.cells vs t (0,0))) (hs:vs.size=7) (u0 u1 u2 u3 u4 u5 u6:Value):(vd w b u0 u1 u2 u3 u4 u5 u6).heap[b]?=some (.cells #[u0,u1,u2,u3,u4,u5,u6] t (0,0)):=km h [u0,u1,u2,u3,u4,u5,u6] hs
theorem az {S:List Nat}{a w:World}(h:aa S a w) {b:Nat}(hb:b∈S∨a.heap.size≤b) (u0 u1 u2 u3 u4 u5 u6:Value):aa S a (vd w b u0 u1 u2 u3 u4 u5 u6):=fQ hb [u0,u1,u2,u3,u4,u5,u6] 0 h
def mY (w:World) (b:Nat) (u0 u1 u2 u3 u4 u5 u6 u7 u8 u9:Value):World:=(((((((((w.setCell ⟨b,0,none⟩ u0).setCell ⟨b,1,none⟩ u1).setCell ⟨b,2,none⟩ u2).setCell ⟨b,3,none⟩ u3).setCell ⟨b,4,none⟩ u4).setCell ⟨b,5,none⟩ u5).setCell ⟨b,6,none⟩ u6).setCell ⟨b,7,none⟩ u7).setCell ⟨b,8,none⟩ u8).setCell ⟨b,9,none⟩ u9
theorem li {w:World}{b:Nat}{vs:Array Value}{t:TypeId}(h:w.heap[b]?=some (.cells vs t (0,0))) (hs:vs.size=10) (u0 u1 u2 u3 u4 u5 u6 u7 u8 u9:Value):(mY w b u0 u1 u2 u3 u4 u5 u6 u7 u8 u9).heap[b]?=some (.cells #[u0,u1,u2,u3,u4,u5,u6,u7,u8,u9] t (0,0)):=km h [u0,u1,u2,u3,u4,u5,u6,u7,u8,u9] hs
theorem iT {S:List Nat}{a w:World}(h:aa S a w) {b:Nat}(hb:b∈S∨a.heap.size≤b) (u0 u1 u2 u3 u4 u5 u6 u7 u8 u9:Value):aa S a (mY w b u0 u1 u2 u3 u4 u5 u6 u7 u8 u9):=fQ hb [u0,u1,u2,u3,u4,u5,u6,u7,u8,u9] 0 h
def BN (w:World) (b:Nat) (u0 u1 u2 u3 u4 u5 u6:Value):World:=((((((w.setCell ⟨b,3,none⟩ u0).setCell ⟨b,4,none⟩ u1).setCell ⟨b,5,none⟩ u2).setCell ⟨b,6,none⟩ u3).setCell ⟨b,7,none⟩ u4).setCell ⟨b,8,none⟩ u5).setCell ⟨b,9,none⟩ u6
theorem l8 {w:World}{b:Nat}{v0 v1 v2 v3 v4 v5 v6 v7 v8 v9:Value}{t:TypeId}(h:w.heap[b]?=some (.cells #[v0,v1,v2,v3,v4,v5,v6,v7,v8,v9] t (0,0))) (u0 u1 u2 u3 u4 u5 u6:Value):(BN w b u0 u1 u2 u3 u4 u5 u6).heap[b]?=some (.cells #[v0,v1,v2,u0,u1,u2,u3,u4,u5,u6] t (0,0)) :=
 pY [u0,u1,u2,u3,u4,u5,u6] [v0,v1,v2] [v3,v4,v5,v6,v7,v8,v9] [] h rfl rfl
theorem jJ {S:List Nat}{a w:World}(h:aa S a w) {b:Nat}(hb:b∈S∨a.heap.size≤b) (u0 u1 u2 u3 u4 u5 u6:Value):aa S a (BN w b u0 u1 u2 u3 u4 u5 u6):=fQ hb [u0,u1,u2,u3,u4,u5,u6] 3 h
theorem By:(Tryz.prog.info? 60).map (·.size)=some 3:=by kernel_rfl
theorem B4 {w:World}{g:Nat}{cs:Array Value}{fn:Func}{p:Tmp}(hr:fn.results=#[.cell p 60]) (tmps:Array Value) (hp:tmps.getD p undef=.pointer (some ⟨g,0,none⟩)) (hg:w.heap[g]?=some (.cells cs 60 (0,0))) (hs:cs.size=3) :
 (results fn tmps).run Tryz.prog w=.ok (.agg cs) w :=
 results_cell_row hr tmps w g _ cs _ _ hp hg Tryz.underlying60 rfl (by rw [hs];exact By)
theorem yn:(Tryz.prog.info? 137).map (·.size)=some 4:=by kernel_rfl
theorem pX {w:World}{g:Nat}{cs:Array Value}{fn:Func}{p:Tmp}(hr:fn.results=#[.cell p 137]) (tmps:Array Value) (hp:tmps.getD p undef=.pointer (some ⟨g,0,none⟩)) (hg:w.heap[g]?=some (.cells cs 137 (0,0))) (hs:cs.size=4) :
 (results fn tmps).run Tryz.prog w=.ok (.agg cs) w :=
 results_cell_row hr tmps w g _ cs _ _ hp hg Tryz.underlying137 rfl (by rw [hs];exact yn)
theorem kj:(Tryz.prog.info? 39).map (·.size)=some 7:=by kernel_rfl
theorem bj {w:World}{g:Nat}{cs:Array Value}{fn:Func}{p:Tmp}(hr:fn.results=#[.cell p 39]) (tmps:Array Value) (hp:tmps.getD p undef=.pointer (some ⟨g,0,none⟩)) (hg:w.heap[g]?=some (.cells cs 39 (0,0))) (hs:cs.size=7) :
 (results fn tmps).run Tryz.prog w=.ok (.agg cs) w :=
 results_cell_row hr tmps w g _ cs _ _ hp hg Tryz.underlying39 rfl (by rw [hs];exact kj)
theorem Bh:(Tryz.prog.info? 155).map (·.size)=some 10:=by kernel_rfl
theorem uD {w:World}{g:Nat}{cs:Array Value}{fn:Func}{p:Tmp}(hr:fn.results=#[.cell p 155]) (tmps:Array Value) (hp:tmps.getD p undef=.pointer (some ⟨g,0,none⟩)) (hg:w.heap[g]?=some (.cells cs 155 (0,0))) (hs:cs.size=10) :
 (results fn tmps).run Tryz.prog w=.ok (.agg cs) w :=
 results_cell_row hr tmps w g _ cs _ _ hp hg Tryz.underlying155 rfl (by rw [hs];exact Bh)
theorem fB {w:World}{g:Nat}{cs:Array Value}{fn:Func}{p u:Tmp}(hr:fn.results=#[.cell p 39,.tmp u]) (tmps:Array Value) (hp:tmps.getD p undef=.pointer (some ⟨g,0,none⟩)) (hg:w.heap[g]?=some (.cells cs 39 (0,0))) (hs:cs.size=7) :
 (results fn tmps).run Tryz.prog w=.ok (.tuple #[.agg cs,tmps.getD u undef]) w:=by
 have hp':tmps[p]?.getD undef=.pointer (some ⟨g,0,none⟩):=by simpa using hp
 rw [results_cell_tmp hr];simp [hp',asAddr,run_loadVar_row w g _ 39 cs _ _ hg Tryz.underlying39 rfl (by rw [hs];exact kj)]
end Go.Proofs.YtgpnlidnbldiiaaGreat
