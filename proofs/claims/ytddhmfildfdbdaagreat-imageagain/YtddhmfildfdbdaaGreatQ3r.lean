/-
  Texts of this claim that are laid as one: ChMem, ChApp, CoMem, RqMem, VtMem, Sets.
-/
import Derived.Test.YtddhmfildfdbdaaGreatQ1r
import Derived.Test.YtddhmfildfdbdaaGreatProg
import Derived.Laws.OwnMore
import Derived.Deep.QuietTactic
import Derived.BigQuiet
import Derived.Deep.RegionHeld3
import Derived.Handy
import Derived.Test.YtddhmfildfdbdaaGreatQ2r
import Derived.Laws.AppendOwn
import Derived.OwnWalk
import Derived.WalkSmall
import Derived.Laws.Rows
import Derived.Laws.ResultCell
/-
 Changes in memory: rows that are read,rows that are written in their place.
-/
namespace Go.Proofs.YtddhmfildfdbdaaGreat
open Go.RowKit
def chC (x:Ch):List Value:=[.string (str x.p),.bool x.g,.int .u64 x.d]
def chV (x:Ch):Value:=.agg #[.string (str x.p),.bool x.g,.int .u64 x.d]
structure ChAt (w:World) (b o:Nat) (x:Ch):Prop where
 c0:w.cell? ⟨b,o,none⟩=some (.string (str x.p))
 c1:w.cell? ⟨b,o+1,none⟩=some (.bool x.g)
 c2:w.cell? ⟨b,o+2,none⟩=some (.int .u64 x.d)
theorem ChAt.kept {S:List Nat}{a w:World}{b o:Nat}{x:Ch}(h:ChAt a b o x) (k:Kept S a w) (hb:b ∉ S):ChAt w b o x :=
 ⟨k.cell h.c0 hb,k.cell h.c1 hb,k.cell h.c2 hb⟩
def SlC (w:World) (ao:Option Addr) (n c:Nat) (L:List Ch):Prop :=
 L.length=n∧n≤c∧c≤maxLen∧∀ i (h:i < L.length),∃ b o,ao=some ⟨b,o,none⟩∧ChAt w b (o+i*3) L[i]
theorem SlC.kept {S:List Nat}{a w:World}{ao:Option Addr}{n c:Nat}{L:List Ch}(h:SlC a ao n c L) (k:Kept S a w) (hb:∀ g∈blk ao,g ∉ S):SlC w ao n c L :=
 ⟨h.1,h.2.1,h.2.2.1,fun i hi=>by obtain ⟨b,o,e,h1⟩:=h.2.2.2 i hi;exact ⟨b,o,e,h1.kept k (hb b (by rw [e];simp [blk]))⟩⟩
theorem SlC.some {w:World}{ao:Option Addr}{n c:Nat}{L:List Ch}(h:SlC w ao n c L) (hn:0 < n) :
 ∃ b o,ao=Option.some ⟨b,o,none⟩∧∀ i (hi:i < L.length),ChAt w b (o+i*3) L[i]:=by
 obtain ⟨b,o,e,_⟩:=h.2.2.2 0 (by rw [h.1];exact hn)
 refine ⟨b,o,e,fun i hi=>?_⟩
 obtain ⟨b',o',e',h⟩:=h.2.2.2 i hi
 rw [e] at e'
 cases e'
 exact h
theorem chC_length (L:List Ch):(L.flatMap chC).length=L.length*3:=by
 induction L with
 | nil=>rfl
 | cons x L ih=>simp [chC,ih];omega
theorem chC_get (L:List Ch) (i:Nat) (h:i < L.length) (j:Nat) (hj:j < 3):(L.flatMap chC)[i*3+j]?=(chC L[i])[j]?:=by
 induction L generalizing i with
 | nil=>simp at h
 | cons x L ih =>
   rw [List.flatMap_cons]
   cases i with
   | zero=>rw [List.getElem?_append_left (by simp [chC];omega)];simp
   | succ i =>
     rw [List.getElem?_append_right (by simp [chC];omega)]
     have e:(i+1)*3+j - (chC x).length=i*3+j:=by simp [chC];omega
     rw [e,ih i (by simpa using h)]
     simp
def OwnC (B:Nat) (w:World) (v:Value) (L:List Ch):Prop:=w.ownsRow B 116 3 v L.length (L.flatMap chC)
theorem OwnC.sl {B:Nat}{w:World}{v:Value}{L:List Ch}(h:OwnC B w v L):∃ ao c,v=.slice ao L.length c∧SlC w ao L.length c L:=by
 have h':=h
 obtain ⟨h1,h2⟩:=h
 rcases h2 with ⟨hv,hn⟩ | ⟨g,cap,cur,hv,hg,hh,h3,h4,h5,h6⟩
 ·have:L=[]:=by simpa using hn
  subst this
  exact ⟨none,0,by rw [hv];rfl,rfl,Nat.le_refl _,Nat.zero_le _,fun i hi=>by simp at hi⟩
 ·refine ⟨some ⟨g,0,none⟩,cap,hv,rfl,h3,h4,fun i hi=>⟨g,0,rfl,?_⟩⟩
  unfold OwnC at h'
  rw [hv] at h'
  have c:∀ j,j < 3→w.cell? ⟨g,0+i*3+j,none⟩=(chC L[i])[j]?:=fun j hj=>by
   rw [Nat.zero_add,World.ownsRow.cellAt h' (i*3+j) (by omega),chC_get L i hi j hj]
  exact ⟨c 0 (by omega),c 1 (by omega),c 2 (by omega)⟩
structure RowC (w:World) (g n cap:Nat) (f:Nat→Ch):Prop where
 le:n≤cap
 max:cap≤maxLen
 row:∃ cur:Array Value,w.heap[g]?=some (.cells cur 116 (0,0))∧cur.size=cap*3 ∧
  ∀ i,i < n→cur[i*3]?=some (.string (str (f i).p))∧cur[i*3+1]?=some (.bool (f i).g)∧cur[i*3+2]?=some (.int .u64 (f i).d)
theorem RowC.ch {w:World}{g n cap:Nat}{f:Nat→Ch}(h:RowC w g n cap f) {i:Nat}(hi:i < n):ChAt w g (i*3) (f i):=by
 obtain ⟨cur,hh,hs,hc⟩:=h.row
 obtain ⟨c0,c1,c2⟩:=hc i hi
 refine ⟨?_,?_,?_⟩ <;> simp [World.cell?,hh,c0,c1,c2]
theorem RowC.froz {w:World}{g n cap:Nat}{f:Nat→Ch}(h:RowC w g n cap f) (j:Nat):w.frozen? ⟨g,j,none⟩=false:=by
 obtain ⟨cur,hh,_⟩:=h.row
 simp [World.frozen?,hh]
theorem RowC.lt {w:World}{g n cap:Nat}{f:Nat→Ch}(h:RowC w g n cap f):g < w.heap.size:=by
 obtain ⟨cur,hh,_⟩:=h.row
 exact lt_of_at hh
theorem RowC.kept {S:List Nat}{a w:World}{g n cap:Nat}{f:Nat→Ch}(h:RowC a g n cap f) (k:Kept S a w) (hg:g ∉ S):RowC w g n cap f:=by
 obtain ⟨h1,h2,cur,hh,r⟩:=h
 exact ⟨h1,h2,cur,k.at hh hg,r⟩
theorem RowC.congr {w:World}{g n cap:Nat}{f f':Nat→Ch}(h:RowC w g n cap f) (e:∀ i,i < n→f' i=f i):RowC w g n cap f':=by
 obtain ⟨h1,h2,cur,hh,hs,r⟩:=h
 exact ⟨h1,h2,cur,hh,hs,fun i hi=>by rw [e i hi];exact r i hi⟩
def put3 (w:World) (g i:Nat) (x:Ch):World :=
 ((w.setCell ⟨g,i*3,none⟩ (.string (str x.p))).setCell ⟨g,i*3+1,none⟩ (.bool x.g)).setCell ⟨g,i*3+2,none⟩ (.int .u64 x.d)
theorem RowC.put {w:World}{g n cap:Nat}{f:Nat→Ch}(h:RowC w g n cap f) {i:Nat}(hi:i < n) (x:Ch):RowC (put3 w g i x) g n cap (fun k=>if k=i then x else f k):=by
 obtain ⟨h1,h2,cur,hh,hs,r⟩:=h
 have e1:=heap_setCell_same w g (i*3) cur _ (.string (str x.p)) hh
 have e2:=heap_setCell_same _ g (i*3+1) _ _ (.bool x.g) e1
 have e3:=heap_setCell_same _ g (i*3+2) _ _ (.int .u64 x.d) e2
 refine ⟨h1,h2,_,e3,by simpa using hs,fun k hk=>?_⟩
 obtain ⟨r0,r1,r2⟩:=r k hk
 by_cases hki:k=i
 ·subst hki
  simp only [if_true]
  have hb:k*3+2 < cur.size:=by omega
  refine ⟨?_,?_,?_⟩ <;> simp [Array.getElem?_setIfInBounds] <;> omega
 ·simp only [if_neg hki]
  refine ⟨?_,?_,?_⟩
  ·rw [Array.getElem?_setIfInBounds_ne (by omega),Array.getElem?_setIfInBounds_ne (by omega),Array.getElem?_setIfInBounds_ne (by omega)];exact r0
  ·rw [Array.getElem?_setIfInBounds_ne (by omega),Array.getElem?_setIfInBounds_ne (by omega),Array.getElem?_setIfInBounds_ne (by omega)];exact r1
  ·rw [Array.getElem?_setIfInBounds_ne (by omega),Array.getElem?_setIfInBounds_ne (by omega),Array.getElem?_setIfInBounds_ne (by omega)];exact r2
theorem put3_kept (w:World) (g i:Nat) (x:Ch):Kept [g] w (put3 w g i x) :=
 (((Kept.refl [g] w).setCell (by simp) _).setCell (by simp) _).setCell (by simp) _
theorem RowC.swap {w:World}{g n cap:Nat}{f:Nat→Ch}(h:RowC w g n cap f) {i j:Nat}(hi:i < n) (hj:j < n):RowC (put3 (put3 w g i (f j)) g j (f i)) g n cap (swp f i j):=by
 refine ((h.put hi (f j)).put hj (f i)).congr fun k _=>?_
 simp only [swp]
 by_cases h1:k=i <;> by_cases h2:k=j <;> simp_all
theorem OwnC.row {B:Nat}{w:World}{v:Value}{L:List Ch}(h:OwnC B w v L) (hn:0 < L.length) (z:Ch):∃ g cap,v=.slice (some ⟨g,0,none⟩) L.length cap∧B≤g∧RowC w g L.length cap (fun i=>L.getD i z):=by
 obtain ⟨h1,h2⟩:=h
 rcases h2 with ⟨hv,h0⟩ | ⟨g,cap,cur,hv,hg,hh,h3,h4,h5,h6⟩
 ·omega
 ·refine ⟨g,cap,hv,hg,h3,h4,cur,hh,h5,fun i hi=>?_⟩
  have c:∀ j,j < 3→cur[i*3+j]?=(chC (L.getD i z))[j]?:=fun j hj=>by
   have e:L.getD i z=L[i]:=by simp [List.getD,hi]
   rw [e,← chC_get L i hi j hj,← h6,List.getElem?_take,if_pos (by omega)]
   simp
  exact ⟨c 0 (by omega),c 1 (by omega),c 2 (by omega)⟩
theorem RowC.own {w:World}{g n cap:Nat}{f:Nat→Ch}(h:RowC w g n cap f) {B:Nat}(hB:B≤g):OwnC B w (.slice (some ⟨g,0,none⟩) n cap) (seg f 0 n):=by
 obtain ⟨h1,h2,cur,hh,hs,r⟩:=h
 have hl:(seg f 0 n).length=n:=by rw [seg_length];omega
 unfold OwnC
 refine ⟨chC_length _,.inr ⟨g,cap,cur,by rw [hl],hB,hh,by rw [hl];exact h1,h2,hs,?_⟩⟩
 rw [hl]
 apply List.ext_getElem?
 intro q
 by_cases hq:q < n*3
 ·rw [List.getElem?_take,if_pos hq]
  obtain ⟨r0,r1,r2⟩:=r (q / 3) (by omega)
  have e:=chC_get (seg f 0 n) (q / 3) (by rw [hl];omega) (q % 3) (by omega)
  have e2:q / 3*3+q % 3=q:=by omega
  rw [e2,seg_get,Nat.zero_add] at e
  rw [e]
  have h3:q % 3=0∨q % 3=1∨q % 3=2:=by omega
  generalize q / 3=u at *
  rcases h3 with h3 | h3 | h3
  ·rw [h3] at e2 ⊢;subst e2;simpa [chC] using r0
  ·rw [h3] at e2 ⊢;subst e2;simpa [chC] using r1
  ·rw [h3] at e2 ⊢;subst e2;simpa [chC] using r2
 ·rw [List.getElem?_eq_none (by simp;omega),List.getElem?_eq_none (by rw [chC_length,hl];omega)]
theorem info_change:(Tryz.prog.info? 116).map (fun i=>(i.zero,i.size,i.bytes))=some (some (.agg #[.string ⟨#[]⟩,.bool false,.int .u64 0]),3,32):=by kernel_rfl
theorem one_cellsC (L:List Ch):∀ u∈L.flatMap chC,u.oneCell'=true:=by
 intro u hu
 simp only [List.mem_flatMap,chC] at hu
 obtain ⟨x,_,hx⟩:=hu
 simp at hx
 rcases hx with rfl | rfl | rfl <;> rfl
theorem cells_runC {w:World}{b o:Nat}{L:List Ch}(h:∀ i (hi:i < L.length),ChAt w b (o+i*3) L[i]):∀ (j:Nat) (u:Value),(L.flatMap chC)[j]?=some u→w.cell? ⟨b,o+j,none⟩=some u:=by
 intro j u hj
 have hlt:j < (L.flatMap chC).length:=by
  by_cases hl:j < (L.flatMap chC).length
  ·exact hl
  ·rw [List.getElem?_eq_none (by omega)] at hj;cases hj
 rw [chC_length] at hlt
 have hi:j / 3 < L.length:=by omega
 have e:=chC_get L (j / 3) hi (j % 3) (by omega)
 have e2:j / 3*3+j % 3=j:=by omega
 rw [e2,hj] at e
 obtain ⟨c0,c1,c2⟩:=h (j / 3) hi
 have h3:j % 3=0∨j % 3=1∨j % 3=2:=by omega
 generalize j / 3=q at *
 rcases h3 with h3 | h3 | h3 <;> rw [h3] at e e2 <;> simp [chC] at e <;> subst e <;> subst e2
 ·exact c0
 ·rw [← Nat.add_assoc];exact c1
 ·rw [← Nat.add_assoc];exact c2
theorem SlC.runs {w:World}{b o n c:Nat}{L:List Ch}(h:SlC w (Option.some ⟨b,o,none⟩) n c L):∀ (j:Nat) (u:Value),(L.flatMap chC)[j]?=Option.some u→w.cell? ((⟨b,o,none⟩:Addr).add j)=Option.some u:=by
 intro j u hj
 rw [adr_addC]
 refine cells_runC (fun i hi=>?_) j u hj
 obtain ⟨b',o',e,h1⟩:=h.2.2.2 i hi
 cases e
 exact h1
theorem wp_appC {w:World}{ops:Array Oper}{rest:List Oper}{o:Oper}{a:Act}{Q:Exit→Act→World→Prop}(hgd:o.guard=none) (s x:Operand)
 (hop:o.op=.call { callee:=.builtin .append,args:=#[s,x],argTypes:=#[74,74] })
 (B:Nat) (v:Value) (M:List Ch) (hs:a.eval s=v) (hO:OwnC B w v M) (ad:Addr) (m c:Nat) (N:List Ch) (hx:a.eval x=.slice (some ad) m c) (hm:m=N.length) (hc:∀ (j:Nat) (u:Value),(N.flatMap chC)[j]?=some u→w.cell? (ad.add j)=some u)
 (hlen:M.length+N.length≤4398046511104) (hB:B≤w.heap.size)
 (h:∀ v' w',OwnC B w' v' (M++N)→w.grownBy w' v.ownBlock→wpList Tryz.prog ops Q rest (a.put o.dst v') w'):wpList Tryz.prog ops Q (o :: rest) a w:=by
 subst hm
 obtain ⟨i0,hi,hz0,hz1,hz2⟩:=info_parts info_change
 refine wpList_append_own w hgd s x 74 hop B 116 i0 (.agg #[.string ⟨#[]⟩,.bool false,.int .u64 0]) 3 32 Tryz.underlying74 hi hz0 hz1 hz2 rfl (by decide) v M.length (M.flatMap chC) hs hO ad N.length c (N.flatMap chC) hx (chC_length N) hc (one_cellsC N) (by unfold maxLen;omega) (by omega) hB ?_
 intro v' w' h1 h2 _
 refine h v' w' ?_ h2
 unfold OwnC
 rw [List.length_append,List.flatMap_append]
 exact h1
theorem grown_keptC {B:Nat}{a w w':World}{v:Value}{L:List Ch}(h:Kept [] a w) (hO:OwnC B w v L) (hB:a.heap.size≤B) (hg:w.grownBy w' v.ownBlock):Kept [] a w' :=
 h.grown hg fun k hk=>.inr (Nat.le_trans hB (World.ownsRow.lt hO k hk).1)
theorem OwnC.nil (B:Nat) (w:World):OwnC B w (.slice none 0 0) []:=World.ownsRow_nil w B 116 3
theorem own_voidC (w:World) (B:Nat) (hB:B≤w.heap.size):OwnC B (w.alloc (.cells #[] 116)) (.slice (some ⟨w.heap.size,0,none⟩) 0 0) [] :=
 ⟨rfl,.inr ⟨w.heap.size,0,#[],rfl,hB,heap_alloc_new w _,Nat.le_refl _,Nat.zero_le _,rfl,rfl⟩⟩
theorem OwnC.kept {B:Nat}{a w:World}{v:Value}{L:List Ch}(h:OwnC B a v L) (k:Kept [] a w):OwnC B w v L:=k.ownsRow h (by simp)
theorem SlC.runs' {w:World}{ad:Addr}{n c:Nat}{L:List Ch}(h:SlC w (Option.some ad) n c L):∀ (j:Nat) (u:Value),(L.flatMap chC)[j]?=Option.some u→w.cell? (ad.add j)=Option.some u:=by
 cases L with
 | nil=>intro j u hj;simp at hj
 | cons x L =>
   obtain ⟨b,o,e,_⟩:=h.2.2.2 0 (by simp)
   cases e
   exact h.runs
theorem OwnC.mono {B C:Nat}{w:World}{v:Value}{L:List Ch}(h:OwnC C w v L) (hB:B≤C):OwnC B w v L:=by
 obtain ⟨h1,h2⟩:=h
 refine ⟨h1,?_⟩
 rcases h2 with h2 | ⟨g,cap,cur,hv,hg,r⟩
 ·exact .inl h2
 ·exact .inr ⟨g,cap,cur,hv,Nat.le_trans hB hg,r⟩
theorem OwnC.slice {B:Nat}{w:World}{ao:Option Addr}{n c:Nat}{L:List Ch}(h:OwnC B w (.slice ao n c) L):SlC w ao n c L:=by
 obtain ⟨ao',c',e,hS⟩:=h.sl
 cases e
 exact hS
theorem SlC.lit (w:World) (L:List Ch) {n:Nat}(hn:n=L.length) (hm:n≤maxLen) {vs:Array Value}(hv:vs=(L.flatMap chC).toArray):SlC (w.alloc (.cells vs 116)) (Option.some ⟨w.heap.size,0,none⟩) n n L:=by
 subst hn
 subst hv
 have h:=heap_alloc_new w (.cells (L.flatMap chC).toArray 116)
 refine ⟨rfl,Nat.le_refl _,hm,fun i hi=>⟨w.heap.size,0,rfl,?_⟩⟩
 have e:∀ j,j < 3→(L.flatMap chC).toArray[i*3+j]?=(chC L[i])[j]?:=fun j hj=>by
  rw [List.getElem?_toArray];exact chC_get L i hi j hj
 rw [Nat.zero_add]
 exact ⟨cell_inC h (e 0 (by omega)),cell_inC h (e 1 (by omega)),cell_inC h (e 2 (by omega))⟩
def coC (x:Com × Value):List Value:=[.int .i64 x.1.r,.int .i64 x.1.b,.string (str x.1.n),x.2]
def coV (x:Com × Value):Value:=.agg #[.int .i64 x.1.r,.int .i64 x.1.b,.string (str x.1.n),x.2]
theorem coC_length (K:List (Com × Value)):(K.flatMap coC).length=K.length*4:=by
 induction K with
 | nil=>rfl
 | cons x K ih=>simp [List.flatMap_cons,ih,coC];omega
theorem coC_get (K:List (Com × Value)) (i:Nat) (h:i < K.length) (j:Nat) (hj:j < 4):(K.flatMap coC)[i*4+j]?=(coC K[i])[j]?:=by
 induction K generalizing i with
 | nil=>simp at h
 | cons x K ih =>
   cases i with
   | zero=>simp only [List.flatMap_cons,Nat.zero_mul,Nat.zero_add,List.getElem_cons_zero];rw [List.getElem?_append_left (by simp [coC];omega)]
   | succ i =>
     simp only [List.flatMap_cons,List.getElem_cons_succ]
     rw [List.getElem?_append_right (by simp [coC];omega)]
     rw [← ih i (by simpa using h)]
     congr 1
     simp [coC];omega
structure CoAt (w:World) (b o:Nat) (x:Com × Value):Prop where
 c0:w.cell? ⟨b,o,none⟩=some (.int .i64 x.1.r)
 c1:w.cell? ⟨b,o+1,none⟩=some (.int .i64 x.1.b)
 c2:w.cell? ⟨b,o+2,none⟩=some (.string (str x.1.n))
 c3:w.cell? ⟨b,o+3,none⟩=some x.2
theorem CoAt.kept {S:List Nat}{a w:World}{b o:Nat}{x:Com × Value}(h:CoAt a b o x) (k:Kept S a w) (hb:b ∉ S):CoAt w b o x :=
 ⟨k.cell h.c0 hb,k.cell h.c1 hb,k.cell h.c2 hb,k.cell h.c3 hb⟩
def ChV (w:World) (v:Value) (L:List Ch):Prop:=∃ ao n c,v=.slice ao n c∧SlC w ao n c L∧(ao=none→c=0)
theorem ChV.kept {a w:World}{v:Value}{L:List Ch}(h:ChV a v L) (k:Kept [] a w):ChV w v L:=by
 obtain ⟨ao,n,c,h1,h2,h3⟩:=h
 exact ⟨ao,n,c,h1,h2.kept k (by simp),h3⟩
def SlK (w:World) (ao:Option Addr) (n c:Nat) (K:List (Com × Value)):Prop :=
 K.length=n∧n≤c∧c≤maxLen∧(∀ i (h:i < K.length),∃ b o,ao=some ⟨b,o,none⟩∧CoAt w b (o+i*4) K[i])∧∀ x∈K,ChV w x.2 x.1.c
theorem SlK.kept {a w:World}{ao:Option Addr}{n c:Nat}{K:List (Com × Value)}(h:SlK a ao n c K) (k:Kept [] a w):SlK w ao n c K :=
 ⟨h.1,h.2.1,h.2.2.1,fun i hi=>by obtain ⟨b,o,e,h1⟩:=h.2.2.2.1 i hi;exact ⟨b,o,e,h1.kept k (by simp)⟩,fun x hx=>(h.2.2.2.2 x hx).kept k⟩
theorem SlK.some {w:World}{ao:Option Addr}{n c:Nat}{K:List (Com × Value)}(h:SlK w ao n c K) (hn:0 < n) :
 ∃ b o,ao=Option.some ⟨b,o,none⟩∧∀ i (hi:i < K.length),CoAt w b (o+i*4) K[i]:=by
 obtain ⟨b,o,e,_⟩:=h.2.2.2.1 0 (by rw [h.1];exact hn)
 refine ⟨b,o,e,fun i hi=>?_⟩
 obtain ⟨b',o',e',h'⟩:=h.2.2.2.1 i hi
 rw [e] at e';cases e';exact h'
def RowK (B:Nat) (w:World) (v:Value) (K:List (Com × Value)):Prop:=w.ownsRow B 76 4 v K.length (K.flatMap coC)
def OwnK (C:Nat) (w:World) (K:List (Com × Value)):Prop:=∀ x∈K,OwnC C w x.2 x.1.c
theorem OwnC.chV {B:Nat}{w:World}{v:Value}{L:List Ch}(h:OwnC B w v L):ChV w v L:=by
 have h':=h
 obtain ⟨ao,c,rfl,hs⟩:=h.sl
 refine ⟨ao,_,c,rfl,hs,fun e=>?_⟩
 subst e
 obtain ⟨_,h2⟩:=h'
 rcases h2 with ⟨hv,_⟩ | ⟨g,cap,cur,hv,_⟩
 ·simp at hv;exact hv.2
 ·cases hv
theorem RowK.sl {B C:Nat}{w:World}{v:Value}{K:List (Com × Value)}(h:RowK B w v K) (ho:OwnK C w K):∃ ao c,v=.slice ao K.length c∧SlK w ao K.length c K∧(ao=none→c=0):=by
 have h':=h
 obtain ⟨h1,h2⟩:=h
 rcases h2 with ⟨hv,hn⟩ | ⟨g,cap,cur,hv,hg,hh,h3,h4,h5,h6⟩
 ·have:K=[]:=by simpa using hn
  subst this
  exact ⟨none,0,by rw [hv];rfl,⟨rfl,Nat.le_refl _,Nat.zero_le _,fun i hi=>by simp at hi,fun x hx=>by simp at hx⟩,fun _=>rfl⟩
 ·refine ⟨some ⟨g,0,none⟩,cap,hv,⟨rfl,h3,h4,fun i hi=>⟨g,0,rfl,?_⟩,fun x hx=>(ho x hx).chV⟩,by simp⟩
  have hc:∀ j,j < 4→w.cell? ⟨g,0+i*4+j,none⟩=(coC K[i])[j]?:=fun j hj=>by
   have:=World.ownsRow.cellAt (w:=w) (base:=B) (e:=76) (size:=4) (n:=K.length) (cap:=cap) (g:=g) (xs:=K.flatMap coC) (by rw [← hv];exact h') (i*4+j) (by omega)
   rw [Nat.zero_add,this,coC_get K i hi j hj]
  refine ⟨?_,?_,?_,?_⟩
  ·have:=hc 0 (by omega);simpa [coC] using this
  ·have:=hc 1 (by omega);simpa [coC] using this
  ·have:=hc 2 (by omega);simpa [coC] using this
  ·have:=hc 3 (by omega);simpa [coC] using this
theorem RowK.nil (B:Nat) (w:World):RowK B w (.slice none 0 0) []:=World.ownsRow_nil w B 76 4
theorem cells3 {w:World}{b:Nat}{v0 v1 v2:Value}{t:TypeId}(h:w.heap[b]?=some (.cells #[v0,v1,v2] t (0,0))) :
 w.cell? ⟨b,0,none⟩=some v0∧w.cell? ⟨b,1,none⟩=some v1∧w.cell? ⟨b,2,none⟩=some v2:=by
 simp [World.cell?,h]
theorem info_commit:(Tryz.prog.info? 76).map (fun i=>(i.zero,i.size,i.bytes))=some (some (.agg #[.int .i64 0,.int .i64 0,.string ⟨#[]⟩,.slice none 0 0]),4,56):=by kernel_rfl
theorem one_coC {K:List (Com × Value)}(h:∀ x∈K,x.2.oneCell'=true):∀ u∈K.flatMap coC,u.oneCell'=true:=by
 intro u hu
 obtain ⟨x,hx,hu⟩:=List.mem_flatMap.1 hu
 simp [coC] at hu
 rcases hu with rfl | rfl | rfl | rfl
 ·rfl
 ·rfl
 ·rfl
 ·exact h x hx
theorem own_one {B:Nat}{w:World}{v:Value}{L:List Ch}(h:OwnC B w v L):v.oneCell'=true:=by
 obtain ⟨ao,c,rfl,_⟩:=h.sl
 rfl
theorem cells_runK {w:World}{b o:Nat}{K:List (Com × Value)}(h:∀ i (hi:i < K.length),CoAt w b (o+i*4) K[i]):∀ (j:Nat) (u:Value),(K.flatMap coC)[j]?=some u→w.cell? ⟨b,o+j,none⟩=some u:=by
 intro j u hj
 have hlt:j < (K.flatMap coC).length:=by
  by_cases hl:j < (K.flatMap coC).length
  ·exact hl
  ·rw [List.getElem?_eq_none (by omega)] at hj;cases hj
 rw [coC_length] at hlt
 have hi:j / 4 < K.length:=by omega
 have e:=coC_get K (j / 4) hi (j % 4) (by omega)
 have e2:j / 4*4+j % 4=j:=by omega
 rw [e2,hj] at e
 obtain ⟨c0,c1,c2,c3⟩:=h (j / 4) hi
 have h3:j % 4=0∨j % 4=1∨j % 4=2∨j % 4=3:=by omega
 generalize j / 4=q at *
 rcases h3 with h3 | h3 | h3 | h3 <;> rw [h3] at e e2 <;> simp [coC] at e <;> subst e <;> subst e2
 ·exact c0
 ·rw [← Nat.add_assoc];exact c1
 ·rw [← Nat.add_assoc];exact c2
 ·rw [← Nat.add_assoc];exact c3
theorem SlK.runs {w:World}{ad:Addr}{n c:Nat}{K:List (Com × Value)}(h:SlK w (Option.some ad) n c K):∀ (j:Nat) (u:Value),(K.flatMap coC)[j]?=Option.some u→w.cell? (ad.add j)=Option.some u:=by
 cases K with
 | nil=>intro j u hj;simp at hj
 | cons x K =>
   obtain ⟨b,o,e,_⟩:=h.2.2.2.1 0 (by simp)
   cases e
   intro j u hj
   rw [adr_addC]
   refine cells_runK (fun i hi=>?_) j u hj
   obtain ⟨b',o',e,h1⟩:=h.2.2.2.1 i hi
   cases e
   exact h1
theorem SlK.ones {w:World}{ao:Option Addr}{n c:Nat}{K:List (Com × Value)}(h:SlK w ao n c K):∀ x∈K,x.2.oneCell'=true:=fun x hx=>by
 obtain ⟨mo,m,mc,e,_⟩:=h.2.2.2.2 x hx
 rw [e];rfl
theorem wp_appK {w:World}{ops:Array Oper}{rest:List Oper}{o:Oper}{a:Act}{Q:Exit→Act→World→Prop}(hgd:o.guard=none) (s x:Operand)
 (hop:o.op=.call { callee:=.builtin .append,args:=#[s,x],argTypes:=#[67,67] })
 (B:Nat) (v:Value) (M:List (Com × Value)) (hs:a.eval s=v) (hO:RowK B w v M) (ad:Addr) (m c:Nat) (N:List (Com × Value)) (hx:a.eval x=.slice (some ad) m c) (hm:m=N.length) (hc:∀ (j:Nat) (u:Value),(N.flatMap coC)[j]?=some u→w.cell? (ad.add j)=some u) (h1:∀ x∈N,x.2.oneCell'=true)
 (hlen:M.length+N.length≤2513169434916) (hB:B≤w.heap.size)
 (h:∀ v' w',RowK B w' v' (M++N)→w.grownBy w' v.ownBlock→wpList Tryz.prog ops Q rest (a.put o.dst v') w'):wpList Tryz.prog ops Q (o :: rest) a w:=by
 subst hm
 obtain ⟨i0,hi,hz0,hz1,hz2⟩:=info_parts info_commit
 refine wpList_append_own w hgd s x 67 hop B 76 i0 (.agg #[.int .i64 0,.int .i64 0,.string ⟨#[]⟩,.slice none 0 0]) 4 56 Tryz.underlying67 hi hz0 hz1 hz2 rfl (by decide) v M.length (M.flatMap coC) hs hO ad N.length c (N.flatMap coC) hx (coC_length N) hc (one_coC h1) (by unfold maxLen;omega) (by omega) hB ?_
 intro v' w' h2 h3 _
 refine h v' w' ?_ h3
 unfold RowK
 rw [List.length_append,List.flatMap_append]
 exact h2
theorem own_voidK (w:World) (B:Nat) (hB:B≤w.heap.size):RowK B (w.alloc (.cells #[] 76)) (.slice (some ⟨w.heap.size,0,none⟩) 0 0) [] :=
 ⟨rfl,.inr ⟨w.heap.size,0,#[],rfl,hB,heap_alloc_new w _,Nat.le_refl _,Nat.zero_le _,rfl,rfl⟩⟩
theorem coC_set (K:List (Com × Value)) (i:Nat) (h:i < K.length) (u:Value):(K.set i (K[i].1,u)).flatMap coC=(K.flatMap coC).set (i*4+3) u:=by
 induction K generalizing i with
 | nil=>simp at h
 | cons x K ih =>
   cases i with
   | zero=>simp [List.flatMap_cons,coC]
   | succ i =>
     simp only [List.set_cons_succ,List.flatMap_cons,List.getElem_cons_succ]
     rw [ih i (by simpa using h),List.set_append,if_neg (by simp [coC];omega)]
     congr 2
     simp [coC];omega
theorem RowK.set {B:Nat}{w:World}{g n cap:Nat}{K:List (Com × Value)}(h:RowK B w (.slice (some ⟨g,0,none⟩) n cap) K) {i:Nat}(hi:i < K.length) (u:Value) :
 RowK B (w.setCell ⟨g,i*4+3,none⟩ u) (.slice (some ⟨g,0,none⟩) n cap) (K.set i (K[i].1,u)):=by
 obtain ⟨h1,h2⟩:=h
 rcases h2 with ⟨h2,_⟩ | ⟨g',cap',cur,hv,hg,hh,h3,h4,h5,h6⟩
 ·cases h2
 ·obtain ⟨rfl,rfl,rfl⟩:g=g'∧n=K.length∧cap=cap':=by simpa using hv
  refine ⟨by rw [coC_set K i hi,List.length_set,List.length_set];exact h1,.inr ⟨g,cap,cur.setIfInBounds (i*4+3) u,by simp,hg,heap_setCell_same w g (i*4+3) cur _ u hh,by simpa using h3,h4,by simpa using h5,?_⟩⟩
  rw [coC_set K i hi,List.length_set,Array.toList_setIfInBounds,← h6]
  rw [List.take_set]
def vtV (v:Vt) (u:Value):Value:=.agg #[.int .i64 v.c,.int .i64 v.s,.int .i64 v.r,.string (str v.p),.int .u64 v.d,u,.int .i64 v.m]
def KoV (w:World) (u:Value) (k:List Com):Prop:=∃ ao n c K,u=.slice ao n c∧SlK w ao n c K∧K.map Prod.fst=k∧(ao=none→c=0)
def KoO (B:Nat) (w:World) (u:Value) (k:List Com):Prop:=∃ K,RowK B w u K∧OwnK B w K∧K.map Prod.fst=k
theorem KoV.kept {a w:World}{u:Value}{k:List Com}(h:KoV a u k) (hk:Kept [] a w):KoV w u k:=by
 obtain ⟨ao,n,c,K,h1,h2,h3,h4⟩:=h
 exact ⟨ao,n,c,K,h1,h2.kept hk,h3,h4⟩
theorem KoO.ko {B:Nat}{w:World}{u:Value}{k:List Com}(h:KoO B w u k):KoV w u k:=by
 obtain ⟨K,h1,h2,h3⟩:=h
 obtain ⟨ao,c,e,h4,h5⟩:=h1.sl h2
 exact ⟨ao,K.length,c,K,e,h4,h3,h5⟩
theorem KoO.keep {B:Nat}{S:List Nat}{Ts:List TypeId}{w w':World}{u:Value}{k:List Com}(h:KoO B w u k) (hk:Kept S w w') (hT:Typed w S Ts) (h1:76 ∉ Ts) (h2:116 ∉ Ts):KoO B w' u k:=by
 obtain ⟨K,hr,ho,he⟩:=h
 exact ⟨K,row_typed hk hT hr h1,fun x hx=>row_typed hk hT (ho x hx) h2,he⟩
theorem KoO.kept {B:Nat}{w w':World}{u:Value}{k:List Com}(h:KoO B w u k) (hk:Kept [] w w'):KoO B w' u k :=
 h.keep hk (typed_nil w []) (by simp) (by simp)
theorem RowK.mono {B C:Nat}{w:World}{v:Value}{K:List (Com × Value)}(h:RowK C w v K) (hB:B≤C):RowK B w v K:=by
 obtain ⟨h1,h2⟩:=h
 refine ⟨h1,?_⟩
 rcases h2 with h2 | ⟨g,cap,cur,hv,hg,r⟩
 ·exact .inl h2
 ·exact .inr ⟨g,cap,cur,hv,Nat.le_trans hB hg,r⟩
theorem KoO.mono {B C:Nat}{w:World}{u:Value}{k:List Com}(h:KoO C w u k) (hB:B≤C):KoO B w u k:=by
 obtain ⟨K,hr,ho,he⟩:=h
 exact ⟨K,hr.mono hB,fun x hx=>(ho x hx).mono hB,he⟩
theorem KoO.nil (B:Nat) (w:World):KoO B w (.slice none 0 0) []:=⟨[],RowK.nil B w,(fun _ h=>by cases h),rfl⟩
def KoP (P:Nat→Prop) (w:World) (u:Value) (k:List Com):Prop:=KoO 0 w u k∧∀ j,u.ownBlock=some j→P j
theorem KoP.ko {P:Nat→Prop}{w:World}{u:Value}{k:List Com}(h:KoP P w u k):KoV w u k:=h.1.ko
theorem KoP.keep {P:Nat→Prop}{S:List Nat}{Ts:List TypeId}{w w':World}{u:Value}{k:List Com}(h:KoP P w u k) (hk:Kept S w w') (hT:Typed w S Ts) (h1:76 ∉ Ts) (h2:116 ∉ Ts):KoP P w' u k:=⟨h.1.keep hk hT h1 h2,h.2⟩
theorem KoP.kept {P:Nat→Prop}{w w':World}{u:Value}{k:List Com}(h:KoP P w u k) (hk:Kept [] w w'):KoP P w' u k:=⟨h.1.kept hk,h.2⟩
theorem KoO.toP {P:Nat→Prop}{B:Nat}{w:World}{u:Value}{k:List Com}(h:KoO B w u k) (hP:∀ j,B≤j→P j):KoP P w u k:=by
 refine ⟨h.mono (Nat.zero_le _),fun j hj=>hP j ?_⟩
 obtain ⟨K,⟨_,hr⟩,_⟩:=h
 rcases hr with ⟨rfl,_⟩ | ⟨g,cap,cur,rfl,hg,_⟩
 ·cases hj
 ·cases hj;exact hg
theorem KoV.one {w:World}{u:Value}{k:List Com}(h:KoV w u k):∃ ao n c,u=.slice ao n c:=by
 obtain ⟨ao,n,c,K,h1,_⟩:=h
 exact ⟨ao,n,c,h1⟩
def sets (w:World) (b:Nat):Nat→List Value→World
 | _,[]=>w
 | k,u :: l=>sets (w.setCell ⟨b,k,none⟩ u) b (k+1) l
theorem sets_at:∀ (l:List Value) {w:World}{b:Nat}{vs:Array Value}{t:TypeId}(pre old post:List Value),w.heap[b]?=some (.cells vs t (0,0))→vs.toList=pre++old++post→old.length=l.length →
 (sets w b pre.length l).heap[b]?=some (.cells (pre++l++post).toArray t (0,0))
 | [],w,b,vs,t,pre,old,post,h,hv,hl=>by
   have:old=[]:=List.eq_nil_of_length_eq_zero (by simpa using hl)
   subst this
   rw [show vs=(pre++[]++post).toArray by rw [← hv]] at h
   exact h
 | u :: l,w,b,vs,t,pre,old,post,h,hv,hl=>by
   cases old with
   | nil=>simp at hl
   | cons x old =>
     have h1:=heap_setCell_same w b pre.length vs _ u h
     have h2:=sets_at l (pre++[u]) old post h1 (by
      rw [Array.toList_setIfInBounds,hv]
      simp) (by simpa using hl)
     simp only [List.length_append,List.length_singleton] at h2
     rw [show pre++u :: l++post=pre++[u]++l++post by simp]
     exact h2
theorem sets_all {w:World}{b:Nat}{vs:Array Value}{t:TypeId}(h:w.heap[b]?=some (.cells vs t (0,0))) (l:List Value) (hs:vs.size=l.length):(sets w b 0 l).heap[b]?=some (.cells l.toArray t (0,0)):=by
 have:=sets_at l [] vs.toList [] h (by simp) (by simpa using hs)
 simpa using this
theorem sets_kept {S:List Nat}{a:World}{b:Nat}(hb:b∈S∨a.heap.size≤b):∀ (l:List Value) (k:Nat) {w:World},Kept S a w→Kept S a (sets w b k l)
 | [],_,_,h=>h
 | u :: l,k,_,h=>sets_kept hb l (k+1) (h.setCell hb u)
def setA3 (w:World) (b:Nat) (u0 u1 u2:Value):World:=((w.setCell ⟨b,0,none⟩ u0).setCell ⟨b,1,none⟩ u1).setCell ⟨b,2,none⟩ u2
theorem setA3_at {w:World}{b:Nat}{vs:Array Value}{t:TypeId}(h:w.heap[b]?=some (.cells vs t (0,0))) (hs:vs.size=3) (u0 u1 u2:Value):(setA3 w b u0 u1 u2).heap[b]?=some (.cells #[u0,u1,u2] t (0,0)):=sets_all h [u0,u1,u2] hs
theorem setA3_kept {S:List Nat}{a w:World}(h:Kept S a w) {b:Nat}(hb:b∈S∨a.heap.size≤b) (u0 u1 u2:Value):Kept S a (setA3 w b u0 u1 u2):=sets_kept hb [u0,u1,u2] 0 h
def setA4 (w:World) (b:Nat) (u0 u1 u2 u3:Value):World:=(((w.setCell ⟨b,0,none⟩ u0).setCell ⟨b,1,none⟩ u1).setCell ⟨b,2,none⟩ u2).setCell ⟨b,3,none⟩ u3
theorem setA4_at {w:World}{b:Nat}{vs:Array Value}{t:TypeId}(h:w.heap[b]?=some (.cells vs t (0,0))) (hs:vs.size=4) (u0 u1 u2 u3:Value):(setA4 w b u0 u1 u2 u3).heap[b]?=some (.cells #[u0,u1,u2,u3] t (0,0)):=sets_all h [u0,u1,u2,u3] hs
theorem setA4_kept {S:List Nat}{a w:World}(h:Kept S a w) {b:Nat}(hb:b∈S∨a.heap.size≤b) (u0 u1 u2 u3:Value):Kept S a (setA4 w b u0 u1 u2 u3):=sets_kept hb [u0,u1,u2,u3] 0 h
def setA7 (w:World) (b:Nat) (u0 u1 u2 u3 u4 u5 u6:Value):World:=((((((w.setCell ⟨b,0,none⟩ u0).setCell ⟨b,1,none⟩ u1).setCell ⟨b,2,none⟩ u2).setCell ⟨b,3,none⟩ u3).setCell ⟨b,4,none⟩ u4).setCell ⟨b,5,none⟩ u5).setCell ⟨b,6,none⟩ u6
theorem setA7_at {w:World}{b:Nat}{vs:Array Value}{t:TypeId}(h:w.heap[b]?=some (.cells vs t (0,0))) (hs:vs.size=7) (u0 u1 u2 u3 u4 u5 u6:Value):(setA7 w b u0 u1 u2 u3 u4 u5 u6).heap[b]?=some (.cells #[u0,u1,u2,u3,u4,u5,u6] t (0,0)):=sets_all h [u0,u1,u2,u3,u4,u5,u6] hs
theorem setA7_kept {S:List Nat}{a w:World}(h:Kept S a w) {b:Nat}(hb:b∈S∨a.heap.size≤b) (u0 u1 u2 u3 u4 u5 u6:Value):Kept S a (setA7 w b u0 u1 u2 u3 u4 u5 u6):=sets_kept hb [u0,u1,u2,u3,u4,u5,u6] 0 h
def setA10 (w:World) (b:Nat) (u0 u1 u2 u3 u4 u5 u6 u7 u8 u9:Value):World:=(((((((((w.setCell ⟨b,0,none⟩ u0).setCell ⟨b,1,none⟩ u1).setCell ⟨b,2,none⟩ u2).setCell ⟨b,3,none⟩ u3).setCell ⟨b,4,none⟩ u4).setCell ⟨b,5,none⟩ u5).setCell ⟨b,6,none⟩ u6).setCell ⟨b,7,none⟩ u7).setCell ⟨b,8,none⟩ u8).setCell ⟨b,9,none⟩ u9
theorem setA10_at {w:World}{b:Nat}{vs:Array Value}{t:TypeId}(h:w.heap[b]?=some (.cells vs t (0,0))) (hs:vs.size=10) (u0 u1 u2 u3 u4 u5 u6 u7 u8 u9:Value):(setA10 w b u0 u1 u2 u3 u4 u5 u6 u7 u8 u9).heap[b]?=some (.cells #[u0,u1,u2,u3,u4,u5,u6,u7,u8,u9] t (0,0)):=sets_all h [u0,u1,u2,u3,u4,u5,u6,u7,u8,u9] hs
theorem setA10_kept {S:List Nat}{a w:World}(h:Kept S a w) {b:Nat}(hb:b∈S∨a.heap.size≤b) (u0 u1 u2 u3 u4 u5 u6 u7 u8 u9:Value):Kept S a (setA10 w b u0 u1 u2 u3 u4 u5 u6 u7 u8 u9):=sets_kept hb [u0,u1,u2,u3,u4,u5,u6,u7,u8,u9] 0 h
def setB7 (w:World) (b:Nat) (u0 u1 u2 u3 u4 u5 u6:Value):World:=((((((w.setCell ⟨b,3,none⟩ u0).setCell ⟨b,4,none⟩ u1).setCell ⟨b,5,none⟩ u2).setCell ⟨b,6,none⟩ u3).setCell ⟨b,7,none⟩ u4).setCell ⟨b,8,none⟩ u5).setCell ⟨b,9,none⟩ u6
theorem setB7_at {w:World}{b:Nat}{v0 v1 v2 v3 v4 v5 v6 v7 v8 v9:Value}{t:TypeId}(h:w.heap[b]?=some (.cells #[v0,v1,v2,v3,v4,v5,v6,v7,v8,v9] t (0,0))) (u0 u1 u2 u3 u4 u5 u6:Value):(setB7 w b u0 u1 u2 u3 u4 u5 u6).heap[b]?=some (.cells #[v0,v1,v2,u0,u1,u2,u3,u4,u5,u6] t (0,0)) :=
 sets_at [u0,u1,u2,u3,u4,u5,u6] [v0,v1,v2] [v3,v4,v5,v6,v7,v8,v9] [] h rfl rfl
theorem setB7_kept {S:List Nat}{a w:World}(h:Kept S a w) {b:Nat}(hb:b∈S∨a.heap.size≤b) (u0 u1 u2 u3 u4 u5 u6:Value):Kept S a (setB7 w b u0 u1 u2 u3 u4 u5 u6):=sets_kept hb [u0,u1,u2,u3,u4,u5,u6] 3 h
theorem size_ch:(Tryz.prog.info? 116).map (·.size)=some 3:=by kernel_rfl
theorem ch_res {w:World}{g:Nat}{cs:Array Value}{fn:Func}{p:Tmp}(hr:fn.results=#[.cell p 116]) (tmps:Array Value) (hp:tmps.getD p undef=.pointer (some ⟨g,0,none⟩)) (hg:w.heap[g]?=some (.cells cs 116 (0,0))) (hs:cs.size=3) :
 (results fn tmps).run Tryz.prog w=.ok (.agg cs) w :=
 results_cell_row hr tmps w g _ cs _ _ hp hg Tryz.underlying116 rfl (by rw [hs];exact size_ch)
theorem size_com:(Tryz.prog.info? 76).map (·.size)=some 4:=by kernel_rfl
theorem com_res {w:World}{g:Nat}{cs:Array Value}{fn:Func}{p:Tmp}(hr:fn.results=#[.cell p 76]) (tmps:Array Value) (hp:tmps.getD p undef=.pointer (some ⟨g,0,none⟩)) (hg:w.heap[g]?=some (.cells cs 76 (0,0))) (hs:cs.size=4) :
 (results fn tmps).run Tryz.prog w=.ok (.agg cs) w :=
 results_cell_row hr tmps w g _ cs _ _ hp hg Tryz.underlying76 rfl (by rw [hs];exact size_com)
theorem size_vt:(Tryz.prog.info? 69).map (·.size)=some 7:=by kernel_rfl
theorem vt_res {w:World}{g:Nat}{cs:Array Value}{fn:Func}{p:Tmp}(hr:fn.results=#[.cell p 69]) (tmps:Array Value) (hp:tmps.getD p undef=.pointer (some ⟨g,0,none⟩)) (hg:w.heap[g]?=some (.cells cs 69 (0,0))) (hs:cs.size=7) :
 (results fn tmps).run Tryz.prog w=.ok (.agg cs) w :=
 results_cell_row hr tmps w g _ cs _ _ hp hg Tryz.underlying69 rfl (by rw [hs];exact size_vt)
theorem size_se:(Tryz.prog.info? 71).map (·.size)=some 10:=by kernel_rfl
theorem se_res {w:World}{g:Nat}{cs:Array Value}{fn:Func}{p:Tmp}(hr:fn.results=#[.cell p 71]) (tmps:Array Value) (hp:tmps.getD p undef=.pointer (some ⟨g,0,none⟩)) (hg:w.heap[g]?=some (.cells cs 71 (0,0))) (hs:cs.size=10) :
 (results fn tmps).run Tryz.prog w=.ok (.agg cs) w :=
 results_cell_row hr tmps w g _ cs _ _ hp hg Tryz.underlying71 rfl (by rw [hs];exact size_se)
end Go.Proofs.YtddhmfildfdbdaaGreat
