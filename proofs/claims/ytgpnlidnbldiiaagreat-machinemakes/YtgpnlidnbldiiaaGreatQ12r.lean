/-
  Texts laid as one.
-/
import Derived.Test.YtgpnlidnbldiiaaGreatQ1r
import Derived.Test.YtgpnlidnbldiiaaGreatQ3r
import Derived.Test.YtgpnlidnbldiiaaGreatQ2r
import Derived.Test.YtgpnlidnbldiiaaGreatShelf
import Derived.Deep.Cut
set_option maxHeartbeats 8000000
set_option maxRecDepth 100000
/-
 Verdicts and sessions in memory: slices that are read,rows that are owned,lists that are never written.
-/
namespace Go.Proofs.YtgpnlidnbldiiaaGreat
open Go.RowKit
def dU (x:Se × Value):List Value:=[.int .i64 x.1.i,.int .i64 x.1.q,.string (ak x.1.n),.int .i64 x.1.v.c,.int .i64 x.1.v.s,.int .i64 x.1.v.r,.string (ak x.1.v.p),.int .u64 x.1.v.d,x.2,.int .i64 x.1.v.m]
def jN (x:Se) (u:Value):Value:=.agg #[.int .i64 x.i,.int .i64 x.q,.string (ak x.n),.int .i64 x.v.c,.int .i64 x.v.s,.int .i64 x.v.r,.string (ak x.v.p),.int .u64 x.v.d,u,.int .i64 x.v.m]
theorem eq (X:List (Se × Value)):(X.flatMap dU).length=X.length*10:=by
 induction X with
 | nil=>rfl
 | cons x X ih=>simp [List.flatMap_cons,ih,dU];omega
theorem lR (X:List (Se × Value)) (i:Nat) (h:i < X.length) (j:Nat) (hj:j < 10):(X.flatMap dU)[i*10+j]?=(dU X[i])[j]?:=by
 induction X generalizing i with
 | nil=>simp at h
 | cons x X ih =>
   cases i with
   | zero=>simp only [List.flatMap_cons,Nat.zero_mul,Nat.zero_add,List.getElem_cons_zero];rw [List.getElem?_append_left (by simp [dU];omega)]
   | succ i =>
     simp only [List.flatMap_cons,List.getElem_cons_succ];rw [List.getElem?_append_right (by simp [dU];omega)];rw [← ih i (by simpa using h)];congr 1
     simp [dU];omega
structure jl (w:World) (b o:Nat) (x:Se × Value):Prop where
 c0:w.cell? ⟨b,o,none⟩=some (.int .i64 x.1.i)
 c1:w.cell? ⟨b,o+1,none⟩=some (.int .i64 x.1.q)
 c2:w.cell? ⟨b,o+2,none⟩=some (.string (ak x.1.n))
 c3:w.cell? ⟨b,o+3,none⟩=some (.int .i64 x.1.v.c)
 c4:w.cell? ⟨b,o+4,none⟩=some (.int .i64 x.1.v.s)
 c5:w.cell? ⟨b,o+5,none⟩=some (.int .i64 x.1.v.r)
 c6:w.cell? ⟨b,o+6,none⟩=some (.string (ak x.1.v.p))
 c7:w.cell? ⟨b,o+7,none⟩=some (.int .u64 x.1.v.d)
 c8:w.cell? ⟨b,o+8,none⟩=some x.2
 c9:w.cell? ⟨b,o+9,none⟩=some (.int .i64 x.1.v.m)
theorem jl.kept {S:List Nat}{a w:World}{b o:Nat}{x:Se × Value}(h:jl a b o x) (k:aa S a w) (hb:b ∉ S):jl w b o x :=
 ⟨k.cell h.c0 hb,k.cell h.c1 hb,k.cell h.c2 hb,k.cell h.c3 hb,k.cell h.c4 hb,k.cell h.c5 hb,k.cell h.c6 hb,k.cell h.c7 hb,k.cell h.c8 hb,k.cell h.c9 hb⟩
theorem jl.of {w:World}{b o:Nat}{x:Se × Value}(h:∀ j,j < 10→w.cell? ⟨b,o+j,none⟩=(dU x)[j]?):jl w b o x :=
 ⟨h 0 (by omega),h 1 (by omega),h 2 (by omega),h 3 (by omega),h 4 (by omega),h 5 (by omega),h 6 (by omega),h 7 (by omega),h 8 (by omega),h 9 (by omega)⟩
theorem jl.all {w:World}{b o:Nat}{x:Se × Value}(h:jl w b o x) {j:Nat}{u:Value}(hj:(dU x)[j]?=some u):w.cell? ⟨b,o+j,none⟩=some u:=by
 obtain ⟨c0,c1,c2,c3,c4,c5,c6,c7,c8,c9⟩:=h;match j,hj with
 | 0,hj=>simp [dU] at hj;subst hj;exact c0
 | 1,hj=>simp [dU] at hj;subst hj;exact c1
 | 2,hj=>simp [dU] at hj;subst hj;exact c2
 | 3,hj=>simp [dU] at hj;subst hj;exact c3
 | 4,hj=>simp [dU] at hj;subst hj;exact c4
 | 5,hj=>simp [dU] at hj;subst hj;exact c5
 | 6,hj=>simp [dU] at hj;subst hj;exact c6
 | 7,hj=>simp [dU] at hj;subst hj;exact c7
 | 8,hj=>simp [dU] at hj;subst hj;exact c8
 | 9,hj=>simp [dU] at hj;subst hj;exact c9
 | j+10,hj=>simp [dU] at hj
def vo (w:World) (ao:Option Addr) (n c:Nat) (X:List (Se × Value)):Prop :=
 X.length=n∧n≤c∧c≤maxLen∧(ao=none→c=0)∧(∀ i (h:i < X.length),∃ b o,ao=some ⟨b,o,none⟩∧jl w b (o+i*10) X[i])∧∀ x∈X,nU w x.2 x.1.v.k
theorem vo.kept {a w:World}{ao:Option Addr}{n c:Nat}{X:List (Se × Value)}(h:vo a ao n c X) (k:aa [] a w):vo w ao n c X :=
 ⟨h.1,h.2.1,h.2.2.1,h.2.2.2.1,fun i hi=>by obtain ⟨b,o,e,h1⟩:=h.2.2.2.2.1 i hi;exact ⟨b,o,e,h1.kept k (by simp)⟩,fun x hx=>(h.2.2.2.2.2 x hx).kept k⟩
def bp (B:Nat) (w:World) (v:Value) (X:List (Se × Value)):Prop:=w.ownsRow B 155 10 v X.length (X.flatMap dU)
def dj (w:World) (v:Value) (X:List (Se × Value)):Prop :=
 (v=.slice none 0 0∧X=[])∨∃ g c cur,v=.slice (some ⟨g,0,none⟩) X.length c∧w.heap[g]?=some (.cells cur 155 (0,0))∧X.length≤c∧c≤maxLen∧cur.toList.take (X.length*10)=X.flatMap dU
theorem bp.t {B:Nat}{w:World}{v:Value}{X:List (Se × Value)}(h:bp B w v X):dj w v X:=by
 obtain ⟨h1,h2⟩:=h;rcases h2 with ⟨hv,hn⟩ | ⟨g,cap,cur,hv,hg,hh,h3,h4,h5,h6⟩
 ·have:X=[]:=by simpa using hn
  subst this;exact .inl ⟨by rw [hv],rfl⟩
 ·exact .inr ⟨g,cap,cur,hv,hh,h3,h4,h6⟩
theorem dj.keep {S:List Nat}{w w':World}{v:Value}{X:List (Se × Value)}(h:dj w v X) (hk:aa S w w') (hS:∀ k,v.ownBlock=some k→k ∉ S):dj w' v X:=by
 rcases h with h | ⟨g,c,cur,hv,hh,r⟩
 ·exact .inl h
 ·exact .inr ⟨g,c,cur,hv,hk.at hh (hS g (by rw [hv];rfl)),r⟩
theorem dj.kept {w w':World}{v:Value}{X:List (Se × Value)}(h:dj w v X) (hk:aa [] w w'):dj w' v X:=h.keep hk (by simp)
theorem dj.block {w:World}{v:Value}{X:List (Se × Value)}(h:dj w v X) {k:Nat}(hk:v.ownBlock=some k):∃ cur,w.heap[k]?=some (.cells cur 155 (0,0)):=by
 rcases h with ⟨rfl,_⟩ | ⟨g,c,cur,rfl,hh,_⟩
 ·cases hk
 ·cases hk;exact ⟨cur,hh⟩
theorem dj.typed {S:List Nat}{Ts:List TypeId}{w w':World}{v:Value}{X:List (Se × Value)}(h:dj w v X) (hk:aa S w w') (hT:aJ w S Ts) (ht:155 ∉ Ts):dj w' v X :=
 h.keep hk fun k hv hm=>by
  obtain ⟨cur,hh⟩:=h.block hv;exact ht (hT _ hm _ _ _ hh)
theorem dj.at {w:World}{g n c:Nat}{X:List (Se × Value)}(h:dj w (.slice (some ⟨g,0,none⟩) n c) X) {i:Nat}(hi:i < X.length):jl w g (i*10) X[i]:=by
 rcases h with ⟨h,_⟩ | ⟨g',c',cur,hv,hh,h1,h2,h3⟩
 ·cases h
 ·obtain ⟨rfl,rfl,rfl⟩:g=g'∧n=X.length∧c=c':=by simpa using hv
  refine jl.of fun j hj=>?_;rw [← lR X i hi j hj,← h3,List.getElem?_take,if_pos (by omega)];simp [World.cell?,hh]
theorem dj.shape {w:World}{v:Value}{X:List (Se × Value)}(h:dj w v X):∃ ao c,v=.slice ao X.length c∧X.length≤c∧c≤maxLen∧(ao=none→c=0)∧∀ i (hi:i < X.length),∃ g,ao=some ⟨g,0,none⟩∧jl w g (i*10) X[i]:=by
 have h':=h;rcases h with ⟨rfl,rfl⟩ | ⟨g,c,cur,rfl,hh,h1,h2,h3⟩
 ·exact ⟨none,0,rfl,Nat.le_refl _,Nat.zero_le _,fun _=>rfl,fun i hi=>by simp at hi⟩
 ·exact ⟨_,c,rfl,h1,h2,by simp,fun i hi=>⟨g,rfl,h'.at hi⟩⟩
theorem dj.one {w:World}{v:Value}{X:List (Se × Value)}(h:dj w v X):∃ ao n c,v=.slice ao n c:=by
 obtain ⟨ao,c,e,_⟩:=h.shape;exact ⟨ao,_,c,e⟩
theorem dj.sl {w:World}{v:Value}{X:List (Se × Value)}(h:dj w v X) (ho:∀ x∈X,nU w x.2 x.1.v.k):∃ ao c,v=.slice ao X.length c∧vo w ao X.length c X:=by
 obtain ⟨ao,c,e,h1,h2,h3,h4⟩:=h.shape;refine ⟨ao,c,e,rfl,h1,h2,h3,fun i hi=>?_,ho⟩;obtain ⟨g,e2,h5⟩:=h4 i hi;exact ⟨g,0,e2,by rw [Nat.zero_add];exact h5⟩
theorem mL {w:World}{b o:Nat}{X:List (Se × Value)}(h:∀ i (hi:i < X.length),jl w b (o+i*10) X[i]):∀ (j:Nat) (u:Value),(X.flatMap dU)[j]?=some u→w.cell? ⟨b,o+j,none⟩=some u:=by
 intro j u hj
 have hlt:j < (X.flatMap dU).length:=by
  by_cases hl:j < (X.flatMap dU).length
  ·exact hl
  ·rw [List.getElem?_eq_none (by omega)] at hj;cases hj
 rw [eq] at hlt;have hi:j / 10 < X.length:=by omega
 have e:=lR X (j / 10) hi (j % 10) (by omega);have e2:j / 10*10+j % 10=j:=by omega
 rw [e2,hj] at e;have:=(h (j / 10) hi).all e.symm
 rw [show o+j / 10*10+j % 10=o+j by omega] at this;exact this
theorem dj.runs {w:World}{g n c:Nat}{X:List (Se × Value)}(h:dj w (.slice (some ⟨g,0,none⟩) n c) X) (k:Nat):∀ (j:Nat) (u:Value),((X.drop k).flatMap dU)[j]?=some u→w.cell? ((⟨g,k*10,none⟩:Addr).add j)=some u:=by
 intro j u hj;rw [dd];refine mL (X:=X.drop k) (fun i hi=>?_) j u hj;rw [List.length_drop] at hi;have:=h.at (i:=k+i) (by omega)
 rw [List.getElem_drop,show k*10+i*10=(k+i)*10 by omega];exact this
theorem dj.run0 {w:World}{g n c:Nat}{X:List (Se × Value)}(h:dj w (.slice (some ⟨g,0,none⟩) n c) X) (k:Nat):∀ (j:Nat) (u:Value),((X.take k).flatMap dU)[j]?=some u→w.cell? ((⟨g,0,none⟩:Addr).add j)=some u:=by
 intro j u hj;rw [dd];refine mL (X:=X.take k) (fun i hi=>?_) j u hj;rw [List.length_take] at hi;have:=h.at (i:=i) (by omega)
 rw [List.getElem_take,Nat.zero_add];exact this
theorem dj.cut {w:World}{g n c:Nat}{X:List (Se × Value)}(h:dj w (.slice (some ⟨g,0,none⟩) n c) X) {k:Nat}(hk:k≤X.length):dj w (.slice (some ⟨g,0,none⟩) k k) (X.take k):=by
 rcases h with ⟨h,_⟩ | ⟨g',c',cur,hv,hh,h1,h2,h3⟩
 ·cases h
 ·obtain ⟨rfl,rfl,rfl⟩:g=g'∧n=X.length∧c=c':=by simpa using hv
  have hl:(X.take k).length=k:=by simp;omega
  refine .inr ⟨g,k,cur,by rw [hl],hh,by omega,by omega,?_⟩;rw [hl];apply List.ext_getElem?
  intro q;by_cases hq:q < k*10
  ·rw [List.getElem?_take,if_pos hq];have e3:cur.toList[q]?=(X.flatMap dU)[q]?:=by rw [← h3,List.getElem?_take,if_pos (by omega)]
   rw [e3];have e:=lR X (q / 10) (by omega) (q % 10) (by omega);have e':=lR (X.take k) (q / 10) (by omega) (q % 10) (by omega);have e2:q / 10*10+q % 10=q:=by omega
   rw [e2] at e e';rw [e,e',List.getElem_take]
  ·rw [List.getElem?_eq_none (by simp;omega),List.getElem?_eq_none (by rw [eq,hl];omega)]
theorem dj.part {w:World}{g n c:Nat}{X:List (Se × Value)}(h:dj w (.slice (some ⟨g,0,none⟩) n c) X) {k:Nat}(hk:k≤X.length):dj w (.slice (some ⟨g,0,none⟩) k c) (X.take k):=by
 have h2:=h.cut hk;have hl:(X.take k).length=k:=by simp;omega
 rcases h with ⟨h,_⟩ | ⟨g',c',cur',hv',_,hc1,hc2,_⟩
 ·cases h
 ·obtain ⟨rfl,rfl,rfl⟩:g=g'∧n=X.length∧c=c':=by simpa using hv'
  rcases h2 with ⟨h2,_⟩ | ⟨g2,c2,cur,hv,hh,_,_,h3⟩
  ·cases h2
  ·obtain ⟨rfl,_,rfl⟩:g=g2∧_∧k=c2:=by simpa using hv
   exact .inr ⟨g,c,cur,by rw [hl],hh,by omega,hc2,h3⟩
theorem bp.mono {B C:Nat}{w:World}{v:Value}{X:List (Se × Value)}(h:bp C w v X) (hB:B≤C):bp B w v X:=by
 obtain ⟨h1,h2⟩:=h;refine ⟨h1,?_⟩;rcases h2 with h2 | ⟨g,cap,cur,hv,hg,r⟩
 ·exact .inl h2
 ·exact .inr ⟨g,cap,cur,hv,Nat.le_trans hB hg,r⟩
theorem lO {X:List (Se × Value)}(h:∀ x∈X,x.2.oneCell'=true):∀ u∈X.flatMap dU,u.oneCell'=true:=by
 intro u hu;obtain ⟨x,hx,hu⟩:=List.mem_flatMap.1 hu;simp [dU] at hu
 rcases hu with rfl | rfl | rfl | rfl | rfl | rfl | rfl | rfl | rfl | rfl
 ·rfl
 ·rfl
 ·rfl
 ·rfl
 ·rfl
 ·rfl
 ·rfl
 ·rfl
 ·exact h x hx
 ·rfl
theorem dW:(Tryz.prog.info? 155).map (fun i=>(i.zero,i.size,i.bytes))=some (some (.agg #[.int .i64 0,.int .i64 0,.string ⟨#[]⟩,.int .i64 0,.int .i64 0,.int .i64 0,.string ⟨#[]⟩,.int .u64 0,.slice none 0 0,.int .i64 0]),10,112):=by kernel_rfl
theorem dT {w:World}{ops:Array Oper}{rest:List Oper}{o:Oper}{a:Act}{Q:Exit→Act→World→Prop}(hgd:o.guard=none) (s x:Operand)
 (hop:o.op=.call { callee:=.builtin .append,args:=#[s,x],argTypes:=#[51,51] })
 (B:Nat) (v:Value) (M:List (Se × Value)) (hs:a.eval s=v) (hO:bp B w v M) (ad:Addr) (m c:Nat) (N:List (Se × Value)) (hx:a.eval x=.slice (some ad) m c) (hm:m=N.length) (hc:∀ (j:Nat) (u:Value),(N.flatMap dU)[j]?=some u→w.cell? (ad.add j)=some u) (h1:∀ x∈N,x.2.oneCell'=true)
 (hlen:M.length+N.length≤1000000000) (hB:B≤w.heap.size)
 (h:∀ v' w',bp B w' v' (M++N)→w.grownBy w' v.ownBlock→wpList Tryz.prog ops Q rest (a.put o.dst v') w'):wpList Tryz.prog ops Q (o :: rest) a w:=by
 subst hm;obtain ⟨i0,hi,hz0,hz1,hz2⟩:=info_parts dW;refine wpList_append_own w hgd s x 51 hop B 155 i0 _ 10 112 Tryz.underlying51 hi hz0 hz1 hz2 rfl (by decide) v M.length (M.flatMap dU) hs hO ad N.length c (N.flatMap dU) hx (eq N) hc (lO h1) (by unfold maxLen;omega) (by omega) hB ?_;intro v' w' h2 h3 _;refine h v' w' ?_ h3;unfold bp;rw [List.length_append,List.flatMap_append];exact h2
theorem bp.nil (B:Nat) (w:World):bp B w (.slice none 0 0) []:=World.ownsRow_nil w B 155 10
theorem jb (w:World) (B:Nat) (hB:B≤w.heap.size):bp B (w.alloc (.cells #[] 155)) (.slice (some ⟨w.heap.size,0,none⟩) 0 0) [] :=
 ⟨rfl,.inr ⟨w.heap.size,0,#[],rfl,hB,heap_alloc_new w _,Nat.le_refl _,Nat.zero_le _,rfl,rfl⟩⟩
theorem eT {w:World}{g:Nat}{x:Se × Value}{vs:Array Value}(hv:vs=(dU x).toArray) (h:w.heap[g]?=some (.cells vs 155 (0,0))):∀ (j:Nat) (u:Value),([x].flatMap dU)[j]?=some u→w.cell? ((⟨g,0,none⟩:Addr).add j)=some u:=by
 intro j u hj;subst hv;rw [dd,Nat.zero_add];refine ag h ?_;simpa using hj
theorem df (l:List UInt8) (w:World) (hl:l.length≤140737488355328) :
 Calls Tryz.prog 135 #[.string (ak l)] w fun e w'=>e=.returned (.string (ak l))∧aa [] w w':=by
 have cC:=Tryz.stringslite_Clone (ak l);have hl':(ak l).size≤281474976710656:=by rw [bw];omega
 go_enter Tryz.func135,Tryz.ntmps135;go_wp2_with fail
 refine (cC _ hl').mono ?_;rintro e w' ⟨rfl,hB⟩;go_wp2
 go_ret
 exact ⟨rfl,aa.of_below hB⟩
theorem lG (w:World) (x:Ch) (hx:Bz x) :
 Calls Tryz.prog 175 #[chV x] w fun e w'=>e=.returned (chV x)∧aa [] w w':=by
 obtain ⟨W1,hW1⟩:∃ W1,W1=(w.alloc (.cells #[.string (ak x.p),.bool x.g,.int .u64 x.d] 60)).alloc (.cells #[.string ⟨#[]⟩,.bool false,.int .u64 0] 60):=⟨_,rfl⟩;have hK0:aa [] w W1:=by rw [hW1];exact ((aa.refl _ _).alloc _).alloc _
 have hL:=lJ w #[.string (ak x.p),.bool x.g,.int .u64 x.d] #[.string ⟨#[]⟩,.bool false,.int .u64 0] 60;rw [← hW1] at hL;have HL:=ah hL;have cC:=df x.p W1 (by unfold Bz at hx;omega);unfold chV;clear hx hL;go_enter Tryz.func175,Tryz.ntmps175;go_wp2_with fail
 rw [← hW1];clear hW1;refine cC.mono ?_;rintro _ w2 ⟨rfl,hK2⟩;have hA:=hK2.at HL.out.1 (by simp);have hB:=hK2.at HL.out.2 (by simp);have a0:=ag (k:=0) hA rfl;have a1:=ag (k:=1) hA rfl;have a2:=ag (k:=2) hA rfl;have b0:=ag (k:=0) hB rfl;have b1:=ag (k:=1) hB rfl;have b2:=ag (k:=2) hB rfl;have fa:=aj hA;have fb:=aj hB;go_wp2_with fail
 refine bodyPost_ret (B4 (by rfl) _ (by rfl) (zb (((aa.refl [w.heap.size] w2).setCell (by simp) _).at hB (by simp)) rfl _ _ _) rfl) rfl ?_;exact ⟨rfl,(hK0.trans hK2 (by simp)).trans (tx ((aa.refl [w.heap.size,w.heap.size+1] w2).setCell (by simp) _) (by simp) _ _ _) (fun k hk=>.inr (by simp at hk;omega))⟩
def EB (w:World) (L:List Ch) (ov iv:Value) (wr:World):Prop :=
 ∃ j:Nat,iv=.int .i64 (j:Int)∧j≤L.length∧Hid (aP w.heap.size wr ov (L.take j))∧Hid (aa [] w wr)
theorem kS (w:World) (ao:Option Addr) (n c:Nat) (L:List Ch) (hS:di w ao n c L) (hn:n≤4398046510976) (hok:∀ x∈L,Bz x) :
 Calls Tryz.prog 174 #[.slice ao n c,.func (.func 175) #[] #[]] w fun e w'=>∃ v,e=.returned v∧aP w.heap.size w' v L∧aa [] w w':=by
 have hl:=hS.1;have hc:=hS.2.1;have hm:=hS.2.2.1;unfold maxLen at hm;have HS:=ah hS;have HL:=ah hl;have HOk:=ah hok;clear hS hl hok;go_enter Tryz.func174,Tryz.ntmps174;go_wp2_with fail
 go_loopw [5,10] (fun ov iv wr=>EB w L ov iv wr) (fun _ iv _=>n - (intOf iv).toNat)
 case atStart=>exact ⟨0,rfl,Nat.zero_le _,aP.nil _ _,aa.refl _ _⟩
 case round =>
  obtain ⟨j,rfl,hj,HO,HK⟩:=hrel;by_cases hlt:j < n
  ·have hlt':(j:Int) < n:=by omega
   have hjc:j≤c:=by omega
   have hjL:j < L.length:=by rw [HL.out];exact hlt
   obtain ⟨g,o,rfl,hx⟩:=(HS.out.kept HK.out (by simp)).2.2.2 j hjL;obtain ⟨x0,x1,x2⟩:=hx;have hxo:=HOk.out _ (List.getElem_mem hjL);have HN:Hid (L.take (j+1)=L.take j++[L[j]]):=List.take_succ_eq_append_getElem hjL;have HT:Hid ((L.take j).length=j):=by show _=_;simp;omega
   have cC:=fun W=>lG W L[j] hxo;obtain ⟨x,hxe⟩:∃ x,x=L[j]:=⟨_,rfl⟩;rw [← hxe] at x0 x1 x2 cC HN;unfold chV at cC;clear hxe hxo hjL;(go_wp2_with fail);refine (cC _).mono ?_;rintro _ w5 ⟨rfl,hK5⟩;replace hK5:=((aa.refl [] wr).alloc _).trans hK5 (by simp);have hO5:aP w.heap.size w5 u5 (L.take j):=hK5.ownsRow HO.out (by simp);have hsz:w.heap.size≤w5.heap.size:=Nat.le_trans HK.out.size hK5.size;have HB:=(di.lit w5 [x] (n:=1) rfl (by simp [maxLen]) (vs:=#[.string (ak x.p),.bool x.g,.int .u64 x.d]) rfl).runs';have hOa:aP w.heap.size (w5.alloc (.cells #[.string (ak x.p),.bool x.g,.int .u64 x.d] 60)) u5 (L.take j):=World.ownsRow.alloc hO5 _;clear cC x0 x1 x2;go_wp2_with (at_builtin;refine dV rfl _ _ rfl w.heap.size _ (L.take j) rfl hOa ⟨w5.heap.size,0,none⟩ 1 1 [x] rfl rfl HB (by rw [HT.out];simp;omega) (by simp;omega) ?b1)
   case b1 =>
    intro v6 w6 hO6 hg6;have HK6:Hid (aa [] w w6):=bI ((HK.out.trans hK5 (by simp)).alloc _) hOa (Nat.le_refl _) hg6;have HO6:Hid (aP w.heap.size w6 v6 (L.take (j+1))):=by show aP _ _ _ _;rw [HN.out];exact hO6
    clear hO6 hg6 hOa hO5 HB hK5;(go_wp2_with fail);go_roundw
    case rel=>exact ⟨j+1,by go_num,by rw [HL.out];omega,HO6,HK6⟩
    case measure=>simp [intOf];omega
  ·have hlt':¬ (j:Int) < n:=by omega
   have HE:Hid (aP w.heap.size wr u5 L):=by have h:=HO.out;rw [List.take_of_length_le (by rw [HL.out];omega)] at h;exact h
   (go_wp2_with fail);go_ret
   exact ⟨_,rfl,HE.out,HK.out⟩
theorem lL (w:World) (x:aV) (mo:Option Addr) (m mc:Nat) (hS:di w mo m mc x.c) (hx:Cy x) :
 Calls Tryz.prog 161 #[.agg #[.int .i64 x.r,.int .i64 x.b,.string (ak x.n),.slice mo m mc]] w fun e w'=>∃ v',e=.returned (.agg #[.int .i64 x.r,.int .i64 x.b,.string (ak x.n),v'])∧aP w.heap.size w' v' x.c∧aa [] w w':=by
 obtain ⟨W1,hW1⟩:∃ W1,W1=(w.alloc (.cells #[.int .i64 x.r,.int .i64 x.b,.string (ak x.n),.slice mo m mc] 137)).alloc (.cells #[.int .i64 0,.int .i64 0,.string ⟨#[]⟩,.slice none 0 0] 137):=⟨_,rfl⟩;have hK0:aa [] w W1:=by rw [hW1];exact ((aa.refl _ _).alloc _).alloc _
 have hL:=lJ w #[.int .i64 x.r,.int .i64 x.b,.string (ak x.n),.slice mo m mc] #[.int .i64 0,.int .i64 0,.string ⟨#[]⟩,.slice none 0 0] 137;rw [← hW1] at hL;have HL:=ah hL;have HK0:=ah hK0;have cC:=df x.n W1 (by have:=hx.1;omega);have cD:=fun W (hk:aa [] w W)=>kS W mo m mc x.c (hS.kept hk (by simp)) (by rw [← hS.1];exact hx.2.1) hx.2.2;clear hx hL hK0 hS;go_enter Tryz.func161,Tryz.ntmps161;go_wp2_with fail
 rw [← hW1];clear hW1;refine cC.mono ?_;rintro _ w2 ⟨rfl,hK2⟩;have HA:Hid (w2.heap[w.heap.size]?=some (.cells #[.int .i64 x.r,.int .i64 x.b,.string (ak x.n),.slice mo m mc] 137 (0,0))):=hK2.at HL.out.1 (by simp);have HB:Hid (w2.heap[w.heap.size+1]?=some (.cells #[.int .i64 0,.int .i64 0,.string ⟨#[]⟩,.slice none 0 0] 137 (0,0))):=hK2.at HL.out.2 (by simp);obtain ⟨w3,hw3⟩:∃ w3,w3=w2.setCell ⟨w.heap.size,2,none⟩ (.string (ak x.n)):=⟨_,rfl⟩;have HA3:Hid (w3.heap[w.heap.size]?=some (.cells #[.int .i64 x.r,.int .i64 x.b,.string (ak x.n),.slice mo m mc] 137 (0,0))):=by show _=_;rw [hw3];exact heap_setCell_same _ _ 2 _ _ _ HA.out
 have HB3:Hid (w3.heap[w.heap.size+1]?=some (.cells #[.int .i64 0,.int .i64 0,.string ⟨#[]⟩,.slice none 0 0] 137 (0,0))):=by show _=_;rw [hw3];exact ((aa.refl [w.heap.size] w2).setCell (by simp) _).at HB.out (by simp)
 have hK3:aa [] w w3:=by
  rw [hw3];exact (HK0.out.trans hK2 (by simp)).setCell (.inr (Nat.le_refl _)) _
 have HK3:=ah hK3;have a2:=ag (k:=2) HA.out rfl;have f2:=aj HA.out 2;have a3:w3.cell? ⟨w.heap.size,3,none⟩=some (.slice mo m mc):=ag HA3.out rfl;rw [hw3] at a3;clear hK2 hK3;go_wp2_with fail
 rw [← hw3];clear hw3;refine (cD _ HK3.out).mono ?_;rintro _ w4 ⟨v',rfl,hO,hK4⟩;obtain ⟨a',n',c',rfl,_,_⟩:=hO.chV;have hA4:=hK4.at HA3.out (by simp);have hB4:=hK4.at HB3.out (by simp);have q0:=ag (k:=0) hA4 rfl;have q1:=ag (k:=1) hA4 rfl;have q2:=ag (k:=2) hA4 rfl;have q3:=ag (k:=3) hA4 rfl;have r0:=ag (k:=0) hB4 rfl;have r1:=ag (k:=1) hB4 rfl;have r2:=ag (k:=2) hB4 rfl;have r3:=ag (k:=3) hB4 rfl;have fa:=aj hA4;have fb:=aj hB4;have HB4:=ah hB4;have HA4:=ah hA4;have HO:=ah hO;have HK4:=ah hK4;clear hO hK4 hA4 hB4 a2 a3 f2 cC cD;go_wp2_with fail
 have HKe:Hid (aa [w.heap.size,w.heap.size+1] w4 (uZ (w4.setCell ⟨w.heap.size,3,none⟩ (.slice a' n' c')) (w.heap.size+1) (.int .i64 x.r) (.int .i64 x.b) (.string (ak x.n)) (.slice a' n' c'))):=mM ((aa.refl _ w4).setCell (by simp) _) (by simp) _ _ _ _;refine bodyPost_ret (pX (by rfl) _ (by rfl) (rZ (((aa.refl [w.heap.size] w4).setCell (by simp) _).at HB4.out (by simp)) rfl _ _ _ _) rfl) rfl ?_;exact ⟨_,rfl,ap HKe.out (la HA4.out HB4.out) (HO.out.mono HK3.out.size) (by decide),(HK3.out.trans HK4.out (by simp)).trans HKe.out (fun k hk=>.inr (by simp at hk;omega))⟩
theorem dm {α β:Type}{K:List (α × β)}{cs:List α}(h:K.map Prod.fst=cs) {j:Nat}(h1:j < K.length) (h2:j < cs.length):K[j].1=cs[j]:=by subst h;simp
def C5 (w:World) (cs:List aV) (e:Ending) (w':World):Prop:=∃ v,e=.returned v∧cw w.heap.size w' v cs∧aa [] w w'
def CI (w:World) (cs:List aV) (ov iv:Value) (wr:World):Prop :=
 ∃ (j:Nat) (K':List (aV × Value)),iv=.int .i64 (j:Int)∧j≤cs.length∧Hid (K'.map Prod.fst=cs.take j)∧Hid (bk w.heap.size wr ov K')∧Hid (gK w.heap.size wr K')∧Hid (aa [] w wr)
theorem nG {w w':World}{B e size n B2 e2 size2 n2:Nat}{v v2:Value}{xs xs2:List Value}(h:w.ownsRow B e size v n xs) (hg:w.grownBy w' v.ownBlock) (h2:w.ownsRow B2 e2 size2 v2 n2 xs2) (hne:e2≠e):w'.ownsRow B2 e2 size2 v2 n2 xs2:=by
 have hK:aa v.ownBlock.toList w w':=(aa.refl _ w).grown hg fun k hk=>.inl (aw.2 hk);refine ap hK (Ts:=[e]) (fun k hk cur t mk hh=>?_) h2 (by simpa using hne);obtain ⟨c2,h3⟩:=ar h (aw.1 hk);rw [h3] at hh;cases hh;simp
theorem uN {w wr w5 w6:World}{cs:List aV}{j:Nat}{K':List (aV × Value)}{ov v5 v6:Value}{x:aV}(hx:cs[j]?=some x) (hM:K'.map Prod.fst=cs.take j) (hR:bk w.heap.size wr ov K') (hO:gK w.heap.size wr K') (hK:aa [] w wr)
 (hK5:aa [] wr w5) (hO5:aP wr.heap.size w5 v5 x.c) (h1:bk w.heap.size w6 v6 (K'++[(x,v5)])) (h2:(w5.alloc (.cells #[.int .i64 x.r,.int .i64 x.b,.string (ak x.n),v5] 137)).grownBy w6 ov.ownBlock) :
 CI w cs v6 (.int .i64 ((j+1:Nat):Int)) w6:=by
 obtain ⟨hj,hx⟩:=List.getElem?_eq_some_iff.1 hx;have hRa:bk w.heap.size (w5.alloc (.cells #[.int .i64 x.r,.int .i64 x.b,.string (ak x.n),v5] 137)) ov K':=World.ownsRow.alloc (hK5.ownsRow hR (by simp)) _;have hKa:=(aa.refl [] w5).alloc (.cells #[.int .i64 x.r,.int .i64 x.b,.string (ak x.n),v5] 137);refine ⟨j+1,_,rfl,hj,?_,h1,?_,?_⟩
 ·show _=_;rw [List.map_append,hM,List.take_succ_eq_append_getElem hj,hx];rfl
 ·intro y hy;rcases List.mem_append.1 hy with hy | hy
  ·exact nG hRa h2 (hKa.ownsRow (hK5.ownsRow (hO y hy) (by simp)) (by simp)) (by decide)
  ·simp at hy;subst hy
   exact nG hRa h2 (hKa.ownsRow (hO5.mono hK.size) (by simp)) (by decide)
 ·exact (((hK.trans hK5 (by simp)).trans hKa (by simp))).grown h2 fun k hk=>.inr (World.ownsRow.lt hRa k hk).1
theorem uM {w:World}{g:Nat}{x:aV × Value}{vs:Array Value}(hv:vs=(gE x).toArray) (h:w.heap[g]?=some (.cells vs 137 (0,0))):∀ (j:Nat) (u:Value),([x].flatMap gE)[j]?=some u→w.cell? ((⟨g,0,none⟩:Addr).add j)=some u:=by
 intro j u hj;subst hv;rw [dd,Nat.zero_add];refine ag h ?_;simpa using hj
theorem kZ (w:World) (ao:Option Addr) (n c:Nat) (K:List (aV × Value)) (cs:List aV) (hS:iC w ao n c K) (hcom:K.map Prod.fst=cs) (hn:n≤2513169434843) (hok:∀ x∈cs,Cy x) :
 Calls Tryz.prog 160 #[.slice ao n c,.func (.func 161) #[] #[]] w fun e w'=>C5 w cs e w':=by
 have hl:=hS.1;have hc:=hS.2.1;have hm:=hS.2.2.1;unfold maxLen at hm;have HS:=ah hS;have HL:=ah hl;have HCom:=ah hcom;have HOk:=ah hok;have HCl:Hid (cs.length=n):=by show _=_;rw [← hcom];simpa using hl
 clear hS hl hok hcom;go_enter Tryz.func160,Tryz.ntmps160;go_wp2_with fail
 go_loopw [5,10] (fun ov iv wr=>CI w cs ov iv wr) (fun _ iv _=>n - (intOf iv).toNat)
 case atStart=>exact ⟨0,[],rfl,Nat.zero_le _,rfl,bk.nil _ _,fun x hx=>(by cases hx),aa.refl _ _⟩
 case round =>
  obtain ⟨j,K',rfl,hj,HM,HR,HO,HK⟩:=hrel;by_cases hlt:j < n
  ·have hlt':(j:Int) < n:=by omega
   have hjc:j≤c:=by omega
   have hjK:j < K.length:=by rw [HL.out];exact hlt
   have hjg:j < cs.length:=by rw [HCl.out];exact hlt
   have hCk:=dm HCom.out hjK hjg;obtain ⟨g4,o4,he4,hx4⟩:=(HS.out.kept HK.out).2.2.2.1 j hjK;obtain ⟨mo,mm,mc,hm2,hsl,_⟩:=(HS.out.kept HK.out).2.2.2.2 _ (List.getElem_mem hjK);subst he4;obtain ⟨h40,h41,h42,h43⟩:=hx4;rw [hm2] at h43;rw [hCk] at h40 h41 h42 hsl;have hwc:=HOk.out cs[j] (List.getElem_mem hjg);have cK:=fun W (hk:aa [] wr W)=>lL W cs[j] mo mm mc (hsl.kept hk (by simp)) hwc;obtain ⟨x,hxe⟩:∃ x,x=cs[j]:=⟨_,rfl⟩;have HX:Hid (cs[j]?=some x):=by show _=_;rw [hxe];simp
   rw [← hxe] at h40 h41 h42 cK;have hlenK:K'.length≤2513169434842:=by have h:=congrArg List.length HM.out;simp at h;omega
   clear hwc hsl hxe hCk hjg hjK hm2;(go_wp2_with fail);refine (cK _ ((aa.refl [] wr).alloc _)).mono ?_;rintro _ w5 ⟨v5,rfl,hO5,hK5⟩;replace hO5:=hO5.mono ((aa.refl [] wr).alloc _).size;replace hK5:=((aa.refl [] wr).alloc _).trans hK5 (by simp);obtain ⟨a5,n5,c5,rfl,_,_⟩:=hO5.chV;have hRa:bk w.heap.size (w5.alloc (.cells #[.int .i64 x.r,.int .i64 x.b,.string (ak x.n),.slice a5 n5 c5] 137)) u5 K':=World.ownsRow.alloc (hK5.ownsRow HR.out (by simp)) _;have hsz5:w.heap.size≤w5.heap.size:=Nat.le_trans HK.out.size hK5.size;have HB:=uM (x:=(x,.slice a5 n5 c5)) rfl (heap_alloc_new w5 (.cells #[.int .i64 x.r,.int .i64 x.b,.string (ak x.n),.slice a5 n5 c5] 137));have HF:Hid (∀ v6 w6,bk w.heap.size w6 v6 (K'++[(x,.slice a5 n5 c5)])→(w5.alloc (.cells #[.int .i64 x.r,.int .i64 x.b,.string (ak x.n),.slice a5 n5 c5] 137)).grownBy w6 u5.ownBlock→CI w cs v6 (.int .i64 ((j+1:Nat):Int)) w6):=fun v6 w6 h1 h2=>uN HX.out HM.out HR.out HO.out HK.out hK5 hO5 h1 h2;clear hO5 hK5 cK h40 h41 h42 h43;go_wp2_with (at_builtin;refine qj rfl _ _ rfl w.heap.size _ K' rfl hRa ⟨w5.heap.size,0,none⟩ 1 1 [(x,.slice a5 n5 c5)] rfl rfl HB (by intro y hy;simp at hy;subst hy;rfl) (by simp;omega) (by simp;omega) ?b1)
   case b1 =>
    intro v6 w6 hO6 hg6;have HF2:=ah (HF.out v6 w6 hO6 hg6);clear hO6 hg6 hRa HB;(go_wp2_with fail);go_roundw
    case rel=>exact HF2.out
    case measure=>(simp [intOf] <;> omega)
  ·have hlt':¬ (j:Int) < n:=by omega
   have HE:Hid (K'.map Prod.fst=cs):=by have h:=HM.out;rw [List.take_of_length_le (by rw [HCl.out];omega)] at h;exact h
   (go_wp2_with fail);go_ret
   exact ⟨_,rfl,⟨K',HR.out,HO.out,HE.out⟩,HK.out⟩
theorem fu (w:World) (v:Vt) (u:Value) (hu:nU w u v.k) (hv:vh v) :
 Calls Tryz.prog 136 #[gA v u] w fun e w'=>∃ u',e=.returned (gA v u')∧cw w.heap.size w' u' v.k∧aa [] w w':=by
 obtain ⟨ao,n,c,K,rfl,hS,hcom,_⟩:=hu;have hnl:n≤2513169434843:=by have h1:=hv.2.1;rw [← hcom] at h1;have h2:=hS.1;simp at h1;omega
 obtain ⟨W1,hW1⟩:∃ W1,W1=(w.alloc (.cells #[.int .i64 v.c,.int .i64 v.s,.int .i64 v.r,.string (ak v.p),.int .u64 v.d,.slice ao n c,.int .i64 v.m] 39)).alloc (.cells #[.int .i64 0,.int .i64 0,.int .i64 0,.string ⟨#[]⟩,.int .u64 0,.slice none 0 0,.int .i64 0] 39):=⟨_,rfl⟩;have hK0:aa [] w W1:=by rw [hW1];exact ((aa.refl _ _).alloc _).alloc _
 have hL:=lJ w #[.int .i64 v.c,.int .i64 v.s,.int .i64 v.r,.string (ak v.p),.int .u64 v.d,.slice ao n c,.int .i64 v.m] #[.int .i64 0,.int .i64 0,.int .i64 0,.string ⟨#[]⟩,.int .u64 0,.slice none 0 0,.int .i64 0] 39;rw [← hW1] at hL;have HL:=ah hL;have HK0:=ah hK0;have cC:=df v.p W1 (by have:=hv.1;omega);have cD:=fun W (hk:aa [] w W)=>kZ W ao n c K v.k (hS.kept hk) hcom hnl hv.2.2;unfold gA;clear hv hL hK0 hS hcom hnl;go_enter Tryz.func136,Tryz.ntmps136;go_wp2_with fail
 rw [← hW1];clear hW1;refine cC.mono ?_;rintro _ w2 ⟨rfl,hK2⟩;have HA:Hid (w2.heap[w.heap.size]?=some (.cells #[.int .i64 v.c,.int .i64 v.s,.int .i64 v.r,.string (ak v.p),.int .u64 v.d,.slice ao n c,.int .i64 v.m] 39 (0,0))):=hK2.at HL.out.1 (by simp);have HB:Hid (w2.heap[w.heap.size+1]?=some (.cells #[.int .i64 0,.int .i64 0,.int .i64 0,.string ⟨#[]⟩,.int .u64 0,.slice none 0 0,.int .i64 0] 39 (0,0))):=hK2.at HL.out.2 (by simp);obtain ⟨w3,hw3⟩:∃ w3,w3=w2.setCell ⟨w.heap.size,3,none⟩ (.string (ak v.p)):=⟨_,rfl⟩;have HA3:Hid (w3.heap[w.heap.size]?=some (.cells #[.int .i64 v.c,.int .i64 v.s,.int .i64 v.r,.string (ak v.p),.int .u64 v.d,.slice ao n c,.int .i64 v.m] 39 (0,0))):=by show _=_;rw [hw3];exact heap_setCell_same _ _ 3 _ _ _ HA.out
 have HB3:Hid (w3.heap[w.heap.size+1]?=some (.cells #[.int .i64 0,.int .i64 0,.int .i64 0,.string ⟨#[]⟩,.int .u64 0,.slice none 0 0,.int .i64 0] 39 (0,0))):=by show _=_;rw [hw3];exact ((aa.refl [w.heap.size] w2).setCell (by simp) _).at HB.out (by simp)
 have HK3:Hid (aa [] w w3):=by
  show aa _ _ _;rw [hw3];exact (HK0.out.trans hK2 (by simp)).setCell (.inr (Nat.le_refl _)) _
 have a3:=ag (k:=3) HA.out rfl;have f3:=aj HA.out 3;have a5:w3.cell? ⟨w.heap.size,5,none⟩=some (.slice ao n c):=ag HA3.out rfl;rw [hw3] at a5;clear hK2;go_wp2_with fail
 rw [← hw3];clear hw3;refine (cD _ HK3.out).mono ?_;rintro _ w4 ⟨v',rfl,hO,hK4⟩;obtain ⟨a',n',c',rfl⟩:=hO.ko.one;have hA4:=hK4.at HA3.out (by simp);have hB4:=hK4.at HB3.out (by simp);have q0:=ag (k:=0) hA4 rfl;have q1:=ag (k:=1) hA4 rfl;have q2:=ag (k:=2) hA4 rfl;have q3:=ag (k:=3) hA4 rfl;have q4:=ag (k:=4) hA4 rfl;have q5:=ag (k:=5) hA4 rfl;have q6:=ag (k:=6) hA4 rfl;have r0:=ag (k:=0) hB4 rfl;have r1:=ag (k:=1) hB4 rfl;have r2:=ag (k:=2) hB4 rfl;have r3:=ag (k:=3) hB4 rfl;have r4:=ag (k:=4) hB4 rfl;have r5:=ag (k:=5) hB4 rfl;have r6:=ag (k:=6) hB4 rfl;have fa5:=aj hA4 5;have fb0:=aj hB4 0;have fb1:=aj hB4 1;have fb2:=aj hB4 2;have fb3:=aj hB4 3;have fb4:=aj hB4 4;have fb5:=aj hB4 5;have fb6:=aj hB4 6;have HB4:=ah hB4;have HA4:=ah hA4;have HO:=ah hO;have HK4:=ah hK4;clear hO hK4 hA4 hB4 a3 a5 f3 cC cD;go_wp2_with fail
 have HKe:Hid (aa [w.heap.size,w.heap.size+1] w4 (vd (w4.setCell ⟨w.heap.size,5,none⟩ (.slice a' n' c')) (w.heap.size+1) (.int .i64 v.c) (.int .i64 v.s) (.int .i64 v.r) (.string (ak v.p)) (.int .u64 v.d) (.slice a' n' c') (.int .i64 v.m))):=az ((aa.refl _ w4).setCell (by simp) _) (by simp) _ _ _ _ _ _ _;refine bodyPost_ret (bj (by rfl) _ (by rfl) (aD (((aa.refl [w.heap.size] w4).setCell (by simp) _).at HB4.out (by simp)) rfl _ _ _ _ _ _ _) rfl) rfl ?_;exact ⟨_,rfl,(HO.out.mono HK3.out.size).keep HKe.out (la HA4.out HB4.out) (by decide) (by decide),(HK3.out.trans HK4.out (by simp)).trans HKe.out (fun k hk=>.inr (by simp at hk;omega))⟩
theorem gS (w:World) (x:Se) (u:Value) (hu:nU w u x.v.k) (hx:jZ x) :
 Calls Tryz.prog 101 #[jN x u] w fun e w'=>∃ u',e=.returned (jN x u')∧cw w.heap.size w' u' x.v.k∧aa [] w w':=by
 obtain ⟨ao,n,c,rfl⟩:=hu.one;obtain ⟨W1,hW1⟩:∃ W1,W1=(w.alloc (.cells #[.int .i64 x.i,.int .i64 x.q,.string (ak x.n),.int .i64 x.v.c,.int .i64 x.v.s,.int .i64 x.v.r,.string (ak x.v.p),.int .u64 x.v.d,.slice ao n c,.int .i64 x.v.m] 155)).alloc (.cells #[.int .i64 0,.int .i64 0,.string ⟨#[]⟩,.int .i64 0,.int .i64 0,.int .i64 0,.string ⟨#[]⟩,.int .u64 0,.slice none 0 0,.int .i64 0] 155):=⟨_,rfl⟩;have hK0:aa [] w W1:=by rw [hW1];exact ((aa.refl _ _).alloc _).alloc _
 have hL:=lJ w #[.int .i64 x.i,.int .i64 x.q,.string (ak x.n),.int .i64 x.v.c,.int .i64 x.v.s,.int .i64 x.v.r,.string (ak x.v.p),.int .u64 x.v.d,.slice ao n c,.int .i64 x.v.m] #[.int .i64 0,.int .i64 0,.string ⟨#[]⟩,.int .i64 0,.int .i64 0,.int .i64 0,.string ⟨#[]⟩,.int .u64 0,.slice none 0 0,.int .i64 0] 155;rw [← hW1] at hL;have HL:=ah hL;have HK0:=ah hK0;have cC:=df x.n W1 (by have:=hx.1;omega);have cD:=fun W (hk:aa [] w W)=>fu W x.v (.slice ao n c) (hu.kept hk) hx.2;unfold gA at cD;unfold jN;clear hx hL hK0 hu;go_enter Tryz.func101,Tryz.ntmps101;go_wp2_with fail
 rw [← hW1];clear hW1;refine cC.mono ?_;rintro _ w2 ⟨rfl,hK2⟩;have HA:Hid (w2.heap[w.heap.size]?=some (.cells #[.int .i64 x.i,.int .i64 x.q,.string (ak x.n),.int .i64 x.v.c,.int .i64 x.v.s,.int .i64 x.v.r,.string (ak x.v.p),.int .u64 x.v.d,.slice ao n c,.int .i64 x.v.m] 155 (0,0))):=hK2.at HL.out.1 (by simp);have HB:Hid (w2.heap[w.heap.size+1]?=some (.cells #[.int .i64 0,.int .i64 0,.string ⟨#[]⟩,.int .i64 0,.int .i64 0,.int .i64 0,.string ⟨#[]⟩,.int .u64 0,.slice none 0 0,.int .i64 0] 155 (0,0))):=hK2.at HL.out.2 (by simp);obtain ⟨w3,hw3⟩:∃ w3,w3=w2.setCell ⟨w.heap.size,2,none⟩ (.string (ak x.n)):=⟨_,rfl⟩;have HA3:Hid (w3.heap[w.heap.size]?=some (.cells #[.int .i64 x.i,.int .i64 x.q,.string (ak x.n),.int .i64 x.v.c,.int .i64 x.v.s,.int .i64 x.v.r,.string (ak x.v.p),.int .u64 x.v.d,.slice ao n c,.int .i64 x.v.m] 155 (0,0))):=by show _=_;rw [hw3];exact heap_setCell_same _ _ 2 _ _ _ HA.out
 have HB3:Hid (w3.heap[w.heap.size+1]?=some (.cells #[.int .i64 0,.int .i64 0,.string ⟨#[]⟩,.int .i64 0,.int .i64 0,.int .i64 0,.string ⟨#[]⟩,.int .u64 0,.slice none 0 0,.int .i64 0] 155 (0,0))):=by show _=_;rw [hw3];exact ((aa.refl [w.heap.size] w2).setCell (by simp) _).at HB.out (by simp)
 have HK3:Hid (aa [] w w3):=by
  show aa _ _ _;rw [hw3];exact (HK0.out.trans hK2 (by simp)).setCell (.inr (Nat.le_refl _)) _
 have a2:=ag (k:=2) HA.out rfl;have f2:=aj HA.out 2;have p3:w3.cell? ⟨w.heap.size,3,none⟩=some (.int .i64 x.v.c):=ag HA3.out rfl;have p4:w3.cell? ⟨w.heap.size,4,none⟩=some (.int .i64 x.v.s):=ag HA3.out rfl;have p5:w3.cell? ⟨w.heap.size,5,none⟩=some (.int .i64 x.v.r):=ag HA3.out rfl;have p6:w3.cell? ⟨w.heap.size,6,none⟩=some (.string (ak x.v.p)):=ag HA3.out rfl;have p7:w3.cell? ⟨w.heap.size,7,none⟩=some (.int .u64 x.v.d):=ag HA3.out rfl;have p8:w3.cell? ⟨w.heap.size,8,none⟩=some (.slice ao n c):=ag HA3.out rfl;have p9:w3.cell? ⟨w.heap.size,9,none⟩=some (.int .i64 x.v.m):=ag HA3.out rfl;rw [hw3] at p3 p4 p5 p6 p7 p8 p9;clear hK2;go_wp2_with fail
 rw [← hw3];clear hw3;refine (cD _ HK3.out).mono ?_;rintro _ w4 ⟨v',rfl,hO,hK4⟩;obtain ⟨a',n',c',rfl⟩:=hO.ko.one;have hA4:=hK4.at HA3.out (by simp);have hB4:=hK4.at HB3.out (by simp);have q3:=ag (k:=3) hA4 rfl;have q4:=ag (k:=4) hA4 rfl;have q5:=ag (k:=5) hA4 rfl;have q6:=ag (k:=6) hA4 rfl;have q7:=ag (k:=7) hA4 rfl;have q8:=ag (k:=8) hA4 rfl;have q9:=ag (k:=9) hA4 rfl;have fa3:=aj hA4 3;have fa4:=aj hA4 4;have fa5:=aj hA4 5;have fa6:=aj hA4 6;have fa7:=aj hA4 7;have fa8:=aj hA4 8;have fa9:=aj hA4 9;have HB4:=ah hB4;have HA4:=ah hA4;have HO:=ah hO;have HK4:=ah hK4;clear hO hK4 hA4 hB4 a2 f2 p3 p4 p5 p6 p7 p8 p9 cC cD;go_upto_region 3 with fail
 obtain ⟨w5,hw5⟩:∃ w5,w5=((((((w4.setCell ⟨w.heap.size,3,none⟩ (.int .i64 x.v.c)).setCell ⟨w.heap.size,4,none⟩ (.int .i64 x.v.s)).setCell ⟨w.heap.size,5,none⟩ (.int .i64 x.v.r)).setCell ⟨w.heap.size,6,none⟩ (.string (ak x.v.p))).setCell ⟨w.heap.size,7,none⟩ (.int .u64 x.v.d)).setCell ⟨w.heap.size,8,none⟩ (.slice a' n' c')).setCell ⟨w.heap.size,9,none⟩ (.int .i64 x.v.m):=⟨_,rfl⟩;rw [← hw5];have hA5:w5.heap[w.heap.size]?=some (.cells #[.int .i64 x.i,.int .i64 x.q,.string (ak x.n),.int .i64 x.v.c,.int .i64 x.v.s,.int .i64 x.v.r,.string (ak x.v.p),.int .u64 x.v.d,.slice a' n' c',.int .i64 x.v.m] 155 (0,0)):=by rw [hw5];exact l8 HA4.out _ _ _ _ _ _ _
 have hK5:aa [w.heap.size] w4 w5:=by rw [hw5];exact jJ (aa.refl _ w4) (by simp) _ _ _ _ _ _ _
 have hB5:=hK5.at HB4.out (by simp);clear q3 fa3;clear q4 fa4;clear q5 fa5;clear q6 fa6;clear q7 fa7;clear q8 fa8;clear q9 fa9;have q0:=ag (k:=0) hA5 rfl;have q1:=ag (k:=1) hA5 rfl;have q2:=ag (k:=2) hA5 rfl;have q3:=ag (k:=3) hA5 rfl;have q4:=ag (k:=4) hA5 rfl;have q5:=ag (k:=5) hA5 rfl;have q6:=ag (k:=6) hA5 rfl;have q7:=ag (k:=7) hA5 rfl;have q8:=ag (k:=8) hA5 rfl;have q9:=ag (k:=9) hA5 rfl;have r0:=ag (k:=0) hB5 rfl;have r1:=ag (k:=1) hB5 rfl;have r2:=ag (k:=2) hB5 rfl;have r3:=ag (k:=3) hB5 rfl;have r4:=ag (k:=4) hB5 rfl;have r5:=ag (k:=5) hB5 rfl;have r6:=ag (k:=6) hB5 rfl;have r7:=ag (k:=7) hB5 rfl;have r8:=ag (k:=8) hB5 rfl;have r9:=ag (k:=9) hB5 rfl;have fb0:=aj hB5 0;have fb1:=aj hB5 1;have fb2:=aj hB5 2;have fb3:=aj hB5 3;have fb4:=aj hB5 4;have fb5:=aj hB5 5;have fb6:=aj hB5 6;have fb7:=aj hB5 7;have fb8:=aj hB5 8;have fb9:=aj hB5 9;have HA5:=ah hA5;have HB5:=ah hB5;have HK5:=ah hK5;clear hw5 hA5 hB5 hK5;go_wp2_with fail
 have HKe:Hid (aa [w.heap.size,w.heap.size+1] w4 (mY w5 (w.heap.size+1) (.int .i64 x.i) (.int .i64 x.q) (.string (ak x.n)) (.int .i64 x.v.c) (.int .i64 x.v.s) (.int .i64 x.v.r) (.string (ak x.v.p)) (.int .u64 x.v.d) (.slice a' n' c') (.int .i64 x.v.m))):=iT (HK5.out.mono (by simp)) (by simp) _ _ _ _ _ _ _ _ _ _;refine bodyPost_ret (uD (by rfl) _ (by rfl) (li HB5.out rfl _ _ _ _ _ _ _ _ _ _) rfl) rfl ?_;exact ⟨_,rfl,(HO.out.mono HK3.out.size).keep HKe.out (la HA4.out HB4.out) (by decide) (by decide),(HK3.out.trans HK4.out (by simp)).trans HKe.out (fun k hk=>.inr (by simp at hk;omega))⟩
def A9 (w:World) (L:List Se) (e:Ending) (w':World):Prop:=∃ v X,e=.returned v∧bp w.heap.size w' v X∧(∀ x∈X,cw w.heap.size w' x.2 x.1.v.k)∧X.map Prod.fst=L∧aa [] w w'
def Ef (w:World) (L:List Se) (ov iv:Value) (wr:World):Prop :=
 ∃ (j:Nat) (X':List (Se × Value)),iv=.int .i64 (j:Int)∧j≤L.length∧Hid (X'.map Prod.fst=L.take j)∧Hid (bp w.heap.size wr ov X')∧Hid (∀ x∈X',cw w.heap.size wr x.2 x.1.v.k)∧Hid (aa [] w wr)
theorem qY {w w':World}{B e size n C:Nat}{v u:Value}{xs:List Value}{k:List aV}(h:w.ownsRow B e size v n xs) (hg:w.grownBy w' v.ownBlock) (h2:cw C w u k) (h1:137≠e) (h3:60≠e):cw C w' u k:=by
 have hK:aa v.ownBlock.toList w w':=(aa.refl _ w).grown hg fun k hk=>.inl (aw.2 hk);refine h2.keep hK (Ts:=[e]) (fun k hk cur t mk hh=>?_) (by simpa using h1) (by simpa using h3);obtain ⟨c2,h3⟩:=ar h (aw.1 hk);rw [h3] at hh;cases hh;simp
theorem Aq {w wr w5 w6:World}{L:List Se}{j:Nat}{X':List (Se × Value)}{ov v5 v6:Value}{x:Se}(hx:L[j]?=some x) (hM:X'.map Prod.fst=L.take j) (hR:bp w.heap.size wr ov X') (hO:∀ x∈X',cw w.heap.size wr x.2 x.1.v.k) (hK:aa [] w wr)
 (hK5:aa [] wr w5) (hO5:cw wr.heap.size w5 v5 x.v.k) (h1:bp w.heap.size w6 v6 (X'++[(x,v5)])) (h2:(w5.alloc (.cells #[.int .i64 x.i,.int .i64 x.q,.string (ak x.n),.int .i64 x.v.c,.int .i64 x.v.s,.int .i64 x.v.r,.string (ak x.v.p),.int .u64 x.v.d,v5,.int .i64 x.v.m] 155)).grownBy w6 ov.ownBlock) :
 Ef w L v6 (.int .i64 ((j+1:Nat):Int)) w6:=by
 obtain ⟨hj,hx⟩:=List.getElem?_eq_some_iff.1 hx;have hRa:bp w.heap.size (w5.alloc (.cells #[.int .i64 x.i,.int .i64 x.q,.string (ak x.n),.int .i64 x.v.c,.int .i64 x.v.s,.int .i64 x.v.r,.string (ak x.v.p),.int .u64 x.v.d,v5,.int .i64 x.v.m] 155)) ov X':=World.ownsRow.alloc (hK5.ownsRow hR (by simp)) _;have hKa:=(aa.refl [] w5).alloc (.cells #[.int .i64 x.i,.int .i64 x.q,.string (ak x.n),.int .i64 x.v.c,.int .i64 x.v.s,.int .i64 x.v.r,.string (ak x.v.p),.int .u64 x.v.d,v5,.int .i64 x.v.m] 155);refine ⟨j+1,_,rfl,hj,?_,h1,?_,?_⟩
 ·show _=_;rw [List.map_append,hM,List.take_succ_eq_append_getElem hj,hx];rfl
 ·intro y hy;rcases List.mem_append.1 hy with hy | hy
  ·exact qY hRa h2 (((hO y hy).kept hK5).kept hKa) (by decide) (by decide)
  ·simp at hy;subst hy
   exact qY hRa h2 ((hO5.mono hK.size).kept hKa) (by decide) (by decide)
 ·exact (((hK.trans hK5 (by simp)).trans hKa (by simp))).grown h2 fun k hk=>.inr (World.ownsRow.lt hRa k hk).1
theorem jX (w:World) (ao:Option Addr) (n c:Nat) (X:List (Se × Value)) (L:List Se) (hS:vo w ao n c X) (hcom:X.map Prod.fst=L) (hn:n≤100000) (hok:∀ x∈L,jZ x) :
 Calls Tryz.prog 106 #[.slice ao n c,.func (.func 101) #[] #[]] w fun e w'=>A9 w L e w':=by
 have hl:=hS.1;have hc:=hS.2.1;have hm:=hS.2.2.1;unfold maxLen at hm;have HS:=ah hS;have HL:=ah hl;have HCom:=ah hcom;have HOk:=ah hok;have HCl:Hid (L.length=n):=by show _=_;rw [← hcom];simpa using hl
 clear hS hl hok hcom;go_enter Tryz.func106,Tryz.ntmps106;go_wp2_with fail
 go_loopw [5,10] (fun ov iv wr=>Ef w L ov iv wr) (fun _ iv _=>n - (intOf iv).toNat)
 case atStart=>exact ⟨0,[],rfl,Nat.zero_le _,rfl,bp.nil _ _,fun x hx=>(by cases hx),aa.refl _ _⟩
 case round =>
  obtain ⟨j,X',rfl,hj,HM,HR,HO,HK⟩:=hrel;by_cases hlt:j < n
  ·have hlt':(j:Int) < n:=by omega
   have hjc:j≤c:=by omega
   have hjK:j < X.length:=by rw [HL.out];exact hlt
   have hjg:j < L.length:=by rw [HCl.out];exact hlt
   have hCk:=dm HCom.out hjK hjg;obtain ⟨g4,o4,he4,hx4⟩:=(HS.out.kept HK.out).2.2.2.2.1 j hjK;have hko:=(HS.out.kept HK.out).2.2.2.2.2 _ (List.getElem_mem hjK);subst he4;obtain ⟨h0,h1,h2,h3,h4,h5,h6,h7,h8,h9⟩:=hx4;rw [hCk] at h0 h1 h2 h3 h4 h5 h6 h7 h9 hko;obtain ⟨mo,mm,mc,hm2⟩:=hko.one;rw [hm2] at h8 hko;have hwc:=HOk.out L[j] (List.getElem_mem hjg);have cK:=fun W (hk:aa [] wr W)=>gS W L[j] _ (hko.kept hk) hwc;obtain ⟨x,hxe⟩:∃ x,x=L[j]:=⟨_,rfl⟩;have HX:Hid (L[j]?=some x):=by show _=_;rw [hxe];simp
   rw [← hxe] at h0 h1 h2 h3 h4 h5 h6 h7 h9 cK;unfold jN at cK;have hlenK:X'.length≤99999:=by have h:=congrArg List.length HM.out;simp at h;omega
   clear hwc hxe hCk hjg hjK hm2 hko;(go_wp2_with fail);refine (cK _ ((aa.refl [] wr).alloc _)).mono ?_;rintro _ w5 ⟨v5,rfl,hO5,hK5⟩;replace hO5:=hO5.mono ((aa.refl [] wr).alloc _).size;replace hK5:=((aa.refl [] wr).alloc _).trans hK5 (by simp);obtain ⟨a5,n5,c5,rfl⟩:=hO5.ko.one;have hRa:bp w.heap.size (w5.alloc (.cells #[.int .i64 x.i,.int .i64 x.q,.string (ak x.n),.int .i64 x.v.c,.int .i64 x.v.s,.int .i64 x.v.r,.string (ak x.v.p),.int .u64 x.v.d,.slice a5 n5 c5,.int .i64 x.v.m] 155)) u5 X':=World.ownsRow.alloc (hK5.ownsRow HR.out (by simp)) _;have hsz5:w.heap.size≤w5.heap.size:=Nat.le_trans HK.out.size hK5.size;have HB:=eT (x:=(x,.slice a5 n5 c5)) rfl (heap_alloc_new w5 (.cells #[.int .i64 x.i,.int .i64 x.q,.string (ak x.n),.int .i64 x.v.c,.int .i64 x.v.s,.int .i64 x.v.r,.string (ak x.v.p),.int .u64 x.v.d,.slice a5 n5 c5,.int .i64 x.v.m] 155));have HF:Hid (∀ v6 w6,bp w.heap.size w6 v6 (X'++[(x,.slice a5 n5 c5)])→(w5.alloc (.cells #[.int .i64 x.i,.int .i64 x.q,.string (ak x.n),.int .i64 x.v.c,.int .i64 x.v.s,.int .i64 x.v.r,.string (ak x.v.p),.int .u64 x.v.d,.slice a5 n5 c5,.int .i64 x.v.m] 155)).grownBy w6 u5.ownBlock→Ef w L v6 (.int .i64 ((j+1:Nat):Int)) w6):=fun v6 w6 h1 h2=>Aq HX.out HM.out HR.out HO.out HK.out hK5 hO5 h1 h2;clear hO5 hK5 cK h0 h1 h2 h3 h4 h5 h6 h7 h8 h9;go_wp2_with (at_builtin;refine dT rfl _ _ rfl w.heap.size _ X' rfl hRa ⟨w5.heap.size,0,none⟩ 1 1 [(x,.slice a5 n5 c5)] rfl rfl HB (by intro y hy;simp at hy;subst hy;rfl) (by simp;omega) (by simp;omega) ?b1)
   case b1 =>
    intro v6 w6 hO6 hg6;have HF2:=ah (HF.out v6 w6 hO6 hg6);clear hO6 hg6 hRa HB;(go_wp2_with fail);go_roundw
    case rel=>exact HF2.out
    case measure=>(simp [intOf] <;> omega)
  ·have hlt':¬ (j:Int) < n:=by omega
   have HE:Hid (X'.map Prod.fst=L):=by have h:=HM.out;rw [List.take_of_length_le (by rw [HCl.out];omega)] at h;exact h
   (go_wp2_with fail);go_ret
   exact ⟨_,X',rfl,HR.out,HO.out,HE.out,HK.out⟩
end Go.Proofs.YtgpnlidnbldiiaaGreat
