/-
  Texts laid as one.
-/
import Derived.Test.YtakafmejllilnaaGreatF1r
import Derived.Test.YtakafmejllilnaaGreatProg
import Derived.Deep.AppendLies
import Derived.Deep.Draws
import Derived.Laws.OwnMore
import Derived.Deep.QuietTactic
import Derived.BigQuiet
import Derived.Deep.RegionHeld3
import Derived.Handy
import Derived.Deep.MidRow
import Derived.Deep.WholeRow
import Derived.Laws.Rows
import Derived.Laws.ResultCell
import Derived.Deep.CutRange
import Derived.Laws.AppendOwn
import Derived.OwnWalk
import Derived.WalkSmall
import Derived.Test.YtakafmejllilnaaGreatRows
import Derived.ProofKit
import Derived.OpenShut
import Derived.ShutString
import Derived.ChangeMaps5
import Derived.ChangeOld
import Derived.SizedLaws
import Derived.Deep.Slices
set_option maxRecDepth 100000
/-
 Memory: what stays and what turns;over any program.
-/
namespace Go.Proofs.YtakafmejllilnaaGreat
open Go.RowKit
theorem aa {p:Prop}(h:p):Hid p:=h
theorem kO (b o i:Nat):(⟨b,o,none⟩:Addr).add i=⟨b,o+i,none⟩:=by
 by_cases h:i=0 <;> simp [Addr.add,h]
theorem iL {w:World}{b k:Nat}{vs:Array Value}{t:TypeId}{v:Value}(h:w.heap[b]?=some (.cells vs t (0,0))) (hv:vs[k]?=some v):w.cell? ⟨b,k,none⟩=some v:=by
 simp [World.cell?,h,hv]
theorem kB (w:World) (n:Nat):ab [] w (w.drewN n):=⟨rfl,rfl,rfl,Nat.le_refl _,fun _ _ _=>rfl⟩
def qZ (w:World) (S:List Nat) (Ts:List TypeId):Prop:=∀ k∈S,∀ cur t mk,w.heap[k]?=some (.cells cur t mk)→t∈Ts
theorem qc (w:World) (Ts:List TypeId):qZ w [] Ts:=fun _ h=>by cases h
theorem gK {S:List Nat}{Ts:List TypeId}{w w':World}(hk:ab S w w') (hT:qZ w S Ts) {B e size n:Nat}{v:Value}{xs:List Value}(h:w.ownsRow B e size v n xs) (ht:e ∉ Ts):w'.ownsRow B e size v n xs:=by
 refine hk.ownsRow h fun k hv hm=>?_;obtain ⟨_,h2⟩:=h;rcases h2 with ⟨rfl,_⟩ | ⟨g,cap,cur,rfl,_,hh,_⟩
 ·cases hv
 ·cases hv;exact ht (hT _ hm _ _ _ hh)
theorem gV {v:Value}{k:Nat}:k∈v.ownBlock.toList↔v.ownBlock=some k:=by
 cases v.ownBlock <;> simp [eq_comm]
theorem ll {w:World}{B e size n:Nat}{v:Value}{xs:List Value}(h:w.ownsRow B e size v n xs) {k:Nat}(hk:v.ownBlock=some k):∃ cur,w.heap[k]?=some (.cells cur e (0,0)):=by
 obtain ⟨_,h2⟩:=h;rcases h2 with ⟨rfl,_⟩ | ⟨g,cap,cur,rfl,_,hh,_⟩
 ·cases hk
 ·cases hk;exact ⟨cur,hh⟩
theorem wP {w:World}{b:Nat}{vs:Array Value}{t:TypeId}(h:w.heap[b]?=some (.cells vs t (0,0))) (j:Nat):w.frozen? ⟨b,j,none⟩=false:=by
 simp [World.frozen?,h]
theorem eP (b:Nat):∀ (vs pre old post:List Value) (w:World) (t:TypeId),w.heap[b]?=some (.cells (pre++old++post).toArray t (0,0))→old.length=vs.length →
 (w.setCells b pre.length vs).heap[b]?=some (.cells (pre++vs++post).toArray t (0,0))
 | [],pre,old,post,w,t,h,hl=>by
   obtain rfl:=List.eq_nil_of_length_eq_zero (by simpa using hl);simpa [World.setCells] using h
 | v :: r,pre,[],post,w,t,h,hl=>by simp at hl
 | v :: r,pre,x :: old,post,w,t,h,hl=>by
   have h1:=heap_setCell_same w b pre.length _ _ v h
   have h2:=eP b r (pre++[v]) old post (w.setCell ⟨b,pre.length,none⟩ v) t (by
    rw [h1];congr 2
    apply Array.ext'
    rw [Array.toList_setIfInBounds];simp) (by simpa using hl)
   rw [World.setCells];simpa using h2
theorem dm {S:List Nat}{a:World}{b:Nat}(hb:b∈S∨a.heap.size≤b):∀ (l:List Value) (k:Nat) {w:World},ab S a w→ab S a (w.setCells b k l)
 | [],_,_,h=>h
 | u :: l,k,w,h=>by rw [World.setCells];exact dm hb l (k+1) (h.setCell hb u)
def Bx (w:World) (b:Nat) (T:TypeId) (cs:List Value):Prop:=w.heap[b]?=some (.cells cs.toArray T (0,0))
theorem Bx.kept {S:List Nat}{a w:World}{b:Nat}{T:TypeId}{cs:List Value}(h:Bx a b T cs) (k:ab S a w) (hb:b ∉ S):Bx w b T cs:=k.at h hb
theorem Bx.lt {w:World}{b:Nat}{T:TypeId}{cs:List Value}(h:Bx w b T cs):b < w.heap.size:=bZ h
theorem Bx.cell {w:World}{b:Nat}{T:TypeId}{cs:List Value}(h:Bx w b T cs) (j:Nat) {v:Value}(hv:cs[j]?=some v):w.cell? ⟨b,j,none⟩=some v:=iL h (by simpa using hv)
theorem Bx.froz {w:World}{b:Nat}{T:TypeId}{cs:List Value}(h:Bx w b T cs) (j:Nat):w.frozen? ⟨b,j,none⟩=false:=wP h j
theorem Bx.new (w:World) (T:TypeId) (cs:List Value):Bx (w.alloc (.cells cs.toArray T)) w.heap.size T cs:=heap_alloc_new w _
theorem Bx.range {w:World}{b:Nat}{T:TypeId}{cs:List Value}(h:Bx w b T cs):w.rangeAt b 0 cs:=fun j v hv=>by
 rw [Nat.zero_add];exact h.cell j hv
theorem Bx.set {w:World}{b:Nat}{T:TypeId}{cs:List Value}(h:Bx w b T cs) (j:Nat) (v:Value):Bx (w.setCell ⟨b,j,none⟩ v) b T (cs.set j v):=by
 have h1:=heap_setCell_same w b j _ _ v h;unfold Bx;rw [h1];congr 2
 apply Array.ext'
 rw [Array.toList_setIfInBounds]
theorem Bx.store {w:World}{b:Nat}{T:TypeId}{cs:List Value}(h:Bx w b T cs) {ds:List Value}(hl:ds.length=cs.length):Bx (w.setCells b 0 ds) b T ds:=by
 have h1:=eP b ds [] cs [] w _ (by simpa [Bx] using h) hl.symm;simpa [Bx] using h1
theorem Bx.there {w:World}{b:Nat}{T:TypeId}{cs:List Value}(h:Bx w b T cs):w.there b 0 cs.length:=fun j hj=>by
 rw [Nat.zero_add];exact ⟨by rw [h.cell j (List.getElem?_eq_getElem hj)];rfl,h.froz j⟩
def aq (P:Program) (T:TypeId) (n:Nat):Prop:=∃ D,P.underlying T=some D∧D.isRow=true∧(P.info? T).map (·.size)=some n
theorem ak {P:Program}{ops:Array Oper}{rest:List Oper}{a:Act}{w:World}{Q:Exit→Act→World→Prop}{d:Option Tmp}{x:Operand}{T ty:TypeId}{ps:String}{af:Array Edge}
 {b:Nat}{cs:List Value}(hc:Bx w b T cs) (hT:aq P T cs.length) (hx:a.eval x=.pointer (some ⟨b,0,none⟩))
 (h:wpList P ops Q rest (a.put d (.agg cs.toArray)) w):wpList P ops Q (⟨d,.load T x,ty,ps,af,none⟩ :: rest) a w:=by
 obtain ⟨D,hu,hd,hi⟩:=hT;exact wpList_load_mid rfl _ x rfl b 0 hx cs D hc.range hu hd hi h
theorem ac {P:Program}{ops:Array Oper}{rest:List Oper}{a:Act}{w:World}{Q:Exit→Act→World→Prop}{d:Option Tmp}{x y:Operand}{T ty:TypeId}{ps:String}{af:Array Edge}
 {b:Nat}{cs ds:List Value}(hc:Bx w b T cs) (hl:ds.length=cs.length) (h1:∀ v∈ds,v.oneCell'=true) (hT:aq P T ds.length)
 (hx:a.eval x=.pointer (some ⟨b,0,none⟩)) (hy:a.eval y=.agg ds.toArray) (h:∀ w',Hid (Bx w' b T ds)→Hid (ab [b] w w')→wpList P ops Q rest (a.put d undef) w'):wpList P ops Q (⟨d,.store T x y,ty,ps,af,none⟩ :: rest) a w:=by
 obtain ⟨D,hu,hd,hi⟩:=hT;exact wpList_store_mid rfl _ x y rfl b 0 ds.toArray hx hy (by rw [List.size_toArray,hl];exact hc.there) (by rw [List.size_toArray];exact hi) (all_oneCell_toArray h1) (h _ (hc.store hl) (dm (by simp) _ _ (ab.refl _ _)))
theorem al {P:Program}{w:World}{g:Nat}{T:TypeId}{cs:List Value}{fn:Func}{p:Tmp}(hr:fn.results=#[.cell p T]) (tmps:Array Value) (hp:tmps.getD p undef=.pointer (some ⟨g,0,none⟩)) (hg:Bx w g T cs)
 (hT:aq P T cs.length):(results fn tmps).run P w=.ok (.agg cs.toArray) w:=by
 obtain ⟨D,hu,hd,hi⟩:=hT;exact results_cell_row hr tmps w g _ cs.toArray _ _ hp hg hu (by cases D <;> first | rfl | cases hd) (by rw [List.size_toArray];exact hi)
def eh (x:Ch):List Value:=[.string (ae x.p),.bool x.g,.int .u64 x.d]
def chV (x:Ch):Value:=.agg #[.string (ae x.p),.bool x.g,.int .u64 x.d]
structure lk (w:World) (b o:Nat) (x:Ch):Prop where
 c0:w.cell? ⟨b,o,none⟩=some (.string (ae x.p))
 c1:w.cell? ⟨b,o+1,none⟩=some (.bool x.g)
 c2:w.cell? ⟨b,o+2,none⟩=some (.int .u64 x.d)
theorem lk.kept {S:List Nat}{a w:World}{b o:Nat}{x:Ch}(h:lk a b o x) (k:ab S a w) (hb:b ∉ S):lk w b o x :=
 ⟨k.cell h.c0 hb,k.cell h.c1 hb,k.cell h.c2 hb⟩
def dz (w:World) (ao:Option Addr) (n c:Nat) (L:List Ch):Prop :=
 L.length=n∧n≤c∧c≤maxLen∧∀ i (h:i < L.length),∃ b o,ao=some ⟨b,o,none⟩∧lk w b (o+i*3) L[i]
theorem dz.kept {S:List Nat}{a w:World}{ao:Option Addr}{n c:Nat}{L:List Ch}(h:dz a ao n c L) (k:ab S a w) (hb:∀ g∈bO ao,g ∉ S):dz w ao n c L :=
 ⟨h.1,h.2.1,h.2.2.1,fun i hi=>by obtain ⟨b,o,e,h1⟩:=h.2.2.2 i hi;exact ⟨b,o,e,h1.kept k (hb b (by rw [e];simp [bO]))⟩⟩
theorem dz.some {w:World}{ao:Option Addr}{n c:Nat}{L:List Ch}(h:dz w ao n c L) (hn:0 < n) :
 ∃ b o,ao=Option.some ⟨b,o,none⟩∧∀ i (hi:i < L.length),lk w b (o+i*3) L[i]:=by
 obtain ⟨b,o,e,_⟩:=h.2.2.2 0 (by rw [h.1];exact hn);refine ⟨b,o,e,fun i hi=>?_⟩;obtain ⟨b',o',e',h⟩:=h.2.2.2 i hi;rw [e] at e';cases e'
 exact h
theorem dP (L:List Ch):(L.flatMap eh).length=L.length*3:=by
 induction L with
 | nil=>rfl
 | cons x L ih=>simp [eh,ih];omega
theorem mi (L:List Ch) (i:Nat) (h:i < L.length) (j:Nat) (hj:j < 3):(L.flatMap eh)[i*3+j]?=(eh L[i])[j]?:=by
 induction L generalizing i with
 | nil=>simp at h
 | cons x L ih =>
   rw [List.flatMap_cons];cases i with
   | zero=>rw [List.getElem?_append_left (by simp [eh];omega)];simp
   | succ i =>
     rw [List.getElem?_append_right (by simp [eh];omega)];have e:(i+1)*3+j - (eh x).length=i*3+j:=by simp [eh];omega
     rw [e,ih i (by simpa using h)];simp
def aL (B:Nat) (w:World) (v:Value) (L:List Ch):Prop:=w.ownsRow B 134 3 v L.length (L.flatMap eh)
theorem aL.sl {B:Nat}{w:World}{v:Value}{L:List Ch}(h:aL B w v L):∃ ao c,v=.slice ao L.length c∧dz w ao L.length c L:=by
 have h':=h;obtain ⟨h1,h2⟩:=h;rcases h2 with ⟨hv,hn⟩ | ⟨g,cap,cur,hv,hg,hh,h3,h4,h5,h6⟩
 ·have:L=[]:=by simpa using hn
  subst this;exact ⟨none,0,by rw [hv];rfl,rfl,Nat.le_refl _,Nat.zero_le _,fun i hi=>by simp at hi⟩
 ·refine ⟨some ⟨g,0,none⟩,cap,hv,rfl,h3,h4,fun i hi=>⟨g,0,rfl,?_⟩⟩;unfold aL at h';rw [hv] at h'
  have c:∀ j,j < 3→w.cell? ⟨g,0+i*3+j,none⟩=(eh L[i])[j]?:=fun j hj=>by
   rw [Nat.zero_add,World.ownsRow.cellAt h' (i*3+j) (by omega),mi L i hi j hj]
  exact ⟨c 0 (by omega),c 1 (by omega),c 2 (by omega)⟩
theorem jA:(Tryz.prog.info? 134).map (fun i=>(i.zero,i.size,i.bytes))=some (some (.agg #[.string ⟨#[]⟩,.bool false,.int .u64 0]),3,32):=by kernel_rfl
theorem oI (L:List Ch):∀ u∈L.flatMap eh,u.oneCell'=true:=by
 intro u hu;simp only [List.mem_flatMap,eh] at hu;obtain ⟨x,_,hx⟩:=hu;simp at hx
 rcases hx with rfl | rfl | rfl <;> rfl
theorem ob {w:World}{b o:Nat}{L:List Ch}(h:∀ i (hi:i < L.length),lk w b (o+i*3) L[i]):∀ (j:Nat) (u:Value),(L.flatMap eh)[j]?=some u→w.cell? ⟨b,o+j,none⟩=some u:=by
 intro j u hj
 have hlt:j < (L.flatMap eh).length:=by
  by_cases hl:j < (L.flatMap eh).length
  ·exact hl
  ·rw [List.getElem?_eq_none (by omega)] at hj;cases hj
 rw [dP] at hlt;have hi:j / 3 < L.length:=by omega
 have e:=mi L (j / 3) hi (j % 3) (by omega);have e2:j / 3*3+j % 3=j:=by omega
 rw [e2,hj] at e;obtain ⟨c0,c1,c2⟩:=h (j / 3) hi;have h3:j % 3=0∨j % 3=1∨j % 3=2:=by omega
 generalize j / 3=q at *;rcases h3 with h3 | h3 | h3 <;> rw [h3] at e e2 <;> simp [eh] at e <;> subst e <;> subst e2
 ·exact c0
 ·rw [← Nat.add_assoc];exact c1
 ·rw [← Nat.add_assoc];exact c2
theorem dz.runs {w:World}{b o n c:Nat}{L:List Ch}(h:dz w (Option.some ⟨b,o,none⟩) n c L):∀ (j:Nat) (u:Value),(L.flatMap eh)[j]?=Option.some u→w.cell? ((⟨b,o,none⟩:Addr).add j)=Option.some u:=by
 intro j u hj;rw [kO];refine ob (fun i hi=>?_) j u hj;obtain ⟨b',o',e,h1⟩:=h.2.2.2 i hi;cases e
 exact h1
theorem pt {w:World}{ops:Array Oper}{rest:List Oper}{o:Oper}{a:Act}{Q:Exit→Act→World→Prop}(hgd:o.guard=none) (s x:Operand)
 (hop:o.op=.call { callee:=.builtin .append,args:=#[s,x],argTypes:=#[27,27] })
 (B:Nat) (v:Value) (M:List Ch) (hs:a.eval s=v) (hO:aL B w v M) (ad:Addr) (m c:Nat) (N:List Ch) (hx:a.eval x=.slice (some ad) m c) (hm:m=N.length) (hc:∀ (j:Nat) (u:Value),(N.flatMap eh)[j]?=some u→w.cell? (ad.add j)=some u)
 (hlen:M.length+N.length≤4398046511104) (hB:B≤w.heap.size)
 (h:∀ v' w',aL B w' v' (M++N)→w.grownBy w' v.ownBlock→wpList Tryz.prog ops Q rest (a.put o.dst v') w'):wpList Tryz.prog ops Q (o :: rest) a w:=by
 subst hm;obtain ⟨i0,hi,hz0,hz1,hz2⟩:=info_parts jA;refine wpList_append_own w hgd s x 27 hop B 134 i0 (.agg #[.string ⟨#[]⟩,.bool false,.int .u64 0]) 3 32 Tryz.underlying27 hi hz0 hz1 hz2 rfl (by decide) v M.length (M.flatMap eh) hs hO ad N.length c (N.flatMap eh) hx (dP N) hc (oI N) (by unfold maxLen;omega) (by omega) hB ?_;intro v' w' h1 h2 _;refine h v' w' ?_ h2;unfold aL;rw [List.length_append,List.flatMap_append];exact h1
theorem aL.nil (B:Nat) (w:World):aL B w (.slice none 0 0) []:=World.ownsRow_nil w B 134 3
theorem dz.runs' {w:World}{ad:Addr}{n c:Nat}{L:List Ch}(h:dz w (Option.some ad) n c L):∀ (j:Nat) (u:Value),(L.flatMap eh)[j]?=Option.some u→w.cell? (ad.add j)=Option.some u:=by
 cases L with
 | nil=>intro j u hj;simp at hj
 | cons x L =>
   obtain ⟨b,o,e,_⟩:=h.2.2.2 0 (by simp);cases e
   exact h.runs
theorem aL.mono {B C:Nat}{w:World}{v:Value}{L:List Ch}(h:aL C w v L) (hB:B≤C):aL B w v L:=by
 obtain ⟨h1,h2⟩:=h;refine ⟨h1,?_⟩;rcases h2 with h2 | ⟨g,cap,cur,hv,hg,r⟩
 ·exact .inl h2
 ·exact .inr ⟨g,cap,cur,hv,Nat.le_trans hB hg,r⟩
theorem aL.slice {B:Nat}{w:World}{ao:Option Addr}{n c:Nat}{L:List Ch}(h:aL B w (.slice ao n c) L):dz w ao n c L:=by
 obtain ⟨ao',c',e,hS⟩:=h.sl;cases e
 exact hS
theorem dz.lit (w:World) (L:List Ch) {n:Nat}(hn:n=L.length) (hm:n≤maxLen) {vs:Array Value}(hv:vs=(L.flatMap eh).toArray):dz (w.alloc (.cells vs 134)) (Option.some ⟨w.heap.size,0,none⟩) n n L:=by
 subst hn;subst hv;have h:=heap_alloc_new w (.cells (L.flatMap eh).toArray 134);refine ⟨rfl,Nat.le_refl _,hm,fun i hi=>⟨w.heap.size,0,rfl,?_⟩⟩
 have e:∀ j,j < 3→(L.flatMap eh).toArray[i*3+j]?=(eh L[i])[j]?:=fun j hj=>by
  rw [List.getElem?_toArray];exact mi L i hi j hj
 rw [Nat.zero_add];exact ⟨iL h (e 0 (by omega)),iL h (e 1 (by omega)),iL h (e 2 (by omega))⟩
def dk (x:bW × Value):List Value:=[.int .i64 x.1.r,.int .i64 x.1.b,.string (ae x.1.n),x.2]
def xI (x:bW × Value):Value:=.agg #[.int .i64 x.1.r,.int .i64 x.1.b,.string (ae x.1.n),x.2]
theorem eq (K:List (bW × Value)):(K.flatMap dk).length=K.length*4:=by
 induction K with
 | nil=>rfl
 | cons x K ih=>simp [List.flatMap_cons,ih,dk];omega
theorem o9 (K:List (bW × Value)) (i:Nat) (h:i < K.length) (j:Nat) (hj:j < 4):(K.flatMap dk)[i*4+j]?=(dk K[i])[j]?:=by
 induction K generalizing i with
 | nil=>simp at h
 | cons x K ih =>
   cases i with
   | zero=>simp only [List.flatMap_cons,Nat.zero_mul,Nat.zero_add,List.getElem_cons_zero];rw [List.getElem?_append_left (by simp [dk];omega)]
   | succ i =>
     simp only [List.flatMap_cons,List.getElem_cons_succ];rw [List.getElem?_append_right (by simp [dk];omega)];rw [← ih i (by simpa using h)];congr 1
     simp [dk];omega
structure mM (w:World) (b o:Nat) (x:bW × Value):Prop where
 c0:w.cell? ⟨b,o,none⟩=some (.int .i64 x.1.r)
 c1:w.cell? ⟨b,o+1,none⟩=some (.int .i64 x.1.b)
 c2:w.cell? ⟨b,o+2,none⟩=some (.string (ae x.1.n))
 c3:w.cell? ⟨b,o+3,none⟩=some x.2
theorem mM.kept {S:List Nat}{a w:World}{b o:Nat}{x:bW × Value}(h:mM a b o x) (k:ab S a w) (hb:b ∉ S):mM w b o x :=
 ⟨k.cell h.c0 hb,k.cell h.c1 hb,k.cell h.c2 hb,k.cell h.c3 hb⟩
def wd (w:World) (v:Value) (L:List Ch):Prop:=∃ ao n c,v=.slice ao n c∧dz w ao n c L∧(ao=none→c=0)
theorem wd.kept {a w:World}{v:Value}{L:List Ch}(h:wd a v L) (k:ab [] a w):wd w v L:=by
 obtain ⟨ao,n,c,h1,h2,h3⟩:=h;exact ⟨ao,n,c,h1,h2.kept k (by simp),h3⟩
def kY (w:World) (ao:Option Addr) (n c:Nat) (K:List (bW × Value)):Prop :=
 K.length=n∧n≤c∧c≤maxLen∧(∀ i (h:i < K.length),∃ b o,ao=some ⟨b,o,none⟩∧mM w b (o+i*4) K[i])∧∀ x∈K,wd w x.2 x.1.c
theorem kY.kept {a w:World}{ao:Option Addr}{n c:Nat}{K:List (bW × Value)}(h:kY a ao n c K) (k:ab [] a w):kY w ao n c K :=
 ⟨h.1,h.2.1,h.2.2.1,fun i hi=>by obtain ⟨b,o,e,h1⟩:=h.2.2.2.1 i hi;exact ⟨b,o,e,h1.kept k (by simp)⟩,fun x hx=>(h.2.2.2.2 x hx).kept k⟩
theorem kY.some {w:World}{ao:Option Addr}{n c:Nat}{K:List (bW × Value)}(h:kY w ao n c K) (hn:0 < n) :
 ∃ b o,ao=Option.some ⟨b,o,none⟩∧∀ i (hi:i < K.length),mM w b (o+i*4) K[i]:=by
 obtain ⟨b,o,e,_⟩:=h.2.2.2.1 0 (by rw [h.1];exact hn);refine ⟨b,o,e,fun i hi=>?_⟩;obtain ⟨b',o',e',h'⟩:=h.2.2.2.1 i hi;rw [e] at e';cases e';exact h'
def gB (B:Nat) (w:World) (v:Value) (K:List (bW × Value)):Prop:=w.ownsRow B 108 4 v K.length (K.flatMap dk)
def uB (C:Nat) (w:World) (K:List (bW × Value)):Prop:=∀ x∈K,aL C w x.2 x.1.c
theorem aL.chV {B:Nat}{w:World}{v:Value}{L:List Ch}(h:aL B w v L):wd w v L:=by
 have h':=h;obtain ⟨ao,c,rfl,hs⟩:=h.sl;refine ⟨ao,_,c,rfl,hs,fun e=>?_⟩;subst e;obtain ⟨_,h2⟩:=h';rcases h2 with ⟨hv,_⟩ | ⟨g,cap,cur,hv,_⟩
 ·simp at hv;exact hv.2
 ·cases hv
theorem gB.sl {B C:Nat}{w:World}{v:Value}{K:List (bW × Value)}(h:gB B w v K) (ho:uB C w K):∃ ao c,v=.slice ao K.length c∧kY w ao K.length c K∧(ao=none→c=0):=by
 have h':=h;obtain ⟨h1,h2⟩:=h;rcases h2 with ⟨hv,hn⟩ | ⟨g,cap,cur,hv,hg,hh,h3,h4,h5,h6⟩
 ·have:K=[]:=by simpa using hn
  subst this;exact ⟨none,0,by rw [hv];rfl,⟨rfl,Nat.le_refl _,Nat.zero_le _,fun i hi=>by simp at hi,fun x hx=>by simp at hx⟩,fun _=>rfl⟩
 ·refine ⟨some ⟨g,0,none⟩,cap,hv,⟨rfl,h3,h4,fun i hi=>⟨g,0,rfl,?_⟩,fun x hx=>(ho x hx).chV⟩,by simp⟩
  have hc:∀ j,j < 4→w.cell? ⟨g,0+i*4+j,none⟩=(dk K[i])[j]?:=fun j hj=>by
   have:=World.ownsRow.cellAt (w:=w) (base:=B) (e:=108) (size:=4) (n:=K.length) (cap:=cap) (g:=g) (xs:=K.flatMap dk) (by rw [← hv];exact h') (i*4+j) (by omega)
   rw [Nat.zero_add,this,o9 K i hi j hj]
  refine ⟨?_,?_,?_,?_⟩
  ·have:=hc 0 (by omega);simpa [dk] using this
  ·have:=hc 1 (by omega);simpa [dk] using this
  ·have:=hc 2 (by omega);simpa [dk] using this
  ·have:=hc 3 (by omega);simpa [dk] using this
theorem gB.nil (B:Nat) (w:World):gB B w (.slice none 0 0) []:=World.ownsRow_nil w B 108 4
theorem jR:(Tryz.prog.info? 108).map (fun i=>(i.zero,i.size,i.bytes))=some (some (.agg #[.int .i64 0,.int .i64 0,.string ⟨#[]⟩,.slice none 0 0]),4,56):=by kernel_rfl
theorem uN {B:Nat}{w:World}{v:Value}{L:List Ch}(h:aL B w v L):v.oneCell'=true:=by
 obtain ⟨ao,c,rfl,_⟩:=h.sl;rfl
theorem oB {w:World}{b o:Nat}{K:List (bW × Value)}(h:∀ i (hi:i < K.length),mM w b (o+i*4) K[i]):∀ (j:Nat) (u:Value),(K.flatMap dk)[j]?=some u→w.cell? ⟨b,o+j,none⟩=some u:=by
 intro j u hj
 have hlt:j < (K.flatMap dk).length:=by
  by_cases hl:j < (K.flatMap dk).length
  ·exact hl
  ·rw [List.getElem?_eq_none (by omega)] at hj;cases hj
 rw [eq] at hlt;have hi:j / 4 < K.length:=by omega
 have e:=o9 K (j / 4) hi (j % 4) (by omega);have e2:j / 4*4+j % 4=j:=by omega
 rw [e2,hj] at e;obtain ⟨c0,c1,c2,c3⟩:=h (j / 4) hi;have h3:j % 4=0∨j % 4=1∨j % 4=2∨j % 4=3:=by omega
 generalize j / 4=q at *;rcases h3 with h3 | h3 | h3 | h3 <;> rw [h3] at e e2 <;> simp [dk] at e <;> subst e <;> subst e2
 ·exact c0
 ·rw [← Nat.add_assoc];exact c1
 ·rw [← Nat.add_assoc];exact c2
 ·rw [← Nat.add_assoc];exact c3
structure Rm where
 r:Rq
 mo:Option Addr
 m:Nat
 mc:Nat
def ie:Rm:=⟨⟨0,[],0,0,0,[],[],[],0,0,0⟩,none,0,0⟩
def bp (x:Rm):List Value:=[.int .i64 x.r.k,.string (ae x.r.n),.int .i64 x.r.s,.int .i64 x.r.q,.int .i64 x.r.b,.string (ae x.r.f),.slice x.mo x.m x.mc,.string (ae x.r.p),.int .i64 x.r.fr,.int .i64 x.r.mn,.int .i64 x.r.mb]
def eU (x:Rm):Value:=.agg #[.int .i64 x.r.k,.string (ae x.r.n),.int .i64 x.r.s,.int .i64 x.r.q,.int .i64 x.r.b,.string (ae x.r.f),.slice x.mo x.m x.mc,.string (ae x.r.p),.int .i64 x.r.fr,.int .i64 x.r.mn,.int .i64 x.r.mb]
def dx (v:Vt) (u:Value):Value:=.agg #[.int .i64 v.c,.int .i64 v.s,.int .i64 v.r,.string (ae v.p),.int .u64 v.d,u,.int .i64 v.m]
def nH (w:World) (u:Value) (k:List bW):Prop:=∃ ao n c K,u=.slice ao n c∧kY w ao n c K∧K.map Prod.fst=k∧(ao=none→c=0)
def bJ (B:Nat) (w:World) (u:Value) (k:List bW):Prop:=∃ K,gB B w u K∧uB B w K∧K.map Prod.fst=k
theorem nH.kept {a w:World}{u:Value}{k:List bW}(h:nH a u k) (hk:ab [] a w):nH w u k:=by
 obtain ⟨ao,n,c,K,h1,h2,h3,h4⟩:=h;exact ⟨ao,n,c,K,h1,h2.kept hk,h3,h4⟩
theorem bJ.ko {B:Nat}{w:World}{u:Value}{k:List bW}(h:bJ B w u k):nH w u k:=by
 obtain ⟨K,h1,h2,h3⟩:=h;obtain ⟨ao,c,e,h4,h5⟩:=h1.sl h2;exact ⟨ao,K.length,c,K,e,h4,h3,h5⟩
theorem bJ.keep {B:Nat}{S:List Nat}{Ts:List TypeId}{w w':World}{u:Value}{k:List bW}(h:bJ B w u k) (hk:ab S w w') (hT:qZ w S Ts) (h1:108 ∉ Ts) (h2:134 ∉ Ts):bJ B w' u k:=by
 obtain ⟨K,hr,ho,he⟩:=h;exact ⟨K,gK hk hT hr h1,fun x hx=>gK hk hT (ho x hx) h2,he⟩
theorem bJ.kept {B:Nat}{w w':World}{u:Value}{k:List bW}(h:bJ B w u k) (hk:ab [] w w'):bJ B w' u k :=
 h.keep hk (qc w []) (by simp) (by simp)
theorem gB.mono {B C:Nat}{w:World}{v:Value}{K:List (bW × Value)}(h:gB C w v K) (hB:B≤C):gB B w v K:=by
 obtain ⟨h1,h2⟩:=h;refine ⟨h1,?_⟩;rcases h2 with h2 | ⟨g,cap,cur,hv,hg,r⟩
 ·exact .inl h2
 ·exact .inr ⟨g,cap,cur,hv,Nat.le_trans hB hg,r⟩
theorem bJ.mono {B C:Nat}{w:World}{u:Value}{k:List bW}(h:bJ C w u k) (hB:B≤C):bJ B w u k:=by
 obtain ⟨K,hr,ho,he⟩:=h;exact ⟨K,hr.mono hB,fun x hx=>(ho x hx).mono hB,he⟩
theorem bJ.nil (B:Nat) (w:World):bJ B w (.slice none 0 0) []:=⟨[],gB.nil B w,(fun _ h=>by cases h),rfl⟩
theorem nH.one {w:World}{u:Value}{k:List bW}(h:nH w u k):∃ ao n c,u=.slice ao n c:=by
 obtain ⟨ao,n,c,K,h1,_⟩:=h;exact ⟨ao,n,c,h1⟩
theorem cw {P:Program}{md:Region.Mode}{ops:Array Oper}{Q:Exit→Act→World→Prop}{S:World→Prop}{fuel fuel':Nat}{listed l':Array Bool}{a:Act}{w:World}(hf:fuel=fuel') (h:listed=l') (k:wpAnyH P md ops Q S fuel' l' a w):wpAnyH P md ops Q S fuel listed a w:=by
 subst hf;subst h;exact k
theorem sT:(∀ {α:Type}{xs:List α}{i:Nat}(h:i < xs.toArray.size),xs.toArray[i]=xs[i]'(by simpa using h))∧(∀ {α:Type}{i:Nat}(a:α) (l:List α) (h:i+1 < (a :: l).length),(a :: l)[i+1]=l[i]'(Nat.lt_of_succ_lt_succ h))∧(∀ {α:Type}(a:α) (l:List α) (h:0 < (a :: l).length),(a :: l)[0]=a)∧(∀ {α:Type}(l:List α) (i:Nat) (x:α),l.toArray.setIfInBounds i x=(l.set i x).toArray)∧(∀ {α:Type}(a b:α) (l:List α),(a :: l).set 0 b=b :: l)∧(∀ {α:Type}(a b:α) (l:List α) (n:Nat),(a :: l).set (n+1) b=a :: l.set n b) :=
 ⟨fun h=>List.getElem_toArray h,fun _ _ _=>rfl,fun _ _ _=>rfl,fun l i x=>List.setIfInBounds_toArray l i x,fun _ _ _=>rfl,fun _ _ _ _=>rfl⟩
def uf (md:Region.Mode) (ops:Array Oper):List Nat→Array Bool→Bool
 | [],_=>true
 | i :: is,l=>((ops[i]?.any (·.dst.isSome)) && (Region.free md ops l i && (Region.ready md ops l).contains i)) && uf md ops is (l.setIfInBounds i true)
def ai:List Nat→Array Bool→Array Bool
 | [],l=>l
 | i :: is,l=>ai is (l.setIfInBounds i true)
def YK (P:Program) (ops:Array Oper) (S:World→Prop) (K:Act→Prop):List Nat→Act→Prop
 | [],a=>K a
 | i :: is,a=>∃ oi v,ops[i]?=some oi∧YieldsIf P ops S oi v a∧YK P ops S K is (a.put oi.dst v)
theorem yk {P:Program}{ops:Array Oper}{S:World→Prop}{K:Act→Prop}{i:Nat}{is:List Nat}{a:Act}(v:Value) {oi:Oper}(hi:ops[i]?=some oi) (hy:YieldsIf P ops S oi v a) (h:YK P ops S K is (a.put oi.dst v)):YK P ops S K (i :: is) a:=⟨oi,v,hi,hy,h⟩
theorem ax {P:Program}{ops:Array Oper}{S:World→Prop}{K:Act→Prop}{a:Act}(h:K a):YK P ops S K [] a:=h
theorem wC {P:Program}{ops:Array Oper}{Q:Exit→Act→World→Prop}{md:Region.Mode}{S:World→Prop}{w:World}(hs:Region.noSelect ops=true) (hQ:∀ c a w t v,Q (.panic c) (Act.put a (some t) v) w→Q (.panic c) a w) (hS:S w):∀ (is:List Nat) {fuel:Nat}{listed:Array Bool}{a:Act},uf md ops is listed=true→YK P ops S (fun a'=>wpAnyH P md ops Q S fuel (ai is listed) a' w) is a→wpAnyH P md ops Q S (fuel+is.length) listed a w
 | [],_,_,_,_,h=>h
 | i :: is,fuel,listed,a,hk,h=>by
   obtain ⟨oi,v,hi,hy,h⟩:=h;simp only [uf,Bool.and_eq_true] at hk;have hd:=hk.1.1;rw [hi] at hd;obtain ⟨t,ht⟩:=Option.isSome_iff_exists.1 (show oi.dst.isSome=true from hd);exact wpAnyH_take hi hs hk.1.2.1 hk.1.2.2 (fun c a w hq=>hQ c a w t v (by rw [ht] at hq;exact hq)) hy hS (wC hs hQ hS is hk.2 h)
theorem ay {P:Program}{ops:Array Oper}{Q:Exit→Act→World→Prop}{md:Region.Mode}{S:World→Prop}{w:World}(is:List Nat) {fuel fuel':Nat}{listed:Array Bool}{a:Act}(hf:fuel=fuel'+is.length) (hk:(Region.noSelect ops && uf md ops is listed)=true) (hQ:∀ c a w t v,Q (.panic c) (Act.put a (some t) v) w→Q (.panic c) a w) (hS:S w) (h:YK P ops S (fun a'=>wpAnyH P md ops Q S fuel' (ai is listed) a' w) is a):wpAnyH P md ops Q S fuel listed a w:=by
 rw [Bool.and_eq_true] at hk;subst hf;exact wC hk.1 hQ hS is hk.2 h
theorem cd {P:Program}{ops:Array Oper}{Q:Exit→Act→World→Prop}{md:Region.Mode}{S:World→Prop}{w:World}{fuel:Nat}{listed:Array Bool}{a:Act}{o:Oper}(i:Nat) (hr:Region.ready md ops listed=[i]) (ho:ops[i]?=some o) (h:∀ K':Act→World→Prop,Shut (∀ a w,S w→(S w→wpAnyH P md ops Q S fuel (listed.setIfInBounds i true) a w)→K' a w)→if Region.wanted o (yielded ops a.tmps)=true then Oper.wp P o a w K' Q else K' (a.put o.dst undef) w):wpAnyH P md ops Q S (fuel+1) listed a w :=
 wpAnyH_ready hr (by simp) (AllReadyH.cons ho h AllReadyH.nil)
theorem tk {P:Program}{ops:Array Oper}{Q:Exit→Act→World→Prop}{md:Region.Mode}{S:World→Prop}{w:World}{fuel:Nat}{listed:Array Bool}{a:Act}{oi:Oper}(i:Nat) (v:Value) (hi:ops[i]?=some oi) (hk:(Region.noSelect ops && (Region.free md ops listed i && (Region.ready md ops listed).contains i))=true) (hQ:∀ c a w,Q (.panic c) (a.put oi.dst v) w→Q (.panic c) a w) (hy:YieldsIf P ops S oi v a) (hS:S w) (h:wpAnyH P md ops Q S fuel (listed.setIfInBounds i true) (a.put oi.dst v) w):wpAnyH P md ops Q S (fuel+1) listed a w:=by
 rw [Bool.and_eq_true,Bool.and_eq_true] at hk;exact wpAnyH_take hi hk.1 hk.2.1 hk.2.2 hQ hy hS h
open Go.ChangeShapes Go.WideShapes Go.ChangeAt Go.RowKit Go.Deep
theorem xG:ownKnob Tryz.prog.godebug=none:=by kernel_rfl
theorem uJ:laidOutB Tryz.prog=true:=by kernel_rfl
end Go.Proofs.YtakafmejllilnaaGreat
namespace Go.Proofs.YtakafmejllilnaaGreat
open Go.ChangeShapes Go.WideShapes Go.ChangeAt Go.RowKit Go.Deep
end Go.Proofs.YtakafmejllilnaaGreat
namespace Go.Proofs.YtakafmejllilnaaGreat
open Go.ChangeShapes Go.WideShapes Go.ChangeAt Go.RowKit Go.Deep
end Go.Proofs.YtakafmejllilnaaGreat
