/-
  Rows of structs, whatever struct: rows that are owned, slices that are read; append, cuts, a cell that is stored.
-/
import Derived.Test.YteiagkjhmhllnaaMemG
import Derived.Test.YteiagkjhmhllnaaBoxG
import Derived.Laws.AppendOwn
import Derived.Laws.AppendOwnNone
namespace Go.Proofs.Yteiagkjhmhllnaa
open Go.RowKit
structure Rk (α:Type) where
 T:TypeId
 S:TypeId
 k:Nat
 b:Nat
 z:Value
 c:α→List Value
 len:∀ x,(c x).length=k
 one:∀ x,∀ v∈c x,v.oneCell'=true
 pos:0 < k
 und:Try.prog.underlying S=some (.slice T)
 inf:(Try.prog.info? T).map (fun i=>(i.zero,i.size,i.bytes))=some (some z,k,b)
 zsz:z.cells.size=k
 bsz:b≤1000
section
variable {α : Type} (R : Rk α)
def Rk.row (w:World) (v:Value) (X:List α):Prop:=w.ownsRow 0 R.T R.k v X.length (X.flatMap R.c)
theorem Rk.flat_len (X:List α):(X.flatMap R.c).length=X.length*R.k:=by
 induction X with
 | nil=>simp
 | cons x X ih=>rw [List.flatMap_cons,List.length_append,ih,List.length_cons,R.len,Nat.add_mul,Nat.one_mul,Nat.add_comm]
theorem Rk.flat_take (X:List α) (i:Nat):(X.take i).flatMap R.c=(X.flatMap R.c).take (i*R.k):=by
 induction X generalizing i with
 | nil=>simp
 | cons x X ih =>
   cases i with
   | zero=>simp
   | succ i =>
     have e:List.take (R.k+i*R.k) (R.c x)=R.c x:=List.take_of_length_le (by rw [R.len];omega)
     rw [List.take_succ_cons,List.flatMap_cons,List.flatMap_cons,ih,Nat.add_mul,Nat.one_mul,Nat.add_comm (i*R.k),List.take_append,R.len,Nat.add_sub_cancel_left,e]
theorem Rk.flat_drop (X:List α) (i:Nat):(X.drop i).flatMap R.c=(X.flatMap R.c).drop (i*R.k):=by
 induction X generalizing i with
 | nil=>simp
 | cons x X ih =>
   cases i with
   | zero=>simp
   | succ i =>
     have e:List.drop (R.k+i*R.k) (R.c x)=[]:=List.drop_of_length_le (by rw [R.len];omega)
     rw [List.drop_succ_cons,List.flatMap_cons,ih,Nat.add_mul,Nat.one_mul,Nat.add_comm (i*R.k),List.drop_append,R.len,Nat.add_sub_cancel_left,e,List.nil_append]
theorem Rk.flat_get (X:List α) (i:Nat) (h:i < X.length) (j:Nat) (hj:j < R.k):(X.flatMap R.c)[i*R.k+j]?=(R.c X[i])[j]?:=by
 induction X generalizing i with
 | nil=>simp at h
 | cons x X ih =>
   cases i with
   | zero=>rw [List.flatMap_cons,Nat.zero_mul,Nat.zero_add,List.getElem_cons_zero,List.getElem?_append_left (by rw [R.len];exact hj)]
   | succ i =>
     rw [List.flatMap_cons,List.getElem_cons_succ,List.getElem?_append_right (by rw [R.len,Nat.add_mul];omega),← ih i (by simpa using h)]
     congr 1
     rw [R.len,Nat.add_mul];omega
theorem Rk.flat_set (X:List α) (i:Nat) (h:i < X.length) (j:Nat) (hj:j < R.k) (u:Value) (y:α) (hy:R.c y=(R.c X[i]).set j u):(X.flatMap R.c).set (i*R.k+j) u=(X.set i y).flatMap R.c:=by
 induction X generalizing i with
 | nil=>simp at h
 | cons x X ih =>
   cases i with
   | zero =>
     rw [List.flatMap_cons,Nat.zero_mul,Nat.zero_add,List.set_cons_zero,List.flatMap_cons,List.set_append_left _ _ (by rw [R.len];exact hj)]
     rw [List.getElem_cons_zero] at hy
     rw [hy]
   | succ i =>
     rw [List.flatMap_cons,List.set_cons_succ,List.flatMap_cons,List.set_append_right _ _ (by rw [R.len,Nat.add_mul];omega),← ih i (by simpa using h) (by simpa using hy)]
     congr 2
     rw [R.len,Nat.add_mul];omega
variable {R}
theorem Rk.shape {w:World}{v:Value}{X:List α}(h:R.row w v X) :
 ∃ ao c,v=.slice ao X.length c∧X.length≤c∧c≤maxLen∧(ao=none→c=0)∧∀ i (hi:i < X.length),∃ g,ao=some ⟨g,0,none⟩∧w.rangeAt g (i*R.k) (R.c X[i]):=by
 have h':=h
 obtain ⟨_,h2⟩:=h
 rcases h2 with ⟨hv,hn⟩ | ⟨g,cap,cur,hv,hg,hh,h3,h4,h5,h6⟩
 ·exact ⟨none,0,by rw [hv,hn],by omega,Nat.zero_le _,fun _=>rfl,fun i hi=>by omega⟩
 ·refine ⟨_,cap,hv,h3,h4,by simp,fun i hi=>⟨g,rfl,fun j u hu=>?_⟩⟩
  have hj:j < R.k:=by
   by_cases hl:j < R.k
   ·exact hl
   ·rw [List.getElem?_eq_none (by rw [R.len];omega)] at hu;cases hu
  have hb:i*R.k+j < X.length*R.k:=by
   have:(i+1)*R.k≤X.length*R.k:=Nat.mul_le_mul_right _ hi
   rw [Nat.add_mul] at this;omega
  have:=World.ownsRow.cellAt (w:=w) (base:=0) (e:=R.T) (size:=R.k) (n:=X.length) (cap:=cap) (g:=g) (xs:=X.flatMap R.c) (by rw [← hv];exact h') (i*R.k+j) hb
  rw [this,R.flat_get X i hi j hj,hu]
theorem Rk.shape2 {w:World}{v:Value}{X:List α}(h:R.row w v X) :
 (v=.slice none 0 0∧X=[])∨∃ g c,v=.slice (some ⟨g,0,none⟩) X.length c∧X.length≤c∧c≤maxLen∧∀ i (hi:i < X.length),w.rangeAt g (i*R.k) (R.c X[i]):=by
 have h':=h
 obtain ⟨_,h2⟩:=h
 rcases h2 with ⟨hv,hn⟩ | ⟨g,cap,cur,hv,hg,hh,h3,h4,h5,h6⟩
 ·exact .inl ⟨hv,by simpa using hn⟩
 ·refine .inr ⟨g,cap,hv,h3,h4,fun i hi=>?_⟩
  obtain ⟨ao,c,e,_,_,_,h7⟩:=Rk.shape h'
  obtain ⟨g',e',h8⟩:=h7 i hi
  rw [hv,e'] at e
  simp at e
  rw [e.1]
  exact h8
theorem Rk.kept {S:List Nat}{a w:World}{v:Value}{X:List α}(h:R.row a v X) (k:Kept S a w) (hS:∀ i,v.ownBlock=some i→i ∉ S):R.row w v X:=k.ownsRow h hS
theorem Rk.nil (w:World):R.row w (.slice none 0 0) []:=World.ownsRow_nil w 0 R.T R.k
theorem Rk.void (w:World):R.row (w.alloc (.cells #[] R.T)) (.slice (some ⟨w.heap.size,0,none⟩) 0 0) [] :=
 ⟨by simp,.inr ⟨w.heap.size,0,#[],rfl,Nat.zero_le _,heap_alloc_new w _,Nat.le_refl _,Nat.zero_le _,by simp,by simp⟩⟩
theorem Rk.lt {w:World}{v:Value}{X:List α}(h:R.row w v X):∀ k,v.ownBlock=some k→k < w.heap.size:=fun k hk=>(World.ownsRow.lt h k hk).2
theorem Rk.cells {w:World}{g n c:Nat}{X:List α}(h:R.row w (.slice (some ⟨g,0,none⟩) n c) X) (i m:Nat):∀ j u,(((X.drop i).take m).flatMap R.c)[j]?=some u→w.cell? ((⟨g,i*R.k,none⟩:Addr).add j)=some u:=by
 intro j u hu
 rw [R.flat_take,R.flat_drop,List.getElem?_take] at hu
 split at hu
 ·rw [List.getElem?_drop] at hu
  have h1:=World.ownsRow.cells h (g:=g) rfl (i*R.k+j) u hu
  rw [adr_addC] at h1 ⊢
  rw [Nat.zero_add] at h1
  exact h1
 ·cases hu
theorem Rk.news {w:World}{g:Nat}{x:α}(h:Bx w g R.T (R.c x)):∀ j u,([x].flatMap R.c)[j]?=some u→w.cell? ((⟨g,0,none⟩:Addr).add j)=some u:=by
 intro j u hu
 rw [List.flatMap_cons,List.flatMap_nil,List.append_nil] at hu
 rw [adr_addC,Nat.zero_add]
 exact h.cell j hu
theorem Rk.ones (X:List α):∀ v∈X.flatMap R.c,v.oneCell'=true:=by
 intro v hv
 obtain ⟨x,_,hx⟩:=List.mem_flatMap.1 hv
 exact R.one x v hx
theorem Rk.app {w:World}{ops:Array Oper}{rest:List Oper}{o:Oper}{a:Act}{Q:Exit→Act→World→Prop}(R:Rk α) (hgd:o.guard=none) (s x:Operand)
 (hop:o.op=.call { callee:=.builtin .append,args:=#[s,x],argTypes:=#[R.S,R.S] })
 (v:Value) (X:List α) (hs:a.eval s=v) (hO:R.row w v X) (ad:Addr) (m c:Nat) (Y:List α) (hx:a.eval x=.slice (some ad) m c) (hm:m=Y.length) (hc:∀ j u,(Y.flatMap R.c)[j]?=some u→w.cell? (ad.add j)=some u)
 (hlen:X.length+Y.length≤1000000000)
 (h:∀ v' w',R.row w' v' (X++Y)→w.grownBy w' v.ownBlock→(∀ k,v'.ownBlock=some k→v.ownBlock=some k∨w.heap.size≤k)→wpList Try.prog ops Q rest (a.put o.dst v') w'):wpList Try.prog ops Q (o :: rest) a w:=by
 subst hm
 obtain ⟨i0,hi,hz0,hz1,hz2⟩:=info_parts R.inf
 refine wpList_append2 w hgd s x R.S hop R.T i0 R.z R.k R.b R.und hi hz0 hz1 hz2 R.zsz R.pos v X.length (X.flatMap R.c) hs hO ad Y.length c (Y.flatMap R.c) hx (R.flat_len Y) hc (Rk.ones Y) (by unfold maxLen;omega) ?_ ?_
 ·have:=R.bsz
  calc (X.length+Y.length)*R.b≤1000000000*1000:=Nat.mul_le_mul hlen this
   _≤140737488355328:=by decide
 ·intro v' w' h2 h3 h4
  refine h v' w' ?_ h3 h4
  unfold Rk.row
  rw [List.length_append,List.flatMap_append]
  exact h2
theorem Rk.appO {w:World}{o:Oper}{a:Act}{K:Act→World→Prop}{Q:Exit→Act→World→Prop}(R:Rk α) (s x:Operand)
 (hop:o.op=.call { callee:=.builtin .append,args:=#[s,x],argTypes:=#[R.S,R.S] })
 (v:Value) (X:List α) (hs:a.eval s=v) (hO:R.row w v X) (ad:Addr) (m c:Nat) (Y:List α) (hx:a.eval x=.slice (some ad) m c) (hm:m=Y.length) (hc:∀ j u,(Y.flatMap R.c)[j]?=some u→w.cell? (ad.add j)=some u)
 (hlen:X.length+Y.length≤1000000000)
 (h:∀ v' w',R.row w' v' (X++Y)→w.grownBy w' v.ownBlock→(∀ k,v'.ownBlock=some k→v.ownBlock=some k∨w.heap.size≤k)→K (a.put o.dst v') w'):Oper.wp Try.prog o a w K Q:=by
 subst hm
 obtain ⟨i0,hi,hz0,hz1,hz2⟩:=info_parts R.inf
 have hby:(X.length+Y.length)*R.b≤140737488355328:=by
  have:=R.bsz
  calc (X.length+Y.length)*R.b≤1000000000*1000:=Nat.mul_le_mul hlen this
   _≤140737488355328:=by decide
 have h63:X.length+Y.length≤maxLen:=by unfold maxLen;omega
 obtain ⟨v',w',hr,h2,h3,_⟩:=run_append_own (P:=Try.prog) w 0 R.S o.type R.T i0 R.z R.k R.b R.und hi hz0 hz1 hz2 R.zsz R.pos v X.length (X.flatMap R.c) hO ad Y.length c (Y.flatMap R.c) (R.flat_len Y) hc (Rk.ones Y) h63 hby (Nat.zero_le _)
 have h5:=append_fresh (P:=Try.prog) w 0 R.S o.type R.T i0 R.z R.k R.b R.und hi hz0 hz1 hz2 R.zsz R.pos v X.length (X.flatMap R.c) hO ad Y.length c (Y.flatMap R.c) (R.flat_len Y) hc (Rk.ones Y) h63 hby v' w' hr
 unfold Oper.wp execOp
 simp only [hop,resolve,invoke,builtin,Sem.run_bind,Sem.run_pure,Result.andThen_ok,List.map_toArray,List.map_cons,List.map_nil,hs,hx,hr]
 refine h v' w' ?_ h3 h5
 unfold Rk.row
 rw [List.length_append,List.flatMap_append]
 exact h2
def Rk.src (R:Rk α) (w:World) (ao:Option Addr) (n c:Nat) (Y:List α):Prop :=
 n=Y.length∧(ao=none→Y=[]∧c=0)∧∀ ad,ao=some ad→∀ j u,(Y.flatMap R.c)[j]?=some u→w.cell? (ad.add j)=some u
theorem Rk.appS {w:World}{ops:Array Oper}{rest:List Oper}{o:Oper}{a:Act}{Q:Exit→Act→World→Prop}(R:Rk α) (hgd:o.guard=none) (s x:Operand)
 (hop:o.op=.call { callee:=.builtin .append,args:=#[s,x],argTypes:=#[R.S,R.S] })
 (v:Value) (X:List α) (hs:a.eval s=v) (hO:R.row w v X) (ao:Option Addr) (m c:Nat) (Y:List α) (hx:a.eval x=.slice ao m c) (hS:R.src w ao m c Y)
 (hlen:X.length+Y.length≤1000000000)
 (h:∀ v' w',R.row w' v' (X++Y)→Kept v.ownBlock.toList w w'→(∀ k,v'.ownBlock=some k→v.ownBlock=some k∨w.heap.size≤k)→wpList Try.prog ops Q rest (a.put o.dst v') w'):wpList Try.prog ops Q (o :: rest) a w:=by
 cases ao with
 | none =>
   obtain ⟨h1,h2⟩:=hS.2.1 rfl
   have h3:=hS.1
   subst h1;subst h2;subst h3
   obtain ⟨i0,hi,_,hz1,_⟩:=info_parts R.inf
   refine wpList_append_own_none hgd s x R.S hop 0 R.T i0 R.k R.und hi v _ _ hs hO hx ?_
   exact h v w (by simpa using hO) (Kept.refl _ _) (fun k hk=>.inl hk)
 | some ad =>
   refine Rk.app R hgd s x hop v X hs hO ad m c Y hx hS.1 (hS.2.2 ad rfl) hlen ?_
   intro v1 w1 h1 h2 h3
   exact h v1 w1 h1 ((Kept.refl _ _).grown h2 (by intro k hk;left;rw [hk];simp)) h3
theorem Rk.src_take {w:World}{ao:Option Addr}{n c:Nat}{X:List α}(h:R.row w (.slice ao n c) X) {i:Nat}(hi:i≤X.length):R.src w ao i c (X.take i):=by
 refine ⟨by simp;omega,fun e=>?_,fun ad e=>?_⟩
 ·subst e
  rcases h.2 with ⟨h1,h2⟩ | ⟨g',cap,cur,h1,_⟩
  ·have:X=[]:=by simpa using h2
   subst this
   simp at h1
   exact ⟨by simp,h1.2⟩
  ·cases h1
 ·subst e
  rcases h.2 with ⟨h1,h2⟩ | ⟨g',cap,cur,h1,_⟩
  ·cases h1
  ·have e:ad=⟨g',0,none⟩:=by simp at h1;exact h1.1
   subst e
   have:=Rk.cells h 0 i
   rwa [Nat.zero_mul,List.drop_zero] at this
theorem Rk.src_drop {w:World}{ao:Option Addr}{n c:Nat}{X:List α}(h:R.row w (.slice ao n c) X) {i:Nat}(hi:i≤X.length):R.src w (ao.map fun x=>x.add (i*R.k)) (n - i) (c - i) (X.drop i):=by
 have hn:n=X.length∧(ao=none→c=0∧X=[]):=by
  rcases h.2 with ⟨h1,h2⟩ | ⟨g',cap,cur,h1,_⟩
  ·simp at h1
   exact ⟨by omega,fun _=>⟨h1.2.2,by simpa using h2⟩⟩
  ·simp at h1
   exact ⟨h1.2.1,fun e=>by rw [e] at h1;simp at h1⟩
 refine ⟨by simp;omega,fun e=>?_,fun ad e=>?_⟩
 ·have e2:ao=none:=by simpa using e
  obtain ⟨h1,h2⟩:=hn.2 e2
  subst h2
  exact ⟨by simp,by omega⟩
 ·rcases h.2 with ⟨h1,h2⟩ | ⟨g',cap,cur,h1,_⟩
  ·simp at h1;rw [h1.1] at e;cases e
  ·have e1:ao=some ⟨g',0,none⟩:=by simp at h1;exact h1.1
   subst e1
   have e2:ad=⟨g',i*R.k,none⟩:=by
    simp only [Option.map_some,Option.some.injEq] at e
    rw [← e,adr_addC,Nat.zero_add]
   subst e2
   have:=Rk.cells h i X.length
   rwa [List.take_of_length_le (by simp)] at this
theorem Rk.src_none {w:World}{ao:Option Addr}{n c:Nat}{X:List α}(h:R.row w (.slice ao n c) X) {i:Nat}(hi:c≤i):R.src w ao (n - i) 0 (X.drop i):=by
 obtain ⟨ao',c',e,h1,_⟩:=Rk.shape h
 simp at e
 obtain ⟨_,e2,e3⟩:=e
 refine ⟨by simp;omega,fun _=>⟨List.drop_of_length_le (by omega),rfl⟩,fun ad _ j u hu=>?_⟩
 rw [List.drop_of_length_le (by omega)] at hu
 simp at hu
theorem Rk.set {w:World}{g n c:Nat}{X:List α}(h:R.row w (.slice (some ⟨g,0,none⟩) n c) X) (i:Nat) (hi:i < X.length) (j:Nat) (hj:j < R.k) (u:Value) (y:α) (hy:R.c y=(R.c X[i]).set j u) :
 R.row (w.setCell ⟨g,i*R.k+j,none⟩ u) (.slice (some ⟨g,0,none⟩) n c) (X.set i y):=by
 have hn:n=X.length:=by
  rcases h.2 with ⟨h1,_⟩ | ⟨g',cap,cur,h1,_⟩
  ·cases h1
  ·simp at h1;exact h1.2.1
 subst hn
 have h1:=(World.ownsRow.stored h (i*R.k+j) u).1
 rw [R.flat_set X i hi j hj u y hy] at h1
 unfold Rk.row
 rw [List.length_set]
 exact h1
end
end Go.Proofs.Yteiagkjhmhllnaa
