/-
  Texts laid as one.
-/
import Derived.Test.YtgpnlidnbldiiaaGreatQ1r
import Derived.Test.YtgpnlidnbldiiaaGreatQ2r
import Derived.Deep.MidRow
import Derived.Deep.WholeRow
import Derived.Laws.Rows
import Derived.Laws.ResultCell
import Derived.Deep.CutRange
import Derived.Great.Ranges
import Derived.ChangeKeysEq
import Derived.Laws.StructEq
import Derived.Deep.AppendLies
set_option maxHeartbeats 4000000
set_option maxRecDepth 100000
/-
 Sets of replicas in memory: fifteen cells of yes and no.
-/
namespace Go.Proofs.YtgpnlidnbldiiaaGreat
open Go.RowKit
def bG (S:Nat→Bool):List Value:=[.bool (S 0),.bool (S 1),.bool (S 2),.bool (S 3),.bool (S 4),.bool (S 5),.bool (S 6),.bool (S 7),.bool (S 8),.bool (S 9),.bool (S 10),.bool (S 11),.bool (S 12),.bool (S 13),.bool (S 14)]
def eG (S:Nat→Bool):Value:=.agg (bG S).toArray
def ix (f:Int) (S:Nat→Bool):List Value:=.int .i64 f :: bG S
def sL (f:Int) (S:Nat→Bool):Value:=.agg (ix f S).toArray
theorem fX (S:Nat→Bool):(bG S).length=15:=rfl
theorem eQ (f:Int) (S:Nat→Bool):(ix f S).length=16:=rfl
theorem fU (S:Nat→Bool) {k:Nat}(h:k < 15):(bG S)[k]?=some (.bool (S k)):=by
 have:k=0∨k=1∨k=2∨k=3∨k=4∨k=5∨k=6∨k=7∨k=8∨k=9∨k=10∨k=11∨k=12∨k=13∨k=14:=by omega
 rcases this with rfl | rfl | rfl | rfl | rfl | rfl | rfl | rfl | rfl | rfl | rfl | rfl | rfl | rfl | rfl <;> rfl
theorem qC (S:Nat→Bool):∀ v∈bG S,v.oneCell'=true:=by
 intro v hv;obtain ⟨k,h,rfl⟩:=List.getElem_of_mem hv;have h1:=fU S (k:=k) (by simpa [fX] using h);rw [List.getElem?_eq_getElem h] at h1;rw [Option.some.inj h1];rfl
theorem lW (f:Int) (S:Nat→Bool):∀ v∈ix f S,v.oneCell'=true:=by
 intro v hv;rcases List.mem_cons.1 hv with rfl | hv
 ·rfl
 ·exact qC S v hv
theorem mr {S T:Nat→Bool}(h:∀ k,k < 15→S k=T k):bG S=bG T:=by
 apply List.ext_getElem?
 intro k;by_cases hk:k < 15
 ·rw [fU S hk,fU T hk,h k hk]
 ·rw [List.getElem?_eq_none (by rw [fX];omega),List.getElem?_eq_none (by rw [fX];omega)]
def bh (w:World) (b:Nat) (S:Nat→Bool):Prop:=w.heap[b]?=some (.cells (bG S).toArray 116 (0,0))
theorem bh.cell {w:World}{b:Nat}{S:Nat→Bool}(h:bh w b S) {k:Nat}(hk:k < 15):w.cell? ⟨b,k,none⟩=some (.bool (S k)) :=
 ag h (by simpa using fU S hk)
theorem bh.range {w:World}{b:Nat}{S:Nat→Bool}(h:bh w b S):w.rangeAt b 0 (bG S):=fun j v hv=>by
 rw [Nat.zero_add];exact ag h (by simpa using hv)
theorem bh.there {w:World}{b:Nat}{S:Nat→Bool}(h:bh w b S):w.there b 0 15:=fun j hj=>by
 rw [Nat.zero_add];exact ⟨by rw [h.cell hj];rfl,aj h j⟩
theorem bh.set {w:World}{b:Nat}{S:Nat→Bool}(h:bh w b S) {q:Nat}(v:Bool) (hq:q < 15):bh (w.setCell ⟨b,q,none⟩ (.bool v)) b (cz S q v):=by
 unfold bh;rw [heap_setCell_same _ _ q _ _ _ h];congr 2
 apply Array.ext_getElem?
 intro i;rw [Array.getElem?_setIfInBounds];by_cases hi:i < 15
 ·have h1:(bG (cz S q v)).toArray[i]?=some (.bool (cz S q v i)):=by simpa using fU _ hi
  have h2:(bG S).toArray[i]?=some (.bool (S i)):=by simpa using fU S hi
  rw [h1,h2];unfold cz;by_cases e:q=i
  ·subst e;simp [fX,hq]
  ·have e':¬ i=q:=fun h=>e h.symm;simp [e,e']
 ·have h1:(bG (cz S q v)).toArray[i]?=none:=by simp [fX];omega
  have h2:(bG S).toArray[i]?=none:=by simp [fX];omega
  rw [h1,h2];by_cases e:q=i
  ·omega
  ·simp [e]
theorem bh.kept {S':List Nat}{a w:World}{b:Nat}{S:Nat→Bool}(h:bh a b S) (k:aa S' a w) (hb:b ∉ S'):bh w b S:=k.at h hb
theorem bh.store {w:World}{b:Nat}{S:Nat→Bool}(h:bh w b S) (T:Nat→Bool):bh (w.setCells b 0 (bG T)) b T:=by
 have h1:=ij b (bG T) [] (bG S) [] w _ (by simpa [bh] using h) rfl;simpa [bh] using h1
theorem fD:(Tryz.prog.info? 116).map (·.size)=some 15:=by kernel_rfl
theorem ji:(Tryz.prog.info? 121).map (·.size)=some 16:=by kernel_rfl
theorem wC {w:World}{b o:Nat}{S:Nat→Bool}(h:w.rangeAt b o (bG S)):(Instr.loadAt 116 (.pointer (some ⟨b,o,none⟩))).run Tryz.prog w=.ok (eG S) w :=
 run_loadAt_mid w b o _ (bG S) _ h Tryz.underlying116 rfl fD
theorem vU {w:World}{b o:Nat}{f:Int}{S:Nat→Bool}(h:w.rangeAt b o (ix f S)):(Instr.loadAt 121 (.pointer (some ⟨b,o,none⟩))).run Tryz.prog w=.ok (sL f S) w :=
 run_loadAt_mid w b o _ (ix f S) _ h Tryz.underlying121 rfl ji
theorem dB {ops:Array Oper}{rest:List Oper}{a:Act}{w:World}{Q:Exit→Act→World→Prop}{d:Option Tmp}{x:Operand}{ty:TypeId}{ps:String}{af:Array Edge}
 {b o:Nat}{S:Nat→Bool}(hx:a.eval x=.pointer (some ⟨b,o,none⟩)) (hc:w.rangeAt b o (bG S)) (h:wpList Tryz.prog ops Q rest (a.put d (eG S)) w):wpList Tryz.prog ops Q (⟨d,.load 116 x,ty,ps,af,none⟩ :: rest) a w :=
 wpList_load_mid rfl _ x rfl b o hx (bG S) _ hc Tryz.underlying116 rfl fD h
theorem bq {ops:Array Oper}{rest:List Oper}{a:Act}{w:World}{Q:Exit→Act→World→Prop}{d:Option Tmp}{x y:Operand}{ty:TypeId}{ps:String}{af:Array Edge}
 (T:Nat→Bool) {b:Nat}(hx:a.eval x=.pointer (some ⟨b,0,none⟩)) (hy:a.eval y=eG T) {S:Nat→Bool}(hc:bh w b S) (h:∀ w',Hid (bh w' b T)→Hid (aa [b] w w')→wpList Tryz.prog ops Q rest (a.put d undef) w'):wpList Tryz.prog ops Q (⟨d,.store 116 x y,ty,ps,af,none⟩ :: rest) a w :=
 wpList_store_mid rfl _ x y rfl b 0 (bG T).toArray hx hy (by simpa [fX] using hc.there) fD (all_oneCell_toArray (qC T)) (h _ (hc.store T) (ee (by simp) _ _ (aa.refl _ _)))
def dH (w:World) (b:Nat) (f:Int) (S:Nat→Bool):Prop:=w.heap[b]?=some (.cells (ix f S).toArray 121 (0,0))
theorem dH.range {w:World}{b:Nat}{f:Int}{S:Nat→Bool}(h:dH w b f S):w.rangeAt b 0 (ix f S):=fun j v hv=>by
 rw [Nat.zero_add];exact ag h (by simpa using hv)
theorem lU {w:World}{b o:Nat}{f:Int}{S:Nat→Bool}(h:w.rangeAt b o (ix f S)):w.rangeAt b (o+1) (bG S):=fun j v hv=>by
 have:=h (j+1) v (by simpa [ix] using hv)
 rwa [show o+(j+1)=o+1+j by omega] at this
theorem iS {w:World}{b o:Nat}{f:Int}{S:Nat→Bool}(h:w.rangeAt b o (ix f S)):w.cell? ⟨b,o,none⟩=some (.int .i64 f):=h 0 _ rfl
theorem dH.there {w:World}{b:Nat}{f:Int}{S:Nat→Bool}(h:dH w b f S):w.there b 0 16:=fun j hj=>by
 obtain ⟨v,hv⟩:∃ v,(ix f S)[j]?=some v:=⟨_,List.getElem?_eq_getElem (by rw [eQ];exact hj)⟩;rw [Nat.zero_add];exact ⟨by rw [show w.cell? ⟨b,j,none⟩=some v from ag h (by simpa using hv)];rfl,aj h j⟩
theorem dH.store {w:World}{b:Nat}{f g:Int}{S T:Nat→Bool}(h:dH w b f S):dH (w.setCells b 0 (ix g T)) b g T:=by
 have h1:=ij b (ix g T) [] (ix f S) [] w _ (by simpa [dH] using h) rfl;simpa [dH] using h1
theorem ed {w:World}{g:Nat}{S:Nat→Bool}{fn:Func}{p u:Tmp}(hr:fn.results=#[.cell p 116,.tmp u]) (tmps:Array Value) (hp:tmps.getD p undef=.pointer (some ⟨g,0,none⟩)) (hg:bh w g S) :
 (results fn tmps).run Tryz.prog w=.ok (.tuple #[eG S,tmps.getD u undef]) w:=by
 have hp':tmps[p]?.getD undef=.pointer (some ⟨g,0,none⟩):=by simpa using hp
 rw [results_cell_tmp hr];simp [hp',asAddr,run_loadVar_row w g _ 116 _ _ _ hg Tryz.underlying116 rfl fD,eG]
theorem uJ (w:World) (f:Int) (S:Nat→Bool):(Instr.build 121 #[(0,.int .i64 f),(1,eG S)]).run Tryz.prog w=.ok (sL f S) w:=by kernel_rfl
theorem rH (w:World) (S:Nat→Bool):(Instr.build 121 #[(1,eG S)]).run Tryz.prog w=.ok (sL 0 S) w:=by kernel_rfl
theorem mp (w:World) (f:Int) (S:Nat→Bool):(Instr.buildSlice 122 1 #[(0,sL f S)]).run Tryz.prog w=.ok (.slice (some ⟨w.heap.size,0,none⟩) 1 1) (w.alloc (.cells (ix f S).toArray 121)):=by kernel_rfl
theorem rC (w:World) (S:Nat→Bool) {i:Nat}(h:i < 15):(part 4 (bG S).toArray i).run Tryz.prog w=.ok (.bool (S i)) w:=by
 simp [part,Sem.run_bind,fU S h]
theorem nQ:Tryz.prog.cellsOf 4=1:=by kernel_rfl
theorem rJ (w:World) (d:Nat) (S T:Nat→Bool):∀ (is:List Nat),(∀ i∈is,i < 15)→(Op.eqItems (d+1) 4 1 (bG S).toArray (bG T).toArray is).run Tryz.prog w=.ok (is.all fun i=>S i==T i) w
 | [],_=>by simp [Op.eqItems]
 | i :: is,h=>by
   have hi:=h i (by simp);have ih:=rJ w d S T is (fun j hj=>h j (by simp [hj]));simp only [Op.eqItems,Sem.run_bind,Nat.mul_one,rC w _ hi,run_equalIn_bool' w d 4 (S i) (T i) Tryz.underlying4,Result.andThen_ok,List.all_cons];cases hb:(S i==T i)
   ·simp
   ·simpa using ih
theorem AR (w:World) (S T:Nat→Bool):(binOp .eql 116 (eG S) (eG T)).run Tryz.prog w=.ok (.bool ((List.range 15).all fun i=>S i==T i)) w:=by
 unfold eG
 obtain ⟨i0,hi⟩:∃ i,Tryz.prog.info? 4=some i:=by
  have:=nQ
  cases h:Tryz.prog.info? 4 with
  | none=>simp [Program.cellsOf,h] at this
  | some i=>exact ⟨i,rfl⟩
 rw [run_eql_struct,run_equalIn_array (P:=Tryz.prog) w 9999 (bG S).toArray (bG T).toArray (t:=116) Tryz.underlying116 hi,nQ,rJ w 9998 S T (List.range 15) (fun i h=>by simpa using h)];rfl
theorem zj (S:Nat→Bool):((List.range 15).all fun i=>S i==false)=decide (bc S=[]):=by
 rw [Bool.eq_iff_iff];simp only [List.all_eq_true,List.mem_range,decide_eq_true_eq,beq_iff_eq];refine ⟨fun h=>?_,fun h k hk=>?_⟩
 ·cases ht:bc S with
  | nil=>rfl
  | cons x l =>
    obtain ⟨k,_,h1,h2⟩:=eN.1 (show x∈bc S by rw [ht];simp);rw [h k h1] at h2;cases h2
 ·cases hs:S k with
  | false=>rfl
  | true =>
    have:=eN.2 ⟨k,rfl,hk,hs⟩
    rw [h] at this;simp at this
theorem uw:Tryz.prog.eqGuardType Tryz.prog.depth 116=false:=by kernel_rfl
theorem xU (x y:Operand) (S T:Nat→Bool) (w:World):(eqGuard .eql 116 x y (eG S) (eG T)).run Tryz.prog w=.ok () w :=
 run_eqGuard_agg (P:=Tryz.prog) w .eql 116 x y (bG S).toArray (bG T).toArray uw
theorem ig {ops:Array Oper}{rest:List Oper}{a:Act}{w:World}{Q:Exit→Act→World→Prop}{d:Option Tmp}{x y:Operand}{ty:TypeId}{ps:String}{af:Array Edge}
 {S:Nat→Bool}(hx:a.eval x=eG S) (hy:a.eval y=eG fun _=>false) (h:wpList Tryz.prog ops Q rest (a.put d (.bool (decide (bc S=[])))) w):wpList Tryz.prog ops Q (⟨d,.binOp .eql 116 x y 116,ty,ps,af,none⟩ :: rest) a w :=
 wpList_plain rfl fun _ hK=>by
  unfold Oper.wp execOp;simp only [hx,hy,Sem.run_bind,xU,Result.andThen_ok,AR,zj];exact hK _ _ h
theorem wJ (w:World) (S:Nat→Bool) {i:Nat}(hi:i < 15):(Instr.index 116 (eG S) (.int .i64 (i:Int))).run Tryz.prog w=.ok (.bool (S i)) w:=by
 unfold eG;have h2:(0:Int)≤(i:Int)∧(i:Int) < ((15:Nat):Int):=by omega
 have h3:(sizeOf 4).run Tryz.prog w=.ok 1 w:=by kernel_rfl
 simp only [Instr.index,asIntOf,Sem.run_bind,Sem.run_pure,Result.andThen_ok,run_underlying Tryz.underlying116 w];rw [if_pos h2];simp only [Sem.run_bind,h3,Result.andThen_ok,Nat.mul_one,Int.toNat_natCast];exact rC w S hi
def nW (x:Ep):List Value:=ix x.f (aK x.m)
theorem vD (L:List Ep):(L.flatMap nW).length=L.length*16:=by
 induction L with
 | nil=>rfl
 | cons x L ih=>rw [List.flatMap_cons,List.length_append,ih,List.length_cons];simp only [nW,eQ];omega
theorem vr (L:List Ep) (i:Nat) (h:i < L.length) (j:Nat) (hj:j < 16):(L.flatMap nW)[i*16+j]?=(nW L[i])[j]?:=by
 induction L generalizing i with
 | nil=>simp at h
 | cons x L ih =>
   rw [List.flatMap_cons];cases i with
   | zero=>rw [List.getElem?_append_left (by simp only [nW,eQ];omega)];simp
   | succ i =>
     rw [List.getElem?_append_right (by simp only [nW,eQ];omega)];simp only [nW,eQ,List.getElem_cons_succ];rw [show (i+1)*16+j - 16=i*16+j by omega];exact ih i (by simpa using h)
theorem Ai (L:List Ep):∀ u∈L.flatMap nW,u.oneCell'=true:=by
 intro u hu;obtain ⟨x,_,hx⟩:=List.mem_flatMap.1 hu;exact lW _ _ u hx
def iy (B:Nat) (w:World) (v:Value) (L:List Ep):Prop:=w.ownsRow B 121 16 v L.length (L.flatMap nW)
theorem iy.slice {B:Nat}{w:World}{v:Value}{L:List Ep}(h:iy B w v L) (hn:L≠[]) :
 ∃ g cap,v=.slice (some ⟨g,0,none⟩) L.length cap∧B≤g∧L.length≤cap∧cap≤maxLen∧∀ i (hi:i < L.length),w.rangeAt g (i*16) (nW L[i]):=by
 have h':=h;obtain ⟨h1,h2⟩:=h;rcases h2 with ⟨hv,h0⟩ | ⟨g,cap,cur,hv,hg,hh,h3,h4,h5,h6⟩
 ·exact absurd (List.eq_nil_of_length_eq_zero h0) hn
 ·refine ⟨g,cap,hv,hg,h3,h4,fun i hi j u hj=>?_⟩;unfold iy at h';rw [hv] at h';have hj':j < 16:=by have:=(List.getElem?_eq_some_iff.1 hj).1;simpa [nW,eQ] using this
  rw [World.ownsRow.cellAt h' (i*16+j) (by omega),vr L i hi j hj',hj]
def g9 (B:Nat) (w:World) (p:Nat) (al:Int) (L:List Ep):Prop :=
 ∃ v,B≤p∧w.heap[p]?=some (.cells #[.int .i64 al,v] 124 (0,0))∧iy B w v L
def D8 (w:World) (S:List Nat):Prop:=∀ k∈S,k < w.heap.size→∃ cur t mk,w.heap[k]?=some (.cells cur t mk)
def Tn (B:Nat) (Ts:List TypeId) (w w':World):Prop:=∃ S,aa S w w'∧(∀ k∈S,B≤k)∧aJ w S Ts∧D8 w S
theorem Tn.refl (B:Nat) (Ts:List TypeId) (w:World):Tn B Ts w w:=⟨[],aa.refl _ _,by simp,cm _ _,fun _ h=>by cases h⟩
theorem Tn.kept {B:Nat}{Ts:List TypeId}{w w':World}(h:aa [] w w'):Tn B Ts w w':=⟨[],h,by simp,cm _ _,fun _ h=>by cases h⟩
theorem Tn.trans {B:Nat}{Ts:List TypeId}{a b c:World}(h:Tn B Ts a b) (k:Tn B Ts b c):Tn B Ts a c:=by
 obtain ⟨S,h1,h2,h3,h4⟩:=h;obtain ⟨T,k1,k2,k3,k4⟩:=k;refine ⟨S++T.filter fun i=>decide (i < a.heap.size),?_,?_,?_,?_⟩
 ·refine (h1.mono (T:=S++T.filter fun i=>decide (i < a.heap.size)) (fun i hi=>.inl (by simp [hi]))).trans k1 fun i hi=>?_;by_cases hlt:i < a.heap.size
  ·exact .inl (by simp [hi,hlt])
  ·exact .inr (by omega)
 ·intro i hi;rcases List.mem_append.1 hi with hi | hi
  ·exact h2 i hi
  ·exact k2 i (List.mem_filter.1 hi).1
 ·intro i hi cur t mk hh;by_cases hs:i∈S
  ·exact h3 i hs cur t mk hh
  ·rcases List.mem_append.1 hi with hi | hi
   ·exact absurd hi hs
   ·exact k3 i (List.mem_filter.1 hi).1 cur t mk (h1.at hh hs)
 ·intro i hi hlt;by_cases hs:i∈S
  ·exact h4 i hs hlt
  ·rcases List.mem_append.1 hi with hi | hi
   ·exact absurd hi hs
   ·obtain ⟨cur,t,mk,hh⟩:=k4 i (List.mem_filter.1 hi).1 (Nat.lt_of_lt_of_le hlt h1.size);exact ⟨cur,t,mk,by rw [← h1.block i hlt hs];exact hh⟩
theorem Tn.size {B:Nat}{Ts:List TypeId}{w w':World}(h:Tn B Ts w w'):w.heap.size≤w'.heap.size:=by
 obtain ⟨S,h1,_⟩:=h;exact h1.size
theorem Tn.at {B:Nat}{Ts:List TypeId}{w w':World}(h:Tn B Ts w w') {k:Nat}{cur:Array Value}{t:TypeId}{mk:Nat × Nat}(hk:w.heap[k]?=some (.cells cur t mk)) (ht:t ∉ Ts):w'.heap[k]?=some (.cells cur t mk):=by
 obtain ⟨S,h1,_,h3,_⟩:=h;exact h1.typed h3 hk ht
theorem Tn.row {B:Nat}{Ts:List TypeId}{w w':World}(h:Tn B Ts w w') {B' e size n:Nat}{v:Value}{xs:List Value}(hr:w.ownsRow B' e size v n xs) (ht:e ∉ Ts):w'.ownsRow B' e size v n xs:=by
 obtain ⟨S,h1,_,h3,_⟩:=h;exact ap h1 h3 hr ht
theorem Tn.low {a w w':World}{B:Nat}{Ts:List TypeId}(k:aa [] a w) (h:Tn B Ts w w') (hB:a.heap.size≤B):aa [] a w':=by
 obtain ⟨S,h1,h2,_⟩:=h;exact k.trans h1 fun i hi=>.inr (Nat.le_trans hB (h2 i hi))
theorem g9.kept {B:Nat}{w w':World}{p:Nat}{al:Int}{L:List Ep}(h:g9 B w p al L) (k:aa [] w w'):g9 B w' p al L:=by
 obtain ⟨v,h1,h2,h3⟩:=h;exact ⟨v,h1,k.at h2 (by simp),k.ownsRow h3 (by simp)⟩
theorem g9.open {B:Nat}{w:World}{p:Nat}{al:Int}{L:List Ep}(h:g9 B w p al L) (hn:L≠[]) :
 ∃ g cap,w.heap[p]?=some (.cells #[.int .i64 al,.slice (some ⟨g,0,none⟩) L.length cap] 124 (0,0))∧L.length≤cap∧cap≤maxLen∧∀ i (hi:i < L.length),w.rangeAt g (i*16) (nW L[i]):=by
 obtain ⟨v,_,h2,h3⟩:=h;obtain ⟨g,cap,rfl,_,h5,h6,h7⟩:=h3.slice hn;exact ⟨g,cap,h2,h5,h6,h7⟩
theorem g9.ge {B:Nat}{w:World}{p:Nat}{al:Int}{L:List Ep}(h:g9 B w p al L):B≤p:=by
 obtain ⟨v,h1,_⟩:=h;exact h1
theorem oY:(Tryz.prog.info? 121).map (fun i=>(i.zero,i.size,i.bytes))=some (some (sL 0 fun _=>false),16,24):=by kernel_rfl
theorem jH {ops:Array Oper}{o:Oper}{a:Act}{w:World}{K:Act→World→Prop}{Q:Exit→Act→World→Prop}{E:Prop}(hg:o.guard=none) (h:Oper.wp Tryz.prog o a w K Q) :
 if Region.wanted o (yielded ops a.tmps)=true then Oper.wp Tryz.prog o a w K Q else E:=by
 have hw:Region.wanted o (yielded ops a.tmps)=true:=by simp [Region.wanted,hg]
 rw [if_pos hw];exact h
theorem ii {ops:Array Oper}{a:Act}{w:World}{K:Act→World→Prop}{Q:Exit→Act→World→Prop}{E:Prop}{d:Option Tmp}{x:Operand}{ty:TypeId}{ps:String}{af:Array Edge}
 (f:Int) (S:Nat→Bool) (hx:a.eval x=sL f S) (h:K (a.put d (.slice (some ⟨w.heap.size,0,none⟩) 1 1)) (w.alloc (.cells (ix f S).toArray 121))) :
 if Region.wanted (⟨d,.buildSlice 122 1 #[(0,x)],ty,ps,af,none⟩:Oper) (yielded ops a.tmps)=true then Oper.wp Tryz.prog ⟨d,.buildSlice 122 1 #[(0,x)],ty,ps,af,none⟩ a w K Q else E:=by
 refine jH rfl ?_;unfold Oper.wp execOp;simp only [List.map_toArray,List.map_cons,List.map_nil,hx,Sem.run_bind,mp,Result.andThen_ok,Sem.run_pure];exact h
theorem uz {ops:Array Oper}{a:Act}{w:World}{K:Act→World→Prop}{Q:Exit→Act→World→Prop}{E:Prop}{d:Option Tmp}{x y:Operand}{ty:TypeId}{ps:String}{af:Array Edge}
 (g:Int) (T:Nat→Bool) {b:Nat}(hx:a.eval x=.pointer (some ⟨b,0,none⟩)) (hy:a.eval y=sL g T) {f:Int}{S:Nat→Bool}(hc:dH w b f S) (h:∀ w',Hid (dH w' b g T)→Hid (aa [b] w w')→K (a.put d undef) w') :
 if Region.wanted (⟨d,.store 121 x y,ty,ps,af,none⟩:Oper) (yielded ops a.tmps)=true then Oper.wp Tryz.prog ⟨d,.store 121 x y,ty,ps,af,none⟩ a w K Q else E :=
 jH rfl (wp_store_mid _ x y rfl b 0 (ix g T).toArray hx hy (by simpa [eQ] using hc.there) ji (all_oneCell_toArray (lW g T)) (h _ hc.store (ee (by simp) _ _ (aa.refl _ _))))
theorem kb {ops:Array Oper}{a:Act}{w:World}{K:Act→World→Prop}{Q:Exit→Act→World→Prop}{E:Prop}{d:Option Tmp}{s x:Operand}{ty:TypeId}{ps:String}{af:Array Edge}
 (B:Nat) (v:Value) (L:List Ep) (y:Ep) (g:Nat) (hs:a.eval s=v) (hO:iy B w v L) (hx:a.eval x=.slice (some ⟨g,0,none⟩) 1 1) (hc:dH w g y.f (aK y.m)) (hlen:L.length≤1000000) (hB:B≤w.heap.size)
 (h:∀ g' n cap w',Hid (iy B w' (.slice (some ⟨g',0,none⟩) n cap) (L++[y]))→Hid (w.grownBy w' v.ownBlock)→K (a.put d (.slice (some ⟨g',0,none⟩) n cap)) w') :
 if Region.wanted (⟨d,.call { callee:=.builtin .append,args:=#[s,x],argTypes:=#[122,122] },ty,ps,af,none⟩:Oper) (yielded ops a.tmps)=true then Oper.wp Tryz.prog ⟨d,.call { callee:=.builtin .append,args:=#[s,x],argTypes:=#[122,122] },ty,ps,af,none⟩ a w K Q else E:=by
 obtain ⟨i0,hi,hz0,hz1,hz2⟩:=info_parts oY;refine step_append_lies w rfl s x 122 rfl B 121 i0 _ 16 24 Tryz.underlying122 hi hz0 hz1 hz2 rfl (by decide) v L.length (L.flatMap nW) hs hO ⟨g,0,none⟩ 1 1 (nW y) hx rfl ?_ (lW _ _) (by decide) (by unfold maxLen;omega) (by omega) hB _ rfl ?_
 ·intro j u hj;rw [dd];exact hc.range j u hj
 ·intro g' cap w' h2 h3 _ _;refine h g' _ cap w' ?_ h3;show iy _ _ _ _;unfold iy;rw [List.length_append,List.flatMap_append];simpa using h2
theorem rB {a:Act}{w:World}{d:Option Tmp}{x y:Operand}{ty:TypeId}{ps:String}{af:Array Edge}{f:Int}{S:Nat→Bool}(hx:a.eval x=.int .i64 f) (hy:a.eval y=eG S) :
 (execOp a.eval ⟨d,.build 121 #[(0,x),(1,y)],ty,ps,af,none⟩).run Tryz.prog w=.ok (.value (sL f S)) w:=by
 unfold execOp;simp only [List.map_toArray,List.map_cons,List.map_nil,hx,hy,Sem.run_bind,uJ,Result.andThen_ok,Sem.run_pure]
theorem g9.grown {B:Nat}{w w0 w':World}{p:Nat}{al:Int}{L M:List Ep}{u:Value}(h:g9 B w0 p al L) {v:Value}(hv:w0.heap[p]?=some (.cells #[.int .i64 al,v] 124 (0,0))) (hk:aa [] w0 w) (hR:iy B w' u M) (hg:w.grownBy w' v.ownBlock) (hr:iy B w0 v L) :
 g9 B (w'.setCell ⟨p,1,none⟩ u) p al M∧Tn B [124,121] w0 (w'.setCell ⟨p,1,none⟩ u):=by
 have hkr:aa v.ownBlock.toList w w':=(aa.refl _ _).grown hg fun k hk=>.inl (by simp [hk]);have hk1:aa v.ownBlock.toList w0 w':=(hk.mono (by simp)).trans hkr (fun i hi=>.inl hi)
 have hty:∀ k∈v.ownBlock.toList,B≤k∧∃ cur,w0.heap[k]?=some (.cells cur 121 (0,0)):=fun k hk=>by
  have hk':=aw.1 hk;exact ⟨(World.ownsRow.lt hr k hk').1,ar hr hk'⟩
 have hp:p ∉ v.ownBlock.toList:=fun hm=>by
  obtain ⟨_,cur,hh⟩:=hty p hm;rw [hv] at hh;cases hh
 have h1:w'.heap[p]?=some (.cells #[.int .i64 al,v] 124 (0,0)):=hk1.at hv hp;refine ⟨⟨u,h.ge,?_,?_⟩,⟨p :: v.ownBlock.toList,?_,?_,?_,?_⟩⟩
 ·have:=heap_setCell_same w' p 1 _ _ u h1
  simpa using this
 ·exact ((aa.refl [p] w').setCell (by simp) _).ownsRow hR fun k hk hm=>by
   simp at hm
   subst hm;obtain ⟨cur,hh⟩:=ar hR hk;rw [h1] at hh;cases hh
 ·exact (hk1.mono (fun i hi=>.inl (by simp [hi]))).setCell (by simp) _
 ·intro k hk;rcases List.mem_cons.1 hk with rfl | hk
  ·exact h.ge
  ·exact (hty k hk).1
 ·intro k hk cur t mk hh;rcases List.mem_cons.1 hk with rfl | hk
  ·rw [hv] at hh;cases hh;simp
  ·obtain ⟨_,cur',hh'⟩:=hty k hk;rw [hh'] at hh;cases hh;simp
 ·intro k hk _;rcases List.mem_cons.1 hk with rfl | hk
  ·exact ⟨_,_,_,hv⟩
  ·obtain ⟨_,cur',hh'⟩:=hty k hk;exact ⟨_,_,_,hh'⟩
theorem jx (B:Nat) (w:World) (p:Nat) (al:Int) (L:List Ep) (h:g9 B w p al L) (hn:L≠[]) :
 Calls Tryz.prog 84 #[.pointer (some ⟨p,0,none⟩)] w fun e w'=>e=.returned (.bool true)∧w=w':=by
 obtain ⟨g,cap,h1,h2,h3,h4⟩:=h.open hn;have c1:w.cell? ⟨p,1,none⟩=some (.slice (some ⟨g,0,none⟩) L.length cap):=ag (k:=1) h1 rfl;have hl:0 < (L.length:Int):=by have:=List.length_pos_iff.2 hn;omega
 clear h1 h2 h3 h4 h hn;generalize L.length=n at *;go_enter Tryz.func84,Tryz.ntmps84;go_wp2
 go_ret
 simp
 omega
theorem kx (w:World) (x:Int):Calls Tryz.prog 70 #[.int .i64 x] w fun e w'=>e=.returned (.bool (decide (1≤x∧x≤8)))∧w=w':=by
 by_cases h0:1≤x
 ·by_cases h1:x≤8
  ·have hd:decide (1≤x∧x≤8)=true:=by simp [h0,h1]
   rw [hd];clear hd;go_enter Tryz.func70,Tryz.ntmps70;go_wp2
   go_ret
   simp
  ·have hd:decide (1≤x∧x≤8)=false:=by simp [h1]
   rw [hd];clear hd;go_enter Tryz.func70,Tryz.ntmps70;go_wp2
   go_ret
   simp
 ·have hd:decide (1≤x∧x≤8)=false:=by simp [h0]
  rw [hd];clear hd;go_enter Tryz.func70,Tryz.ntmps70;go_wp2
  go_ret
  simp
theorem qR (W:World) (be bs p g n cap:Nat) (f z:Int) (hb:W.cell? ⟨be,0,none⟩=some (.pointer (some ⟨p,0,none⟩))) (hs:W.cell? ⟨bs,0,none⟩=some (.int .i64 z))
 (h1:W.cell? ⟨p,1,none⟩=some (.slice (some ⟨g,0,none⟩) n cap)) (i:Nat) (hi:i < n) (c0:W.cell? ⟨g,i*16,none⟩=some (.int .i64 f)) :
 Calls Tryz.prog 127 #[.int .i64 (i:Int),.pointer (some ⟨be,0,none⟩),.pointer (some ⟨bs,0,none⟩)] W fun e W'=>e=.returned (.bool (decide (z < f)))∧aa [] W W':=by
 have hi':(i:Int) < n:=by omega
 go_enter Tryz.func127,Tryz.ntmps127;go_wp2_with fail
 go_region
 all_goals go_wp2_with fail
 all_goals go_ret
 all_goals exact ⟨rfl,(aa.refl _ _).drew⟩
def EG (w:World) (n c:Nat) (iv jv:Value) (wr:World):Prop:=∃ i j:Nat,iv=.int .i64 (i:Int)∧jv=.int .i64 (j:Int)∧i≤c∧c≤j∧j≤n∧Hid (aa [] w wr)
theorem rz (w:World) (n c be bs:Nat) (hn:n≤1000000) (hcn:c≤n)
 (hf:∀ i,i < n→∀ W,aa [] w W→Calls Tryz.prog 127 #[.int .i64 (i:Int),.pointer (some ⟨be,0,none⟩),.pointer (some ⟨bs,0,none⟩)] W fun e W'=>e=.returned (.bool (decide (c≤i)))∧aa [] W W') :
 Calls Tryz.prog 126 #[.int .i64 (n:Int),.func (.func 127) #[] #[.pointer (some ⟨be,0,none⟩),.pointer (some ⟨bs,0,none⟩)]] w fun e w'=>e=.returned (.int .i64 (c:Int))∧aa [] w w':=by
 go_enter Tryz.func126,Tryz.ntmps126;go_wp2_with fail
 go_loopw [5,6] (fun iv jv wr=>EG w n c iv jv wr) (fun iv jv _=>(intOf jv).toNat - (intOf iv).toNat)
 case atStart=>exact ⟨0,n,rfl,rfl,Nat.zero_le _,hcn,Nat.le_refl _,aa.refl _ _⟩
 case round =>
  obtain ⟨i,j,rfl,rfl,hi,hj,hjn,HK⟩:=hrel;by_cases hlt:i < j
  ·have hlt':(i:Int) < j:=by omega
   obtain ⟨h,hh⟩:∃ h:Nat,((i:Int)+j) / 2=h:=⟨(i+j) / 2,by omega⟩;have c1:=hf h (by omega) wr HK.out;by_cases hc:c≤h
   ·have hd:decide (c≤h)=true:=by simpa using hc
    rw [hd] at c1;clear hd;(go_wp2_with (go_at_call 127;refine c1.mono ?_;rintro _ w2 ⟨rfl,hK2⟩));go_roundw
    case rel=>exact ⟨i,h,rfl,rfl,hi,hc,by omega,HK.out.trans hK2 (by simp)⟩
    case measure=>simp [intOf];omega
   ·have hd:decide (c≤h)=false:=by simpa using hc
    rw [hd] at c1;clear hd;(go_wp2_with (go_at_call 127;refine c1.mono ?_;rintro _ w2 ⟨rfl,hK2⟩));go_roundw
    case rel=>exact ⟨h+1,j,by go_num,rfl,by omega,hj,hjn,HK.out.trans hK2 (by simp)⟩
    case measure=>simp [intOf];omega
  ·have hlt':¬ (i:Int) < j:=by omega
   obtain rfl:i=c:=by omega
   (go_wp2_with fail);go_ret
   exact ⟨rfl,HK.out⟩
theorem lr (B:Nat) (w:World) (p:Nat) (al:Int) (L:List Ep) (h:g9 B w p al L) (hn:L≠[]) (hr:ki L) (hl:L.length≤1000000) (z:Int) :
 Calls Tryz.prog 85 #[.pointer (some ⟨p,0,none⟩),.int .i64 z] w fun e w'=>e=.returned (.int .i64 (im L z:Int))∧aa [] w w':=by
 obtain ⟨g,cap,h1,h2,h3,h4⟩:=h.open hn;obtain ⟨W0,hW0⟩:∃ W0,W0=(w.alloc (.cells #[.pointer (some ⟨p,0,none⟩)] 61)).alloc (.cells #[.int .i64 z] 3):=⟨_,rfl⟩;have hK0:aa [] w W0:=by rw [hW0];exact ((aa.refl _ _).alloc _).alloc _
 have a1:W0.cell? ⟨w.heap.size,0,none⟩=some (.pointer (some ⟨p,0,none⟩)):=by rw [hW0];exact ag (k:=0) ((Below.heap_alloc _ _ _ (by simp)).trans (heap_alloc_new w _)) rfl
 have a2:W0.cell? ⟨w.heap.size+1,0,none⟩=some (.int .i64 z):=by
  rw [hW0];have:=heap_alloc_new (w.alloc (.cells #[.pointer (some ⟨p,0,none⟩)] 61)) (.cells #[.int .i64 z] 3)
  rw [World.size_alloc] at this;exact ag (k:=0) this rfl
 have a3:W0.cell? ⟨p,1,none⟩=some (.slice (some ⟨g,0,none⟩) L.length cap):=ag (k:=1) (hK0.at h1 (by simp)) rfl
 have cS:=rz W0 L.length (fH L z) w.heap.size (w.heap.size+1) hl (mN L z) (fun i hi W hk=>by
  have:=qR W w.heap.size (w.heap.size+1) p g L.length cap L[i].f z (hk.cell a1 (by simp)) (hk.cell a2 (by simp)) (hk.cell a3 (by simp)) i hi (hk.cell (hK0.cell (iS (h4 i hi)) (by simp)) (by simp))
  rwa [show decide (z < L[i].f)=decide (fH L z≤i) by
   rw [decide_eq_decide];have:=lT hr z i hi
   omega] at this)
 have hcl:=mN L z;have HP:Hid (im L z=fH L z - 1):=rfl;have HK:=ah hK0;generalize im L z=q at *;generalize fH L z=c at *;clear h1 h2 h3 h4 h hn hr hK0;generalize L.length=n at *;go_enter Tryz.func85,Tryz.ntmps85;go_upto_region 1 with fail
 rw [← hW0];clear hW0;go_wp2_with (go_at_call 126;refine cS.mono ?_;clear cS;rintro _ w2 ⟨rfl,hK2⟩)
 go_ret
 have hp:q=c - 1:=HP.out;refine ⟨?_,HK.out.trans hK2 (by simp)⟩;simp
 omega
theorem iY (w:World) (x:Int):Calls Tryz.prog 114 #[.int .i64 x] w fun e w'=>e=.returned (.bool (decide (0≤x∧x < 15)))∧w=w':=by
 by_cases h0:0≤x
 ·by_cases h1:x < 15
  ·have hd:decide (0≤x∧x < 15)=true:=by simp [h0,h1]
   rw [hd];clear hd;go_enter Tryz.func114,Tryz.ntmps114;go_wp2
   go_ret
   simp
  ·have hd:decide (0≤x∧x < 15)=false:=by simp [h1]
   rw [hd];clear hd;go_enter Tryz.func114,Tryz.ntmps114;go_wp2
   go_ret
   simp
 ·have hd:decide (0≤x∧x < 15)=false:=by simp [h0]
  rw [hd];clear hd;go_enter Tryz.func114,Tryz.ntmps114;go_wp2
  go_ret
  simp
def pC (m:List Int) (z:Int):Prop:=m.Pairwise (· < ·)∧(∀ x∈m,0≤x∧x < 15∧x < z)∧0≤z∧z≤15∧(z=0∨z - 1∈m)
theorem zM:pC [] 0:=⟨List.Pairwise.nil,fun _ h=>by simp at h,by omega,by omega,.inl rfl⟩
theorem vV {m:List Int}{z y:Int}(h:pC m z) (h1:¬ y < z) (h2:y < 15):pC (m++[y]) (y+1):=by
 obtain ⟨a,b,c,d,e⟩:=h;refine ⟨?_,?_,by omega,by omega,.inr (by simp)⟩
 ·rw [List.pairwise_append];exact ⟨a,List.pairwise_singleton _ _,fun x hx y' hy=>by simp at hy;subst hy;have:=b x hx;omega⟩
 ·intro x hx;rcases List.mem_append.1 hx with hx | hx
  ·have:=b x hx;omega
  ·simp at hx;subst hx;omega
theorem za {m:List Int}{z:Int}(h:pC m z) (hm:m≠[]):ea m:=⟨hm,h.1,fun x hx=>⟨(h.2.1 x hx).1,(h.2.1 x hx).2.1⟩⟩
theorem yS {m:List Int}{z y:Int}{r:List Int}(h:pC m z) (h1:y < z):¬ ea (m++y :: r):=fun hm=>by
 obtain ⟨_,a,b⟩:=hm;rcases h.2.2.2.2 with e | e
 ·have:=b y (by simp);omega
 ·rw [List.pairwise_append] at a;have:=a.2.2 _ e y (by simp)
  omega
theorem wz (m:List Int) (q:Nat):cz (aK m) q true=aK (m++[(q:Int)]):=by
 funext k
 unfold cz aK;by_cases h:k=q
 ·subst h;simp
 ·have:¬ (k:Int)=q:=by omega
  simp [h,this]
theorem xv {m:List Int}{j:Nat}(h:j < m.length):m=m.take j++m[j] :: m.drop (j+1):=by
 rw [← List.drop_eq_getElem_cons h,List.take_append_drop]
def Ez (w:World) (m:List Int) (iv lv:Value) (wr:World):Prop :=
 ∃ j:Nat,iv=.int .i64 (j:Int)∧j≤m.length∧∃ z:Int,lv=.int .i64 z∧Hid (pC (m.take j) z)∧Hid (bh wr w.heap.size fun _=>false)∧Hid (bh wr (w.heap.size+1) (aK (m.take j)))∧Hid (aa [] w wr)
def ET (m:List Int) (w:World) (e:Ending) (w':World):Prop:=∃ S,e=.returned (.tuple #[eG S,.bool (decide (ea m))])∧(ea m→S=aK m)∧aa [] w w'
theorem nO (w:World) (ao:Option Addr) (n c:Nat) (m:List Int) (hS:mW w ao n c m) :
 Calls Tryz.prog 69 #[.slice ao n c] w fun e w'=>ET m w e w':=by
 have hl:=hS.1;have hc:=hS.2.1;have hm:=hS.2.2.1;unfold maxLen at hm;have HS:=ah hS;have HL:=ah hl;clear hS hl;go_enter Tryz.func69,Tryz.ntmps69;go_wp2_with fail
 go_loopw [10,5] (fun iv lv wr=>Ez w m iv lv wr) (fun iv _ _=>n - (intOf iv).toNat)
 case atStart=>exact ⟨0,rfl,Nat.zero_le _,0,rfl,by show pC _ _;rw [List.take_zero];exact zM,(lJ w _ _ _).1,(lJ w _ _ _).2,((aa.refl _ _).alloc _).alloc _⟩
 case round =>
  obtain ⟨j,rfl,hj,z,rfl,HR,H0,H1,HK⟩:=hrel;by_cases hlt:j < n
  ·have hlt':(j:Int) < n:=by omega
   have hjc:j≤c:=by omega
   have hjS:j < m.length:=by rw [HL.out];exact hlt
   obtain ⟨g,o,rfl,h0⟩:=(HS.out.kept HK.out).2.2.2 j hjS;have HT:Hid (m.take (j+1)=m.take j++[m[j]]):=List.take_succ_eq_append_getElem hjS;have HC:Hid (m=m.take j++m[j] :: m.drop (j+1)):=xv hjS;have cR:=iY wr m[j];generalize m[j]=y at *;by_cases hd:y < z
   ·have HM:Hid (decide (ea m)=false):=by
     show _=_;rw [HC.out];simpa using yS HR.out hd
    (go_wp2_with (((with_reducible refine bq (fun _=>false) ?_ ?_ H0.out ?_);rfl;rfl;intro w1 HS1 HK1)));refine bodyPost_ret (ed (by rfl) _ (by rfl) HS1.out) rfl ?_;exact ⟨_,by rw [HM.out];rfl,fun h=>absurd h (by simpa using HM.out),HK.out.trans HK1.out (by simp)⟩
   ·by_cases hr:0≤y∧y < 15
    ·have er:decide (0≤y∧y < 15)=true:=by simp [hr]
     rw [er] at cR;obtain ⟨q,rfl⟩:∃ q:Nat,y=q:=⟨y.toNat,by omega⟩;have hq:q < 15:=by omega
     have c1:=H1.out.cell hq;have f1:=aj H1.out q;have HR2:Hid (pC (m.take (j+1)) (q+1)):=by show pC _ _;rw [HT.out];exact vV HR.out hd hr.2
     (go_wp2_with (go_at_call 114;refine cR.mono ?_;clear cR;rintro _ _ ⟨rfl,rfl⟩));go_roundw
     case rel =>
      refine ⟨j+1,by go_num,hjS,q+1,by go_num,HR2,?_,?_,?_⟩
      ·exact H0.out.kept ((aa.refl [w.heap.size+1] _).setCell (by simp) _) (by simp)
      ·show bh _ _ _;rw [HT.out,← wz];exact H1.out.set true hq
      ·exact HK.out.setCell (.inr (by show w.heap.size≤w.heap.size+1;omega)) _
     case measure=>simp [intOf];omega
    ·have er:decide (0≤y∧y < 15)=false:=by simpa using hr
     rw [er] at cR
     have HM:Hid (decide (ea m)=false):=by
      show _=_;rw [decide_eq_false_iff_not];intro h;exact hr (h.2.2 y (by rw [HC.out];simp))
     (go_wp2_with (first | ((with_reducible refine bq (fun _=>false) ?_ ?_ H0.out ?_);rfl;rfl;intro w1 HS1 HK1) | (go_at_call 114;refine cR.mono ?_;clear cR;rintro _ _ ⟨rfl,rfl⟩)));refine bodyPost_ret (ed (by rfl) _ (by rfl) HS1.out) rfl ?_;exact ⟨_,by rw [HM.out];rfl,fun h=>absurd h (by simpa using HM.out),HK.out.trans HK1.out (by simp)⟩
  ·have hlt':¬ (j:Int) < n:=by omega
   have HE:Hid (m.take j=m):=List.take_of_length_le (by rw [HL.out];omega)
   have HM:Hid (decide (ea m)=decide (0 < n)):=by
    show _=_;rw [decide_eq_decide];refine ⟨fun h=>?_,fun h=>?_⟩
    ·rw [← HL.out];exact List.length_pos_iff.2 h.1
    ·have h1:=HR.out;rw [HE.out] at h1;exact za h1 (List.ne_nil_of_length_pos (by rw [HL.out];exact h))
   by_cases hn:0 < n
   ·have hn':0 < (n:Int):=by omega
    (go_wp2_with (first | ((with_reducible refine dB ?_ H1.out.range ?_);rfl) | ((with_reducible refine bq (aK (m.take j)) ?_ ?_ H0.out ?_);rfl;rfl;intro w1 HS1 HK1)));refine bodyPost_ret (ed (by rfl) _ (by rfl) HS1.out) rfl ?_;exact ⟨aK (m.take j),by rw [HM.out];simp [hn],fun _=>by rw [HE.out],HK.out.trans HK1.out (by simp)⟩
   ·have hn':¬ 0 < (n:Int):=by omega
    (go_wp2_with (first | ((with_reducible refine dB ?_ H1.out.range ?_);rfl) | ((with_reducible refine bq (aK (m.take j)) ?_ ?_ H0.out ?_);rfl;rfl;intro w1 HS1 HK1)));refine bodyPost_ret (ed (by rfl) _ (by rfl) HS1.out) rfl ?_;exact ⟨aK (m.take j),by rw [HM.out];simp [hn],fun _=>by rw [HE.out],HK.out.trans HK1.out (by simp)⟩
def EV (S:Nat→Bool) (q:Nat) (add:Bool) (w:World) (e:Ending) (w':World):Prop :=
 ∃ T,e=.returned (.tuple #[eG T,.int .i64 (eU S q add)])∧(eU S q add=0→T=cz S q add)∧aa [] w w'
theorem rX (w:World) (S:Nat→Bool) (q:Nat) (add:Bool) (hq:q < 15) :
 Calls Tryz.prog 195 #[eG S,.int .i64 (q:Int),.bool add] w fun e w'=>EV S q add w e w':=by
 have hq':(q:Int) < 15:=by omega
 unfold eG;go_enter Tryz.func195,Tryz.ntmps195;go_upto_region 1 with fail
 obtain ⟨W,hW⟩:∃ W,W=(w.alloc (.cells (bG S).toArray 116)).alloc (.cells #[.bool false,.bool false,.bool false,.bool false,.bool false,.bool false,.bool false,.bool false,.bool false,.bool false,.bool false,.bool false,.bool false,.bool false,.bool false] 116):=⟨_,rfl⟩;have hL:=lJ w (bG S).toArray (bG fun _=>false).toArray 116;have H0:Hid (bh W w.heap.size S):=by show bh _ _ _;rw [hW];exact hL.1
 have H1:Hid (bh W (w.heap.size+1) fun _=>false):=by show bh _ _ _;rw [hW];exact hL.2
 have HK:Hid (aa [] w W):=by show aa _ _ _;rw [hW];exact ((aa.refl _ _).alloc _).alloc _
 rw [← hW];clear hW hL;have c0:=H0.out.cell hq;have f0:=aj H0.out q;go_upto_region 3 with fail
 obtain ⟨W2,hW2⟩:∃ W2,W2=W.setCell ⟨w.heap.size,q,none⟩ (.bool add):=⟨_,rfl⟩;have G0:Hid (bh W2 w.heap.size (cz S q add)):=by show bh _ _ _;rw [hW2];exact H0.out.set add hq
 have G1:Hid (bh W2 (w.heap.size+1) fun _=>false):=by show bh _ _ _;rw [hW2];exact H1.out.kept ((aa.refl [w.heap.size] W).setCell (by simp) _) (by simp)
 have GK:Hid (aa [] w W2):=by show aa _ _ _;rw [hW2];exact HK.out.setCell (.inr (Nat.le_refl _)) _
 rw [← hW2];clear hW2 c0 f0 H0 H1 HK;cases hS:S q <;> cases add
 ·
  have HE:Hid (eU S q false=8):=by show _=_;simp [eU,hS]
  clear hS;(go_wp2_with ((with_reducible refine bq (fun _=>false) ?_ ?_ G1.out ?_);rfl;rfl;intro w1 HS1 HK1));refine bodyPost_ret (ed (by rfl) _ (by rfl) HS1.out) rfl ?_;exact ⟨_,by rw [HE.out];rfl,fun h=>absurd h (by rw [HE.out];decide),GK.out.trans HK1.out (by simp)⟩
 ·have HE:Hid (eU S q true=if bc (cz S q true)=[] then 1 else 0):=by show _=_;simp [eU,hS]
  clear hS;generalize hU:cz S q true=U at *;have HU:=ah hU;clear hU;by_cases hd:bc U=[]
  ·have HE2:Hid (eU S q true=1):=by show _=_;rw [HE.out,if_pos hd]
   have hd':decide (bc U=[])=true:=by simpa using hd
   clear hd;(go_wp2_with (first | ((with_reducible refine dB ?_ G0.out.range ?_);rfl) | ((with_reducible refine ig (S:=U) ?_ ?_ ?_);rfl;rfl;rw [hd']) | ((with_reducible refine bq (fun _=>false) ?_ ?_ G1.out ?_);rfl;rfl;intro w1 HS1 HK1)));refine bodyPost_ret (ed (by rfl) _ (by rfl) HS1.out) rfl ?_;exact ⟨_,by rw [HE2.out];rfl,fun h=>absurd h (by rw [HE2.out];decide),GK.out.trans HK1.out (by simp)⟩
  ·have HE2:Hid (eU S q true=0):=by show _=_;rw [HE.out,if_neg hd]
   have hd':decide (bc U=[])=false:=by simpa using hd
   clear hd;(go_wp2_with (first | ((with_reducible refine dB ?_ G0.out.range ?_);rfl) | ((with_reducible refine ig (S:=U) ?_ ?_ ?_);rfl;rfl;rw [hd']) | ((with_reducible refine bq U ?_ ?_ G1.out ?_);rfl;rfl;intro w1 HS1 HK1)));refine bodyPost_ret (ed (by rfl) _ (by rfl) HS1.out) rfl ?_;exact ⟨U,by rw [HE2.out];rfl,fun _=>HU.out.symm,GK.out.trans HK1.out (by simp)⟩
 ·have HE:Hid (eU S q false=if bc (cz S q false)=[] then 1 else 0):=by show _=_;simp [eU,hS]
  clear hS;generalize hU:cz S q false=U at *;have HU:=ah hU;clear hU;by_cases hd:bc U=[]
  ·have HE2:Hid (eU S q false=1):=by show _=_;rw [HE.out,if_pos hd]
   have hd':decide (bc U=[])=true:=by simpa using hd
   clear hd;(go_wp2_with (first | ((with_reducible refine dB ?_ G0.out.range ?_);rfl) | ((with_reducible refine ig (S:=U) ?_ ?_ ?_);rfl;rfl;rw [hd']) | ((with_reducible refine bq (fun _=>false) ?_ ?_ G1.out ?_);rfl;rfl;intro w1 HS1 HK1)));refine bodyPost_ret (ed (by rfl) _ (by rfl) HS1.out) rfl ?_;exact ⟨_,by rw [HE2.out];rfl,fun h=>absurd h (by rw [HE2.out];decide),GK.out.trans HK1.out (by simp)⟩
  ·have HE2:Hid (eU S q false=0):=by show _=_;rw [HE.out,if_neg hd]
   have hd':decide (bc U=[])=false:=by simpa using hd
   clear hd;(go_wp2_with (first | ((with_reducible refine dB ?_ G0.out.range ?_);rfl) | ((with_reducible refine ig (S:=U) ?_ ?_ ?_);rfl;rfl;rw [hd']) | ((with_reducible refine bq U ?_ ?_ G1.out ?_);rfl;rfl;intro w1 HS1 HK1)));refine bodyPost_ret (ed (by rfl) _ (by rfl) HS1.out) rfl ?_;exact ⟨U,by rw [HE2.out];rfl,fun _=>HU.out.symm,GK.out.trans HK1.out (by simp)⟩
 ·
  have HE:Hid (eU S q true=9):=by show _=_;simp [eU,hS]
  clear hS;(go_wp2_with ((with_reducible refine bq (fun _=>false) ?_ ?_ G1.out ?_);rfl;rfl;intro w1 HS1 HK1));refine bodyPost_ret (ed (by rfl) _ (by rfl) HS1.out) rfl ?_;exact ⟨_,by rw [HE.out];rfl,fun h=>absurd h (by rw [HE.out];decide),GK.out.trans HK1.out (by simp)⟩
end Go.Proofs.YtgpnlidnbldiiaaGreat
