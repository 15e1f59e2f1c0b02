/-
  Texts of this claim that are laid as one: EpSet, EpOps, EpMem, EpStep, EpPlace, EpOf.
-/
import Derived.Test.YtddhmfildfdbdaaGreatQ1r
import Derived.Test.YtddhmfildfdbdaaGreatQ2r
import Derived.Deep.MidRow
import Derived.Deep.WholeRow
import Derived.Laws.Rows
import Derived.Laws.ResultCell
import Derived.Deep.CutRange
import Derived.Great.Ranges
import Derived.ChangeKeysEq
import Derived.Laws.StructEq
import Derived.Deep.AppendLies
set_option maxHeartbeats 4000000
/-
 Sets of replicas in memory: fifteen cells of yes and no.
-/
namespace Go.Proofs.YtddhmfildfdbdaaGreat
open Go.RowKit
def setC (S:Nat→Bool):List Value:=[.bool (S 0),.bool (S 1),.bool (S 2),.bool (S 3),.bool (S 4),.bool (S 5),.bool (S 6),.bool (S 7),.bool (S 8),.bool (S 9),.bool (S 10),.bool (S 11),.bool (S 12),.bool (S 13),.bool (S 14)]
def setV (S:Nat→Bool):Value:=.agg (setC S).toArray
def spC (f:Int) (S:Nat→Bool):List Value:=.int .i64 f :: setC S
def spV (f:Int) (S:Nat→Bool):Value:=.agg (spC f S).toArray
theorem setC_len (S:Nat→Bool):(setC S).length=15:=rfl
theorem spC_len (f:Int) (S:Nat→Bool):(spC f S).length=16:=rfl
theorem setC_get (S:Nat→Bool) {k:Nat}(h:k < 15):(setC S)[k]?=some (.bool (S k)):=by
 have:k=0∨k=1∨k=2∨k=3∨k=4∨k=5∨k=6∨k=7∨k=8∨k=9∨k=10∨k=11∨k=12∨k=13∨k=14:=by omega
 rcases this with rfl | rfl | rfl | rfl | rfl | rfl | rfl | rfl | rfl | rfl | rfl | rfl | rfl | rfl | rfl <;> rfl
theorem setC_one (S:Nat→Bool):∀ v∈setC S,v.oneCell'=true:=by
 intro v hv
 obtain ⟨k,h,rfl⟩:=List.getElem_of_mem hv
 have h1:=setC_get S (k:=k) (by simpa [setC_len] using h)
 rw [List.getElem?_eq_getElem h] at h1
 rw [Option.some.inj h1]
 rfl
theorem spC_one (f:Int) (S:Nat→Bool):∀ v∈spC f S,v.oneCell'=true:=by
 intro v hv
 rcases List.mem_cons.1 hv with rfl | hv
 ·rfl
 ·exact setC_one S v hv
def SetAt (w:World) (b:Nat) (S:Nat→Bool):Prop:=w.heap[b]?=some (.cells (setC S).toArray 94 (0,0))
theorem SetAt.cell {w:World}{b:Nat}{S:Nat→Bool}(h:SetAt w b S) {k:Nat}(hk:k < 15):w.cell? ⟨b,k,none⟩=some (.bool (S k)) :=
 cell_inC h (by simpa using setC_get S hk)
theorem SetAt.range {w:World}{b:Nat}{S:Nat→Bool}(h:SetAt w b S):w.rangeAt b 0 (setC S):=fun j v hv=>by
 rw [Nat.zero_add]
 exact cell_inC h (by simpa using hv)
theorem SetAt.there {w:World}{b:Nat}{S:Nat→Bool}(h:SetAt w b S):w.there b 0 15:=fun j hj=>by
 rw [Nat.zero_add]
 exact ⟨by rw [h.cell hj];rfl,froz3 h j⟩
theorem SetAt.set {w:World}{b:Nat}{S:Nat→Bool}(h:SetAt w b S) {q:Nat}(v:Bool) (hq:q < 15):SetAt (w.setCell ⟨b,q,none⟩ (.bool v)) b (updB S q v):=by
 unfold SetAt
 rw [heap_setCell_same _ _ q _ _ _ h]
 congr 2
 apply Array.ext_getElem?
 intro i
 rw [Array.getElem?_setIfInBounds]
 by_cases hi:i < 15
 ·have h1:(setC (updB S q v)).toArray[i]?=some (.bool (updB S q v i)):=by simpa using setC_get _ hi
  have h2:(setC S).toArray[i]?=some (.bool (S i)):=by simpa using setC_get S hi
  rw [h1,h2]
  unfold updB
  by_cases e:q=i
  ·subst e;simp [setC_len,hq]
  ·have e':¬ i=q:=fun h=>e h.symm
   simp [e,e']
 ·have h1:(setC (updB S q v)).toArray[i]?=none:=by simp [setC_len];omega
  have h2:(setC S).toArray[i]?=none:=by simp [setC_len];omega
  rw [h1,h2]
  by_cases e:q=i
  ·omega
  ·simp [e]
theorem SetAt.kept {S':List Nat}{a w:World}{b:Nat}{S:Nat→Bool}(h:SetAt a b S) (k:Kept S' a w) (hb:b ∉ S'):SetAt w b S:=k.at h hb
theorem SetAt.store {w:World}{b:Nat}{S:Nat→Bool}(h:SetAt w b S) (T:Nat→Bool):SetAt (w.setCells b 0 (setC T)) b T:=by
 have h1:=setCells_row b (setC T) [] (setC S) [] w _ (by simpa [SetAt] using h) rfl
 simpa [SetAt] using h1
theorem size_set:(Tryz.prog.info? 94).map (·.size)=some 15:=by kernel_rfl
theorem size_span:(Tryz.prog.info? 99).map (·.size)=some 16:=by kernel_rfl
theorem load_setm {w:World}{b o:Nat}{S:Nat→Bool}(h:w.rangeAt b o (setC S)):(Instr.loadAt 94 (.pointer (some ⟨b,o,none⟩))).run Tryz.prog w=.ok (setV S) w :=
 run_loadAt_mid w b o _ (setC S) _ h Tryz.underlying94 rfl size_set
theorem load_span {w:World}{b o:Nat}{f:Int}{S:Nat→Bool}(h:w.rangeAt b o (spC f S)):(Instr.loadAt 99 (.pointer (some ⟨b,o,none⟩))).run Tryz.prog w=.ok (spV f S) w :=
 run_loadAt_mid w b o _ (spC f S) _ h Tryz.underlying99 rfl size_span
theorem wl_load_set {ops:Array Oper}{rest:List Oper}{a:Act}{w:World}{Q:Exit→Act→World→Prop}{d:Option Tmp}{x:Operand}{ty:TypeId}{ps:String}{af:Array Edge}
 {b o:Nat}{S:Nat→Bool}(hx:a.eval x=.pointer (some ⟨b,o,none⟩)) (hc:w.rangeAt b o (setC S)) (h:wpList Tryz.prog ops Q rest (a.put d (setV S)) w):wpList Tryz.prog ops Q (⟨d,.load 94 x,ty,ps,af,none⟩ :: rest) a w :=
 wpList_load_mid rfl _ x rfl b o hx (setC S) _ hc Tryz.underlying94 rfl size_set h
theorem wl_store_set {ops:Array Oper}{rest:List Oper}{a:Act}{w:World}{Q:Exit→Act→World→Prop}{d:Option Tmp}{x y:Operand}{ty:TypeId}{ps:String}{af:Array Edge}
 (T:Nat→Bool) {b:Nat}(hx:a.eval x=.pointer (some ⟨b,0,none⟩)) (hy:a.eval y=setV T) {S:Nat→Bool}(hc:SetAt w b S) (h:∀ w',Hid (SetAt w' b T)→Hid (Kept [b] w w')→wpList Tryz.prog ops Q rest (a.put d undef) w'):wpList Tryz.prog ops Q (⟨d,.store 94 x y,ty,ps,af,none⟩ :: rest) a w :=
 wpList_store_mid rfl _ x y rfl b 0 (setC T).toArray hx hy (by simpa [setC_len] using hc.there) size_set (all_oneCell_toArray (setC_one T)) (h _ (hc.store T) (setCells_kept (by simp) _ _ (Kept.refl _ _)))
def SpAt (w:World) (b:Nat) (f:Int) (S:Nat→Bool):Prop:=w.heap[b]?=some (.cells (spC f S).toArray 99 (0,0))
theorem SpAt.range {w:World}{b:Nat}{f:Int}{S:Nat→Bool}(h:SpAt w b f S):w.rangeAt b 0 (spC f S):=fun j v hv=>by
 rw [Nat.zero_add]
 exact cell_inC h (by simpa using hv)
theorem spC_set {w:World}{b o:Nat}{f:Int}{S:Nat→Bool}(h:w.rangeAt b o (spC f S)):w.rangeAt b (o+1) (setC S):=fun j v hv=>by
 have:=h (j+1) v (by simpa [spC] using hv)
 rwa [show o+(j+1)=o+1+j by omega] at this
theorem spC_from {w:World}{b o:Nat}{f:Int}{S:Nat→Bool}(h:w.rangeAt b o (spC f S)):w.cell? ⟨b,o,none⟩=some (.int .i64 f):=h 0 _ rfl
theorem SpAt.there {w:World}{b:Nat}{f:Int}{S:Nat→Bool}(h:SpAt w b f S):w.there b 0 16:=fun j hj=>by
 obtain ⟨v,hv⟩:∃ v,(spC f S)[j]?=some v:=⟨_,List.getElem?_eq_getElem (by rw [spC_len];exact hj)⟩
 rw [Nat.zero_add]
 exact ⟨by rw [show w.cell? ⟨b,j,none⟩=some v from cell_inC h (by simpa using hv)];rfl,froz3 h j⟩
theorem SpAt.store {w:World}{b:Nat}{f g:Int}{S T:Nat→Bool}(h:SpAt w b f S):SpAt (w.setCells b 0 (spC g T)) b g T:=by
 have h1:=setCells_row b (spC g T) [] (spC f S) [] w _ (by simpa [SpAt] using h) rfl
 simpa [SpAt] using h1
theorem set_res2 {w:World}{g:Nat}{S:Nat→Bool}{fn:Func}{p u:Tmp}(hr:fn.results=#[.cell p 94,.tmp u]) (tmps:Array Value) (hp:tmps.getD p undef=.pointer (some ⟨g,0,none⟩)) (hg:SetAt w g S) :
 (results fn tmps).run Tryz.prog w=.ok (.tuple #[setV S,tmps.getD u undef]) w:=by
 have hp':tmps[p]?.getD undef=.pointer (some ⟨g,0,none⟩):=by simpa using hp
 rw [results_cell_tmp hr]
 simp [hp',asAddr,run_loadVar_row w g _ 94 _ _ _ hg Tryz.underlying94 rfl size_set,setV]
theorem build_span (w:World) (f:Int) (S:Nat→Bool):(Instr.build 99 #[(0,.int .i64 f),(1,setV S)]).run Tryz.prog w=.ok (spV f S) w:=by kernel_rfl
theorem build_span0 (w:World) (S:Nat→Bool):(Instr.build 99 #[(1,setV S)]).run Tryz.prog w=.ok (spV 0 S) w:=by kernel_rfl
theorem slice_span (w:World) (f:Int) (S:Nat→Bool):(Instr.buildSlice 100 1 #[(0,spV f S)]).run Tryz.prog w=.ok (.slice (some ⟨w.heap.size,0,none⟩) 1 1) (w.alloc (.cells (spC f S).toArray 99)):=by kernel_rfl
theorem part_set (w:World) (S:Nat→Bool) {i:Nat}(h:i < 15):(part 4 (setC S).toArray i).run Tryz.prog w=.ok (.bool (S i)) w:=by
 simp [part,Sem.run_bind,setC_get S h]
theorem index_set (w:World) (S:Nat→Bool) {i:Nat}(hi:i < 15):(Instr.index 94 (setV S) (.int .i64 (i:Int))).run Tryz.prog w=.ok (.bool (S i)) w:=by
 unfold setV
 have h2:(0:Int)≤(i:Int)∧(i:Int) < ((15:Nat):Int):=by omega
 have h3:(sizeOf 4).run Tryz.prog w=.ok 1 w:=by kernel_rfl
 simp only [Instr.index,asIntOf,Sem.run_bind,Sem.run_pure,Result.andThen_ok,run_underlying Tryz.underlying94 w]
 rw [if_pos h2]
 simp only [Sem.run_bind,h3,Result.andThen_ok,Nat.mul_one,Int.toNat_natCast]
 exact part_set w S hi
def epC (x:Ep):List Value:=spC x.f (setB x.m)
theorem epC_len (L:List Ep):(L.flatMap epC).length=L.length*16:=by
 induction L with
 | nil=>rfl
 | cons x L ih=>rw [List.flatMap_cons,List.length_append,ih,List.length_cons];simp only [epC,spC_len];omega
theorem epC_get (L:List Ep) (i:Nat) (h:i < L.length) (j:Nat) (hj:j < 16):(L.flatMap epC)[i*16+j]?=(epC L[i])[j]?:=by
 induction L generalizing i with
 | nil=>simp at h
 | cons x L ih =>
   rw [List.flatMap_cons]
   cases i with
   | zero=>rw [List.getElem?_append_left (by simp only [epC,spC_len];omega)];simp
   | succ i =>
     rw [List.getElem?_append_right (by simp only [epC,spC_len];omega)]
     simp only [epC,spC_len,List.getElem_cons_succ]
     rw [show (i+1)*16+j - 16=i*16+j by omega]
     exact ih i (by simpa using h)
theorem epC_one (L:List Ep):∀ u∈L.flatMap epC,u.oneCell'=true:=by
 intro u hu
 obtain ⟨x,_,hx⟩:=List.mem_flatMap.1 hu
 exact spC_one _ _ u hx
def RowE (B:Nat) (w:World) (v:Value) (L:List Ep):Prop:=w.ownsRow B 99 16 v L.length (L.flatMap epC)
theorem RowE.slice {B:Nat}{w:World}{v:Value}{L:List Ep}(h:RowE B w v L) (hn:L≠[]) :
 ∃ g cap,v=.slice (some ⟨g,0,none⟩) L.length cap∧B≤g∧L.length≤cap∧cap≤maxLen∧∀ i (hi:i < L.length),w.rangeAt g (i*16) (epC L[i]):=by
 have h':=h
 obtain ⟨h1,h2⟩:=h
 rcases h2 with ⟨hv,h0⟩ | ⟨g,cap,cur,hv,hg,hh,h3,h4,h5,h6⟩
 ·exact absurd (List.eq_nil_of_length_eq_zero h0) hn
 ·refine ⟨g,cap,hv,hg,h3,h4,fun i hi j u hj=>?_⟩
  unfold RowE at h'
  rw [hv] at h'
  have hj':j < 16:=by have:=(List.getElem?_eq_some_iff.1 hj).1;simpa [epC,spC_len] using this
  rw [World.ownsRow.cellAt h' (i*16+j) (by omega),epC_get L i hi j hj',hj]
def EpA (B:Nat) (w:World) (p:Nat) (al:Int) (L:List Ep):Prop :=
 ∃ v,B≤p∧w.heap[p]?=some (.cells #[.int .i64 al,v] 102 (0,0))∧RowE B w v L
def AllC (w:World) (S:List Nat):Prop:=∀ k∈S,k < w.heap.size→∃ cur t mk,w.heap[k]?=some (.cells cur t mk)
def Tn (B:Nat) (Ts:List TypeId) (w w':World):Prop:=∃ S,Kept S w w'∧(∀ k∈S,B≤k)∧Typed w S Ts∧AllC w S
theorem Tn.kept {B:Nat}{Ts:List TypeId}{w w':World}(h:Kept [] w w'):Tn B Ts w w':=⟨[],h,by simp,typed_nil _ _,fun _ h=>by cases h⟩
theorem Tn.low {a w w':World}{B:Nat}{Ts:List TypeId}(k:Kept [] a w) (h:Tn B Ts w w') (hB:a.heap.size≤B):Kept [] a w':=by
 obtain ⟨S,h1,h2,_⟩:=h
 exact k.trans h1 fun i hi=>.inr (Nat.le_trans hB (h2 i hi))
theorem EpA.kept {B:Nat}{w w':World}{p:Nat}{al:Int}{L:List Ep}(h:EpA B w p al L) (k:Kept [] w w'):EpA B w' p al L:=by
 obtain ⟨v,h1,h2,h3⟩:=h
 exact ⟨v,h1,k.at h2 (by simp),k.ownsRow h3 (by simp)⟩
theorem EpA.open {B:Nat}{w:World}{p:Nat}{al:Int}{L:List Ep}(h:EpA B w p al L) (hn:L≠[]) :
 ∃ g cap,w.heap[p]?=some (.cells #[.int .i64 al,.slice (some ⟨g,0,none⟩) L.length cap] 102 (0,0))∧L.length≤cap∧cap≤maxLen∧∀ i (hi:i < L.length),w.rangeAt g (i*16) (epC L[i]):=by
 obtain ⟨v,_,h2,h3⟩:=h
 obtain ⟨g,cap,rfl,_,h5,h6,h7⟩:=h3.slice hn
 exact ⟨g,cap,h2,h5,h6,h7⟩
theorem EpA.ge {B:Nat}{w:World}{p:Nat}{al:Int}{L:List Ep}(h:EpA B w p al L):B≤p:=by
 obtain ⟨v,h1,_⟩:=h
 exact h1
theorem info_span:(Tryz.prog.info? 99).map (fun i=>(i.zero,i.size,i.bytes))=some (some (spV 0 fun _=>false),16,24):=by kernel_rfl
theorem step_plain {ops:Array Oper}{o:Oper}{a:Act}{w:World}{K:Act→World→Prop}{Q:Exit→Act→World→Prop}{E:Prop}(hg:o.guard=none) (h:Oper.wp Tryz.prog o a w K Q) :
 if Region.wanted o (yielded ops a.tmps)=true then Oper.wp Tryz.prog o a w K Q else E:=by
 have hw:Region.wanted o (yielded ops a.tmps)=true:=by simp [Region.wanted,hg]
 rw [if_pos hw]
 exact h
set_option maxRecDepth 100000 in
theorem step_slice {ops:Array Oper}{a:Act}{w:World}{K:Act→World→Prop}{Q:Exit→Act→World→Prop}{E:Prop}{d:Option Tmp}{x:Operand}{ty:TypeId}{ps:String}{af:Array Edge}
 (f:Int) (S:Nat→Bool) (hx:a.eval x=spV f S) (h:K (a.put d (.slice (some ⟨w.heap.size,0,none⟩) 1 1)) (w.alloc (.cells (spC f S).toArray 99))) :
 if Region.wanted (⟨d,.buildSlice 100 1 #[(0,x)],ty,ps,af,none⟩:Oper) (yielded ops a.tmps)=true then Oper.wp Tryz.prog ⟨d,.buildSlice 100 1 #[(0,x)],ty,ps,af,none⟩ a w K Q else E:=by
 refine step_plain rfl ?_
 unfold Oper.wp execOp
 simp only [List.map_toArray,List.map_cons,List.map_nil,hx,Sem.run_bind,slice_span,Result.andThen_ok,Sem.run_pure]
 exact h
set_option maxRecDepth 100000 in
theorem step_app {ops:Array Oper}{a:Act}{w:World}{K:Act→World→Prop}{Q:Exit→Act→World→Prop}{E:Prop}{d:Option Tmp}{s x:Operand}{ty:TypeId}{ps:String}{af:Array Edge}
 (B:Nat) (v:Value) (L:List Ep) (y:Ep) (g:Nat) (hs:a.eval s=v) (hO:RowE B w v L) (hx:a.eval x=.slice (some ⟨g,0,none⟩) 1 1) (hc:SpAt w g y.f (setB y.m)) (hlen:L.length≤1000000) (hB:B≤w.heap.size)
 (h:∀ g' n cap w',Hid (RowE B w' (.slice (some ⟨g',0,none⟩) n cap) (L++[y]))→Hid (w.grownBy w' v.ownBlock)→K (a.put d (.slice (some ⟨g',0,none⟩) n cap)) w') :
 if Region.wanted (⟨d,.call { callee:=.builtin .append,args:=#[s,x],argTypes:=#[100,100] },ty,ps,af,none⟩:Oper) (yielded ops a.tmps)=true then Oper.wp Tryz.prog ⟨d,.call { callee:=.builtin .append,args:=#[s,x],argTypes:=#[100,100] },ty,ps,af,none⟩ a w K Q else E:=by
 obtain ⟨i0,hi,hz0,hz1,hz2⟩:=info_parts info_span
 refine step_append_lies w rfl s x 100 rfl B 99 i0 _ 16 24 Tryz.underlying100 hi hz0 hz1 hz2 rfl (by decide) v L.length (L.flatMap epC) hs hO ⟨g,0,none⟩ 1 1 (epC y) hx rfl ?_ (spC_one _ _) (by decide) (by unfold maxLen;omega) (by omega) hB _ rfl ?_
 ·intro j u hj
  rw [adr_addC]
  exact hc.range j u hj
 ·intro g' cap w' h2 h3 _ _
  refine h g' _ cap w' ?_ h3
  show RowE _ _ _ _
  unfold RowE
  rw [List.length_append,List.flatMap_append]
  simpa using h2
theorem ex_build {a:Act}{w:World}{d:Option Tmp}{x y:Operand}{ty:TypeId}{ps:String}{af:Array Edge}{f:Int}{S:Nat→Bool}(hx:a.eval x=.int .i64 f) (hy:a.eval y=setV S) :
 (execOp a.eval ⟨d,.build 99 #[(0,x),(1,y)],ty,ps,af,none⟩).run Tryz.prog w=.ok (.value (spV f S)) w:=by
 unfold execOp
 simp only [List.map_toArray,List.map_cons,List.map_nil,hx,hy,Sem.run_bind,build_span,Result.andThen_ok,Sem.run_pure]
theorem EpA.grown {B:Nat}{w w0 w':World}{p:Nat}{al:Int}{L M:List Ep}{u:Value}(h:EpA B w0 p al L) {v:Value}(hv:w0.heap[p]?=some (.cells #[.int .i64 al,v] 102 (0,0))) (hk:Kept [] w0 w) (hR:RowE B w' u M) (hg:w.grownBy w' v.ownBlock) (hr:RowE B w0 v L) :
 EpA B (w'.setCell ⟨p,1,none⟩ u) p al M∧Tn B [102,99] w0 (w'.setCell ⟨p,1,none⟩ u):=by
 have hkr:Kept v.ownBlock.toList w w':=(Kept.refl _ _).grown hg fun k hk=>.inl (by simp [hk])
 have hk1:Kept v.ownBlock.toList w0 w':=(hk.mono (by simp)).trans hkr (fun i hi=>.inl hi)
 have hty:∀ k∈v.ownBlock.toList,B≤k∧∃ cur,w0.heap[k]?=some (.cells cur 99 (0,0)):=fun k hk=>by
  have hk':=mem_own.1 hk
  exact ⟨(World.ownsRow.lt hr k hk').1,row_block hr hk'⟩
 have hp:p ∉ v.ownBlock.toList:=fun hm=>by
  obtain ⟨_,cur,hh⟩:=hty p hm
  rw [hv] at hh
  cases hh
 have h1:w'.heap[p]?=some (.cells #[.int .i64 al,v] 102 (0,0)):=hk1.at hv hp
 refine ⟨⟨u,h.ge,?_,?_⟩,⟨p :: v.ownBlock.toList,?_,?_,?_,?_⟩⟩
 ·have:=heap_setCell_same w' p 1 _ _ u h1
  simpa using this
 ·exact ((Kept.refl [p] w').setCell (by simp) _).ownsRow hR fun k hk hm=>by
   simp at hm
   subst hm
   obtain ⟨cur,hh⟩:=row_block hR hk
   rw [h1] at hh
   cases hh
 ·exact (hk1.mono (fun i hi=>.inl (by simp [hi]))).setCell (by simp) _
 ·intro k hk
  rcases List.mem_cons.1 hk with rfl | hk
  ·exact h.ge
  ·exact (hty k hk).1
 ·intro k hk cur t mk hh
  rcases List.mem_cons.1 hk with rfl | hk
  ·rw [hv] at hh;cases hh;simp
  ·obtain ⟨_,cur',hh'⟩:=hty k hk
   rw [hh'] at hh;cases hh;simp
 ·intro k hk _
  rcases List.mem_cons.1 hk with rfl | hk
  ·exact ⟨_,_,_,hv⟩
  ·obtain ⟨_,cur',hh'⟩:=hty k hk
   exact ⟨_,_,_,hh'⟩
theorem madeE_call (B:Nat) (w:World) (p:Nat) (al:Int) (L:List Ep) (h:EpA B w p al L) (hn:L≠[]) :
 Calls Tryz.prog 87 #[.pointer (some ⟨p,0,none⟩)] w fun e w'=>e=.returned (.bool true)∧w=w':=by
 obtain ⟨g,cap,h1,h2,h3,h4⟩:=h.open hn
 have c1:w.cell? ⟨p,1,none⟩=some (.slice (some ⟨g,0,none⟩) L.length cap):=cell_inC (k:=1) h1 rfl
 have hl:0 < (L.length:Int):=by have:=List.length_pos_iff.2 hn;omega
 clear h1 h2 h3 h4 h hn
 generalize L.length=n at *
 go_enter Tryz.func87,Tryz.ntmps87
 go_wp2
 go_ret
 simp
 omega
theorem isAlpha_call (w:World) (x:Int):Calls Tryz.prog 47 #[.int .i64 x] w fun e w'=>e=.returned (.bool (decide (1≤x∧x≤8)))∧w=w':=by
 by_cases h0:1≤x
 ·by_cases h1:x≤8
  ·have hd:decide (1≤x∧x≤8)=true:=by simp [h0,h1]
   rw [hd];clear hd
   go_enter Tryz.func47,Tryz.ntmps47
   go_wp2
   go_ret
   simp
  ·have hd:decide (1≤x∧x≤8)=false:=by simp [h1]
   rw [hd];clear hd
   go_enter Tryz.func47,Tryz.ntmps47
   go_wp2
   go_ret
   simp
 ·have hd:decide (1≤x∧x≤8)=false:=by simp [h0]
  rw [hd];clear hd
  go_enter Tryz.func47,Tryz.ntmps47
  go_wp2
  go_ret
  simp
set_option maxRecDepth 100000 in
theorem place1_call (W:World) (be bs p g n cap:Nat) (f z:Int) (hb:W.cell? ⟨be,0,none⟩=some (.pointer (some ⟨p,0,none⟩))) (hs:W.cell? ⟨bs,0,none⟩=some (.int .i64 z))
 (h1:W.cell? ⟨p,1,none⟩=some (.slice (some ⟨g,0,none⟩) n cap)) (i:Nat) (hi:i < n) (c0:W.cell? ⟨g,i*16,none⟩=some (.int .i64 f)) :
 Calls Tryz.prog 123 #[.int .i64 (i:Int),.pointer (some ⟨be,0,none⟩),.pointer (some ⟨bs,0,none⟩)] W fun e W'=>e=.returned (.bool (decide (z < f)))∧Kept [] W W':=by
 have hi':(i:Int) < n:=by omega
 go_enter Tryz.func123,Tryz.ntmps123
 go_wp2_with fail
 go_region
 all_goals go_wp2_with fail
 all_goals go_ret
 all_goals exact ⟨rfl,(Kept.refl _ _).drew⟩
def SeI (w:World) (n c:Nat) (iv jv:Value) (wr:World):Prop:=∃ i j:Nat,iv=.int .i64 (i:Int)∧jv=.int .i64 (j:Int)∧i≤c∧c≤j∧j≤n∧Hid (Kept [] w wr)
set_option maxRecDepth 100000 in
theorem search_call (w:World) (n c be bs:Nat) (hn:n≤1000000) (hcn:c≤n)
 (hf:∀ i,i < n→∀ W,Kept [] w W→Calls Tryz.prog 123 #[.int .i64 (i:Int),.pointer (some ⟨be,0,none⟩),.pointer (some ⟨bs,0,none⟩)] W fun e W'=>e=.returned (.bool (decide (c≤i)))∧Kept [] W W') :
 Calls Tryz.prog 122 #[.int .i64 (n:Int),.func (.func 123) #[] #[.pointer (some ⟨be,0,none⟩),.pointer (some ⟨bs,0,none⟩)]] w fun e w'=>e=.returned (.int .i64 (c:Int))∧Kept [] w w':=by
 go_enter Tryz.func122,Tryz.ntmps122
 go_wp2_with fail
 go_loopw [5,6] (fun iv jv wr=>SeI w n c iv jv wr) (fun iv jv _=>(intOf jv).toNat - (intOf iv).toNat)
 case atStart=>exact ⟨0,n,rfl,rfl,Nat.zero_le _,hcn,Nat.le_refl _,Kept.refl _ _⟩
 case round =>
  obtain ⟨i,j,rfl,rfl,hi,hj,hjn,HK⟩:=hrel
  by_cases hlt:i < j
  ·have hlt':(i:Int) < j:=by omega
   obtain ⟨h,hh⟩:∃ h:Nat,((i:Int)+j) / 2=h:=⟨(i+j) / 2,by omega⟩
   have c1:=hf h (by omega) wr HK.out
   by_cases hc:c≤h
   ·have hd:decide (c≤h)=true:=by simpa using hc
    rw [hd] at c1
    clear hd
    go_wp2_with (go_at_call 123;refine c1.mono ?_;rintro _ w2 ⟨rfl,hK2⟩)
    go_roundw
    case rel=>exact ⟨i,h,rfl,rfl,hi,hc,by omega,HK.out.trans hK2 (by simp)⟩
    case measure=>simp [intOf];omega
   ·have hd:decide (c≤h)=false:=by simpa using hc
    rw [hd] at c1
    clear hd
    go_wp2_with (go_at_call 123;refine c1.mono ?_;rintro _ w2 ⟨rfl,hK2⟩)
    go_roundw
    case rel=>exact ⟨h+1,j,by go_num,rfl,by omega,hj,hjn,HK.out.trans hK2 (by simp)⟩
    case measure=>simp [intOf];omega
  ·have hlt':¬ (i:Int) < j:=by omega
   obtain rfl:i=c:=by omega
   go_wp2_with fail
   go_ret
   exact ⟨rfl,HK.out⟩
set_option maxRecDepth 100000 in
theorem placeE_call (B:Nat) (w:World) (p:Nat) (al:Int) (L:List Ep) (h:EpA B w p al L) (hn:L≠[]) (hr:RiseL L) (hl:L.length≤1000000) (z:Int) :
 Calls Tryz.prog 88 #[.pointer (some ⟨p,0,none⟩),.int .i64 z] w fun e w'=>e=.returned (.int .i64 (plc L z:Int))∧Kept [] w w':=by
 obtain ⟨g,cap,h1,h2,h3,h4⟩:=h.open hn
 obtain ⟨W0,hW0⟩:∃ W0,W0=(w.alloc (.cells #[.pointer (some ⟨p,0,none⟩)] 40)).alloc (.cells #[.int .i64 z] 3):=⟨_,rfl⟩
 have hK0:Kept [] w W0:=by rw [hW0];exact ((Kept.refl _ _).alloc _).alloc _
 have a1:W0.cell? ⟨w.heap.size,0,none⟩=some (.pointer (some ⟨p,0,none⟩)):=by rw [hW0];exact cell_inC (k:=0) ((Below.heap_alloc _ _ _ (by simp)).trans (heap_alloc_new w _)) rfl
 have a2:W0.cell? ⟨w.heap.size+1,0,none⟩=some (.int .i64 z):=by
  rw [hW0]
  have:=heap_alloc_new (w.alloc (.cells #[.pointer (some ⟨p,0,none⟩)] 40)) (.cells #[.int .i64 z] 3)
  rw [World.size_alloc] at this
  exact cell_inC (k:=0) this rfl
 have a3:W0.cell? ⟨p,1,none⟩=some (.slice (some ⟨g,0,none⟩) L.length cap):=cell_inC (k:=1) (hK0.at h1 (by simp)) rfl
 have cS:=search_call W0 L.length (cntL L z) w.heap.size (w.heap.size+1) hl (cnt_le L z) (fun i hi W hk=>by
  have:=place1_call W w.heap.size (w.heap.size+1) p g L.length cap L[i].f z (hk.cell a1 (by simp)) (hk.cell a2 (by simp)) (hk.cell a3 (by simp)) i hi (hk.cell (hK0.cell (spC_from (h4 i hi)) (by simp)) (by simp))
  rwa [show decide (z < L[i].f)=decide (cntL L z≤i) by
   rw [decide_eq_decide]
   have:=cnt_iff hr z i hi
   omega] at this)
 have hcl:=cnt_le L z
 have HP:Hid (plc L z=cntL L z - 1):=rfl
 have HK:=hide hK0
 generalize plc L z=q at *
 generalize cntL L z=c at *
 clear h1 h2 h3 h4 h hn hr hK0
 generalize L.length=n at *
 go_enter Tryz.func88,Tryz.ntmps88
 go_upto_region 1 with fail
 rw [← hW0]
 clear hW0
 go_wp2_with (go_at_call 122;refine cS.mono ?_;clear cS;rintro _ w2 ⟨rfl,hK2⟩)
 go_ret
 have hp:q=c - 1:=HP.out
 refine ⟨?_,HK.out.trans hK2 (by simp)⟩
 simp
 omega
theorem isReplica_call (w:World) (x:Int):Calls Tryz.prog 73 #[.int .i64 x] w fun e w'=>e=.returned (.bool (decide (0≤x∧x < 15)))∧w=w':=by
 by_cases h0:0≤x
 ·by_cases h1:x < 15
  ·have hd:decide (0≤x∧x < 15)=true:=by simp [h0,h1]
   rw [hd];clear hd
   go_enter Tryz.func73,Tryz.ntmps73
   go_wp2
   go_ret
   simp
  ·have hd:decide (0≤x∧x < 15)=false:=by simp [h1]
   rw [hd];clear hd
   go_enter Tryz.func73,Tryz.ntmps73
   go_wp2
   go_ret
   simp
 ·have hd:decide (0≤x∧x < 15)=false:=by simp [h0]
  rw [hd];clear hd
  go_enter Tryz.func73,Tryz.ntmps73
  go_wp2
  go_ret
  simp
def RisE (m:List Int) (z:Int):Prop:=m.Pairwise (· < ·)∧(∀ x∈m,0≤x∧x < 15∧x < z)∧0≤z∧z≤15∧(z=0∨z - 1∈m)
theorem risE_nil:RisE [] 0:=⟨List.Pairwise.nil,fun _ h=>by simp at h,by omega,by omega,.inl rfl⟩
theorem risE_snoc {m:List Int}{z y:Int}(h:RisE m z) (h1:¬ y < z) (h2:y < 15):RisE (m++[y]) (y+1):=by
 obtain ⟨a,b,c,d,e⟩:=h
 refine ⟨?_,?_,by omega,by omega,.inr (by simp)⟩
 ·rw [List.pairwise_append]
  exact ⟨a,List.pairwise_singleton _ _,fun x hx y' hy=>by simp at hy;subst hy;have:=b x hx;omega⟩
 ·intro x hx
  rcases List.mem_append.1 hx with hx | hx
  ·have:=b x hx;omega
  ·simp at hx;subst hx;omega
theorem risE_may {m:List Int}{z:Int}(h:RisE m z) (hm:m≠[]):May m:=⟨hm,h.1,fun x hx=>⟨(h.2.1 x hx).1,(h.2.1 x hx).2.1⟩⟩
theorem risE_low {m:List Int}{z y:Int}{r:List Int}(h:RisE m z) (h1:y < z):¬ May (m++y :: r):=fun hm=>by
 obtain ⟨_,a,b⟩:=hm
 rcases h.2.2.2.2 with e | e
 ·have:=b y (by simp);omega
 ·rw [List.pairwise_append] at a
  have:=a.2.2 _ e y (by simp)
  omega
theorem setB_snoc (m:List Int) (q:Nat):updB (setB m) q true=setB (m++[(q:Int)]):=by
 funext k
 unfold updB setB
 by_cases h:k=q
 ·subst h;simp
 ·have:¬ (k:Int)=q:=by omega
  simp [h,this]
theorem take_cons {m:List Int}{j:Nat}(h:j < m.length):m=m.take j++m[j] :: m.drop (j+1):=by
 rw [← List.drop_eq_getElem_cons h,List.take_append_drop]
def SoI (w:World) (m:List Int) (iv lv:Value) (wr:World):Prop :=
 ∃ j:Nat,iv=.int .i64 (j:Int)∧j≤m.length∧∃ z:Int,lv=.int .i64 z∧Hid (RisE (m.take j) z)∧Hid (SetAt wr w.heap.size fun _=>false)∧Hid (SetAt wr (w.heap.size+1) (setB (m.take j)))∧Hid (Kept [] w wr)
def SoP (m:List Int) (w:World) (e:Ending) (w':World):Prop:=∃ S,e=.returned (.tuple #[setV S,.bool (decide (May m))])∧(May m→S=setB m)∧Kept [] w w'
set_option maxRecDepth 100000 in
theorem setOf_call (w:World) (ao:Option Addr) (n c:Nat) (m:List Int) (hS:SlI w ao n c m) :
 Calls Tryz.prog 46 #[.slice ao n c] w fun e w'=>SoP m w e w':=by
 have hl:=hS.1
 have hc:=hS.2.1
 have hm:=hS.2.2.1
 unfold maxLen at hm
 have HS:=hide hS
 have HL:=hide hl
 clear hS hl
 go_enter Tryz.func46,Tryz.ntmps46
 go_wp2_with fail
 go_loopw [10,5] (fun iv lv wr=>SoI w m iv lv wr) (fun iv _ _=>n - (intOf iv).toNat)
 case atStart=>exact ⟨0,rfl,Nat.zero_le _,0,rfl,by show RisE _ _;rw [List.take_zero];exact risE_nil,(lay2 w _ _ _).1,(lay2 w _ _ _).2,((Kept.refl _ _).alloc _).alloc _⟩
 case round =>
  obtain ⟨j,rfl,hj,z,rfl,HR,H0,H1,HK⟩:=hrel
  by_cases hlt:j < n
  ·have hlt':(j:Int) < n:=by omega
   have hjc:j≤c:=by omega
   have hjS:j < m.length:=by rw [HL.out];exact hlt
   obtain ⟨g,o,rfl,h0⟩:=(HS.out.kept HK.out).2.2.2 j hjS
   have HT:Hid (m.take (j+1)=m.take j++[m[j]]):=List.take_succ_eq_append_getElem hjS
   have HC:Hid (m=m.take j++m[j] :: m.drop (j+1)):=take_cons hjS
   have cR:=isReplica_call wr m[j]
   generalize m[j]=y at *
   by_cases hd:y < z
   ·have HM:Hid (decide (May m)=false):=by
     show _=_
     rw [HC.out]
     simpa using risE_low HR.out hd
    go_wp2_with (((with_reducible refine wl_store_set (fun _=>false) ?_ ?_ H0.out ?_);rfl;rfl;intro w1 HS1 HK1))
    refine bodyPost_ret (set_res2 (by rfl) _ (by rfl) HS1.out) rfl ?_
    exact ⟨_,by rw [HM.out];rfl,fun h=>absurd h (by simpa using HM.out),HK.out.trans HK1.out (by simp)⟩
   ·by_cases hr:0≤y∧y < 15
    ·have er:decide (0≤y∧y < 15)=true:=by simp [hr]
     rw [er] at cR
     obtain ⟨q,rfl⟩:∃ q:Nat,y=q:=⟨y.toNat,by omega⟩
     have hq:q < 15:=by omega
     have c1:=H1.out.cell hq
     have f1:=froz3 H1.out q
     have HR2:Hid (RisE (m.take (j+1)) (q+1)):=by show RisE _ _;rw [HT.out];exact risE_snoc HR.out hd hr.2
     go_wp2_with (go_at_call 73;refine cR.mono ?_;clear cR;rintro _ _ ⟨rfl,rfl⟩)
     go_roundw
     case rel =>
      refine ⟨j+1,by go_num,hjS,q+1,by go_num,HR2,?_,?_,?_⟩
      ·exact H0.out.kept ((Kept.refl [w.heap.size+1] _).setCell (by simp) _) (by simp)
      ·show SetAt _ _ _
       rw [HT.out,← setB_snoc]
       exact H1.out.set true hq
      ·exact HK.out.setCell (.inr (by show w.heap.size≤w.heap.size+1;omega)) _
     case measure=>simp [intOf];omega
    ·have er:decide (0≤y∧y < 15)=false:=by simpa using hr
     rw [er] at cR
     have HM:Hid (decide (May m)=false):=by
      show _=_
      rw [decide_eq_false_iff_not]
      intro h
      exact hr (h.2.2 y (by rw [HC.out];simp))
     go_wp2_with (first | ((with_reducible refine wl_store_set (fun _=>false) ?_ ?_ H0.out ?_);rfl;rfl;intro w1 HS1 HK1) | (go_at_call 73;refine cR.mono ?_;clear cR;rintro _ _ ⟨rfl,rfl⟩))
     refine bodyPost_ret (set_res2 (by rfl) _ (by rfl) HS1.out) rfl ?_
     exact ⟨_,by rw [HM.out];rfl,fun h=>absurd h (by simpa using HM.out),HK.out.trans HK1.out (by simp)⟩
  ·have hlt':¬ (j:Int) < n:=by omega
   have HE:Hid (m.take j=m):=List.take_of_length_le (by rw [HL.out];omega)
   have HM:Hid (decide (May m)=decide (0 < n)):=by
    show _=_
    rw [decide_eq_decide]
    refine ⟨fun h=>?_,fun h=>?_⟩
    ·rw [← HL.out];exact List.length_pos_iff.2 h.1
    ·have h1:=HR.out
     rw [HE.out] at h1
     exact risE_may h1 (List.ne_nil_of_length_pos (by rw [HL.out];exact h))
   by_cases hn:0 < n
   ·have hn':0 < (n:Int):=by omega
    go_wp2_with (first | ((with_reducible refine wl_load_set ?_ H1.out.range ?_);rfl) | ((with_reducible refine wl_store_set (setB (m.take j)) ?_ ?_ H0.out ?_);rfl;rfl;intro w1 HS1 HK1))
    refine bodyPost_ret (set_res2 (by rfl) _ (by rfl) HS1.out) rfl ?_
    exact ⟨setB (m.take j),by rw [HM.out];simp [hn],fun _=>by rw [HE.out],HK.out.trans HK1.out (by simp)⟩
   ·have hn':¬ 0 < (n:Int):=by omega
    go_wp2_with (first | ((with_reducible refine wl_load_set ?_ H1.out.range ?_);rfl) | ((with_reducible refine wl_store_set (setB (m.take j)) ?_ ?_ H0.out ?_);rfl;rfl;intro w1 HS1 HK1))
    refine bodyPost_ret (set_res2 (by rfl) _ (by rfl) HS1.out) rfl ?_
    exact ⟨setB (m.take j),by rw [HM.out];simp [hn],fun _=>by rw [HE.out],HK.out.trans HK1.out (by simp)⟩
end Go.Proofs.YtddhmfildfdbdaaGreat
