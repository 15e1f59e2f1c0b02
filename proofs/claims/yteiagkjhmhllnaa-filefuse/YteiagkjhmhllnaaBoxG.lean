/-
  Blocks that are boxes of structs: read and written whole, or a cell at a time.
-/
import Derived.Test.YteiagkjhmhllnaaMemG
import Derived.Deep.MidRow
import Derived.Deep.WholeRow
import Derived.Laws.Rows
import Derived.Laws.ResultCell
import Derived.Deep.CutRange
namespace Go.Proofs.Yteiagkjhmhllnaa
open Go.RowKit
theorem setCells_block (b:Nat):∀ (vs:List Value) (o:Nat) (w:World) (k:Nat),k≠b→(w.setCells b o vs).heap[k]?=w.heap[k]?
 | [],_,_,_,_=>rfl
 | v :: r,o,w,k,h=>by
   rw [World.setCells,setCells_block b r (o+1) _ k h,heap_setCell_other _ _ _ _ h]
theorem setCells_row (b:Nat):∀ (vs pre old post:List Value) (w:World) (t:TypeId),w.heap[b]?=some (.cells (pre++old++post).toArray t (0,0))→old.length=vs.length →
 (w.setCells b pre.length vs).heap[b]?=some (.cells (pre++vs++post).toArray t (0,0))
 | [],pre,old,post,w,t,h,hl=>by
   obtain rfl:=List.eq_nil_of_length_eq_zero (by simpa using hl)
   simpa [World.setCells] using h
 | v :: r,pre,[],post,w,t,h,hl=>by simp at hl
 | v :: r,pre,x :: old,post,w,t,h,hl=>by
   have h1:=heap_setCell_same w b pre.length _ _ v h
   have h2:=setCells_row b r (pre++[v]) old post (w.setCell ⟨b,pre.length,none⟩ v) t (by
    rw [h1]
    congr 2
    apply Array.ext'
    rw [Array.toList_setIfInBounds]
    simp) (by simpa using hl)
   rw [World.setCells]
   simpa using h2
theorem setCells_kept {S:List Nat}{a:World}{b:Nat}(hb:b∈S∨a.heap.size≤b):∀ (l:List Value) (k:Nat) {w:World},Kept S a w→Kept S a (w.setCells b k l)
 | [],_,_,h=>h
 | u :: l,k,w,h=>by rw [World.setCells];exact setCells_kept hb l (k+1) (h.setCell hb u)
def Bx (w:World) (b:Nat) (T:TypeId) (cs:List Value):Prop:=w.heap[b]?=some (.cells cs.toArray T (0,0))
theorem Bx.kept {S:List Nat}{a w:World}{b:Nat}{T:TypeId}{cs:List Value}(h:Bx a b T cs) (k:Kept S a w) (hb:b ∉ S):Bx w b T cs:=k.at h hb
theorem Bx.lt {w:World}{b:Nat}{T:TypeId}{cs:List Value}(h:Bx w b T cs):b < w.heap.size:=lt_of_at h
theorem Bx.cell {w:World}{b:Nat}{T:TypeId}{cs:List Value}(h:Bx w b T cs) (j:Nat) {v:Value}(hv:cs[j]?=some v):w.cell? ⟨b,j,none⟩=some v:=cell_inC h (by simpa using hv)
theorem Bx.froz {w:World}{b:Nat}{T:TypeId}{cs:List Value}(h:Bx w b T cs) (j:Nat):w.frozen? ⟨b,j,none⟩=false:=froz3 h j
theorem Bx.new (w:World) (T:TypeId) (cs:List Value):Bx (w.alloc (.cells cs.toArray T)) w.heap.size T cs:=heap_alloc_new w _
theorem Bx.range {w:World}{b:Nat}{T:TypeId}{cs:List Value}(h:Bx w b T cs):w.rangeAt b 0 cs:=fun j v hv=>by
 rw [Nat.zero_add];exact h.cell j hv
theorem Bx.set {w:World}{b:Nat}{T:TypeId}{cs:List Value}(h:Bx w b T cs) (j:Nat) (v:Value):Bx (w.setCell ⟨b,j,none⟩ v) b T (cs.set j v):=by
 have h1:=heap_setCell_same w b j _ _ v h
 unfold Bx
 rw [h1]
 congr 2
 apply Array.ext'
 rw [Array.toList_setIfInBounds]
theorem Bx.store {w:World}{b:Nat}{T:TypeId}{cs:List Value}(h:Bx w b T cs) {ds:List Value}(hl:ds.length=cs.length):Bx (w.setCells b 0 ds) b T ds:=by
 have h1:=setCells_row b ds [] cs [] w _ (by simpa [Bx] using h) hl.symm
 simpa [Bx] using h1
theorem Bx.there {w:World}{b:Nat}{T:TypeId}{cs:List Value}(h:Bx w b T cs):w.there b 0 cs.length:=fun j hj=>by
 rw [Nat.zero_add]
 exact ⟨by rw [h.cell j (List.getElem?_eq_getElem hj)];rfl,h.froz j⟩
def RowT (P:Program) (T:TypeId) (n:Nat):Prop:=∃ D,P.underlying T=some D∧D.isRow=true∧(P.info? T).map (·.size)=some n
theorem wl_load_bx {P:Program}{ops:Array Oper}{rest:List Oper}{a:Act}{w:World}{Q:Exit→Act→World→Prop}{d:Option Tmp}{x:Operand}{T ty:TypeId}{ps:String}{af:Array Edge}
 {b:Nat}{cs:List Value}(hc:Bx w b T cs) (hT:RowT P T cs.length) (hx:a.eval x=.pointer (some ⟨b,0,none⟩))
 (h:wpList P ops Q rest (a.put d (.agg cs.toArray)) w):wpList P ops Q (⟨d,.load T x,ty,ps,af,none⟩ :: rest) a w:=by
 obtain ⟨D,hu,hd,hi⟩:=hT
 exact wpList_load_mid rfl _ x rfl b 0 hx cs D hc.range hu hd hi h
theorem wl_store_bx {P:Program}{ops:Array Oper}{rest:List Oper}{a:Act}{w:World}{Q:Exit→Act→World→Prop}{d:Option Tmp}{x y:Operand}{T ty:TypeId}{ps:String}{af:Array Edge}
 {b:Nat}{cs ds:List Value}(hc:Bx w b T cs) (hl:ds.length=cs.length) (h1:∀ v∈ds,v.oneCell'=true) (hT:RowT P T ds.length)
 (hx:a.eval x=.pointer (some ⟨b,0,none⟩)) (hy:a.eval y=.agg ds.toArray) (h:∀ w',Hid (Bx w' b T ds)→Hid (Kept [b] w w')→wpList P ops Q rest (a.put d undef) w'):wpList P ops Q (⟨d,.store T x y,ty,ps,af,none⟩ :: rest) a w:=by
 obtain ⟨D,hu,hd,hi⟩:=hT
 exact wpList_store_mid rfl _ x y rfl b 0 ds.toArray hx hy (by rw [List.size_toArray,hl];exact hc.there) (by rw [List.size_toArray];exact hi) (all_oneCell_toArray h1) (h _ (hc.store hl) (setCells_kept (by simp) _ _ (Kept.refl _ _)))
theorem bx_result {P:Program}{w:World}{g:Nat}{T:TypeId}{cs:List Value}{fn:Func}{p:Tmp}(hr:fn.results=#[.cell p T]) (tmps:Array Value) (hp:tmps.getD p undef=.pointer (some ⟨g,0,none⟩)) (hg:Bx w g T cs)
 (hT:RowT P T cs.length):(results fn tmps).run P w=.ok (.agg cs.toArray) w:=by
 obtain ⟨D,hu,hd,hi⟩:=hT
 exact results_cell_row hr tmps w g _ cs.toArray _ _ hp hg hu (by cases D <;> first | rfl | cases hd) (by rw [List.size_toArray];exact hi)
end Go.Proofs.Yteiagkjhmhllnaa
