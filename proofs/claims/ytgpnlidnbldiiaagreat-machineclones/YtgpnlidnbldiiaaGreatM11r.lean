/-
  Texts of this claim that are laid as one: GrMo1, GrMo2, GrMo3, GrMo4.
-/
import Derived.Test.YtgpnlidnbldiiaaGreatQ10r
import Derived.Test.YtgpnlidnbldiiaaGreatW0r
import Derived.Test.YtgpnlidnbldiiaaGreatM13r
import Derived.Laws.Cover1
import Derived.Handy
import Derived.Test.YtgpnlidnbldiiaaGreatM14r
import Derived.Test.YtgpnlidnbldiiaaGreatW3r
import Derived.Test.YtgpnlidnbldiiaaGreatQ11r
import Derived.Deep.CutRange
import Derived.Deep.AppendLies
import Derived.Test.YtgpnlidnbldiiaaGreatQ2r
set_option maxHeartbeats 16000000
/-
 The document's own graph in memory;move.
-/
namespace Go.Proofs.YtgpnlidnbldiiaaGreat
open Go.RowKit
def OwnM (B:Nat) (w:World) (v:Value) (l:List (List UInt8 × Int)):Prop:=w.ownsRow B 204 2 v l.length (l.flatMap rfC)
theorem info_refM:(Tryz.prog.info? 204).map (fun i=>(i.zero,i.size,i.bytes))=some (some (.agg #[.string ⟨#[]⟩,.int .i64 0]),2,24):=by kernel_rfl
theorem wp_appM {w:World}{ops:Array Oper}{rest:List Oper}{o:Oper}{a:Act}{Q:Exit→Act→World→Prop}(hgd:o.guard=none) (s x:Operand)
 (hop:o.op=.call { callee:=.builtin .append,args:=#[s,x],argTypes:=#[80,80] })
 (B:Nat) (v:Value) (l:List (List UInt8 × Int)) (hs:a.eval s=v) (hO:OwnM B w v l) (g:Nat) (y:List UInt8 × Int) (hx:a.eval x=.slice (some ⟨g,0,none⟩) 1 1) (hc:w.heap[g]?=some (.cells #[.string (str y.1),.int .i64 y.2] 204 (0,0)))
 (hlen:l.length≤1000000000) (hB:B≤w.heap.size)
 (h:∀ v' w',OwnM B w' v' (l++[y])→w.grownBy w' v.ownBlock→wpList Tryz.prog ops Q rest (a.put o.dst v') w'):wpList Tryz.prog ops Q (o :: rest) a w:=by
 obtain ⟨i0,hi,hz0,hz1,hz2⟩:=info_parts info_refM
 refine wpList_append_own w hgd s x 80 hop B 204 i0 (.agg #[.string ⟨#[]⟩,.int .i64 0]) 2 24 Tryz.underlying80 hi hz0 hz1 hz2 rfl (by decide) v l.length (l.flatMap rfC) hs hO ⟨g,0,none⟩ 1 1 (rfC y) hx rfl (World.news_of_block hc) ?_ (by unfold maxLen;omega) (by omega) hB ?_
 ·intro u hu;simp [rfC] at hu;rcases hu with rfl | rfl <;> rfl
 ·intro v' w' h1 h2 _
  refine h v' w' ?_ h2
  unfold OwnM
  rw [List.length_append,List.flatMap_append]
  simpa using h1
theorem rfC_getM (L:List (List UInt8 × Int)) (i:Nat) (h:i < L.length) (j:Nat) (hj:j < 2):(L.flatMap rfC)[i*2+j]?=(rfC L[i])[j]?:=by
 induction L generalizing i with
 | nil=>simp at h
 | cons x L ih =>
   cases i with
   | zero=>simp only [List.flatMap_cons,Nat.zero_mul,Nat.zero_add,List.getElem_cons_zero];rw [List.getElem?_append_left (by simp [rfC];omega)]
   | succ i =>
     simp only [List.flatMap_cons,List.getElem_cons_succ]
     rw [List.getElem?_append_right (by simp [rfC];omega)]
     rw [← ih i (by simpa using h)]
     congr 1
     simp [rfC];omega
theorem OwnM.at {B:Nat}{w:World}{v:Value}{l:List (List UInt8 × Int)}(h:OwnM B w v l):∃ ao c,v=.slice ao l.length c∧l.length≤c∧c≤maxLen∧∀ i (hi:i < l.length),∃ g,ao=some ⟨g,0,none⟩∧w.cell? ⟨g,i*2,none⟩=some (.string (str l[i].1))∧w.cell? ⟨g,i*2+1,none⟩=some (.int .i64 l[i].2):=by
 have h':=h
 obtain ⟨h1,h2⟩:=h
 rcases h2 with ⟨hv,hn⟩ | ⟨g,cap,cur,hv,hg,hh,h3,h4,h5,h6⟩
 ·exact ⟨none,0,by rw [hv,hn],by omega,Nat.zero_le _,fun i hi=>by omega⟩
 ·refine ⟨_,cap,hv,h3,h4,fun i hi=>⟨g,rfl,?_⟩⟩
  have hc:∀ j,j < 2→w.cell? ⟨g,i*2+j,none⟩=(rfC l[i])[j]?:=fun j hj=>by
   have:=World.ownsRow.cellAt (w:=w) (base:=B) (e:=204) (size:=2) (n:=l.length) (cap:=cap) (g:=g) (xs:=l.flatMap rfC) (by rw [← hv];exact h') (i*2+j) (by omega)
   rw [this,rfC_getM l i hi j hj]
  exact ⟨hc 0 (by omega),hc 1 (by omega)⟩
structure MA (w:World) (b:Nat) (v vL vR:Value) (K:List (Com × Value)) (G:Gr):Prop where
 at_:w.heap[b]?=some (.cells #[v,vL,vR] 82 (0,0))
 row:RowK 0 w v K
 own:OwnK 0 w K
 com:K.map Prod.fst=G.cs
 lvs:OwnL 0 w vL G.ls
 rfs:OwnM 0 w vR G.rs
def ownM (b:Nat) (v:Value):List Nat:=b :: v.ownBlock.toList
def MAt (w:World) (b:Nat) (S:List Nat) (G:Gr):Prop:=∃ v vL vR K,MA w b v vL vR K G∧NilV G.ls vL∧S=ownM b v
theorem filt_all {n:List UInt8}{l:List (List UInt8 × Int)}(h:∀ x∈l,x.1≠n):l.filter (fun y=>decide (y.1≠n))=l:=by
 rw [List.filter_eq_self]
 intro x hx
 simpa using h x hx
def MvP (n:List UInt8) (r:Int) (l:List (List UInt8 × Int)) (i:Nat) (put:Bool) (out:List (List UInt8 × Int)):Prop :=
 (put=false∧out++mvR n r (l.drop i)=mvR n r l)∨(put=true∧out++(l.drop i).filter (fun y=>decide (y.1≠n))=mvR n r l)
theorem mv_lt {n:List UInt8}{r:Int}{l:List (List UInt8 × Int)}{i:Nat}(hi:i < l.length) {out:List (List UInt8 × Int)}(h:MvP n r l i false out) (hlt:l[i].1 < n):MvP n r l (i+1) false (out++[l[i]]):=by
 rcases h with ⟨_,h⟩ | ⟨h,_⟩
 ·refine .inl ⟨rfl,?_⟩
  rw [List.drop_eq_getElem_cons hi,mvR,if_pos hlt] at h
  rw [List.append_assoc];exact h
 ·cases h
theorem srR_drop {l:List (List UInt8 × Int)}(hs:SrR l) {i:Nat}(hi:i < l.length):∀ x∈l.drop (i+1),l[i].1 < x.1:=by
 have h1:SrR (l.drop i):=List.Pairwise.sublist (List.drop_sublist _ _) hs
 rw [List.drop_eq_getElem_cons hi] at h1
 exact (List.pairwise_cons.1 h1).1
theorem mv_eq {n:List UInt8}{r:Int}{l:List (List UInt8 × Int)}(hs:SrR l) {i:Nat}(hi:i < l.length) {out:List (List UInt8 × Int)}(h:MvP n r l i false out) (he:l[i].1=n):MvP n r l (i+1) true (out++[(n,r)]):=by
 rcases h with ⟨_,h⟩ | ⟨h,_⟩
 ·refine .inr ⟨rfl,?_⟩
  rw [List.drop_eq_getElem_cons hi,mvR,if_neg (by rw [he];exact List.lt_irrefl _),if_pos he] at h
  rw [filt_all (fun x hx e=>by have:=srR_drop hs hi x hx;rw [he,e] at this;exact List.lt_irrefl _ this),List.append_assoc];exact h
 ·cases h
theorem mv_gt {n:List UInt8}{r:Int}{l:List (List UInt8 × Int)}(hs:SrR l) {i:Nat}(hi:i < l.length) {out:List (List UInt8 × Int)}(h:MvP n r l i false out) (hlt:¬ l[i].1 < n) (he:l[i].1≠n):MvP n r l (i+1) true (out++[(n,r)]++[l[i]]):=by
 rcases h with ⟨_,h⟩ | ⟨h,_⟩
 ·refine .inr ⟨rfl,?_⟩
  rw [List.drop_eq_getElem_cons hi,mvR,if_neg hlt,if_neg he] at h
  rw [filt_all (fun x hx e=>by have:=srR_drop hs hi x hx;rw [e] at this;exact hlt this),List.append_assoc,List.append_assoc];exact h
 ·cases h
theorem mv_no {n:List UInt8}{r:Int}{l:List (List UInt8 × Int)}{i:Nat}(hi:i < l.length) {out:List (List UInt8 × Int)}(h:MvP n r l i true out) (he:l[i].1=n):MvP n r l (i+1) true out:=by
 rcases h with ⟨h,_⟩ | ⟨_,h⟩
 ·cases h
 ·refine .inr ⟨rfl,?_⟩
  rw [List.drop_eq_getElem_cons hi,List.filter_cons_of_neg (by simpa using he)] at h
  exact h
theorem mv_on {n:List UInt8}{r:Int}{l:List (List UInt8 × Int)}{i:Nat}(hi:i < l.length) {out:List (List UInt8 × Int)}(h:MvP n r l i true out) (he:l[i].1≠n):MvP n r l (i+1) true (out++[l[i]]):=by
 rcases h with ⟨h,_⟩ | ⟨_,h⟩
 ·cases h
 ·refine .inr ⟨rfl,?_⟩
  rw [List.drop_eq_getElem_cons hi,List.filter_cons_of_pos (by simpa using he)] at h
  rw [List.append_assoc];exact h
theorem less_ltM:∀ {a b:List UInt8},Op.bytesLess a b=decide (a < b)
 | [],[]=>by simp [Op.bytesLess]
 | [],_ :: _=>by simp [Op.bytesLess]
 | _ :: _,[]=>by simp [Op.bytesLess]
 | x :: a,y :: b=>by
   have ih:=@less_ltM a b
   simp only [Op.bytesLess,ih,List.cons_lt_cons_iff]
   by_cases h1:x < y
   ·simp [h1]
   ·by_cases h2:x=y <;> simp [h1,h2]
theorem less_strM (a b:List UInt8):Op.bytesLess (str a).toList (str b).toList=decide (a < b):=by rw [str_toList,str_toList,less_ltM]
theorem OwnM.mono {B C:Nat}{w:World}{v:Value}{l:List (List UInt8 × Int)}(h:OwnM C w v l) (hB:B≤C):OwnM B w v l:=by
 obtain ⟨h1,h2⟩:=h
 exact ⟨h1,h2.imp id fun ⟨g,cap,cur,hv,hg,r⟩=>⟨g,cap,cur,hv,Nat.le_trans hB hg,r⟩⟩
def MvI (w:World) (n:List UInt8) (r:Int) (l:List (List UInt8 × Int)) (ov pv iv:Value) (wr:World):Prop :=
 ∃ (i:Nat) (out:List (List UInt8 × Int)) (put:Bool),iv=.int .i64 (i:Int)∧pv=.bool put∧i≤l.length∧Hid (MvP n r l i put out)∧Hid (out.length≤2*i)∧Hid (OwnM w.heap.size wr ov out)∧Hid (Kept [] w wr)
theorem leaf_box0 {w w1:World}{v0 v1 v2 v3:Value}{t:TypeId}(h:Kept [] (w.alloc (.cells #[v0,v1,v2,v3] t)).drew w1) :
 w1.cell? ⟨w.heap.size,0,none⟩=some v0∧w1.cell? ⟨w.heap.size,1,none⟩=some v1∧w1.cell? ⟨w.heap.size,2,none⟩=some v2∧w1.cell? ⟨w.heap.size,3,none⟩=some v3 ∧
 w1.frozen? ⟨w.heap.size,0,none⟩=false∧w1.frozen? ⟨w.heap.size,1,none⟩=false∧w1.frozen? ⟨w.heap.size,2,none⟩=false∧w1.frozen? ⟨w.heap.size,3,none⟩=false∧Hid (w1.heap[w.heap.size]?=some (.cells #[v0,v1,v2,v3] t (0,0))):=by
 have h2:w1.heap[w.heap.size]?=some (.cells #[v0,v1,v2,v3] t (0,0)):=h.at (heap_alloc_new w _) (by simp)
 obtain ⟨m0,m1,m2,m3⟩:=cells4 h2
 exact ⟨m0,m1,m2,m3,frozen_in h2 0,frozen_in h2 1,frozen_in h2 2,frozen_in h2 3,h2⟩
theorem lt_of_heap {w:World}{k:Nat}{o:Obj}(h:w.heap[k]?=some o):k < w.heap.size:=by
 by_cases hl:k < w.heap.size
 ·exact hl
 ·rw [Array.getElem?_eq_none (by omega)] at h;cases h
theorem wp_appK1 {w:World}{ops:Array Oper}{rest:List Oper}{o:Oper}{a:Act}{Q:Exit→Act→World→Prop}(hgd:o.guard=none) (s x:Operand)
 (hop:o.op=.call { callee:=.builtin .append,args:=#[s,x],argTypes:=#[37,37] })
 (v:Value) (K:List (Com × Value)) (hs:a.eval s=v) (hO:RowK 0 w v K) (g:Nat) (y:Com × Value) (hx:a.eval x=.slice (some ⟨g,0,none⟩) 1 1) (hc:w.heap[g]?=some (.cells #[.int .i64 y.1.r,.int .i64 y.1.b,.string (str y.1.n),y.2] 137 (0,0)))
 (h1:y.2.oneCell'=true) (hlen:K.length≤1000000000)
 (h:∀ g cap w',RowK 0 w' (.slice (some ⟨g,0,none⟩) (K.length+1) cap) (K++[y])→w.grownBy w' v.ownBlock→(v.ownBlock=some g∨g=w.heap.size)→g < w'.heap.size→wpList Tryz.prog ops Q rest (a.put o.dst (.slice (some ⟨g,0,none⟩) (K.length+1) cap)) w'):wpList Tryz.prog ops Q (o :: rest) a w:=by
 obtain ⟨i0,hi,hz0,hz1,hz2⟩:=info_parts info_commit
 refine wpList_append_lies w hgd s x 37 hop 0 137 i0 (.agg #[.int .i64 0,.int .i64 0,.string ⟨#[]⟩,.slice none 0 0]) 4 56 Tryz.underlying37 hi hz0 hz1 hz2 rfl (by decide) v K.length (K.flatMap coC) hs hO ⟨g,0,none⟩ 1 1 (coC y) hx rfl (World.news_of_block hc) ?_ (by decide) (by unfold maxLen;omega) (by omega) (Nat.zero_le _) _ rfl ?_
 ·intro u hu;simp [coC] at hu;rcases hu with rfl | rfl | rfl | rfl <;> first | rfl | exact h1
 ·intro g' cap w' h2 h3 h4 h5
  refine h g' cap w' ?_ h3 h4 h5
  unfold RowK
  rw [List.length_append,List.flatMap_append]
  simpa using h2
theorem mset_off {w:World}{b g o:Nat}{v u0 u1 u2 u3 u4 u5 u6:Value}(hne:g≠b) (h:w.cell? ⟨g,o,none⟩=some v):(set7w w b u0 u1 u2 u3 u4 u5 u6).drew.cell? ⟨g,o,none⟩=some v :=
 (set7_kept (Kept.refl [b] w) (.inl (by simp)) u0 u1 u2 u3 u4 u5 u6).drew.cell h (by simpa using hne)
theorem drewM_at {w:World}{k:Nat}{o:Option Obj}(h:w.heap[k]?=o):w.drew.heap[k]?=o:=h
theorem mset_at {w:World}{b:Nat}{v0 v1 v2 v3 v4 v5 v6:Value}{t:TypeId}(h:w.heap[b]?=some (.cells #[v0,v1,v2,v3,v4,v5,v6] t (0,0))) (u0 u1 u2 u3 u4 u5 u6:Value) :
 Hid ((set7w w b u0 u1 u2 u3 u4 u5 u6).drew.heap[b]?=some (.cells #[u0,u1,u2,u3,u4,u5,u6] t (0,0))):=drewM_at (set7 h u0 u1 u2 u3 u4 u5 u6)
def UncJ (w:World) (ls:List Lf) (base:Int) (L:List Ch) (R:Option (List UInt8 × Int)) (kv:Value) (wr:World):Prop :=
 ∃ k:Nat,kv=.int .i64 (k:Int)∧k≤L.length∧Hid (Kept [] w wr)∧Hid (confl ls base (L.drop k)=R)
end Go.Proofs.YtgpnlidnbldiiaaGreat
