/-
  Texts of this claim that are laid as one: MemG, BoxG, ArgB, RowsG, Ints, RunG, RoundG, RegG.
-/
import Derived.Test.YtddhmfildfdbdaaGreatQ1r
import Derived.Test.YtddhmfildfdbdaaGreatProg
import Derived.Deep.AppendLies
import Derived.Deep.Draws
import Derived.Laws.OwnMore
import Derived.Deep.QuietTactic
import Derived.BigQuiet
import Derived.Deep.RegionHeld3
import Derived.Handy
import Derived.Deep.MidRow
import Derived.Deep.WholeRow
import Derived.Laws.Rows
import Derived.Laws.ResultCell
import Derived.Deep.CutRange
import Derived.Test.YtddhmfildfdbdaaGreatRows
import Derived.ProofKit
import Derived.OpenShut
import Derived.ShutString
import Derived.ChangeMaps5
import Derived.ChangeOld
import Derived.SizedLaws
import Derived.Deep.Slices
import Derived.Laws.AppendOwn
import Derived.OwnWalk
import Derived.WalkSmall
import Derived.RangeFuncNested
import Derived.RangeFuncBound
import Derived.RangeFuncCalls
import Derived.RangeFuncLeaves
import Derived.RangeFuncBox
import Derived.Shelf.Abstract
import Derived.Shelf.RegionOpen
import Derived.WalkKit
import Derived.OwnWalkIn
import Derived.TacticsInMore
import Derived.LoopNIn
import Derived.LoopIn
import Derived.OrdersHeld
import Derived.OrdersIn
import Derived.Deep.RegionHeld
/-
 Memory: what stays and what turns;over any program.
-/
namespace Go.Proofs.YtddhmfildfdbdaaGreat
open Go.RowKit
theorem hide {p:Prop}(h:p):Hid p:=h
theorem adr_addC (b o i:Nat):(⟨b,o,none⟩:Addr).add i=⟨b,o+i,none⟩:=by
 by_cases h:i=0 <;> simp [Addr.add,h]
theorem cell_inC {w:World}{b k:Nat}{vs:Array Value}{t:TypeId}{v:Value}(h:w.heap[b]?=some (.cells vs t (0,0))) (hv:vs[k]?=some v):w.cell? ⟨b,k,none⟩=some v:=by
 simp [World.cell?,h,hv]
theorem drewN_kept (w:World) (n:Nat):Kept [] w (w.drewN n):=⟨rfl,rfl,rfl,Nat.le_refl _,fun _ _ _=>rfl⟩
def Typed (w:World) (S:List Nat) (Ts:List TypeId):Prop:=∀ k∈S,∀ cur t mk,w.heap[k]?=some (.cells cur t mk)→t∈Ts
theorem typed_nil (w:World) (Ts:List TypeId):Typed w [] Ts:=fun _ h=>by cases h
theorem Kept.typed {S:List Nat}{Ts:List TypeId}{w w':World}(hk:Kept S w w') (hT:Typed w S Ts) {k:Nat}{cur:Array Value}{t:TypeId}{mk:Nat × Nat}(h:w.heap[k]?=some (.cells cur t mk)) (ht:t ∉ Ts):w'.heap[k]?=some (.cells cur t mk) :=
 hk.at h fun hm=>ht (hT k hm _ _ _ h)
theorem row_typed {S:List Nat}{Ts:List TypeId}{w w':World}(hk:Kept S w w') (hT:Typed w S Ts) {B e size n:Nat}{v:Value}{xs:List Value}(h:w.ownsRow B e size v n xs) (ht:e ∉ Ts):w'.ownsRow B e size v n xs:=by
 refine hk.ownsRow h fun k hv hm=>?_
 obtain ⟨_,h2⟩:=h
 rcases h2 with ⟨rfl,_⟩ | ⟨g,cap,cur,rfl,_,hh,_⟩
 ·cases hv
 ·cases hv;exact ht (hT _ hm _ _ _ hh)
theorem mem_own {v:Value}{k:Nat}:k∈v.ownBlock.toList↔v.ownBlock=some k:=by
 cases v.ownBlock <;> simp [eq_comm]
theorem row_block {w:World}{B e size n:Nat}{v:Value}{xs:List Value}(h:w.ownsRow B e size v n xs) {k:Nat}(hk:v.ownBlock=some k):∃ cur,w.heap[k]?=some (.cells cur e (0,0)):=by
 obtain ⟨_,h2⟩:=h
 rcases h2 with ⟨rfl,_⟩ | ⟨g,cap,cur,rfl,_,hh,_⟩
 ·cases hk
 ·cases hk;exact ⟨cur,hh⟩
theorem froz3 {w:World}{b:Nat}{vs:Array Value}{t:TypeId}(h:w.heap[b]?=some (.cells vs t (0,0))) (j:Nat):w.frozen? ⟨b,j,none⟩=false:=by
 simp [World.frozen?,h]
theorem row_mono {w:World}{B B' e size n:Nat}{v:Value}{xs:List Value}(h:w.ownsRow B e size v n xs) (hB:B'≤B):w.ownsRow B' e size v n xs:=by
 obtain ⟨h1,h2⟩:=h
 refine ⟨h1,?_⟩
 rcases h2 with h2 | ⟨g,cap,cur,hv,hg,r⟩
 ·exact .inl h2
 ·exact .inr ⟨g,cap,cur,hv,Nat.le_trans hB hg,r⟩
theorem lay2 (w:World) (a b:Array Value) (t:TypeId):((w.alloc (.cells a t)).alloc (.cells b t)).heap[w.heap.size]?=some (.cells a t (0,0))∧((w.alloc (.cells a t)).alloc (.cells b t)).heap[w.heap.size+1]?=some (.cells b t (0,0)):=by
 refine ⟨(Below.heap_alloc _ _ _ (by simp)).trans (heap_alloc_new w _),?_⟩
 have:=heap_alloc_new (w.alloc (.cells a t)) (.cells b t)
 rw [World.size_alloc] at this
 exact this
theorem typed2 {w:World}{b c:Nat}{t:TypeId}{x y:Array Value}(hb:w.heap[b]?=some (.cells x t (0,0))) (hc:w.heap[c]?=some (.cells y t (0,0))):Typed w [b,c] [t]:=fun k hk cur t' mk hh=>by
 simp at hk
 rcases hk with rfl | rfl
 ·rw [hb] at hh;cases hh;simp
 ·rw [hc] at hh;cases hh;simp
theorem setCells_row (b:Nat):∀ (vs pre old post:List Value) (w:World) (t:TypeId),w.heap[b]?=some (.cells (pre++old++post).toArray t (0,0))→old.length=vs.length →
 (w.setCells b pre.length vs).heap[b]?=some (.cells (pre++vs++post).toArray t (0,0))
 | [],pre,old,post,w,t,h,hl=>by
   obtain rfl:=List.eq_nil_of_length_eq_zero (by simpa using hl)
   simpa [World.setCells] using h
 | v :: r,pre,[],post,w,t,h,hl=>by simp at hl
 | v :: r,pre,x :: old,post,w,t,h,hl=>by
   have h1:=heap_setCell_same w b pre.length _ _ v h
   have h2:=setCells_row b r (pre++[v]) old post (w.setCell ⟨b,pre.length,none⟩ v) t (by
    rw [h1]
    congr 2
    apply Array.ext'
    rw [Array.toList_setIfInBounds]
    simp) (by simpa using hl)
   rw [World.setCells]
   simpa using h2
theorem setCells_kept {S:List Nat}{a:World}{b:Nat}(hb:b∈S∨a.heap.size≤b):∀ (l:List Value) (k:Nat) {w:World},Kept S a w→Kept S a (w.setCells b k l)
 | [],_,_,h=>h
 | u :: l,k,w,h=>by rw [World.setCells];exact setCells_kept hb l (k+1) (h.setCell hb u)
def Bx (w:World) (b:Nat) (T:TypeId) (cs:List Value):Prop:=w.heap[b]?=some (.cells cs.toArray T (0,0))
theorem Bx.kept {S:List Nat}{a w:World}{b:Nat}{T:TypeId}{cs:List Value}(h:Bx a b T cs) (k:Kept S a w) (hb:b ∉ S):Bx w b T cs:=k.at h hb
theorem Bx.lt {w:World}{b:Nat}{T:TypeId}{cs:List Value}(h:Bx w b T cs):b < w.heap.size:=lt_of_at h
theorem Bx.cell {w:World}{b:Nat}{T:TypeId}{cs:List Value}(h:Bx w b T cs) (j:Nat) {v:Value}(hv:cs[j]?=some v):w.cell? ⟨b,j,none⟩=some v:=cell_inC h (by simpa using hv)
theorem Bx.froz {w:World}{b:Nat}{T:TypeId}{cs:List Value}(h:Bx w b T cs) (j:Nat):w.frozen? ⟨b,j,none⟩=false:=froz3 h j
theorem Bx.new (w:World) (T:TypeId) (cs:List Value):Bx (w.alloc (.cells cs.toArray T)) w.heap.size T cs:=heap_alloc_new w _
theorem Bx.range {w:World}{b:Nat}{T:TypeId}{cs:List Value}(h:Bx w b T cs):w.rangeAt b 0 cs:=fun j v hv=>by
 rw [Nat.zero_add];exact h.cell j hv
theorem Bx.set {w:World}{b:Nat}{T:TypeId}{cs:List Value}(h:Bx w b T cs) (j:Nat) (v:Value):Bx (w.setCell ⟨b,j,none⟩ v) b T (cs.set j v):=by
 have h1:=heap_setCell_same w b j _ _ v h
 unfold Bx
 rw [h1]
 congr 2
 apply Array.ext'
 rw [Array.toList_setIfInBounds]
theorem Bx.store {w:World}{b:Nat}{T:TypeId}{cs:List Value}(h:Bx w b T cs) {ds:List Value}(hl:ds.length=cs.length):Bx (w.setCells b 0 ds) b T ds:=by
 have h1:=setCells_row b ds [] cs [] w _ (by simpa [Bx] using h) hl.symm
 simpa [Bx] using h1
theorem Bx.there {w:World}{b:Nat}{T:TypeId}{cs:List Value}(h:Bx w b T cs):w.there b 0 cs.length:=fun j hj=>by
 rw [Nat.zero_add]
 exact ⟨by rw [h.cell j (List.getElem?_eq_getElem hj)];rfl,h.froz j⟩
def RowT (P:Program) (T:TypeId) (n:Nat):Prop:=∃ D,P.underlying T=some D∧D.isRow=true∧(P.info? T).map (·.size)=some n
theorem wl_load_bx {P:Program}{ops:Array Oper}{rest:List Oper}{a:Act}{w:World}{Q:Exit→Act→World→Prop}{d:Option Tmp}{x:Operand}{T ty:TypeId}{ps:String}{af:Array Edge}
 {b:Nat}{cs:List Value}(hc:Bx w b T cs) (hT:RowT P T cs.length) (hx:a.eval x=.pointer (some ⟨b,0,none⟩))
 (h:wpList P ops Q rest (a.put d (.agg cs.toArray)) w):wpList P ops Q (⟨d,.load T x,ty,ps,af,none⟩ :: rest) a w:=by
 obtain ⟨D,hu,hd,hi⟩:=hT
 exact wpList_load_mid rfl _ x rfl b 0 hx cs D hc.range hu hd hi h
theorem wl_store_bx {P:Program}{ops:Array Oper}{rest:List Oper}{a:Act}{w:World}{Q:Exit→Act→World→Prop}{d:Option Tmp}{x y:Operand}{T ty:TypeId}{ps:String}{af:Array Edge}
 {b:Nat}{cs ds:List Value}(hc:Bx w b T cs) (hl:ds.length=cs.length) (h1:∀ v∈ds,v.oneCell'=true) (hT:RowT P T ds.length)
 (hx:a.eval x=.pointer (some ⟨b,0,none⟩)) (hy:a.eval y=.agg ds.toArray) (h:∀ w',Hid (Bx w' b T ds)→Hid (Kept [b] w w')→wpList P ops Q rest (a.put d undef) w'):wpList P ops Q (⟨d,.store T x y,ty,ps,af,none⟩ :: rest) a w:=by
 obtain ⟨D,hu,hd,hi⟩:=hT
 exact wpList_store_mid rfl _ x y rfl b 0 ds.toArray hx hy (by rw [List.size_toArray,hl];exact hc.there) (by rw [List.size_toArray];exact hi) (all_oneCell_toArray h1) (h _ (hc.store hl) (setCells_kept (by simp) _ _ (Kept.refl _ _)))
theorem bx_result {P:Program}{w:World}{g:Nat}{T:TypeId}{cs:List Value}{fn:Func}{p:Tmp}(hr:fn.results=#[.cell p T]) (tmps:Array Value) (hp:tmps.getD p undef=.pointer (some ⟨g,0,none⟩)) (hg:Bx w g T cs)
 (hT:RowT P T cs.length):(results fn tmps).run P w=.ok (.agg cs.toArray) w:=by
 obtain ⟨D,hu,hd,hi⟩:=hT
 exact results_cell_row hr tmps w g _ cs.toArray _ _ hp hg hu (by cases D <;> first | rfl | cases hd) (by rw [List.size_toArray];exact hi)
open Go.ChangeShapes Go.WideShapes Go.ChangeAt Go.RowKit Go.Deep
theorem ownK:ownKnob Tryz.prog.godebug=none:=by kernel_rfl
theorem laidOut:laidOutB Tryz.prog=true:=by kernel_rfl
end Go.Proofs.YtddhmfildfdbdaaGreat
namespace Go.Proofs.YtddhmfildfdbdaaGreat
open Go.ChangeShapes Go.WideShapes Go.ChangeAt Go.RowKit Go.Deep
end Go.Proofs.YtddhmfildfdbdaaGreat
namespace Go.Proofs.YtddhmfildfdbdaaGreat
open Go.RowKit Go.ChangeShapes Go.WideShapes Go.ChangeAt Go.Deep
def SlI (w:World) (ao:Option Addr) (n c:Nat) (S:List Int):Prop :=
 S.length=n∧n≤c∧c≤maxLen∧∀ i (h:i < S.length),∃ b o,ao=some ⟨b,o,none⟩∧w.cell? ⟨b,o+i,none⟩=some (.int .i64 S[i])
theorem SlI.kept {a w:World}{ao:Option Addr}{n c:Nat}{S:List Int}(h:SlI a ao n c S) (k:Kept [] a w):SlI w ao n c S :=
 ⟨h.1,h.2.1,h.2.2.1,fun i hi=>by obtain ⟨b,o,e,h1⟩:=h.2.2.2 i hi;exact ⟨b,o,e,k.cell h1 (by simp)⟩⟩
def RowI (B:Nat) (w:World) (v:Value) (S:List Int):Prop:=w.ownsRow B 3 1 v S.length (S.map (Value.int .i64))
theorem RowI.nil (B:Nat) (w:World):RowI B w (.slice none 0 0) []:=World.ownsRow_nil w B 3 1
theorem RowI.sl {B:Nat}{w:World}{v:Value}{S:List Int}(h:RowI B w v S):∃ ao c,v=.slice ao S.length c∧SlI w ao S.length c S:=by
 have h':=h
 obtain ⟨h1,h2⟩:=h
 rcases h2 with ⟨hv,hn⟩ | ⟨g,cap,cur,hv,hg,hh,h3,h4,h5,h6⟩
 ·have:S=[]:=by simpa using hn
  subst this
  exact ⟨none,0,by rw [hv];rfl,rfl,Nat.le_refl _,Nat.zero_le _,fun i hi=>by simp at hi⟩
 ·refine ⟨some ⟨g,0,none⟩,cap,hv,rfl,h3,h4,fun i hi=>⟨g,0,rfl,?_⟩⟩
  unfold RowI at h'
  rw [hv] at h'
  rw [Nat.zero_add,World.ownsRow.cellAt h' i (by omega)]
  simp [hi]
theorem info_int:(Tryz.prog.info? 3).map (fun i=>(i.zero,i.size,i.bytes))=some (some (.int .i64 0),1,8):=by kernel_rfl
theorem wp_appI {w:World}{ops:Array Oper}{rest:List Oper}{o:Oper}{a:Act}{Q:Exit→Act→World→Prop}(hgd:o.guard=none) (s x:Operand)
 (hop:o.op=.call { callee:=.builtin .append,args:=#[s,x],argTypes:=#[34,34] })
 (B:Nat) (v:Value) (S:List Int) (hs:a.eval s=v) (hO:RowI B w v S) (g:Nat) (z:Int) (hx:a.eval x=.slice (some ⟨g,0,none⟩) 1 1) (hc:w.cell? ⟨g,0,none⟩=some (.int .i64 z)) (hlen:S.length≤1000000) (hB:B≤w.heap.size)
 (h:∀ v' w',RowI B w' v' (S++[z])→w.grownBy w' v.ownBlock→wpList Tryz.prog ops Q rest (a.put o.dst v') w'):wpList Tryz.prog ops Q (o :: rest) a w:=by
 obtain ⟨i0,hi,hz0,hz1,hz2⟩:=info_parts info_int
 refine wpList_append_own w hgd s x 34 hop B 3 i0 (.int .i64 0) 1 8 Tryz.underlying34 hi hz0 hz1 hz2 rfl (by decide) v S.length (S.map (Value.int .i64)) hs hO ⟨g,0,none⟩ 1 1 [.int .i64 z] hx rfl ?_ ?_ (by unfold maxLen;omega) (by omega) hB ?_
 ·intro j u hj
  match j,hj with
  | 0,hj=>simp at hj;subst hj;rw [adr_addC];exact hc
 ·intro u hu;simp at hu;subst hu;rfl
 ·intro v' w' h2 h3 _
  refine h v' w' ?_ h3
  unfold RowI
  rw [List.length_append,List.map_append]
  simpa using h2
end Go.Proofs.YtddhmfildfdbdaaGreat
namespace Go.Proofs.YtddhmfildfdbdaaGreat
open Go.RowKit Go.Shelf
theorem Kept.grow {a w:World}(h:Kept [] a w):a.grownBy w none:=⟨h.os,h.tape,h.output,h.size,fun k hk _=>h.block k hk (by simp)⟩
theorem wide_room (k:Nat):Fence.wide.depth.isSome=true→1≤k:=fun h=>by cases h
theorem abides_kept {α:Type}{n:Nat}{J:List α→World→Prop}(h:AbidesFrom n J):∀ pre W W',J pre W→Kept [] W W'→J pre W' :=
 fun pre W W' hj hk=>h pre W W' none hj hk.grow (fun r e=>by cases e)
theorem boxed_keep {a w:World}{b:Nat}{t:TypeId}{v:Value}(h:Boxed a b t v) (k:Kept [] a w):Boxed w b t v:=k.at h (by simp)
theorem keepsOthers_kept {a w:World}(k:Kept [] a w):KeepsOthers a w:=⟨k.size,fun i _ hi _=>k.at hi (by simp)⟩
end Go.Proofs.YtddhmfildfdbdaaGreat
namespace Go.Proofs.YtddhmfildfdbdaaGreat
open Go.RowKit
def only (Q:Exit→Act→World→Prop) (e:Exit) (a:Act) (w:World):Prop:=e=.normal∧Q .normal a w
theorem op_in {P:Program}{l n:Nat}{o:Oper}{a:Act}{w:World}{K:Act→World→Prop}{Q:Exit→Act→World→Prop}(hd:∀ c,o.op≠.defer c) (h:o.wp P a w K (only Q)):o.wpIn (Fence.wide.inRound l) n P a w K Q:=by
 unfold Oper.wpIn
 refine ⟨fun f _=>trivial,?_⟩
 rw [Oper.semAt_plain _ _ _ hd]
 unfold Oper.wp at h
 generalize (execOp a.eval o).run P w=r at *
 cases r with
 | ok x w' =>
   cases x <;> simp only [Oper.upon,Oper.uponIn] at h ⊢
   case value=>exact h
   case skip=>exact h
   case defer=>exact h
   case enter f args =>
    refine ⟨fun h=>(by cases h),CallsIn.inRound l (callsIn_wide.2 (Calls.mono h fun e w'' he=>?_))⟩
    cases e with
    | returned v=>exact he
    | panicked c=>exact absurd he.1 (by simp)
    | outgrown=>obtain ⟨_,_,he,_⟩:=he;cases he
   case row row args =>
    refine ⟨fun h=>(by cases h),fun c cs _=>?_⟩
    obtain ⟨v,w',r,s⟩:=h c cs
    exact ⟨v,w',r,stepsIn_wide.2 s⟩
 | halt x w' =>
   cases x <;> simp only [Oper.upon,Oper.uponIn] at h ⊢
   case panic u=>exact absurd h.1 (by simp)
def noDefer (ops:Array Oper):Bool:=ops.all fun o=>match o.op with | .defer _=>false | _=>true
theorem noDefer_at {ops:Array Oper}(h:noDefer ops=true) {i:Nat}{o:Oper}(hi:ops[i]?=some o):∀ c,o.op≠.defer c:=fun c e=>by
 have h1:=Array.all_eq_true_iff_forall_mem.1 h o (Array.mem_of_getElem? hi)
 rw [e] at h1
 cases h1
theorem any_in {P:Program}{md:Region.Mode}{l n:Nat}{ops:Array Oper}{Q:Exit→Act→World→Prop}(hd:noDefer ops=true):∀ (fuel:Nat) (listed:Array Bool) (a:Act) (w:World),wpAny P md ops (only Q) fuel listed a w→wpAnyIn (Fence.wide.inRound l) n P md ops Q fuel listed a w
 | 0,_,_,_,h=>⟨h.1,h.2.2⟩
 | fuel+1,listed,a,w,h=>⟨fun h0=>(h.1 h0).2,fun i hi=>by
  have h1:=h.2 i hi
  unfold wpOp at h1
  unfold wpOpIn
  split
  ·rename_i ho
   simp only [ho] at h1
   exact any_in hd fuel _ _ _ h1
  ·rename_i o ho
   simp only [ho] at h1
   split
   ·rename_i hw
    simp only [hw,if_true] at h1
    rcases h1 with h1 | ⟨_,_,_,h1,_⟩
    ·exact Oper.wpIn_mono (fun a w=>any_in hd fuel _ a w) (op_in (noDefer_at hd ho) h1)
    ·cases h1
   ·rename_i hw
    simp only [hw] at h1
    exact ⟨fun _ _=>trivial,any_in hd fuel _ _ _ h1⟩⟩
theorem region_in {P:Program}{l n id:Nat}{ops:Array Oper}{Q:Exit→Act→World→Prop}{S:World→Prop}{a:Act}{w:World}(hm:P.follows .mixedOrders=true) (hd:noDefer ops=true) (hS:S w.drew)
 (h:S w.drew→wpAnyH P .any ops (only Q) S ops.size (Array.replicate ops.size false) a w.drew):(Code.region id ops true).wpIn (Fence.wide.inRound l) n P Q a w :=
 wpIn_region_any hm (any_in hd _ _ _ _ (wpAny_of_held _ _ _ _ (h hS)))
theorem sT:(∀ {α:Type}{xs:List α}{i:Nat}(h:i < xs.toArray.size),xs.toArray[i]=xs[i]'(by simpa using h))∧(∀ {α:Type}{i:Nat}(a:α) (l:List α) (h:i+1 < (a :: l).length),(a :: l)[i+1]=l[i]'(Nat.lt_of_succ_lt_succ h))∧(∀ {α:Type}(a:α) (l:List α) (h:0 < (a :: l).length),(a :: l)[0]=a)∧(∀ {α:Type}(l:List α) (i:Nat) (x:α),l.toArray.setIfInBounds i x=(l.set i x).toArray)∧(∀ {α:Type}(a b:α) (l:List α),(a :: l).set 0 b=b :: l)∧(∀ {α:Type}(a b:α) (l:List α) (n:Nat),(a :: l).set (n+1) b=a :: l.set n b) :=
 ⟨fun h=>List.getElem_toArray h,fun _ _ _=>rfl,fun _ _ _=>rfl,fun l i x=>List.setIfInBounds_toArray l i x,fun _ _ _=>rfl,fun _ _ _ _=>rfl⟩
def runK (md:Region.Mode) (ops:Array Oper):List Nat→Array Bool→Bool
 | [],_=>true
 | i :: is,l=>((ops[i]?.any (·.dst.isSome)) && (Region.free md ops l i && (Region.ready md ops l).contains i)) && runK md ops is (l.setIfInBounds i true)
def setK:List Nat→Array Bool→Array Bool
 | [],l=>l
 | i :: is,l=>setK is (l.setIfInBounds i true)
def YK (P:Program) (ops:Array Oper) (S:World→Prop) (K:Act→Prop):List Nat→Act→Prop
 | [],a=>K a
 | i :: is,a=>∃ oi v,ops[i]?=some oi∧YieldsIf P ops S oi v a∧YK P ops S K is (a.put oi.dst v)
theorem yk {P:Program}{ops:Array Oper}{S:World→Prop}{K:Act→Prop}{i:Nat}{is:List Nat}{a:Act}(v:Value) {oi:Oper}(hi:ops[i]?=some oi) (hy:YieldsIf P ops S oi v a) (h:YK P ops S K is (a.put oi.dst v)):YK P ops S K (i :: is) a:=⟨oi,v,hi,hy,h⟩
theorem yk0 {P:Program}{ops:Array Oper}{S:World→Prop}{K:Act→Prop}{a:Act}(h:K a):YK P ops S K [] a:=h
theorem tksK {P:Program}{ops:Array Oper}{Q:Exit→Act→World→Prop}{md:Region.Mode}{S:World→Prop}{w:World}(hs:Region.noSelect ops=true) (hQ:∀ c a w t v,Q (.panic c) (Act.put a (some t) v) w→Q (.panic c) a w) (hS:S w):∀ (is:List Nat) {fuel:Nat}{listed:Array Bool}{a:Act},runK md ops is listed=true→YK P ops S (fun a'=>wpAnyH P md ops Q S fuel (setK is listed) a' w) is a→wpAnyH P md ops Q S (fuel+is.length) listed a w
 | [],_,_,_,_,h=>h
 | i :: is,fuel,listed,a,hk,h=>by
   obtain ⟨oi,v,hi,hy,h⟩:=h
   simp only [runK,Bool.and_eq_true] at hk
   have hd:=hk.1.1
   rw [hi] at hd
   obtain ⟨t,ht⟩:=Option.isSome_iff_exists.1 (show oi.dst.isSome=true from hd)
   exact wpAnyH_take hi hs hk.1.2.1 hk.1.2.2 (fun c a w hq=>hQ c a w t v (by rw [ht] at hq;exact hq)) hy hS (tksK hs hQ hS is hk.2 h)
theorem tks {P:Program}{ops:Array Oper}{Q:Exit→Act→World→Prop}{md:Region.Mode}{S:World→Prop}{w:World}(is:List Nat) {fuel fuel':Nat}{listed:Array Bool}{a:Act}(hf:fuel=fuel'+is.length) (hk:(Region.noSelect ops && runK md ops is listed)=true) (hQ:∀ c a w t v,Q (.panic c) (Act.put a (some t) v) w→Q (.panic c) a w) (hS:S w) (h:YK P ops S (fun a'=>wpAnyH P md ops Q S fuel' (setK is listed) a' w) is a):wpAnyH P md ops Q S fuel listed a w:=by
 rw [Bool.and_eq_true] at hk
 subst hf
 exact tksK hk.1 hQ hS is hk.2 h
theorem rd1 {P:Program}{ops:Array Oper}{Q:Exit→Act→World→Prop}{md:Region.Mode}{S:World→Prop}{w:World}{fuel:Nat}{listed:Array Bool}{a:Act}{o:Oper}(i:Nat) (hr:Region.ready md ops listed=[i]) (ho:ops[i]?=some o) (h:∀ K':Act→World→Prop,Shut (∀ a w,S w→(S w→wpAnyH P md ops Q S fuel (listed.setIfInBounds i true) a w)→K' a w)→if Region.wanted o (yielded ops a.tmps)=true then Oper.wp P o a w K' Q else K' (a.put o.dst undef) w):wpAnyH P md ops Q S (fuel+1) listed a w :=
 wpAnyH_ready hr (by simp) (AllReadyH.cons ho h AllReadyH.nil)
end Go.Proofs.YtddhmfildfdbdaaGreat
