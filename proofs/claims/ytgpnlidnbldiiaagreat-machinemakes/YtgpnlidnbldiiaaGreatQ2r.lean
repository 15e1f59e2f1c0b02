/-
  Texts laid as one.
-/
import Derived.Test.YtgpnlidnbldiiaaGreatQ1r
import Derived.Test.YtgpnlidnbldiiaaGreatProg
import Derived.Deep.AppendLies
import Derived.Deep.Draws
import Derived.Laws.OwnMore
import Derived.Deep.QuietTactic
import Derived.BigQuiet
import Derived.Deep.RegionHeld3
import Derived.Handy
import Derived.Deep.MidRow
import Derived.Deep.WholeRow
import Derived.Laws.Rows
import Derived.Laws.ResultCell
import Derived.Deep.CutRange
import Derived.Test.YtgpnlidnbldiiaaGreatRows
import Derived.ProofKit
import Derived.OpenShut
import Derived.ShutString
import Derived.ChangeMaps5
import Derived.ChangeOld
import Derived.SizedLaws
import Derived.Deep.Slices
import Derived.Laws.AppendOwn
import Derived.OwnWalk
import Derived.WalkSmall
import Derived.RangeFuncNested
import Derived.RangeFuncBound
import Derived.RangeFuncCalls
import Derived.RangeFuncLeaves
import Derived.RangeFuncBox
import Derived.Shelf.Abstract
import Derived.Shelf.RegionOpen
import Derived.WalkKit
import Derived.OwnWalkIn
import Derived.TacticsInMore
import Derived.LoopNIn
import Derived.LoopIn
import Derived.OrdersHeld
import Derived.OrdersIn
import Derived.Deep.RegionHeld
/-
 Memory: what stays and what turns;over any program.
-/
namespace Go.Proofs.YtgpnlidnbldiiaaGreat
open Go.RowKit
theorem ah {p:Prop}(h:p):Hid p:=h
theorem dd (b o i:Nat):(⟨b,o,none⟩:Addr).add i=⟨b,o+i,none⟩:=by
 by_cases h:i=0 <;> simp [Addr.add,h]
theorem ag {w:World}{b k:Nat}{vs:Array Value}{t:TypeId}{v:Value}(h:w.heap[b]?=some (.cells vs t (0,0))) (hv:vs[k]?=some v):w.cell? ⟨b,k,none⟩=some v:=by
 simp [World.cell?,h,hv]
theorem aN (w:World) (n:Nat):aa [] w (w.drewN n):=⟨rfl,rfl,rfl,Nat.le_refl _,fun _ _ _=>rfl⟩
def aJ (w:World) (S:List Nat) (Ts:List TypeId):Prop:=∀ k∈S,∀ cur t mk,w.heap[k]?=some (.cells cur t mk)→t∈Ts
theorem cm (w:World) (Ts:List TypeId):aJ w [] Ts:=fun _ h=>by cases h
theorem aa.typed {S:List Nat}{Ts:List TypeId}{w w':World}(hk:aa S w w') (hT:aJ w S Ts) {k:Nat}{cur:Array Value}{t:TypeId}{mk:Nat × Nat}(h:w.heap[k]?=some (.cells cur t mk)) (ht:t ∉ Ts):w'.heap[k]?=some (.cells cur t mk) :=
 hk.at h fun hm=>ht (hT k hm _ _ _ h)
theorem ap {S:List Nat}{Ts:List TypeId}{w w':World}(hk:aa S w w') (hT:aJ w S Ts) {B e size n:Nat}{v:Value}{xs:List Value}(h:w.ownsRow B e size v n xs) (ht:e ∉ Ts):w'.ownsRow B e size v n xs:=by
 refine hk.ownsRow h fun k hv hm=>?_;obtain ⟨_,h2⟩:=h;rcases h2 with ⟨rfl,_⟩ | ⟨g,cap,cur,rfl,_,hh,_⟩
 ·cases hv
 ·cases hv;exact ht (hT _ hm _ _ _ hh)
theorem aw {v:Value}{k:Nat}:k∈v.ownBlock.toList↔v.ownBlock=some k:=by
 cases v.ownBlock <;> simp [eq_comm]
theorem ar {w:World}{B e size n:Nat}{v:Value}{xs:List Value}(h:w.ownsRow B e size v n xs) {k:Nat}(hk:v.ownBlock=some k):∃ cur,w.heap[k]?=some (.cells cur e (0,0)):=by
 obtain ⟨_,h2⟩:=h;rcases h2 with ⟨rfl,_⟩ | ⟨g,cap,cur,rfl,_,hh,_⟩
 ·cases hk
 ·cases hk;exact ⟨cur,hh⟩
theorem aj {w:World}{b:Nat}{vs:Array Value}{t:TypeId}(h:w.heap[b]?=some (.cells vs t (0,0))) (j:Nat):w.frozen? ⟨b,j,none⟩=false:=by
 simp [World.frozen?,h]
theorem bF {w:World}{B B' e size n:Nat}{v:Value}{xs:List Value}(h:w.ownsRow B e size v n xs) (hB:B'≤B):w.ownsRow B' e size v n xs:=by
 obtain ⟨h1,h2⟩:=h;refine ⟨h1,?_⟩;rcases h2 with h2 | ⟨g,cap,cur,hv,hg,r⟩
 ·exact .inl h2
 ·exact .inr ⟨g,cap,cur,hv,Nat.le_trans hB hg,r⟩
theorem lJ (w:World) (a b:Array Value) (t:TypeId):((w.alloc (.cells a t)).alloc (.cells b t)).heap[w.heap.size]?=some (.cells a t (0,0))∧((w.alloc (.cells a t)).alloc (.cells b t)).heap[w.heap.size+1]?=some (.cells b t (0,0)):=by
 refine ⟨(Below.heap_alloc _ _ _ (by simp)).trans (heap_alloc_new w _),?_⟩;have:=heap_alloc_new (w.alloc (.cells a t)) (.cells b t)
 rw [World.size_alloc] at this;exact this
theorem la {w:World}{b c:Nat}{t:TypeId}{x y:Array Value}(hb:w.heap[b]?=some (.cells x t (0,0))) (hc:w.heap[c]?=some (.cells y t (0,0))):aJ w [b,c] [t]:=fun k hk cur t' mk hh=>by
 simp at hk
 rcases hk with rfl | rfl
 ·rw [hb] at hh;cases hh;simp
 ·rw [hc] at hh;cases hh;simp
theorem ij (b:Nat):∀ (vs pre old post:List Value) (w:World) (t:TypeId),w.heap[b]?=some (.cells (pre++old++post).toArray t (0,0))→old.length=vs.length →
 (w.setCells b pre.length vs).heap[b]?=some (.cells (pre++vs++post).toArray t (0,0))
 | [],pre,old,post,w,t,h,hl=>by
   obtain rfl:=List.eq_nil_of_length_eq_zero (by simpa using hl);simpa [World.setCells] using h
 | v :: r,pre,[],post,w,t,h,hl=>by simp at hl
 | v :: r,pre,x :: old,post,w,t,h,hl=>by
   have h1:=heap_setCell_same w b pre.length _ _ v h
   have h2:=ij b r (pre++[v]) old post (w.setCell ⟨b,pre.length,none⟩ v) t (by
    rw [h1];congr 2
    apply Array.ext'
    rw [Array.toList_setIfInBounds];simp) (by simpa using hl)
   rw [World.setCells];simpa using h2
theorem ee {S:List Nat}{a:World}{b:Nat}(hb:b∈S∨a.heap.size≤b):∀ (l:List Value) (k:Nat) {w:World},aa S a w→aa S a (w.setCells b k l)
 | [],_,_,h=>h
 | u :: l,k,w,h=>by rw [World.setCells];exact ee hb l (k+1) (h.setCell hb u)
def Bx (w:World) (b:Nat) (T:TypeId) (cs:List Value):Prop:=w.heap[b]?=some (.cells cs.toArray T (0,0))
open Go.ChangeShapes Go.WideShapes Go.ChangeAt Go.RowKit Go.Deep
theorem DS:ownKnob Tryz.prog.godebug=none:=by kernel_rfl
theorem pE:laidOutB Tryz.prog=true:=by kernel_rfl
theorem dX:Tryz.prog.cellsOf 3=1:=by kernel_rfl
theorem B7:Tryz.prog.cellsOf 36=1:=by kernel_rfl
theorem pA:Tryz.prog.cellsOf 9=1:=by kernel_rfl
theorem Cd:Tryz.prog.cellsOf 4=1:=by kernel_rfl
end Go.Proofs.YtgpnlidnbldiiaaGreat
namespace Go.Proofs.YtgpnlidnbldiiaaGreat
open Go.ChangeShapes Go.WideShapes Go.ChangeAt Go.RowKit Go.Deep
theorem dC {H:Type}{P:Program}{t:TypeId}{fs:Array Field}{xs:List (DataW H × List MemPlace)}(hu:P.underlying t=some (.struct fs)) (hw:∀ m∈(DataW.agg (xs.map (·.1))).weights P t,m≤reachBytes) {j:Nat}{f:Field}{y:DataW H × List MemPlace}(hf:fs[j]?=some f) (hx:xs[j]?=some y):∀ m∈y.1.weights P f.type,m≤reachBytes:=fun m hm =>
 hw m (by
  simp only [DataW.weights,hu];exact DataW.weights_mem_each (j:=j) (t:=f.type) (d:=y.1) (by simp [hf]) (by simp [hx]) m hm)
theorem ik {H:Type}{P:Program}{e:TypeId}:∀ {l:List (DataW H)}{d:DataW H},d∈l→∀ n∈d.weights P e,n∈DataW.weightsAll P e l
 | d0 :: l,d,hd,n,hn=>by
   simp only [DataW.weightsAll,List.mem_append];rcases List.mem_cons.1 hd with rfl | hd
   ·exact .inl hn
   ·exact .inr (ik hd n hn)
theorem lh {H:Type}{enc:TypeId × Value→H}{W:World}{base:Nat}{sp:Nat→Bool}{held:Bool}{α:Type}{t e:TypeId}(ht:Tryz.prog.underlying t=some (.slice e)) {k:Nat}(hk:Tryz.prog.cellsOf e=k) (hk0:0 < k) (z:α) (Rl:α→List Value→Prop)
 (hone:∀ (fuel:Nat) (cs:List Value) (x:DataW H × List MemPlace),DataW.trod enc Tryz.prog W base sp held fuel e cs=some x→(∀ m∈x.1.weights Tryz.prog e,m≤reachBytes)→∃ t:α,Rl t cs∧cs.length=k)
 {fuel:Nat}{a:Option Addr}{len cap:Nat}{x:DataW H × List MemPlace}(h:DataW.trod enc Tryz.prog W base sp held fuel t [.slice a len cap]=some x) (hw:∀ m∈x.1.weights Tryz.prog t,m≤reachBytes) :
 ∃ L:List α,L.length=len∧len≤cap∧cap≤maxLen∧(a=none→cap=0)∧len*Tryz.prog.bytesOf e≤reachBytes∧∀ i (hi:i < L.length),∃ b o cs,a=some ⟨b,o,none⟩∧Rl L[i] cs∧∀ j,j < k→W.cell? ⟨b,o+i*k+j,none⟩=cs[j]?:=by
 rcases open_slice ht h with ⟨hcs,_⟩ | ⟨ad,l,c,m,n,D,Pl,hcs,_,hl,hm,hmm,rfl,hx⟩
 ·simp at hcs
  obtain ⟨rfl,rfl,rfl⟩:=hcs;exact ⟨[],rfl,Nat.le_refl _,Nat.zero_le _,fun _=>rfl,by simp,fun i hi=>by simp at hi⟩
 ·simp at hcs
  obtain ⟨rfl,rfl,rfl⟩:=hcs;have hle:len≤m:=by rw [hmm];split <;> omega
  rw [hk] at hx
  have hwt:∀ i,i < len→∀ q∈(D i).weights Tryz.prog e,q≤reachBytes:=fun i hi q hq=>hw q (by
   simp only [DataW.weights,ht,List.mem_cons,List.mem_append];exact .inr (.inl (ik (List.mem_map.2 ⟨i,by simpa using hi,rfl⟩) q hq)))
  have hby:len*Tryz.prog.bytesOf e≤reachBytes:=by
   have:=hw ((len+(m - len))*Tryz.prog.bytesOf e) (by simp [DataW.weights,ht])
   exact Nat.le_trans (Nat.mul_le_mul_right _ (by omega)) this
  have each:∀ i,i < len→∃ t:α,∃ b o cs,some ad=some (⟨b,o,none⟩:Addr)∧Rl t cs∧∀ j,j < k→W.cell? ⟨b,o+i*k+j,none⟩=cs[j]?:=by
   intro i hi;obtain ⟨cs,h1,h2⟩:=hx i (by omega);obtain ⟨t,hR,hcl⟩:=hone _ _ _ h2 (hwt i hi);obtain ⟨_,_,hc⟩:=World.cells?_some h1;obtain ⟨b,o,spot⟩:=ad
   have hspot:spot=none:=by
    have h3:=hc 0 (by omega);obtain ⟨v,hv⟩:∃ v,cs[0]?=some v:=⟨_,List.getElem?_eq_getElem (by omega)⟩;rw [hv] at h3;have h4:=World.cell?_spot h3;by_cases h0:i=0
    ·subst h0;simpa [Addr.add] using h4
    ·obtain ⟨cs0,h5,h6⟩:=hx 0 (by omega);obtain ⟨t0,_,hcl0⟩:=hone _ _ _ h6 (hwt 0 (by omega));obtain ⟨_,_,hc0⟩:=World.cells?_some h5;have h7:=hc0 0 (by omega);obtain ⟨v0,hv0⟩:∃ v,cs0[0]?=some v:=⟨_,List.getElem?_eq_getElem (by omega)⟩;rw [hv0] at h7;have h8:=World.cell?_spot h7;simpa [Addr.add] using h8
   subst hspot;refine ⟨t,b,o,cs,rfl,hR,fun j hj=>?_⟩;have h8:=hc j hj;rw [dd,dd] at h8;exact h8
  obtain ⟨f,hf⟩:∃ f:Nat→α,∀ i,i < len→∃ b o cs,some ad=some (⟨b,o,none⟩:Addr)∧Rl (f i) cs∧∀ j,j < k→W.cell? ⟨b,o+i*k+j,none⟩=cs[j]?:=by
   refine ⟨fun i=>if hi:i < len then Classical.choose (each i hi) else z,fun i hi=>?_⟩;simp only [dif_pos hi];exact Classical.choose_spec (each i hi)
  refine ⟨(List.range len).map f,by simp,hl,hm,by simp,hby,fun i hi=>?_⟩;simp at hi
  obtain ⟨b,o,cs,h9,h10,h11⟩:=hf i hi;exact ⟨b,o,cs,h9,by simpa using h10,h11⟩
end Go.Proofs.YtgpnlidnbldiiaaGreat
namespace Go.Proofs.YtgpnlidnbldiiaaGreat
open Go.RowKit Go.ChangeShapes Go.WideShapes Go.ChangeAt Go.Deep
def mW (w:World) (ao:Option Addr) (n c:Nat) (S:List Int):Prop :=
 S.length=n∧n≤c∧c≤maxLen∧∀ i (h:i < S.length),∃ b o,ao=some ⟨b,o,none⟩∧w.cell? ⟨b,o+i,none⟩=some (.int .i64 S[i])
theorem mW.kept {a w:World}{ao:Option Addr}{n c:Nat}{S:List Int}(h:mW a ao n c S) (k:aa [] a w):mW w ao n c S :=
 ⟨h.1,h.2.1,h.2.2.1,fun i hi=>by obtain ⟨b,o,e,h1⟩:=h.2.2.2 i hi;exact ⟨b,o,e,k.cell h1 (by simp)⟩⟩
def bJ (B:Nat) (w:World) (v:Value) (S:List Int):Prop:=w.ownsRow B 3 1 v S.length (S.map (Value.int .i64))
theorem bJ.sl {B:Nat}{w:World}{v:Value}{S:List Int}(h:bJ B w v S):∃ ao c,v=.slice ao S.length c∧mW w ao S.length c S:=by
 have h':=h;obtain ⟨h1,h2⟩:=h;rcases h2 with ⟨hv,hn⟩ | ⟨g,cap,cur,hv,hg,hh,h3,h4,h5,h6⟩
 ·have:S=[]:=by simpa using hn
  subst this;exact ⟨none,0,by rw [hv];rfl,rfl,Nat.le_refl _,Nat.zero_le _,fun i hi=>by simp at hi⟩
 ·refine ⟨some ⟨g,0,none⟩,cap,hv,rfl,h3,h4,fun i hi=>⟨g,0,rfl,?_⟩⟩;unfold bJ at h';rw [hv] at h';rw [Nat.zero_add,World.ownsRow.cellAt h' i (by omega)];simp [hi]
theorem ni:(Tryz.prog.info? 3).map (fun i=>(i.zero,i.size,i.bytes))=some (some (.int .i64 0),1,8):=by kernel_rfl
theorem l5 {w:World}{ops:Array Oper}{rest:List Oper}{o:Oper}{a:Act}{Q:Exit→Act→World→Prop}(hgd:o.guard=none) (s x:Operand)
 (hop:o.op=.call { callee:=.builtin .append,args:=#[s,x],argTypes:=#[22,22] })
 (B:Nat) (v:Value) (S:List Int) (hs:a.eval s=v) (hO:bJ B w v S) (g:Nat) (z:Int) (hx:a.eval x=.slice (some ⟨g,0,none⟩) 1 1) (hc:w.cell? ⟨g,0,none⟩=some (.int .i64 z)) (hlen:S.length≤1000000) (hB:B≤w.heap.size)
 (h:∀ v' w',bJ B w' v' (S++[z])→w.grownBy w' v.ownBlock→wpList Tryz.prog ops Q rest (a.put o.dst v') w'):wpList Tryz.prog ops Q (o :: rest) a w:=by
 obtain ⟨i0,hi,hz0,hz1,hz2⟩:=info_parts ni;refine wpList_append_own w hgd s x 22 hop B 3 i0 (.int .i64 0) 1 8 Tryz.underlying22 hi hz0 hz1 hz2 rfl (by decide) v S.length (S.map (Value.int .i64)) hs hO ⟨g,0,none⟩ 1 1 [.int .i64 z] hx rfl ?_ ?_ (by unfold maxLen;omega) (by omega) hB ?_
 ·intro j u hj;match j,hj with
  | 0,hj=>simp at hj;subst hj;rw [dd];exact hc
 ·intro u hu;simp at hu;subst hu;rfl
 ·intro v' w' h2 h3 _;refine h v' w' ?_ h3;unfold bJ;rw [List.length_append,List.map_append];simpa using h2
theorem ut {H:Type}{enc:TypeId × Value→H}{W:World}{base:Nat}{sp:Nat→Bool}{held:Bool}{fuel:Nat}{a:Option Addr}{len cap:Nat}{x:DataW H × List MemPlace}
 (h:DataW.trod enc Tryz.prog W base sp held fuel 22 [.slice a len cap]=some x) (hw:∀ m∈x.1.weights Tryz.prog 22,m≤reachBytes):∃ S,mW W a len cap S:=by
 obtain ⟨L,h1,h2,h3,h4,_,h6⟩:=lh Tryz.underlying22 dX (by omega) (0:Int) (fun t cs=>cs=[.int .i64 t]) (fun _ _ _ h _=>by obtain ⟨d,e,_⟩:=DataW.trod_int Tryz.underlying3 h;exact ⟨d,e,by rw [e];rfl⟩) h hw;refine ⟨L,h1,h2,h3,fun i hi=>?_⟩;obtain ⟨b,o,cs,e,rfl,hc⟩:=h6 i hi;have:=hc 0 (by omega)
 exact ⟨b,o,e,by simpa using this⟩
set_option maxHeartbeats 4000000 in
set_option maxRecDepth 100000 in
theorem oU (w:World) (ao:Option Addr) (n c:Nat) (S:List Int) (hS:mW w ao n c S) (z:Int) :
 Calls Tryz.prog 96 #[.slice ao n c,.int .i64 z] w fun e w'=>e=.returned (.bool (decide (z∈S)))∧w=w':=by
 have hl:=hS.1;have hc:=hS.2.1;have hm:=hS.2.2.1;unfold maxLen at hm;have HS:=ah hS;have HL:=ah hl;clear hS hl;go_enter Tryz.func96,Tryz.ntmps96;go_wp2_with fail
 go_loop [5] (fun iv=>∃ j:Nat,iv=.int .i64 (j:Int)∧j≤n∧Hid (z ∉ S.take j)) (fun iv=>n - (intOf iv).toNat)
 case atStart=>exact ⟨0,rfl,Nat.zero_le _,by simp [Hid]⟩
 case round =>
  obtain ⟨j,rfl,hj,HN⟩:=hrel;by_cases hlt:j < n
  ·have hlt':(j:Int) < n:=by omega
   have hjc:j≤c:=by omega
   have hjS:j < S.length:=by rw [HL.out];exact hlt
   obtain ⟨g,o,rfl,h0⟩:=HS.out.2.2.2 j hjS;have HT:Hid (S.take (j+1)=S.take j++[S[j]]):=List.take_succ_eq_append_getElem hjS;have HM:Hid (S[j]∈S):=List.getElem_mem hjS;generalize S[j]=y at *;by_cases hd:y=z
   ·have HE:Hid (decide (z∈S)=true):=by show _=_;rw [← hd];simpa using HM.out
    (go_wp2_with fail);go_ret
    exact ⟨by rw [HE.out];rfl,rfl⟩
   ·have HN2:Hid (z ∉ S.take (j+1)):=by show _;rw [HT.out];intro hm;rcases List.mem_append.1 hm with h | h
                                        ·exact HN.out h
                                        ·simp at h;exact hd h.symm
    (go_wp2_with fail);go_round
    case rel=>exact ⟨j+1,by go_num,by omega,HN2⟩
    case measure=>simp [intOf];omega
  ·have hlt':¬ (j:Int) < n:=by omega
   have HE:Hid (decide (z∈S)=false):=by
    have h:=HN.out;rw [List.take_of_length_le (by rw [HL.out];omega)] at h;show _=_;simpa using h
   (go_wp2_with fail);go_ret
   exact ⟨by rw [HE.out];rfl,rfl⟩
end Go.Proofs.YtgpnlidnbldiiaaGreat
namespace Go.Proofs.YtgpnlidnbldiiaaGreat
open Go.RowKit Go.Shelf
theorem aa.grow {a w:World}(h:aa [] a w):a.grownBy w none:=⟨h.os,h.tape,h.output,h.size,fun k hk _=>h.block k hk (by simp)⟩
theorem oK (k:Nat):Fence.wide.depth.isSome=true→1≤k:=fun h=>by cases h
theorem rW {α:Type}{n:Nat}{J:List α→World→Prop}(h:AbidesFrom n J):∀ pre W W',J pre W→aa [] W W'→J pre W' :=
 fun pre W W' hj hk=>h pre W W' none hj hk.grow (fun r e=>by cases e)
theorem gX {a w:World}{b:Nat}{t:TypeId}{v:Value}(h:Boxed a b t v) (k:aa [] a w):Boxed w b t v:=k.at h (by simp)
theorem dp {a w:World}(k:aa [] a w):KeepsOthers a w:=⟨k.size,fun i _ hi _=>k.at hi (by simp)⟩
end Go.Proofs.YtgpnlidnbldiiaaGreat
namespace Go.Proofs.YtgpnlidnbldiiaaGreat
open Go.RowKit
def only (Q:Exit→Act→World→Prop) (e:Exit) (a:Act) (w:World):Prop:=e=.normal∧Q .normal a w
theorem Dx {P:Program}{l n:Nat}{o:Oper}{a:Act}{w:World}{K:Act→World→Prop}{Q:Exit→Act→World→Prop}(hd:∀ c,o.op≠.defer c) (h:o.wp P a w K (only Q)):o.wpIn (Fence.wide.inRound l) n P a w K Q:=by
 unfold Oper.wpIn;refine ⟨fun f _=>trivial,?_⟩;rw [Oper.semAt_plain _ _ _ hd];unfold Oper.wp at h;generalize (execOp a.eval o).run P w=r at *;cases r with
 | ok x w' =>
   cases x <;> simp only [Oper.upon,Oper.uponIn] at h ⊢
   case value=>exact h
   case skip=>exact h
   case defer=>exact h
   case enter f args =>
    refine ⟨fun h=>(by cases h),CallsIn.inRound l (callsIn_wide.2 (Calls.mono h fun e w'' he=>?_))⟩;cases e with
    | returned v=>exact he
    | panicked c=>exact absurd he.1 (by simp)
    | outgrown=>obtain ⟨_,_,he,_⟩:=he;cases he
   case row row args =>
    refine ⟨fun h=>(by cases h),fun c cs _=>?_⟩;obtain ⟨v,w',r,s⟩:=h c cs;exact ⟨v,w',r,stepsIn_wide.2 s⟩
 | halt x w' =>
   cases x <;> simp only [Oper.upon,Oper.uponIn] at h ⊢
   case panic u=>exact absurd h.1 (by simp)
def pN (ops:Array Oper):Bool:=ops.all fun o=>match o.op with | .defer _=>false | _=>true
theorem tZ {ops:Array Oper}(h:pN ops=true) {i:Nat}{o:Oper}(hi:ops[i]?=some o):∀ c,o.op≠.defer c:=fun c e=>by
 have h1:=Array.all_eq_true_iff_forall_mem.1 h o (Array.mem_of_getElem? hi);rw [e] at h1;cases h1
theorem qp {P:Program}{md:Region.Mode}{l n:Nat}{ops:Array Oper}{Q:Exit→Act→World→Prop}(hd:pN ops=true):∀ (fuel:Nat) (listed:Array Bool) (a:Act) (w:World),wpAny P md ops (only Q) fuel listed a w→wpAnyIn (Fence.wide.inRound l) n P md ops Q fuel listed a w
 | 0,_,_,_,h=>⟨h.1,h.2.2⟩
 | fuel+1,listed,a,w,h=>⟨fun h0=>(h.1 h0).2,fun i hi=>by
  have h1:=h.2 i hi;unfold wpOp at h1;unfold wpOpIn;split
  ·rename_i ho
   simp only [ho] at h1;exact qp hd fuel _ _ _ h1
  ·rename_i o ho
   simp only [ho] at h1;split
   ·rename_i hw
    simp only [hw,if_true] at h1;rcases h1 with h1 | ⟨_,_,_,h1,_⟩
    ·exact Oper.wpIn_mono (fun a w=>qp hd fuel _ a w) (Dx (tZ hd ho) h1)
    ·cases h1
   ·rename_i hw
    simp only [hw] at h1;exact ⟨fun _ _=>trivial,qp hd fuel _ _ _ h1⟩⟩
theorem xq {P:Program}{l n id:Nat}{ops:Array Oper}{Q:Exit→Act→World→Prop}{S:World→Prop}{a:Act}{w:World}(hm:P.follows .mixedOrders=true) (hd:pN ops=true) (hS:S w.drew)
 (h:S w.drew→wpAnyH P .any ops (only Q) S ops.size (Array.replicate ops.size false) a w.drew):(Code.region id ops true).wpIn (Fence.wide.inRound l) n P Q a w :=
 wpIn_region_any hm (qp hd _ _ _ _ (wpAny_of_held _ _ _ _ (h hS)))
theorem rY {P:Program}{md:Region.Mode}{ops:Array Oper}{Q:Exit→Act→World→Prop}{S:World→Prop}{fuel fuel':Nat}{listed l':Array Bool}{a:Act}{w:World}(hf:fuel=fuel') (h:listed=l') (k:wpAnyH P md ops Q S fuel' l' a w):wpAnyH P md ops Q S fuel listed a w:=by
 subst hf;subst h;exact k
theorem sT:(∀ {α:Type}{xs:List α}{i:Nat}(h:i < xs.toArray.size),xs.toArray[i]=xs[i]'(by simpa using h))∧(∀ {α:Type}{i:Nat}(a:α) (l:List α) (h:i+1 < (a :: l).length),(a :: l)[i+1]=l[i]'(Nat.lt_of_succ_lt_succ h))∧(∀ {α:Type}(a:α) (l:List α) (h:0 < (a :: l).length),(a :: l)[0]=a)∧(∀ {α:Type}(l:List α) (i:Nat) (x:α),l.toArray.setIfInBounds i x=(l.set i x).toArray)∧(∀ {α:Type}(a b:α) (l:List α),(a :: l).set 0 b=b :: l)∧(∀ {α:Type}(a b:α) (l:List α) (n:Nat),(a :: l).set (n+1) b=a :: l.set n b) :=
 ⟨fun h=>List.getElem_toArray h,fun _ _ _=>rfl,fun _ _ _=>rfl,fun l i x=>List.setIfInBounds_toArray l i x,fun _ _ _=>rfl,fun _ _ _ _=>rfl⟩
def Au (md:Region.Mode) (ops:Array Oper):List Nat→Array Bool→Bool
 | [],_=>true
 | i :: is,l=>((ops[i]?.any (·.dst.isSome)) && (Region.free md ops l i && (Region.ready md ops l).contains i)) && Au md ops is (l.setIfInBounds i true)
def au:List Nat→Array Bool→Array Bool
 | [],l=>l
 | i :: is,l=>au is (l.setIfInBounds i true)
def YK (P:Program) (ops:Array Oper) (S:World→Prop) (K:Act→Prop):List Nat→Act→Prop
 | [],a=>K a
 | i :: is,a=>∃ oi v,ops[i]?=some oi∧YieldsIf P ops S oi v a∧YK P ops S K is (a.put oi.dst v)
theorem yk {P:Program}{ops:Array Oper}{S:World→Prop}{K:Act→Prop}{i:Nat}{is:List Nat}{a:Act}(v:Value) {oi:Oper}(hi:ops[i]?=some oi) (hy:YieldsIf P ops S oi v a) (h:YK P ops S K is (a.put oi.dst v)):YK P ops S K (i :: is) a:=⟨oi,v,hi,hy,h⟩
theorem aT {P:Program}{ops:Array Oper}{S:World→Prop}{K:Act→Prop}{a:Act}(h:K a):YK P ops S K [] a:=h
theorem Dg {P:Program}{ops:Array Oper}{Q:Exit→Act→World→Prop}{md:Region.Mode}{S:World→Prop}{w:World}(hs:Region.noSelect ops=true) (hQ:∀ c a w t v,Q (.panic c) (Act.put a (some t) v) w→Q (.panic c) a w) (hS:S w):∀ (is:List Nat) {fuel:Nat}{listed:Array Bool}{a:Act},Au md ops is listed=true→YK P ops S (fun a'=>wpAnyH P md ops Q S fuel (au is listed) a' w) is a→wpAnyH P md ops Q S (fuel+is.length) listed a w
 | [],_,_,_,_,h=>h
 | i :: is,fuel,listed,a,hk,h=>by
   obtain ⟨oi,v,hi,hy,h⟩:=h;simp only [Au,Bool.and_eq_true] at hk;have hd:=hk.1.1;rw [hi] at hd;obtain ⟨t,ht⟩:=Option.isSome_iff_exists.1 (show oi.dst.isSome=true from hd);exact wpAnyH_take hi hs hk.1.2.1 hk.1.2.2 (fun c a w hq=>hQ c a w t v (by rw [ht] at hq;exact hq)) hy hS (Dg hs hQ hS is hk.2 h)
theorem aU {P:Program}{ops:Array Oper}{Q:Exit→Act→World→Prop}{md:Region.Mode}{S:World→Prop}{w:World}(is:List Nat) {fuel fuel':Nat}{listed:Array Bool}{a:Act}(hf:fuel=fuel'+is.length) (hk:(Region.noSelect ops && Au md ops is listed)=true) (hQ:∀ c a w t v,Q (.panic c) (Act.put a (some t) v) w→Q (.panic c) a w) (hS:S w) (h:YK P ops S (fun a'=>wpAnyH P md ops Q S fuel' (au is listed) a' w) is a):wpAnyH P md ops Q S fuel listed a w:=by
 rw [Bool.and_eq_true] at hk;subst hf;exact Dg hk.1 hQ hS is hk.2 h
theorem aH {P:Program}{ops:Array Oper}{Q:Exit→Act→World→Prop}{md:Region.Mode}{S:World→Prop}{w:World}{fuel:Nat}{listed:Array Bool}{a:Act}{o:Oper}(i:Nat) (hr:Region.ready md ops listed=[i]) (ho:ops[i]?=some o) (h:∀ K':Act→World→Prop,Shut (∀ a w,S w→(S w→wpAnyH P md ops Q S fuel (listed.setIfInBounds i true) a w)→K' a w)→if Region.wanted o (yielded ops a.tmps)=true then Oper.wp P o a w K' Q else K' (a.put o.dst undef) w):wpAnyH P md ops Q S (fuel+1) listed a w :=
 wpAnyH_ready hr (by simp) (AllReadyH.cons ho h AllReadyH.nil)
theorem tk {P:Program}{ops:Array Oper}{Q:Exit→Act→World→Prop}{md:Region.Mode}{S:World→Prop}{w:World}{fuel:Nat}{listed:Array Bool}{a:Act}{oi:Oper}(i:Nat) (v:Value) (hi:ops[i]?=some oi) (hk:(Region.noSelect ops && (Region.free md ops listed i && (Region.ready md ops listed).contains i))=true) (hQ:∀ c a w,Q (.panic c) (a.put oi.dst v) w→Q (.panic c) a w) (hy:YieldsIf P ops S oi v a) (hS:S w) (h:wpAnyH P md ops Q S fuel (listed.setIfInBounds i true) (a.put oi.dst v) w):wpAnyH P md ops Q S (fuel+1) listed a w:=by
 rw [Bool.and_eq_true,Bool.and_eq_true] at hk;exact wpAnyH_take hi hk.1 hk.2.1 hk.2.2 hQ hy hS h
end Go.Proofs.YtgpnlidnbldiiaaGreat
