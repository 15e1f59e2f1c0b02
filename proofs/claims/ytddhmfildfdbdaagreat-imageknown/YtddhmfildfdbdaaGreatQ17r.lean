/-
  Texts of this claim that are laid as one: EpTell, EpAwake, EpEach, EpApi, EpList, EpUni.
-/
import Derived.Test.YtddhmfildfdbdaaGreatQ15r
import Derived.Test.YtddhmfildfdbdaaGreatQ2r
import Derived.RangeFuncNested
import Derived.RangeFuncBound
import Derived.RangeFuncCalls
import Derived.RangeFuncLeaves
import Derived.RangeFuncBox
import Derived.Shelf.Abstract
import Derived.Shelf.RegionOpen
import Derived.WalkKit
import Derived.OwnWalkIn
import Derived.TacticsInMore
import Derived.LoopNIn
import Derived.LoopIn
import Derived.Maps.AppendAt
import Derived.Test.YtddhmfildfdbdaaGreatQ16r
import Derived.Test.YtddhmfildfdbdaaGreatQ1r
import Derived.Deep.AppendLies
set_option maxHeartbeats 8000000
/-
 (set).each,(set).tell: the numbers of a set,one by one,rising;as a list.
-/
namespace Go.Proofs.YtddhmfildfdbdaaGreat
open Go.RowKit Go.Shelf
attribute [local go_sem] Oper.semAt_some
theorem in_value {F:Fence}{n:Nat}{ops:Array Oper}{rest:List Oper}{o:Oper}{a:Act}{w w':World}{v:Value}{Q:Exit→Act→World→Prop}(hg:o.guard=none) (hc:∀ c,o.op≠.call c) (hd:∀ c,o.op≠.defer c)
 (hr:(execOp a.eval o).run Tryz.prog w=.ok (.value v) w') (h:wpListIn F n Tryz.prog ops Q rest (a.put o.dst v) w'):wpListIn F n Tryz.prog ops Q (o :: rest) a w:=by
 refine wpListIn_plain hg fun K hK=>?_
 unfold Oper.wpIn
 refine ⟨fun f hf=>?_,?_⟩
 ·unfold Oper.about at hf
  split at hf
  ·rename_i c hc';exact absurd hc' (hc c)
  ·cases hf
 ·rw [Oper.semAt_plain F _ _ hd,hr,Oper.uponIn_value]
  exact hK _ _ h
theorem in_skip {F:Fence}{n:Nat}{ops:Array Oper}{rest:List Oper}{o:Oper}{a:Act}{w w':World}{Q:Exit→Act→World→Prop}(hg:o.guard=none) (hc:∀ c,o.op≠.call c) (hd:∀ c,o.op≠.defer c)
 (hr:(execOp a.eval o).run Tryz.prog w=.ok .skip w') (h:wpListIn F n Tryz.prog ops Q rest (a.put o.dst undef) w'):wpListIn F n Tryz.prog ops Q (o :: rest) a w:=by
 refine wpListIn_plain hg fun K hK=>?_
 unfold Oper.wpIn
 refine ⟨fun f hf=>?_,?_⟩
 ·unfold Oper.about at hf
  split at hf
  ·rename_i c hc';exact absurd hc' (hc c)
  ·cases hf
 ·rw [Oper.semAt_plain F _ _ hd,hr,Oper.uponIn_skip]
  exact hK _ _ h
theorem wi_load_set {F:Fence}{n:Nat}{ops:Array Oper}{rest:List Oper}{a:Act}{w:World}{Q:Exit→Act→World→Prop}{d:Option Tmp}{x:Operand}{ty:TypeId}{ps:String}{af:Array Edge}
 {b o:Nat}{S:Nat→Bool}(hx:a.eval x=.pointer (some ⟨b,o,none⟩)) (hc:w.rangeAt b o (setC S)) (h:wpListIn F n Tryz.prog ops Q rest (a.put d (setV S)) w):wpListIn F n Tryz.prog ops Q (⟨d,.load 94 x,ty,ps,af,none⟩ :: rest) a w :=
 in_value rfl (fun _ e=>by cases e) (fun _ e=>by cases e) (by simp only [execOp,hx,Sem.run_bind,load_setm hc,Result.andThen_ok,Sem.run_pure]) h
theorem wi_load_span {F:Fence}{n:Nat}{ops:Array Oper}{rest:List Oper}{a:Act}{w:World}{Q:Exit→Act→World→Prop}{d:Option Tmp}{x:Operand}{ty:TypeId}{ps:String}{af:Array Edge}
 {b o:Nat}{f:Int}{S:Nat→Bool}(hx:a.eval x=.pointer (some ⟨b,o,none⟩)) (hc:w.rangeAt b o (spC f S)) (h:wpListIn F n Tryz.prog ops Q rest (a.put d (spV f S)) w):wpListIn F n Tryz.prog ops Q (⟨d,.load 99 x,ty,ps,af,none⟩ :: rest) a w :=
 in_value rfl (fun _ e=>by cases e) (fun _ e=>by cases e) (by simp only [execOp,hx,Sem.run_bind,load_span hc,Result.andThen_ok,Sem.run_pure]) h
theorem store_span {w:World}{b:Nat}{f:Int}{S:Nat→Bool}(h:SpAt w b f S) (g:Int) (T:Nat→Bool):(Instr.storeAt 99 (.pointer (some ⟨b,0,none⟩)) (spV g T)).run Tryz.prog w=.ok () (w.setCells b 0 (spC g T)):=by
 have:=run_storeAt_mid (P:=Tryz.prog) w b 0 99 (spC g T).toArray (by simpa [spC_len] using h.there) size_span (all_oneCell_toArray (spC_one g T))
 simpa [spV] using this
theorem wi_store_span {F:Fence}{n:Nat}{ops:Array Oper}{rest:List Oper}{a:Act}{w:World}{Q:Exit→Act→World→Prop}{d:Option Tmp}{x y:Operand}{ty:TypeId}{ps:String}{af:Array Edge}
 (g:Int) (T:Nat→Bool) {b:Nat}(hx:a.eval x=.pointer (some ⟨b,0,none⟩)) (hy:a.eval y=spV g T) {f:Int}{S:Nat→Bool}(hc:SpAt w b f S) (h:∀ w',Hid (SpAt w' b g T)→Hid (Kept [b] w w')→wpListIn F n Tryz.prog ops Q rest (a.put d undef) w'):wpListIn F n Tryz.prog ops Q (⟨d,.store 99 x y,ty,ps,af,none⟩ :: rest) a w :=
 in_skip rfl (fun _ e=>by cases e) (fun _ e=>by cases e) (by simp only [execOp,hx,hy,Sem.run_bind,store_span hc g T,Result.andThen_ok,Sem.run_pure]) (h _ hc.store (setCells_kept (by simp) _ _ (Kept.refl _ _)))
theorem wi_index_set {F:Fence}{n:Nat}{ops:Array Oper}{rest:List Oper}{a:Act}{w:World}{Q:Exit→Act→World→Prop}{d:Option Tmp}{x y:Operand}{ty:TypeId}{ps:String}{af:Array Edge}
 {S:Nat→Bool}{i:Nat}(hx:a.eval x=setV S) (hy:a.eval y=.int .i64 (i:Int)) (hi:i < 15) (h:wpListIn F n Tryz.prog ops Q rest (a.put d (.bool (S i))) w):wpListIn F n Tryz.prog ops Q (⟨d,.index 94 x y,ty,ps,af,none⟩ :: rest) a w :=
 in_value rfl (fun _ e=>by cases e) (fun _ e=>by cases e) (by simp only [execOp,hx,hy,Sem.run_bind,index_set w S hi,Result.andThen_ok,Sem.run_pure]) h
abbrev Rep:=Fin 15
def repI (x:Rep):Int:=((x.1:Nat):Int)
def reps (S:Nat→Bool):Nat→List Rep
 | 0=>[]
 | k+1=>if h:k < 15 then (if S k then reps S k++[⟨k,h⟩] else reps S k) else reps S k
theorem reps_told (S:Nat→Bool):∀ k,k≤15→(reps S k).map repI=((List.range k).filter S).map fun k:Nat=>(k:Int)
 | 0,_=>rfl
 | k+1,h=>by
   rw [List.range_succ,List.filter_append,List.map_append,← reps_told S k (by omega)]
   simp only [reps,dif_pos (show k < 15 by omega)]
   cases hs:S k with
   | false=>simp [hs]
   | true=>simp [hs,repI]
theorem reps_all (S:Nat→Bool):(reps S 15).map repI=told S:=reps_told S 15 (Nat.le_refl _)
theorem reps_len (S:Nat→Bool):∀ k,(reps S k).length≤k
 | 0=>Nat.le_refl _
 | k+1=>by
   have:=reps_len S k
   simp only [reps]
   split
   ·split
    ·simp;omega
    ·omega
   ·omega
theorem reps_pre (S:Nat→Bool) (k:Nat):∀ j,reps S k <+: reps S (k+j)
 | 0=>List.prefix_refl _
 | j+1=>(reps_pre S k j).trans (by
  rw [show k+(j+1)=(k+j)+1 by omega]
  conv=>rhs;rw [reps]
  split
  ·split
   ·exact List.prefix_append _ _
   ·exact List.prefix_refl _
  ·exact List.prefix_refl _)
theorem each_in (n:Nat) (S:Nat→Bool) (w:World) :
 CallsIn Fence.wide n Tryz.prog 125 #[setV S] w fun e w'=>e=.returned (.func (.func 161) #[] #[.pointer (some ⟨w.heap.size,0,none⟩)])∧w'=w.alloc (.cells (setC S).toArray 94):=by
 unfold setV
 refine callsIn_of_wp Tryz.func125 rfl trivial ?_ rfl
 simp only [Tryz.ntmps125,List.size_toArray,List.length_cons,List.length_nil,Nat.reduceAdd,Nat.reduceSub,Array.replicate_succ,Array.replicate_zero,List.push_toArray,List.append_toArray,List.nil_append,List.cons_append]
 gi_wp2
 go_ret
 exact ⟨rfl,rfl⟩
set_option maxRecDepth 100000 in
theorem each1_in (l B n b:Nat) (S:Nat→Bool) (J Jx:List Rep→World→Prop)
 (hY:∀ pre (x:Rep) W,J pre W→pre.length < 15→YieldAt Fence.wide (n - 1) Tryz.prog l #[.int .i64 (repI x)] W fun e W' =>
   (e=.returned (.bool true)∧J (pre++[x]) W'∧Below B W W')∨(e=.returned (.bool false)∧Jx (pre++[x]) W'))
 (W:World) (hb:SetAt W b S) (h0:J [] W) :
 CallsIn Fence.wide n Tryz.prog 161 #[.func (.yield l) #[] #[],.pointer (some ⟨b,0,none⟩)] W fun e W'=>(∃ v,e=.returned v) ∧
  ((∃ ys,ys=reps S 15∧J ys W')∨(∃ pre,pre <+: reps S 15∧Jx pre W')):=by
 have HR:=hide hb.range
 clear hb
 refine callsIn_of_wp Tryz.func161 rfl trivial ?_ rfl
 simp only [Tryz.ntmps161,List.size_toArray,List.length_cons,List.length_nil,Nat.reduceAdd,Nat.reduceSub,Array.replicate_succ,Array.replicate_zero,List.push_toArray,List.append_toArray,List.nil_append,List.cons_append]
 gi_wp2_with ((with_reducible refine wi_load_set ?_ HR.out ?_);rfl)
 clear HR
 gi_loopw [6] (fun i wr=>∃ k:Nat,k≤15∧i=.int .i64 k∧Hid (J (reps S k) wr))
  (fun i _=>15 - (intOf i).toNat)
 case atStart=>exact ⟨0,Nat.zero_le _,rfl,h0⟩
 case round =>
  obtain ⟨k,hk,rfl,HJ⟩:=hrel
  by_cases hlt:k < 15
  ·have hlt':(k:Int) < 15:=by omega
   cases hs:S k with
   | true =>
     have HE:Hid (reps S (k+1)=reps S k++[⟨k,hlt⟩]):=by show _=_;simp only [reps,dif_pos hlt,hs];simp
     obtain ⟨fn,tmps,assign,body,hy,hR⟩:=hY (reps S k) ⟨k,hlt⟩ wr HJ.out (by have:=reps_len S k;omega)
     unfold repI at hy
     clear hY
     gi_wp2_with ((with_reducible refine wi_index_set (S:=S) (i:=k) ?_ ?_ hlt ?_);rfl;rfl;rw [hs])
     refine ⟨wide_room _,hR.mono ?_⟩
     clear hR
     rintro e W3 (⟨rfl,hJ3,hk3⟩ | ⟨rfl,hJx3⟩)
     ·gi_wp2_with fail
      go_roundw
      case rel=>exact ⟨k+1,by omega,by go_num,by show J _ _;rw [HE.out];exact hJ3⟩
      case measure=>simp [intOf];omega
     ·gi_wp2_with fail
      refine bodyPost_ret (results_none rfl _ _ _) rfl ?_
      exact ⟨⟨_,rfl⟩,.inr ⟨_,by rw [← HE.out,show (15:Nat)=(k+1)+(14 - k) by omega];exact reps_pre S _ _,hJx3⟩⟩
   | false =>
     have HE:Hid (reps S (k+1)=reps S k):=by show _=_;simp only [reps,dif_pos hlt,hs];simp
     gi_wp2_with ((with_reducible refine wi_index_set (S:=S) (i:=k) ?_ ?_ hlt ?_);rfl;rfl;rw [hs])
     refine ⟨fun _ h=>(by cases h),?_⟩
     gi_wp2_with fail
     go_roundw
     case rel=>exact ⟨k+1,by omega,by go_num,by show J _ _;rw [HE.out];exact HJ.out⟩
     case measure=>simp [intOf];omega
  ·obtain rfl:k=15:=by omega
   gi_wp2_with fail
   go_end0
   exact ⟨⟨_,rfl⟩,.inl ⟨_,rfl,HJ.out⟩⟩
theorem each_stops (n B b:Nat) (S:Nat→Bool) (w:World) (hb:SetAt w b S) :
 SeqStopsK Fence.wide n Tryz.prog 161 #[.pointer (some ⟨b,0,none⟩)] (fun x:Rep=>#[.int .i64 (repI x)]) (Below B) (fun ys=>ys=reps S 15) (fun pre=>pre <+: reps S 15) 15 w :=
 fun l J Jx W hW _ _ hY h0=>each1_in l B n b S J Jx hY W ((hW.block b (lt_of_at hb)).trans hb) h0
def repC (l:List Rep):List Value:=l.map fun x=>.int .i64 (repI x)
set_option maxRecDepth 100000 in
theorem tell_call (w:World) (S:Nat→Bool) :
 Calls Tryz.prog 91 #[setV S] w fun e w'=>∃ v,e=.returned v∧RowI w.heap.size w' v (told S)∧Kept [] w w':=by
 obtain ⟨i0,hi,hz0,hz1,hz2⟩:=info_parts info_int
 refine (callsIn_wide (n:=3)).1 ?_
 refine callsIn_of_wp_marks Tryz.func91 rfl trivial ?_ rfl
 unfold setV
 simp only [Tryz.ntmps91,List.size_toArray,List.length_cons,List.length_nil,Nat.reduceAdd,Nat.reduceSub,Array.replicate_succ,Array.replicate_zero,List.push_toArray,List.append_toArray,List.nil_append,List.cons_append]
 have hL:SetAt ((w.alloc (.cells (setC S).toArray 94)).alloc (.cells #[.slice none 0 0] 34)) w.heap.size S:=(Below.heap_alloc _ _ _ (by simp)).trans (heap_alloc_new w _)
 gi_wp2_with (first | ((with_reducible refine wi_load_set ?_ hL.range ?_);rfl) | (refine ⟨trivial,?_⟩;gi_at_call 125;refine (each_in _ S _).mono ?_;rintro e w' ⟨rfl,rfl⟩))
 obtain ⟨W0,hW0⟩:∃ W0,(((w.alloc (.cells (setC S).toArray 94)).alloc (.cells #[.slice none 0 0] 34)).alloc (.cells (setC S).toArray 94))=W0:=⟨_,rfl⟩
 have hsz:W0.heap.size=w.heap.size+3:=by rw [← hW0];simp
 have hK0:Kept [] w W0:=by rw [← hW0];exact (((Kept.refl _ _).alloc _).alloc _).alloc _
 have bO:Boxed W0 (w.heap.size+1) 34 (.slice none 0 0):=by
  rw [← hW0]
  have:=Boxed.new (w.alloc (.cells (setC S).toArray 94)) 34 (.slice none 0 0)
  rw [World.size_alloc] at this
  exact this.alloc _
 have bS:SetAt W0 (w.heap.size+1+1) S:=by
  rw [← hW0]
  have:=heap_alloc_new ((w.alloc (.cells (setC S).toArray 94)).alloc (.cells #[.slice none 0 0] 34)) (.cells (setC S).toArray 94)
  rw [World.size_alloc,World.size_alloc] at this
  exact this
 rw [hW0]
 clear hL hW0
 have hB0:Below w.heap.size w W0:=hK0.below (Nat.le_refl _) (by simp)
 refine wpIn_rangeFunc_ownF rfl (by omega) (gf:=161) (lb:=#[.pointer (some ⟨w.heap.size+1+1,0,none⟩)]) rfl trivial (enters_of Tryz.func161 (by kernel_rfl) rfl)
  (each_stops _ w.heap.size (w.heap.size+1+1) S W0 bS) belowK_t (belowK_b (by omega)) (Below.refl _ _) (fun _=>rfl)
  (fun pre W=>(∃ v,Boxed W (w.heap.size+1) 34 v∧W.ownsRow w.heap.size 3 1 v pre.length (repC pre)∧True)∧Below w.heap.size w W)
  (fun _ _ _=>False)
  (OwnFrom.and (Own.from (holdsRow_own w.heap.size (w.heap.size+1) 34 3 1 (fun pre:List Rep=>pre.length) (fun pre=>repC pre) (fun _ _=>True)) _) (ownFrom_below (Nat.le_refl _) (by omega)))
  (fun _ _ _ _ _ h _ _=>h)
  ⟨⟨_,bO,World.ownsRow_nil _ _ _ _,trivial⟩,hB0⟩
  (fun x=>{ tmps:=#[.agg (setC S).toArray,.pointer (some ⟨w.heap.size,0,none⟩),.slice none 0 0,.pointer (some ⟨w.heap.size+1,0,none⟩),.int .i64 (repI x),setV S,.func (.func 161) #[] #[.pointer (some ⟨w.heap.size+1+1,0,none⟩)],.int .i64 (repI x),undef,undef,undef,undef,undef],defers:=[] })
  ?assign ?body ?done ?stop
 case assign =>
  intro l x W K hK
  gi_wp2
  exact hK
 case body =>
  rintro l pre x W ⟨⟨v,hv,hrow,_⟩,hB⟩ hlt
  have hc:=hv.cell
  gi_wp2_with (gi_at_builtin;refine wpListIn_append_own _ rfl _ _ 34 rfl w.heap.size 3 i0 (.int .i64 0) 1 8 Tryz.underlying34 hi hz0 hz1 hz2 rfl (by decide) _ _ _ rfl (hrow.alloc _) ⟨W.heap.size,0,none⟩ 1 1 [.int .i64 (repI x)] rfl rfl ?n1 (by simp [Value.oneCell']) (by unfold maxLen;omega) (by omega) (by have:=hB.size;simp;omega) ?n2)
  case n1=>exact cell_one_new _ _ _
  case n2 =>
   intro v' w1 hown' hgrow _
   obtain ⟨g',cap',rfl⟩:=ownsRow_succ hown'
   obtain ⟨hv2,hv3,hr3,hk3,hb3⟩:=hv.appended (by decide) hrow hB.size (Nat.le_succ _) hown' hgrow
   have hc2:=hv2.cell
   have hf2:=hv2.frozen
   gi_wp2_with fail
   refine ⟨hk3,hb3,⟨_,hv3,?_,trivial⟩,hB.trans hb3⟩
   unfold repC at hr3 ⊢
   rw [List.length_append,List.map_append]
   simpa using hr3
 case done =>
  rintro D ys W hD rfl ⟨⟨v,hv,hrow,_⟩,hB⟩ hK
  have hc:=hv.cell
  gi_wp2_with fail
  refine ⟨by simp,.inl ⟨_,_,rfl,run_takeDeferred hK,?_⟩⟩
  refine ⟨_,results_tmp rfl _ _ _,v,rfl,?_,Kept.of_below (hB.trans (belowK_b (w:=w) (Nat.le_refl _) W D _ _ (by omega) hK rfl rfl))⟩
  have h1:=ownsRow_putObj hrow (.deferred none) hK rfl
  unfold RowI
  rw [← reps_all S,List.length_map,List.map_map]
  exact h1
 case stop =>
  rintro D c pre W _ _ h _
  exact h.elim
end Go.Proofs.YtddhmfildfdbdaaGreat
namespace Go.Proofs.YtddhmfildfdbdaaGreat
open Go.RowKit
theorem SlI.lit (w:World) (l:List Int) (t:TypeId) (vs:Array Value) (n:Nat) (hn:l.length=n) (hv:vs=(l.map (Value.int .i64)).toArray) (hl:n≤1000):SlI (w.alloc (.cells vs t)) (some ⟨w.heap.size,0,none⟩) n n l:=by
 subst hn;subst hv
 refine ⟨rfl,Nat.le_refl _,by unfold maxLen;omega,fun i hi=>⟨w.heap.size,0,rfl,?_⟩⟩
 rw [Nat.zero_add]
 exact cell_inC (heap_alloc_new w _) (by simp [hi])
open Go.RowKit Go.Shelf
attribute [local go_sem] Oper.semAt_some
def epV (x:Ep):Value:=spV x.f (setB x.m)
theorem eachE_in (n:Nat) (p:Option Addr) (w:World) :
 CallsIn Fence.wide n Tryz.prog 90 #[.pointer p] w fun e w'=>e=.returned (.func (.func 124) #[] #[.pointer (some ⟨w.heap.size,0,none⟩)])∧w'=w.alloc (.cells #[.pointer p] 40):=by
 refine callsIn_of_wp Tryz.func90 rfl trivial ?_ rfl
 simp only [Tryz.ntmps90,List.size_toArray,List.length_cons,List.length_nil,Nat.reduceAdd,Nat.reduceSub,Array.replicate_succ,Array.replicate_zero,List.push_toArray,List.append_toArray,List.nil_append,List.cons_append]
 gi_wp2
 go_ret
 exact ⟨rfl,rfl⟩
set_option maxRecDepth 100000 in
theorem eachE1_in (l n₀ n b p g cap:Nat) (L:List Ep) (hl:L.length≤1000000) (J Jx:List Ep→World→Prop)
 (hJ:∀ pre W W',J pre W→Kept [] W W'→J pre W')
 (hY:∀ pre (x:Ep) W,J pre W→pre.length < L.length→YieldAt Fence.wide (n - 1) Tryz.prog l #[epV x] W fun e W' =>
   (e=.returned (.bool true)∧J (pre++[x]) W'∧Below n₀ W W')∨(e=.returned (.bool false)∧Jx (pre++[x]) W'))
 (W:World) (hn₀:n₀≤W.heap.size) (hb:W.cell? ⟨b,0,none⟩=some (.pointer (some ⟨p,0,none⟩))) (h1:W.cell? ⟨p,1,none⟩=some (.slice (some ⟨g,0,none⟩) L.length cap)) (hg:g < n₀) (hr:∀ i (hi:i < L.length),W.rangeAt g (i*16) (epC L[i])) (h0:J [] W) :
 CallsIn Fence.wide n Tryz.prog 124 #[.func (.yield l) #[] #[],.pointer (some ⟨b,0,none⟩)] W fun e W'=>(∃ v,e=.returned v) ∧
  ((∃ ys,ys=L∧J ys W')∨(∃ pre,pre <+: L∧Jx pre W')):=by
 have HR:=hide hr
 have HN:=hide hn₀
 clear hr hn₀
 generalize hln:L.length=len at h1 hl hY
 have HL:=hide hln
 clear hln
 refine callsIn_of_wp Tryz.func124 rfl trivial ?_ rfl
 simp only [Tryz.ntmps124,List.size_toArray,List.length_cons,List.length_nil,Nat.reduceAdd,Nat.reduceSub,Array.replicate_succ,Array.replicate_zero,List.push_toArray,List.append_toArray,List.nil_append,List.cons_append]
 gi_wp2_with fail
 gi_loopw [12] (fun i wr=>∃ k:Nat,k≤len∧i=.int .i64 k∧Hid (J (L.take k) wr)∧Hid (Below n₀ W wr))
  (fun i _=>len - (intOf i).toNat)
 case atStart=>exact ⟨0,Nat.zero_le _,rfl,by simpa [Hid] using h0,Below.refl _ _⟩
 case round =>
  obtain ⟨k,hk,rfl,HJ,HB⟩:=hrel
  by_cases hlt:k < len
  ·have hlt':(k:Int) < len:=by omega
   have hkL:k < L.length:=by rw [HL.out];exact hlt
   have HT:Hid (L.take (k+1)=L.take k++[L[k]]):=List.take_succ_eq_append_getElem hkL
   have HRk:Hid (wr.rangeAt g (k*16) (epC L[k])):=fun j v hv=>(HB.out.cell (p:=⟨g,k*16+j,none⟩) hg).trans (HR.out k hkL j v hv)
   have HPre:Hid (L.take k++[L[k]] <+: L):=by show _ <+: _;rw [← HT.out];exact List.take_prefix _ _
   generalize L[k]=x at *
   have hX:SpAt (wr.alloc (.cells #[.int .i64 0,.bool false,.bool false,.bool false,.bool false,.bool false,.bool false,.bool false,.bool false,.bool false,.bool false,.bool false,.bool false,.bool false,.bool false,.bool false] 99)) wr.heap.size 0 (fun _=>false):=heap_alloc_new wr _
   gi_wp2_with (first
    | ((with_reducible refine wi_load_span (f:=x.f) (S:=setB x.m) ?_ HRk.out ?_);rfl)
    | ((with_reducible refine wi_load_span (f:=x.f) (S:=setB x.m) ?_ HS5.out.range ?_);rfl)
    | ((with_reducible refine wi_store_span x.f (setB x.m) ?_ ?_ hX ?_);rfl;rfl;intro w5 HS5 HK5a
       have HK5:Hid (Kept [] wr w5):=((Kept.refl [] wr).alloc _).trans HK5a.out (by simp)
       have HY5:=hide (hY (L.take k) x w5 (hJ _ _ _ HJ.out HK5.out) (by simp;omega))
       clear HK5a))
   obtain ⟨fn,tmps,assign,body,hy,hR⟩:=HY5.out
   unfold epV at hy
   clear HY5 hY
   rw [hy]
   refine ⟨wide_room _,hR.mono ?_⟩
   clear hR
   have HB5:Hid (Below n₀ W w5):=HB.out.trans (HK5.out.below (Nat.le_trans HN.out HB.out.size) (by simp))
   rintro e W3 (⟨rfl,hJ3,hk3⟩ | ⟨rfl,hJx3⟩)
   ·gi_wp2_with fail
    go_roundw
    case rel=>exact ⟨k+1,by omega,by go_num,by show J _ _;rw [HT.out];exact hJ3,HB5.out.trans hk3⟩
    case measure=>simp [intOf];omega
   ·gi_wp2_with fail
    refine bodyPost_ret (results_none rfl _ _ _) rfl ?_
    exact ⟨⟨_,rfl⟩,.inr ⟨_,HPre.out,hJx3⟩⟩
  ·obtain rfl:k=len:=by omega
   gi_wp2_with fail
   go_end0
   exact ⟨⟨_,rfl⟩,.inl ⟨_,List.take_of_length_le (by rw [HL.out];omega),HJ.out⟩⟩
theorem eachE_stops (n n₀ b p g cap:Nat) (L:List Ep) (hl:L.length≤1000000) (w:World) (hb0:b < w.heap.size) (hp0:p < w.heap.size) (hn₀:n₀≤w.heap.size) (hb:w.cell? ⟨b,0,none⟩=some (.pointer (some ⟨p,0,none⟩))) (h1:w.cell? ⟨p,1,none⟩=some (.slice (some ⟨g,0,none⟩) L.length cap)) (hg:g < n₀) (hr:∀ i (hi:i < L.length),w.rangeAt g (i*16) (epC L[i])) :
 SeqStopsK Fence.wide n Tryz.prog 124 #[.pointer (some ⟨b,0,none⟩)] (fun x:Ep=>#[epV x]) (Below n₀) (fun ys=>ys=L) (fun pre=>pre <+: L) L.length w :=
 fun l J Jx W hW hA _ hY h0=>eachE1_in l n₀ n b p g cap L hl J Jx (abides_kept hA) hY W (Nat.le_trans hn₀ hW.size) ((hW.cell (p:=⟨b,0,none⟩) hb0).trans hb) ((hW.cell (p:=⟨p,1,none⟩) hp0).trans h1) hg
  (fun i hi j v hv=>(hW.cell (p:=⟨g,i*16+j,none⟩) (Nat.lt_of_lt_of_le hg hn₀)).trans (hr i hi j v hv)) h0
end Go.Proofs.YtddhmfildfdbdaaGreat
namespace Go.Proofs.YtddhmfildfdbdaaGreat
open Go.RowKit
def aeC (x:Ep × Value):List Value:=[.int .i64 x.1.f,x.2]
theorem aeC_get (X:List (Ep × Value)) (i:Nat) (h:i < X.length) (j:Nat) (hj:j < 2):(X.flatMap aeC)[i*2+j]?=(aeC X[i])[j]?:=by
 induction X generalizing i with
 | nil=>simp at h
 | cons x X ih =>
   rw [List.flatMap_cons]
   cases i with
   | zero=>rw [List.getElem?_append_left (by simp [aeC];omega)];simp
   | succ i =>
     rw [List.getElem?_append_right (by simp [aeC];omega)]
     simp only [aeC,List.length_cons,List.length_nil,List.getElem_cons_succ]
     rw [show (i+1)*2+j - (0+1+1)=i*2+j by omega]
     exact ih i (by simpa using h)
def IsI (w:World) (v:Value) (m:List Int):Prop:=∃ ao c,v=.slice ao m.length c∧SlI w ao m.length c m
theorem IsI.kept {a w:World}{v:Value}{m:List Int}(h:IsI a v m) (k:Kept [] a w):IsI w v m:=by
 obtain ⟨ao,c,e,h1⟩:=h
 exact ⟨ao,c,e,h1.kept k⟩
theorem RowI.is {B:Nat}{w:World}{v:Value}{m:List Int}(h:RowI B w v m):IsI w v m:=h.sl
def SlE (w:World) (ao:Option Addr) (n c:Nat) (X:List (Ep × Value)):Prop :=
 X.length=n∧n≤c∧c≤maxLen∧(∀ i (h:i < X.length),∃ b o,ao=some ⟨b,o,none⟩∧w.cell? ⟨b,o+i*2,none⟩=some (.int .i64 X[i].1.f)∧w.cell? ⟨b,o+i*2+1,none⟩=some X[i].2)∧∀ x∈X,IsI w x.2 x.1.m
theorem SlE.kept {a w:World}{ao:Option Addr}{n c:Nat}{X:List (Ep × Value)}(h:SlE a ao n c X) (k:Kept [] a w):SlE w ao n c X :=
 ⟨h.1,h.2.1,h.2.2.1,fun i hi=>by obtain ⟨b,o,e,h1,h2⟩:=h.2.2.2.1 i hi;exact ⟨b,o,e,k.cell h1 (by simp),k.cell h2 (by simp)⟩,fun x hx=>(h.2.2.2.2 x hx).kept k⟩
def RowA (B:Nat) (w:World) (v:Value) (X:List (Ep × Value)):Prop:=w.ownsRow B 62 2 v X.length (X.flatMap aeC)
def OwnA (B:Nat) (w:World) (X:List (Ep × Value)):Prop:=∀ x∈X,RowI B w x.2 x.1.m
theorem RowA.sl {B C:Nat}{w:World}{v:Value}{X:List (Ep × Value)}(h:RowA B w v X) (ho:OwnA C w X):∃ ao c,v=.slice ao X.length c∧SlE w ao X.length c X:=by
 have h':=h
 obtain ⟨h1,h2⟩:=h
 rcases h2 with ⟨hv,hn⟩ | ⟨g,cap,cur,hv,hg,hh,h3,h4,h5,h6⟩
 ·have:X=[]:=by simpa using hn
  subst this
  exact ⟨none,0,by rw [hv];rfl,rfl,Nat.le_refl _,Nat.zero_le _,fun i hi=>by simp at hi,fun x hx=>by simp at hx⟩
 ·refine ⟨some ⟨g,0,none⟩,cap,hv,rfl,h3,h4,fun i hi=>⟨g,0,rfl,?_,?_⟩,fun x hx=>(ho x hx).is⟩
  ·unfold RowA at h'
   rw [hv] at h'
   have:=World.ownsRow.cellAt h' (i*2+0) (by omega)
   rw [aeC_get X i hi 0 (by omega)] at this
   simpa [aeC] using this
  ·unfold RowA at h'
   rw [hv] at h'
   have:=World.ownsRow.cellAt h' (i*2+1) (by omega)
   rw [aeC_get X i hi 1 (by omega)] at this
   simpa [aeC] using this
theorem info_ae:(Tryz.prog.info? 62).map (fun i=>(i.zero,i.size,i.bytes))=some (some (.agg #[.int .i64 0,.slice none 0 0]),2,32):=by kernel_rfl
theorem step_appA {ops:Array Oper}{a:Act}{w:World}{K:Act→World→Prop}{Q:Exit→Act→World→Prop}{E:Prop}{d:Option Tmp}{s x:Operand}{ty:TypeId}{ps:String}{af:Array Edge}
 (B:Nat) (v:Value) (X:List (Ep × Value)) (f:Int) (so:Option Addr) (sn sc:Nat) (g:Nat) (hs:a.eval s=v) (hO:RowA B w v X) (hx:a.eval x=.slice (some ⟨g,0,none⟩) 1 1) (hc:w.heap[g]?=some (.cells #[.int .i64 f,.slice so sn sc] 62 (0,0))) (hlen:X.length≤1000000) (hB:B≤w.heap.size)
 (h:∀ g' n cap w',Hid (∀ m,RowA B w' (.slice (some ⟨g',0,none⟩) n cap) (X++[(⟨f,m⟩,.slice so sn sc)]))→Hid (w.grownBy w' v.ownBlock)→K (a.put d (.slice (some ⟨g',0,none⟩) n cap)) w') :
 if Region.wanted (⟨d,.call { callee:=.builtin .append,args:=#[s,x],argTypes:=#[59,59] },ty,ps,af,none⟩:Oper) (yielded ops a.tmps)=true then Oper.wp Tryz.prog ⟨d,.call { callee:=.builtin .append,args:=#[s,x],argTypes:=#[59,59] },ty,ps,af,none⟩ a w K Q else E:=by
 obtain ⟨i0,hi,hz0,hz1,hz2⟩:=info_parts info_ae
 refine step_append_lies w rfl s x 59 rfl B 62 i0 _ 2 32 Tryz.underlying59 hi hz0 hz1 hz2 rfl (by decide) v X.length (X.flatMap aeC) hs hO ⟨g,0,none⟩ 1 1 [.int .i64 f,.slice so sn sc] hx rfl ?_ ?_ (by decide) (by unfold maxLen;omega) (by omega) hB _ rfl ?_
 ·intro j u hj
  rw [adr_addC,Nat.zero_add]
  exact cell_inC hc (by simpa using hj)
 ·intro u hu
  simp at hu
  rcases hu with rfl | rfl <;> rfl
 ·intro g' cap w' h2 h3 _ _
  refine h g' _ cap w' (fun m=>?_) h3
  unfold RowA
  rw [List.length_append,List.flatMap_append]
  simpa [aeC] using h2
open Go.RowKit Go.Shelf
attribute [local go_sem] Oper.semAt_some
theorem row_calm {B e size n:Nat}{X Y:World}{row:Option Nat}{v:Value}{xs:List Value}(h:X.ownsRow B e size v n xs) (hg:X.grownBy Y row) (hr:∀ r,row=some r→∃ o:Obj,X.heap[r]?=some o∧o.isCells=false):Y.ownsRow B e size v n xs:=by
 refine h.kept hg ?_
 rcases h.2 with ⟨rfl,_⟩ | ⟨g,cap,cur,rfl,_,hgb,_⟩
 ·exact .inl rfl
 ·refine .inr fun e'=>?_
  obtain ⟨o,ho,hc⟩:=hr g (by simpa [Value.ownBlock] using e'.symm)
  rw [hgb] at ho;cases ho;cases hc
def tellE (x:Ep):Ep:=⟨x.f,told (setB x.m)⟩
theorem tellE_ok {L:List Ep}(h:∀ x∈L,May x.m):L.map tellE=L:=by
 rw [List.map_congr_left (g:=id) (fun x hx=>by unfold tellE;rw [told_may (h x hx)];rfl),List.map_id]
theorem listI_own (w:World):OwnFrom (w.heap.size+2) (fun (pre:List Ep) W=>(∃ v X,Boxed W w.heap.size 59 v∧W.ownsRow w.heap.size 62 2 v X.length (X.flatMap aeC)∧X.map Prod.fst=pre.map tellE∧OwnA w.heap.size W X)∧Below w.heap.size w W) :=
 OwnFrom.and (fun pre X Y row ⟨v,Z,h1,h2,h3,h4⟩ hg hr=>⟨v,Z,Own.from (boxed_own (β:=Unit) w.heap.size 59 (fun _=>v)) (w.heap.size+2) () X Y row h1 hg hr,row_calm h2 hg (fun r e=>(hr r e).2),h3,fun y hy=>row_calm (h4 y hy) hg (fun r e=>(hr r e).2)⟩) (ownFrom_below (Nat.le_refl _) (by omega))
set_option linter.unusedSimpArgs false in
set_option maxRecDepth 100000 in
theorem list_call (B:Nat) (w:World) (p:Nat) (al:Int) (L:List Ep) (h:EpA B w p al L) (hok:OkL L) (hl:L.length≤1000000) :
 Calls Tryz.prog 65 #[.pointer (some ⟨p,0,none⟩)] w fun e w'=>∃ v X,e=.returned v∧RowA w.heap.size w' v X∧OwnA w.heap.size w' X∧X.map Prod.fst=L∧Kept [] w w':=by
 obtain ⟨g,cap,h1,h2,h3,h4⟩:=h.open hok.1
 have hpl:=lt_of_at h1
 have hgl:g < w.heap.size:=by
  have hpos:=List.length_pos_iff.2 hok.1
  have hc:=spC_from (h4 0 hpos)
  exact block_lt_of_cell hc
 have HT:Hid (L.map tellE=L):=tellE_ok fun x hx=>(hok.2.2 x hx).1
 refine (callsIn_wide (n:=3)).1 ?_
 refine callsIn_of_wp_marks Tryz.func65 rfl trivial ?_ rfl
 simp only [Tryz.ntmps65,List.size_toArray,List.length_cons,List.length_nil,Nat.reduceAdd,Nat.reduceSub,Array.replicate_succ,Array.replicate_zero,List.push_toArray,List.append_toArray,List.nil_append,List.cons_append]
 gi_wp2_with (refine ⟨trivial,?_⟩;gi_at_call 90;refine (eachE_in _ _ _).mono ?_;rintro e w' ⟨rfl,rfl⟩)
 obtain ⟨W0,hW0⟩:∃ W0,((w.alloc (.cells #[.slice none 0 0] 59)).alloc (.cells #[.pointer (some ⟨p,0,none⟩)] 40))=W0:=⟨_,rfl⟩
 have hsz:W0.heap.size=w.heap.size+2:=by rw [← hW0];simp
 have hK0:Kept [] w W0:=by rw [← hW0];exact ((Kept.refl _ _).alloc _).alloc _
 have bO:Boxed W0 w.heap.size 59 (.slice none 0 0):=by rw [← hW0];exact (Boxed.new w _ _).alloc _
 have bP:Boxed W0 (w.heap.size+1) 40 (.pointer (some ⟨p,0,none⟩)):=by
  rw [← hW0]
  have:=Boxed.new (w.alloc (.cells #[.slice none 0 0] 59)) 40 (.pointer (some ⟨p,0,none⟩))
  rwa [World.size_alloc] at this
 rw [hW0]
 clear hW0
 have hB0:Below w.heap.size w W0:=hK0.below (Nat.le_refl _) (by simp)
 refine wpIn_rangeFunc_ownH rfl (by omega) (gf:=124) (lb:=#[.pointer (some ⟨w.heap.size+1,0,none⟩)]) rfl trivial (enters_of Tryz.func124 (by kernel_rfl) rfl)
  (eachE_stops _ w.heap.size (w.heap.size+1) p g cap L hl W0 (by omega) (by omega) (by omega) bP.cell (cell_inC (k:=1) (hK0.at h1 (by simp)) rfl) hgl (fun i hi j v hv=>hK0.cell (h4 i hi j v hv) (by simp))) belowK_t (belowK_b (by omega)) (Below.refl _ _) (fun _=>rfl)
  (fun (pre:List Ep) W=>(∃ v X,Boxed W w.heap.size 59 v∧W.ownsRow w.heap.size 62 2 v X.length (X.flatMap aeC)∧X.map Prod.fst=pre.map tellE∧OwnA w.heap.size W X)∧Below w.heap.size w W)
  (fun _ _ _=>False)
  (by rw [hsz];exact listI_own w)
  (fun _ _ _ _ _ h _ _=>h)
  ⟨⟨_,[],bO,World.ownsRow_nil _ _ _ _,rfl,fun _ h=>by cases h⟩,hB0⟩
  (fun x a' W=>∃ Bx,w.heap.size < Bx∧SpAt W Bx x.f (setB x.m)∧a'={ tmps:=#[.pointer (some ⟨p,0,none⟩),undef,.slice none 0 0,.pointer (some ⟨w.heap.size,0,none⟩),.pointer (some ⟨Bx,0,none⟩),.pointer (some ⟨p,0,none⟩),.func (.func 124) #[] #[.pointer (some ⟨w.heap.size+1,0,none⟩)],epV x,undef,undef,undef,undef,undef,undef,undef,undef,undef,undef],defers:=[] })
  (fun x a' _ X Y row ⟨Bx,h1,h2,h3⟩ hg hr=>⟨Bx,h1,(hg.block Bx (lt_of_at h2) (fun e=>by obtain ⟨_,o,ho,hc'⟩:=hr Bx e.symm;rw [show X.heap[Bx]?=_ from h2] at ho;cases ho;cases hc')).trans h2,h3⟩)
  ?assign ?body ?done ?stop
 case assign =>
  rintro l pre x W K ⟨⟨v,X,hv,hrow,hmap,hown⟩,hB⟩ hK
  unfold epV
  have hX:SpAt (W.alloc (.cells #[.int .i64 0,.bool false,.bool false,.bool false,.bool false,.bool false,.bool false,.bool false,.bool false,.bool false,.bool false,.bool false,.bool false,.bool false,.bool false,.bool false] 99)) W.heap.size 0 (fun _=>false):=heap_alloc_new W _
  gi_wp2_with ((with_reducible refine wi_store_span x.f (setB x.m) ?_ ?_ hX ?_);rfl;rfl;intro w5 HS5 HK5)
  have hk:Kept [] W w5:=((Kept.refl [] W).alloc _).trans HK5.out (by simp)
  exact hK _ _ ((keepsOthers_kept hk).from _) (hk.below hB.size (by simp)) ⟨⟨v,X,boxed_keep hv hk,hk.ownsRow hrow (by simp),hmap,fun y hy=>hk.ownsRow (hown y hy) (by simp)⟩,hB.trans (hk.below hB.size (by simp))⟩ ⟨W.heap.size,hv.lt,HS5.out,rfl⟩
 case body =>
  rintro l pre x a' W hl' _ ⟨⟨v,X,hv,hrow,hmap,hown⟩,hB⟩ ⟨Bx,hBx,bX,rfl⟩ hlt
  have hX:=bX.range
  have hcb:=hv.cell
  have HBx:=hide bX
  have HXl:Hid (X.length≤1000000):=by
   have:(X.map Prod.fst).length=(pre.map tellE).length:=by rw [hmap]
   simp at this
   show _≤_
   omega
  have HBn:Hid (Bx≠w.heap.size):=by show _≠_;omega
  unfold epV
  clear bX
  gi_wp2_with fail
  refine region_in (S:=fun w'=>w'.rangeAt Bx 0 (spC x.f (setB x.m))) (by kernel_rfl) (by kernel_rfl) hX (fun hHeld=>?_)
  refine tks [1] (by rfl) (by kernel_rfl) (fun _ _ _ _ _ h=>h) hHeld ?_
  iterate 1
   refine yk ?_ rfl (Or.inl ⟨by rfl,?_⟩) ?_
   rotate_left
   ·intro w9 hSw;(try dsimp only at hSw);go_simp;(try with_reducible rfl)
   try simp only [sT,Act.put]
  refine yk0 ?_
  simp only [setK,sT]
  refine tks [2] (by rfl) (by kernel_rfl) (fun _ _ _ _ _ h=>h) hHeld ?_
  iterate 1
   refine yk ?_ rfl (Or.inl ⟨by rfl,?_⟩) ?_
   rotate_left
   ·intro w9 hSw;(try dsimp only at hSw);have hq9:=spC_from hSw;go_simp;(try with_reducible rfl)
   try simp only [sT,Act.put]
  refine yk0 ?_
  simp only [setK,sT]
  refine tks [3] (by rfl) (by kernel_rfl) (fun _ _ _ _ _ h=>h) hHeld ?_
  iterate 1
   refine yk ?_ rfl (Or.inl ⟨by rfl,?_⟩) ?_
   rotate_left
   ·intro w9 hSw;(try dsimp only at hSw);go_simp;(try with_reducible rfl)
   try simp only [sT,Act.put]
  refine yk0 ?_
  simp only [setK,sT]
  refine wpAnyH_take (i:=4) (v:=.agg (setC (setB x.m)).toArray) rfl (by kernel_rfl) (by kernel_rfl) (by kernel_rfl) (fun _ _ _ h=>h) (yieldsIf_load_mid (by rfl) _ _ rfl Bx (1) rfl (setC (setB x.m)) _ (fun w9 hSw=>spC_set hSw) Tryz.underlying94 rfl size_set) hHeld ?_
  try simp only [sT,Act.put]
  refine wpAnyH_ready (rs:=[0,5]) (by kernel_rfl) (by simp) (AllReadyH.cons rfl (fun K0 hK0=>?_) (AllReadyH.cons rfl (fun K0 hK0=>?_) (AllReadyH.nil)))
  ·go_simp
   go_wp2_with fail
   refine hK0.out _ _ (hX) (fun hHeld=>?_)
   clear hK0 K0
   try simp only [sT,Act.put]
   refine rd1 5 (by kernel_rfl) rfl (fun K0 hK0=>?_)
   go_simp
   refine (tell_call _ (setB x.m)).mono ?_
   rintro _ w2 ⟨u2,rfl,hR2a,hK2a⟩
   have HK2:Hid (Kept [] W w2):=(Kept.refl [] W).drew.trans hK2a (by simp)
   have HR2:Hid (RowI w.heap.size w2 u2 (told (setB x.m))):=row_mono hR2a hB.size
   clear hR2a hK2a
   obtain ⟨so,sc,rfl,hsl2⟩:=HR2.out.sl
   clear hsl2
   obtain ⟨sn,hsn⟩:∃ sn,sn=(told (setB x.m)).length:=⟨_,rfl⟩
   rw [← hsn] at HR2 ⊢
   clear hsn
   go_wp2_with fail
   refine hK0.out _ _ (fun j v hv=>HK2.out.cell (hX j v hv) (by simp)) (fun hHeld=>?_)
   clear hK0 K0
   try simp only [sT,Act.put]
   refine tks [6] (by rfl) (by kernel_rfl) (fun _ _ _ _ _ h=>h) hHeld ?_
   iterate 1
    refine yk ?_ rfl (Or.inl ⟨by rfl,?_⟩) ?_
    rotate_left
    ·intro w9 hSw;(try dsimp only at hSw);go_simp;(try with_reducible rfl)
    try simp only [sT,Act.put]
   refine yk0 ?_
   simp only [setK,sT]
   refine rd1 7 (by kernel_rfl) rfl (fun K0 hK0=>?_)
   obtain ⟨w3,hw3⟩:∃ w3,w3=w2.alloc (.cells #[.int .i64 x.f,.slice so sn sc] 62):=⟨_,rfl⟩
   go_simp
   go_wp2_with fail
   rw [← hw3]
   have HK3:Hid (Kept [] W w3):=by show Kept _ _ _;rw [hw3];exact HK2.out.alloc _
   have HW3:=hide hw3
   clear hw3
   refine hK0.out _ _ (fun j v hv=>HK3.out.cell (hX j v hv) (by simp)) (fun hHeld=>?_)
   clear hK0 K0
   try simp only [sT,Act.put]
   refine rd1 8 (by kernel_rfl) rfl (fun K0 hK0=>?_)
   refine step_appA w.heap.size v X x.f so sn sc w2.heap.size rfl (HK3.out.ownsRow hrow (by simp)) rfl (by rw [HW3.out];exact heap_alloc_new w2 _) HXl.out (Nat.le_trans hB.size HK3.out.size) ?_
   intro g' n' cap' w4 HR4 HG4
   have hgr:(w2.alloc (.cells #[.int .i64 x.f,.slice so sn sc] 62)).grownBy w4 v.ownBlock:=by rw [← HW3.out];exact HG4.out
   have hapd:=(boxed_keep hv HK2.out).appended (by decide) (HK2.out.ownsRow hrow (by simp)) (Nat.le_trans hB.size HK2.out.size) (Nat.le_refl _) (HR4.out (told (setB x.m))) hgr
   obtain ⟨hv2,hv3,hr3,hk3,hb3⟩:=hapd
   have hk34:Kept v.ownBlock.toList w2 w4:=(((Kept.refl v.ownBlock.toList w2).alloc _).grown hgr (fun k hk=>.inl (by simp [hk])))
   have ht2:Typed w2 v.ownBlock.toList [62]:=fun k hk cur t mk hh=>by
    obtain ⟨cur',hh'⟩:=row_block (HK2.out.ownsRow hrow (by simp)) (mem_own.1 hk)
    rw [hh'] at hh;cases hh;simp
   have HB4:Hid (∀ (u:Value) (m:List Int),RowI w.heap.size w2 u m→RowI w.heap.size (w4.setCell ⟨w.heap.size,0,none⟩ (.slice (some ⟨g',0,none⟩) n' cap')) u m):=fun u m hu=>by
    have h1:RowI w.heap.size w4 u m:=row_typed hk34 ht2 hu (by decide)
    exact ((Kept.refl [w.heap.size] w4).setCell (by simp) _).ownsRow h1 fun k hk hm=>by
     simp at hm;subst hm
     obtain ⟨cur,hh⟩:=row_block h1 hk
     have h2:w4.heap[w.heap.size]?=_:=hv2
     rw [h2] at hh;cases hh
   have hS4:w4.rangeAt Bx 0 (spC x.f (setB x.m)):=fun j u hu=>hk34.cell (HK2.out.cell (hX j u hu) (by simp)) (fun hm=>by
    obtain ⟨cur,hh⟩:=row_block (HK2.out.ownsRow hrow (by simp)) (mem_own.1 hm)
    rw [HK2.out.at HBx.out (by simp)] at hh;cases hh)
   have HV3:=hide hv3
   have HR3:=hide hr3
   have HK3f:=hide hk3
   have HB3:=hide hb3
   have hc2:=hv2.cell
   have hf2:=hv2.frozen
   clear hv2 hv3 hr3 hk3 hb3 hk34 ht2 hgr
   refine hK0.out _ _ hS4 (fun hHeld=>?_)
   clear hK0 K0
   try simp only [sT,Act.put]
   refine rd1 9 (by kernel_rfl) rfl (fun K0 hK0=>?_)
   go_simp
   go_wp2_with fail
   refine hK0.out _ _ (fun j u hu=>((Kept.refl [w.heap.size] w4).setCell (by simp) _).cell (hS4 j u hu) (by simpa using HBn.out)) (fun hHeld=>?_)
   clear hK0 K0
   try simp only [sT,Act.put]
   refine wpAnyH_done (by kernel_rfl) ?_ _
   clear hHeld
   refine ⟨rfl,?_⟩
   gi_wp2_with fail
   refine ⟨((keepsOthers_kept HK2.out).trans HK3f.out).from _,(HK2.out.below hB.size (by simp)).trans HB3.out,⟨_,_,HV3.out,HR3.out,?_,fun y hy=>?_⟩,hB.trans ((HK2.out.below hB.size (by simp)).trans HB3.out)⟩
   ·rw [List.map_append,List.map_append,hmap];rfl
   ·rcases List.mem_append.1 hy with hy | hy
    ·exact HB4.out _ _ (HK2.out.ownsRow (hown y hy) (by simp))
    ·rw [show y=(⟨x.f,told (setB x.m)⟩,.slice so sn sc) by simpa using hy];exact HB4.out _ _ HR2.out
  ·go_simp
   refine (tell_call _ (setB x.m)).mono ?_
   rintro _ w2 ⟨u2,rfl,hR2a,hK2a⟩
   have HK2:Hid (Kept [] W w2):=(Kept.refl [] W).drew.trans hK2a (by simp)
   have HR2:Hid (RowI w.heap.size w2 u2 (told (setB x.m))):=row_mono hR2a hB.size
   clear hR2a hK2a
   obtain ⟨so,sc,rfl,hsl2⟩:=HR2.out.sl
   clear hsl2
   obtain ⟨sn,hsn⟩:∃ sn,sn=(told (setB x.m)).length:=⟨_,rfl⟩
   rw [← hsn] at HR2 ⊢
   clear hsn
   go_wp2_with fail
   refine hK0.out _ _ (fun j v hv=>HK2.out.cell (hX j v hv) (by simp)) (fun hHeld=>?_)
   clear hK0 K0
   try simp only [sT,Act.put]
   refine tks [6] (by rfl) (by kernel_rfl) (fun _ _ _ _ _ h=>h) hHeld ?_
   iterate 1
    refine yk ?_ rfl (Or.inl ⟨by rfl,?_⟩) ?_
    rotate_left
    ·intro w9 hSw;(try dsimp only at hSw);go_simp;(try with_reducible rfl)
    try simp only [sT,Act.put]
   refine yk0 ?_
   simp only [setK,sT]
   refine wpAnyH_ready (rs:=[0,7]) (by kernel_rfl) (by simp) (AllReadyH.cons rfl (fun K0 hK0=>?_) (AllReadyH.cons rfl (fun K0 hK0=>?_) (AllReadyH.nil)))
   ·have hcb2:=HK2.out.cell hcb (by simp)
    go_simp
    go_wp2_with fail
    refine hK0.out _ _ (fun j v hv=>HK2.out.cell (hX j v hv) (by simp)) (fun hHeld=>?_)
    clear hK0 K0
    try simp only [sT,Act.put]
    refine rd1 7 (by kernel_rfl) rfl (fun K0 hK0=>?_)
    obtain ⟨w3,hw3⟩:∃ w3,w3=w2.alloc (.cells #[.int .i64 x.f,.slice so sn sc] 62):=⟨_,rfl⟩
    go_simp
    go_wp2_with fail
    rw [← hw3]
    have HK3:Hid (Kept [] W w3):=by show Kept _ _ _;rw [hw3];exact HK2.out.alloc _
    have HW3:=hide hw3
    clear hw3
    refine hK0.out _ _ (fun j v hv=>HK3.out.cell (hX j v hv) (by simp)) (fun hHeld=>?_)
    clear hK0 K0
    try simp only [sT,Act.put]
    refine rd1 8 (by kernel_rfl) rfl (fun K0 hK0=>?_)
    refine step_appA w.heap.size v X x.f so sn sc w2.heap.size rfl (HK3.out.ownsRow hrow (by simp)) rfl (by rw [HW3.out];exact heap_alloc_new w2 _) HXl.out (Nat.le_trans hB.size HK3.out.size) ?_
    intro g' n' cap' w4 HR4 HG4
    have hgr:(w2.alloc (.cells #[.int .i64 x.f,.slice so sn sc] 62)).grownBy w4 v.ownBlock:=by rw [← HW3.out];exact HG4.out
    have hapd:=(boxed_keep hv HK2.out).appended (by decide) (HK2.out.ownsRow hrow (by simp)) (Nat.le_trans hB.size HK2.out.size) (Nat.le_refl _) (HR4.out (told (setB x.m))) hgr
    obtain ⟨hv2,hv3,hr3,hk3,hb3⟩:=hapd
    have hk34:Kept v.ownBlock.toList w2 w4:=(((Kept.refl v.ownBlock.toList w2).alloc _).grown hgr (fun k hk=>.inl (by simp [hk])))
    have ht2:Typed w2 v.ownBlock.toList [62]:=fun k hk cur t mk hh=>by
     obtain ⟨cur',hh'⟩:=row_block (HK2.out.ownsRow hrow (by simp)) (mem_own.1 hk)
     rw [hh'] at hh;cases hh;simp
    have HB4:Hid (∀ (u:Value) (m:List Int),RowI w.heap.size w2 u m→RowI w.heap.size (w4.setCell ⟨w.heap.size,0,none⟩ (.slice (some ⟨g',0,none⟩) n' cap')) u m):=fun u m hu=>by
     have h1:RowI w.heap.size w4 u m:=row_typed hk34 ht2 hu (by decide)
     exact ((Kept.refl [w.heap.size] w4).setCell (by simp) _).ownsRow h1 fun k hk hm=>by
      simp at hm;subst hm
      obtain ⟨cur,hh⟩:=row_block h1 hk
      have h2:w4.heap[w.heap.size]?=_:=hv2
      rw [h2] at hh;cases hh
    have hS4:w4.rangeAt Bx 0 (spC x.f (setB x.m)):=fun j u hu=>hk34.cell (HK2.out.cell (hX j u hu) (by simp)) (fun hm=>by
     obtain ⟨cur,hh⟩:=row_block (HK2.out.ownsRow hrow (by simp)) (mem_own.1 hm)
     rw [HK2.out.at HBx.out (by simp)] at hh;cases hh)
    have HV3:=hide hv3
    have HR3:=hide hr3
    have HK3f:=hide hk3
    have HB3:=hide hb3
    have hc2:=hv2.cell
    have hf2:=hv2.frozen
    clear hv2 hv3 hr3 hk3 hb3 hk34 ht2 hgr
    refine hK0.out _ _ hS4 (fun hHeld=>?_)
    clear hK0 K0
    try simp only [sT,Act.put]
    refine rd1 9 (by kernel_rfl) rfl (fun K0 hK0=>?_)
    go_simp
    go_wp2_with fail
    refine hK0.out _ _ (fun j u hu=>((Kept.refl [w.heap.size] w4).setCell (by simp) _).cell (hS4 j u hu) (by simpa using HBn.out)) (fun hHeld=>?_)
    clear hK0 K0
    try simp only [sT,Act.put]
    refine wpAnyH_done (by kernel_rfl) ?_ _
    clear hHeld
    refine ⟨rfl,?_⟩
    gi_wp2_with fail
    refine ⟨((keepsOthers_kept HK2.out).trans HK3f.out).from _,(HK2.out.below hB.size (by simp)).trans HB3.out,⟨_,_,HV3.out,HR3.out,?_,fun y hy=>?_⟩,hB.trans ((HK2.out.below hB.size (by simp)).trans HB3.out)⟩
    ·rw [List.map_append,List.map_append,hmap];rfl
    ·rcases List.mem_append.1 hy with hy | hy
     ·exact HB4.out _ _ (HK2.out.ownsRow (hown y hy) (by simp))
     ·rw [show y=(⟨x.f,told (setB x.m)⟩,.slice so sn sc) by simpa using hy];exact HB4.out _ _ HR2.out
   ·obtain ⟨w3,hw3⟩:∃ w3,w3=w2.alloc (.cells #[.int .i64 x.f,.slice so sn sc] 62):=⟨_,rfl⟩
    go_simp
    go_wp2_with fail
    rw [← hw3]
    have HK3:Hid (Kept [] W w3):=by show Kept _ _ _;rw [hw3];exact HK2.out.alloc _
    have HW3:=hide hw3
    clear hw3
    refine hK0.out _ _ (fun j v hv=>HK3.out.cell (hX j v hv) (by simp)) (fun hHeld=>?_)
    clear hK0 K0
    try simp only [sT,Act.put]
    have hcb3:=HK3.out.cell hcb (by simp)
    refine rd1 0 (by kernel_rfl) rfl (fun K0 hK0=>?_)
    go_simp
    go_wp2_with fail
    refine hK0.out _ _ (fun j v hv=>HK3.out.cell (hX j v hv) (by simp)) (fun hHeld=>?_)
    clear hK0 K0
    try simp only [sT,Act.put]
    refine rd1 8 (by kernel_rfl) rfl (fun K0 hK0=>?_)
    refine step_appA w.heap.size v X x.f so sn sc w2.heap.size rfl (HK3.out.ownsRow hrow (by simp)) rfl (by rw [HW3.out];exact heap_alloc_new w2 _) HXl.out (Nat.le_trans hB.size HK3.out.size) ?_
    intro g' n' cap' w4 HR4 HG4
    have hgr:(w2.alloc (.cells #[.int .i64 x.f,.slice so sn sc] 62)).grownBy w4 v.ownBlock:=by rw [← HW3.out];exact HG4.out
    have hapd:=(boxed_keep hv HK2.out).appended (by decide) (HK2.out.ownsRow hrow (by simp)) (Nat.le_trans hB.size HK2.out.size) (Nat.le_refl _) (HR4.out (told (setB x.m))) hgr
    obtain ⟨hv2,hv3,hr3,hk3,hb3⟩:=hapd
    have hk34:Kept v.ownBlock.toList w2 w4:=(((Kept.refl v.ownBlock.toList w2).alloc _).grown hgr (fun k hk=>.inl (by simp [hk])))
    have ht2:Typed w2 v.ownBlock.toList [62]:=fun k hk cur t mk hh=>by
     obtain ⟨cur',hh'⟩:=row_block (HK2.out.ownsRow hrow (by simp)) (mem_own.1 hk)
     rw [hh'] at hh;cases hh;simp
    have HB4:Hid (∀ (u:Value) (m:List Int),RowI w.heap.size w2 u m→RowI w.heap.size (w4.setCell ⟨w.heap.size,0,none⟩ (.slice (some ⟨g',0,none⟩) n' cap')) u m):=fun u m hu=>by
     have h1:RowI w.heap.size w4 u m:=row_typed hk34 ht2 hu (by decide)
     exact ((Kept.refl [w.heap.size] w4).setCell (by simp) _).ownsRow h1 fun k hk hm=>by
      simp at hm;subst hm
      obtain ⟨cur,hh⟩:=row_block h1 hk
      have h2:w4.heap[w.heap.size]?=_:=hv2
      rw [h2] at hh;cases hh
    have hS4:w4.rangeAt Bx 0 (spC x.f (setB x.m)):=fun j u hu=>hk34.cell (HK2.out.cell (hX j u hu) (by simp)) (fun hm=>by
     obtain ⟨cur,hh⟩:=row_block (HK2.out.ownsRow hrow (by simp)) (mem_own.1 hm)
     rw [HK2.out.at HBx.out (by simp)] at hh;cases hh)
    have HV3:=hide hv3
    have HR3:=hide hr3
    have HK3f:=hide hk3
    have HB3:=hide hb3
    have hc2:=hv2.cell
    have hf2:=hv2.frozen
    clear hv2 hv3 hr3 hk3 hb3 hk34 ht2 hgr
    refine hK0.out _ _ hS4 (fun hHeld=>?_)
    clear hK0 K0
    try simp only [sT,Act.put]
    refine rd1 9 (by kernel_rfl) rfl (fun K0 hK0=>?_)
    go_simp
    go_wp2_with fail
    refine hK0.out _ _ (fun j u hu=>((Kept.refl [w.heap.size] w4).setCell (by simp) _).cell (hS4 j u hu) (by simpa using HBn.out)) (fun hHeld=>?_)
    clear hK0 K0
    try simp only [sT,Act.put]
    refine wpAnyH_done (by kernel_rfl) ?_ _
    clear hHeld
    refine ⟨rfl,?_⟩
    gi_wp2_with fail
    refine ⟨((keepsOthers_kept HK2.out).trans HK3f.out).from _,(HK2.out.below hB.size (by simp)).trans HB3.out,⟨_,_,HV3.out,HR3.out,?_,fun y hy=>?_⟩,hB.trans ((HK2.out.below hB.size (by simp)).trans HB3.out)⟩
    ·rw [List.map_append,List.map_append,hmap];rfl
    ·rcases List.mem_append.1 hy with hy | hy
     ·exact HB4.out _ _ (HK2.out.ownsRow (hown y hy) (by simp))
     ·rw [show y=(⟨x.f,told (setB x.m)⟩,.slice so sn sc) by simpa using hy];exact HB4.out _ _ HR2.out
 case done =>
  rintro D ys W hD rfl ⟨⟨v,X,hv,hrow,hmap,hown⟩,hB⟩ hK
  have hc:=hv.cell
  gi_wp2_with fail
  refine ⟨by simp,.inl ⟨_,_,rfl,run_takeDeferred hK,?_⟩⟩
  refine ⟨_,results_tmp rfl _ _ _,v,X,rfl,ownsRow_putObj hrow _ hK rfl,fun y hy=>ownsRow_putObj (hown y hy) _ hK rfl,by rw [hmap,HT.out],Kept.of_below (hB.trans (belowK_b (w:=w) (Nat.le_refl _) W D _ _ (by omega) hK rfl rfl))⟩
 case stop =>
  rintro D c pre W _ _ h _
  exact h.elim
end Go.Proofs.YtddhmfildfdbdaaGreat
namespace Go.Proofs.YtddhmfildfdbdaaGreat
open Go.RowKit Go.Shelf
attribute [local go_sem] Oper.semAt_some
end Go.Proofs.YtddhmfildfdbdaaGreat
