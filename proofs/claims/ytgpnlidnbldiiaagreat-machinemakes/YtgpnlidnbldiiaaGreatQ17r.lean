/-
  Texts laid as one.
-/
import Derived.Test.YtgpnlidnbldiiaaGreatQ15r
import Derived.Test.YtgpnlidnbldiiaaGreatQ2r
import Derived.RangeFuncNested
import Derived.RangeFuncBound
import Derived.RangeFuncCalls
import Derived.RangeFuncLeaves
import Derived.RangeFuncBox
import Derived.Shelf.Abstract
import Derived.Shelf.RegionOpen
import Derived.WalkKit
import Derived.OwnWalkIn
import Derived.TacticsInMore
import Derived.LoopNIn
import Derived.LoopIn
import Derived.Maps.AppendAt
import Derived.Deep.RegionHeld3
import Derived.Test.YtgpnlidnbldiiaaGreatQ16r
import Derived.Test.YtgpnlidnbldiiaaGreatQ1r
import Derived.Deep.AppendLies
set_option maxHeartbeats 8000000
set_option maxRecDepth 100000
set_option linter.unusedSimpArgs false
/-
 (set).each,(set).tell: the numbers of a set,one by one,rising;as a list.
-/
namespace Go.Proofs.YtgpnlidnbldiiaaGreat
open Go.RowKit Go.Shelf
attribute [local go_sem] Oper.semAt_some
theorem l7 {F:Fence}{n:Nat}{ops:Array Oper}{rest:List Oper}{o:Oper}{a:Act}{w w':World}{v:Value}{Q:Exit→Act→World→Prop}(hg:o.guard=none) (hc:∀ c,o.op≠.call c) (hd:∀ c,o.op≠.defer c)
 (hr:(execOp a.eval o).run Tryz.prog w=.ok (.value v) w') (h:wpListIn F n Tryz.prog ops Q rest (a.put o.dst v) w'):wpListIn F n Tryz.prog ops Q (o :: rest) a w:=by
 refine wpListIn_plain hg fun K hK=>?_;unfold Oper.wpIn;refine ⟨fun f hf=>?_,?_⟩
 ·unfold Oper.about at hf;split at hf
  ·rename_i c hc';exact absurd hc' (hc c)
  ·cases hf
 ·rw [Oper.semAt_plain F _ _ hd,hr,Oper.uponIn_value];exact hK _ _ h
theorem AD {F:Fence}{n:Nat}{ops:Array Oper}{rest:List Oper}{o:Oper}{a:Act}{w w':World}{Q:Exit→Act→World→Prop}(hg:o.guard=none) (hc:∀ c,o.op≠.call c) (hd:∀ c,o.op≠.defer c)
 (hr:(execOp a.eval o).run Tryz.prog w=.ok .skip w') (h:wpListIn F n Tryz.prog ops Q rest (a.put o.dst undef) w'):wpListIn F n Tryz.prog ops Q (o :: rest) a w:=by
 refine wpListIn_plain hg fun K hK=>?_;unfold Oper.wpIn;refine ⟨fun f hf=>?_,?_⟩
 ·unfold Oper.about at hf;split at hf
  ·rename_i c hc';exact absurd hc' (hc c)
  ·cases hf
 ·rw [Oper.semAt_plain F _ _ hd,hr,Oper.uponIn_skip];exact hK _ _ h
theorem go {F:Fence}{n:Nat}{ops:Array Oper}{rest:List Oper}{a:Act}{w:World}{Q:Exit→Act→World→Prop}{d:Option Tmp}{x:Operand}{ty:TypeId}{ps:String}{af:Array Edge}
 {b o:Nat}{S:Nat→Bool}(hx:a.eval x=.pointer (some ⟨b,o,none⟩)) (hc:w.rangeAt b o (bG S)) (h:wpListIn F n Tryz.prog ops Q rest (a.put d (eG S)) w):wpListIn F n Tryz.prog ops Q (⟨d,.load 116 x,ty,ps,af,none⟩ :: rest) a w :=
 l7 rfl (fun _ e=>by cases e) (fun _ e=>by cases e) (by simp only [execOp,hx,Sem.run_bind,wC hc,Result.andThen_ok,Sem.run_pure]) h
theorem j6 {F:Fence}{n:Nat}{ops:Array Oper}{rest:List Oper}{a:Act}{w:World}{Q:Exit→Act→World→Prop}{d:Option Tmp}{x:Operand}{ty:TypeId}{ps:String}{af:Array Edge}
 {b o:Nat}{f:Int}{S:Nat→Bool}(hx:a.eval x=.pointer (some ⟨b,o,none⟩)) (hc:w.rangeAt b o (ix f S)) (h:wpListIn F n Tryz.prog ops Q rest (a.put d (sL f S)) w):wpListIn F n Tryz.prog ops Q (⟨d,.load 121 x,ty,ps,af,none⟩ :: rest) a w :=
 l7 rfl (fun _ e=>by cases e) (fun _ e=>by cases e) (by simp only [execOp,hx,Sem.run_bind,vU hc,Result.andThen_ok,Sem.run_pure]) h
theorem tz {w:World}{b:Nat}{f:Int}{S:Nat→Bool}(h:dH w b f S) (g:Int) (T:Nat→Bool):(Instr.storeAt 121 (.pointer (some ⟨b,0,none⟩)) (sL g T)).run Tryz.prog w=.ok () (w.setCells b 0 (ix g T)):=by
 have:=run_storeAt_mid (P:=Tryz.prog) w b 0 121 (ix g T).toArray (by simpa [eQ] using h.there) ji (all_oneCell_toArray (lW g T))
 simpa [sL] using this
theorem gz {F:Fence}{n:Nat}{ops:Array Oper}{rest:List Oper}{a:Act}{w:World}{Q:Exit→Act→World→Prop}{d:Option Tmp}{x y:Operand}{ty:TypeId}{ps:String}{af:Array Edge}
 (g:Int) (T:Nat→Bool) {b:Nat}(hx:a.eval x=.pointer (some ⟨b,0,none⟩)) (hy:a.eval y=sL g T) {f:Int}{S:Nat→Bool}(hc:dH w b f S) (h:∀ w',Hid (dH w' b g T)→Hid (aa [b] w w')→wpListIn F n Tryz.prog ops Q rest (a.put d undef) w'):wpListIn F n Tryz.prog ops Q (⟨d,.store 121 x y,ty,ps,af,none⟩ :: rest) a w :=
 AD rfl (fun _ e=>by cases e) (fun _ e=>by cases e) (by simp only [execOp,hx,hy,Sem.run_bind,tz hc g T,Result.andThen_ok,Sem.run_pure]) (h _ hc.store (ee (by simp) _ _ (aa.refl _ _)))
theorem j4 {F:Fence}{n:Nat}{ops:Array Oper}{rest:List Oper}{a:Act}{w:World}{Q:Exit→Act→World→Prop}{d:Option Tmp}{x y:Operand}{ty:TypeId}{ps:String}{af:Array Edge}
 {S:Nat→Bool}{i:Nat}(hx:a.eval x=eG S) (hy:a.eval y=.int .i64 (i:Int)) (hi:i < 15) (h:wpListIn F n Tryz.prog ops Q rest (a.put d (.bool (S i))) w):wpListIn F n Tryz.prog ops Q (⟨d,.index 116 x y,ty,ps,af,none⟩ :: rest) a w :=
 l7 rfl (fun _ e=>by cases e) (fun _ e=>by cases e) (by simp only [execOp,hx,hy,Sem.run_bind,wJ w S hi,Result.andThen_ok,Sem.run_pure]) h
abbrev xX:=Fin 15
def kO (x:xX):Int:=((x.1:Nat):Int)
def eZ (S:Nat→Bool):Nat→List xX
 | 0=>[]
 | k+1=>if h:k < 15 then (if S k then eZ S k++[⟨k,h⟩] else eZ S k) else eZ S k
theorem oq (S:Nat→Bool):∀ k,k≤15→(eZ S k).map kO=((List.range k).filter S).map fun k:Nat=>(k:Int)
 | 0,_=>rfl
 | k+1,h=>by
   rw [List.range_succ,List.filter_append,List.map_append,← oq S k (by omega)];simp only [eZ,dif_pos (show k < 15 by omega)];cases hs:S k with
   | false=>simp [hs]
   | true=>simp [hs,kO]
theorem yq (S:Nat→Bool):(eZ S 15).map kO=bc S:=oq S 15 (Nat.le_refl _)
theorem qT (S:Nat→Bool):∀ k,(eZ S k).length≤k
 | 0=>Nat.le_refl _
 | k+1=>by
   have:=qT S k
   simp only [eZ];split
   ·split
    ·simp;omega
    ·omega
   ·omega
theorem rG (S:Nat→Bool) (k:Nat):∀ j,eZ S k <+: eZ S (k+j)
 | 0=>List.prefix_refl _
 | j+1=>(rG S k j).trans (by
  rw [show k+(j+1)=(k+j)+1 by omega];conv=>rhs;rw [eZ]
  split
  ·split
   ·exact List.prefix_append _ _
   ·exact List.prefix_refl _
  ·exact List.prefix_refl _)
theorem vF (n:Nat) (S:Nat→Bool) (w:World) :
 CallsIn Fence.wide n Tryz.prog 131 #[eG S] w fun e w'=>e=.returned (.func (.func 157) #[] #[.pointer (some ⟨w.heap.size,0,none⟩)])∧w'=w.alloc (.cells (bG S).toArray 116):=by
 unfold eG;refine callsIn_of_wp Tryz.func131 rfl trivial ?_ rfl;simp only [Tryz.ntmps131,List.size_toArray,List.length_cons,List.length_nil,Nat.reduceAdd,Nat.reduceSub,Array.replicate_succ,Array.replicate_zero,List.push_toArray,List.append_toArray,List.nil_append,List.cons_append];gi_wp2
 go_ret
 exact ⟨rfl,rfl⟩
theorem yj (l B n b:Nat) (S:Nat→Bool) (J Jx:List xX→World→Prop)
 (hY:∀ pre (x:xX) W,J pre W→pre.length < 15→YieldAt Fence.wide (n - 1) Tryz.prog l #[.int .i64 (kO x)] W fun e W' =>
   (e=.returned (.bool true)∧J (pre++[x]) W'∧Below B W W')∨(e=.returned (.bool false)∧Jx (pre++[x]) W'))
 (W:World) (hb:bh W b S) (h0:J [] W) :
 CallsIn Fence.wide n Tryz.prog 157 #[.func (.yield l) #[] #[],.pointer (some ⟨b,0,none⟩)] W fun e W'=>(∃ v,e=.returned v) ∧
  ((∃ ys,ys=eZ S 15∧J ys W')∨(∃ pre,pre <+: eZ S 15∧Jx pre W')):=by
 have HR:=ah hb.range;clear hb;refine callsIn_of_wp Tryz.func157 rfl trivial ?_ rfl;simp only [Tryz.ntmps157,List.size_toArray,List.length_cons,List.length_nil,Nat.reduceAdd,Nat.reduceSub,Array.replicate_succ,Array.replicate_zero,List.push_toArray,List.append_toArray,List.nil_append,List.cons_append];gi_wp2_with ((with_reducible refine go ?_ HR.out ?_);rfl)
 clear HR
 gi_loopw [6] (fun i wr=>∃ k:Nat,k≤15∧i=.int .i64 k∧Hid (J (eZ S k) wr))
  (fun i _=>15 - (intOf i).toNat)
 case atStart=>exact ⟨0,Nat.zero_le _,rfl,h0⟩
 case round =>
  obtain ⟨k,hk,rfl,HJ⟩:=hrel;by_cases hlt:k < 15
  ·have hlt':(k:Int) < 15:=by omega
   cases hs:S k with
   | true =>
     have HE:Hid (eZ S (k+1)=eZ S k++[⟨k,hlt⟩]):=by show _=_;simp only [eZ,dif_pos hlt,hs];simp
     obtain ⟨fn,tmps,assign,body,hy,hR⟩:=hY (eZ S k) ⟨k,hlt⟩ wr HJ.out (by have:=qT S k;omega);unfold kO at hy;clear hY;gi_wp2_with ((with_reducible refine j4 (S:=S) (i:=k) ?_ ?_ hlt ?_);rfl;rfl;rw [hs])
     refine ⟨oK _,hR.mono ?_⟩;clear hR;rintro e W3 (⟨rfl,hJ3,hk3⟩ | ⟨rfl,hJx3⟩)
     ·gi_wp2_with fail
      go_roundw
      case rel=>exact ⟨k+1,by omega,by go_num,by show J _ _;rw [HE.out];exact hJ3⟩
      case measure=>simp [intOf];omega
     ·gi_wp2_with fail
      refine bodyPost_ret (results_none rfl _ _ _) rfl ?_;exact ⟨⟨_,rfl⟩,.inr ⟨_,by rw [← HE.out,show (15:Nat)=(k+1)+(14 - k) by omega];exact rG S _ _,hJx3⟩⟩
   | false =>
     have HE:Hid (eZ S (k+1)=eZ S k):=by show _=_;simp only [eZ,dif_pos hlt,hs];simp
     gi_wp2_with ((with_reducible refine j4 (S:=S) (i:=k) ?_ ?_ hlt ?_);rfl;rfl;rw [hs])
     refine ⟨fun _ h=>(by cases h),?_⟩;gi_wp2_with fail
     go_roundw
     case rel=>exact ⟨k+1,by omega,by go_num,by show J _ _;rw [HE.out];exact HJ.out⟩
     case measure=>simp [intOf];omega
  ·obtain rfl:k=15:=by omega
   gi_wp2_with fail
   go_end0
   exact ⟨⟨_,rfl⟩,.inl ⟨_,rfl,HJ.out⟩⟩
theorem mS (n B b:Nat) (S:Nat→Bool) (w:World) (hb:bh w b S) :
 SeqStopsK Fence.wide n Tryz.prog 157 #[.pointer (some ⟨b,0,none⟩)] (fun x:xX=>#[.int .i64 (kO x)]) (Below B) (fun ys=>ys=eZ S 15) (fun pre=>pre <+: eZ S 15) 15 w :=
 fun l J Jx W hW _ _ hY h0=>yj l B n b S J Jx hY W ((hW.block b (aq hb)).trans hb) h0
def Cv (l:List xX):List Value:=l.map fun x=>.int .i64 (kO x)
theorem jg (w:World) (S:Nat→Bool) :
 Calls Tryz.prog 104 #[eG S] w fun e w'=>∃ v,e=.returned v∧bJ w.heap.size w' v (bc S)∧aa [] w w':=by
 obtain ⟨i0,hi,hz0,hz1,hz2⟩:=info_parts ni;refine (callsIn_wide (n:=3)).1 ?_;refine callsIn_of_wp_marks Tryz.func104 rfl trivial ?_ rfl;unfold eG;simp only [Tryz.ntmps104,List.size_toArray,List.length_cons,List.length_nil,Nat.reduceAdd,Nat.reduceSub,Array.replicate_succ,Array.replicate_zero,List.push_toArray,List.append_toArray,List.nil_append,List.cons_append];have hL:bh ((w.alloc (.cells (bG S).toArray 116)).alloc (.cells #[.slice none 0 0] 22)) w.heap.size S:=(Below.heap_alloc _ _ _ (by simp)).trans (heap_alloc_new w _);gi_wp2_with (first | ((with_reducible refine go ?_ hL.range ?_);rfl) | (refine ⟨trivial,?_⟩;gi_at_call 131;refine (vF _ S _).mono ?_;rintro e w' ⟨rfl,rfl⟩))
 obtain ⟨W0,hW0⟩:∃ W0,(((w.alloc (.cells (bG S).toArray 116)).alloc (.cells #[.slice none 0 0] 22)).alloc (.cells (bG S).toArray 116))=W0:=⟨_,rfl⟩;have hsz:W0.heap.size=w.heap.size+3:=by rw [← hW0];simp
 have hK0:aa [] w W0:=by rw [← hW0];exact (((aa.refl _ _).alloc _).alloc _).alloc _
 have bO:Boxed W0 (w.heap.size+1) 22 (.slice none 0 0):=by
  rw [← hW0];have:=Boxed.new (w.alloc (.cells (bG S).toArray 116)) 22 (.slice none 0 0)
  rw [World.size_alloc] at this;exact this.alloc _
 have bS:bh W0 (w.heap.size+1+1) S:=by
  rw [← hW0];have:=heap_alloc_new ((w.alloc (.cells (bG S).toArray 116)).alloc (.cells #[.slice none 0 0] 22)) (.cells (bG S).toArray 116)
  rw [World.size_alloc,World.size_alloc] at this;exact this
 rw [hW0];clear hL hW0;have hB0:Below w.heap.size w W0:=hK0.below (Nat.le_refl _) (by simp)
 refine wpIn_rangeFunc_ownF rfl (by omega) (gf:=157) (lb:=#[.pointer (some ⟨w.heap.size+1+1,0,none⟩)]) rfl trivial (enters_of Tryz.func157 (by kernel_rfl) rfl)
  (mS _ w.heap.size (w.heap.size+1+1) S W0 bS) belowK_t (belowK_b (by omega)) (Below.refl _ _) (fun _=>rfl)
  (fun pre W=>(∃ v,Boxed W (w.heap.size+1) 22 v∧W.ownsRow w.heap.size 3 1 v pre.length (Cv pre)∧True)∧Below w.heap.size w W)
  (fun _ _ _=>False)
  (OwnFrom.and (Own.from (holdsRow_own w.heap.size (w.heap.size+1) 22 3 1 (fun pre:List xX=>pre.length) (fun pre=>Cv pre) (fun _ _=>True)) _) (ownFrom_below (Nat.le_refl _) (by omega)))
  (fun _ _ _ _ _ h _ _=>h)
  ⟨⟨_,bO,World.ownsRow_nil _ _ _ _,trivial⟩,hB0⟩
  (fun x=>{ tmps:=#[.agg (bG S).toArray,.pointer (some ⟨w.heap.size,0,none⟩),.slice none 0 0,.pointer (some ⟨w.heap.size+1,0,none⟩),.int .i64 (kO x),eG S,.func (.func 157) #[] #[.pointer (some ⟨w.heap.size+1+1,0,none⟩)],.int .i64 (kO x),undef,undef,undef,undef,undef],defers:=[] })
  ?assign ?body ?done ?stop
 case assign =>
  intro l x W K hK;gi_wp2
  exact hK
 case body =>
  rintro l pre x W ⟨⟨v,hv,hrow,_⟩,hB⟩ hlt;have hc:=hv.cell;gi_wp2_with (gi_at_builtin;refine wpListIn_append_own _ rfl _ _ 22 rfl w.heap.size 3 i0 (.int .i64 0) 1 8 Tryz.underlying22 hi hz0 hz1 hz2 rfl (by decide) _ _ _ rfl (hrow.alloc _) ⟨W.heap.size,0,none⟩ 1 1 [.int .i64 (kO x)] rfl rfl ?n1 (by simp [Value.oneCell']) (by unfold maxLen;omega) (by omega) (by have:=hB.size;simp;omega) ?n2)
  case n1=>exact cell_one_new _ _ _
  case n2 =>
   intro v' w1 hown' hgrow _;obtain ⟨g',cap',rfl⟩:=ownsRow_succ hown';obtain ⟨hv2,hv3,hr3,hk3,hb3⟩:=hv.appended (by decide) hrow hB.size (Nat.le_succ _) hown' hgrow;have hc2:=hv2.cell;have hf2:=hv2.frozen;gi_wp2_with fail
   refine ⟨hk3,hb3,⟨_,hv3,?_,trivial⟩,hB.trans hb3⟩;unfold Cv at hr3 ⊢;rw [List.length_append,List.map_append];simpa using hr3
 case done =>
  rintro D ys W hD rfl ⟨⟨v,hv,hrow,_⟩,hB⟩ hK;have hc:=hv.cell;gi_wp2_with fail
  refine ⟨by simp,.inl ⟨_,_,rfl,run_takeDeferred hK,?_⟩⟩;refine ⟨_,results_tmp rfl _ _ _,v,rfl,?_,aa.of_below (hB.trans (belowK_b (w:=w) (Nat.le_refl _) W D _ _ (by omega) hK rfl rfl))⟩;have h1:=ownsRow_putObj hrow (.deferred none) hK rfl;unfold bJ;rw [← yq S,List.length_map,List.map_map];exact h1
 case stop =>
  rintro D c pre W _ _ h _;exact h.elim
end Go.Proofs.YtgpnlidnbldiiaaGreat
namespace Go.Proofs.YtgpnlidnbldiiaaGreat
open Go.RowKit
theorem Al (B:Nat) (w:World) (p:Nat) (al:Int) (L:List Ep) (h:g9 B w p al L) (hok:hH L) (hl:L.length≤1000000) (z:Int) :
 Calls Tryz.prog 97 #[.pointer (some ⟨p,0,none⟩),.int .i64 z] w fun e w'=>∃ v,e=.returned v∧bJ w.heap.size w' v (xQ L z)∧aa [] w w':=by
 obtain ⟨g,cap,h1,h2,h3,h4⟩:=h.open hok.1;have c1:w.cell? ⟨p,1,none⟩=some (.slice (some ⟨g,0,none⟩) L.length cap):=ag (k:=1) h1 rfl;have cM:=jx B w p al L h hok.1;have cP:=fun W (hk:aa [] w W)=>lr B W p al L (h.kept hk) hok.1 hok.2.1 hl z;have hq:=nH hok.1 z
 have HA:Hid (bc (aK L[im L z].m)=xQ L z):=by
  show _=_;rw [l9 (hok.2.2 _ (List.getElem_mem hq)).1];unfold xQ;rw [List.getD_eq_getElem?_getD,List.getElem?_eq_getElem hq];rfl
 have hr:=lU (h4 _ hq);have hq':(im L z:Int) < L.length:=by omega
 generalize aK L[im L z].m=M at *;generalize im L z=q at *;unfold maxLen at h3;clear h1 h4 h hok hl;generalize L.length=n at *;have HR2:∀ W,aa [] w W→W.rangeAt g (q*16+1) (bG M):=fun W hk j v hv=>hk.cell (hr j v hv) (by simp);go_enter Tryz.func97,Tryz.ntmps97;go_wp2_with (go_at_call 84;refine cM.mono ?_;clear cM;rintro _ _ ⟨rfl,rfl⟩)
 refine wp_region_held_drew (S:=fun w'=>w'.cell? ⟨p,1,none⟩=some (.slice (some ⟨g,0,none⟩) n cap)∧w'.rangeAt g (q*16+1) (bG M)) (by kernel_rfl) ⟨c1,hr⟩ (fun hHeld=>?_);refine aU [0,1,2,3,4,5] (by rfl) (by kernel_rfl) (fun _ _ _ _ _ h=>h) hHeld ?_
 iterate 6
  refine yk ?_ rfl (Or.inl ⟨by rfl,?_⟩) ?_;rotate_left
  ·intro w9 hSw;(try dsimp only at hSw);go_simp;(try with_reducible rfl)
  try simp only [sT,Act.put]
 refine aT ?_;simp only [au,sT];refine aH 6 (by kernel_rfl) rfl (fun K0 hK0=>?_);go_simp;refine (cP _ ((aa.refl [] w).drew)).mono ?_;rintro _ w2 ⟨rfl,hK2⟩;have HK2:Hid (aa [] w w2):=(aa.refl [] w).drew.trans hK2 (by simp);clear hK2 cP;go_wp2_with fail
 refine hK0.out _ _ ⟨HK2.out.cell c1 (by simp),HR2 _ HK2.out⟩ (fun hHeld=>?_);clear hK0 K0;try simp only [sT,Act.put]
 refine aU [7,8] (by rfl) (by kernel_rfl) (fun _ _ _ _ _ h=>h) hHeld ?_
 iterate 2
  refine yk ?_ rfl (Or.inl ⟨by rfl,?_⟩) ?_;rotate_left
  ·intro w9 hSw;(try dsimp only at hSw);go_simp;(try with_reducible rfl)
  try simp only [sT,Act.put]
 refine aT ?_;simp only [au,sT];refine wpAnyH_take (i:=9) (v:=.agg (bG M).toArray) rfl (by kernel_rfl) (by kernel_rfl) (by kernel_rfl) (fun _ _ _ h=>h) (yieldsIf_load_mid (by rfl) _ _ rfl g (q*16+1) rfl (bG M) _ (fun w9 hSw=>hSw.2) Tryz.underlying116 rfl fD) hHeld ?_;try simp only [sT,Act.put]
 refine aH 10 (by kernel_rfl) rfl (fun K0 hK0=>?_);go_simp;refine (jg _ M).mono ?_;rintro _ w3 ⟨v,rfl,hR3,hK3⟩;have HK3:=ah hK3;have HR3:=ah hR3;clear hK3 hR3;go_wp2_with fail
 have HK4:Hid (aa [] w w3):=HK2.out.trans HK3.out (by simp);refine hK0.out _ _ ⟨HK4.out.cell c1 (by simp),HR2 _ HK4.out⟩ (fun hHeld=>?_);clear hK0 K0;try simp only [sT,Act.put]
 refine aU [11] (by rfl) (by kernel_rfl) (fun _ _ _ _ _ h=>h) hHeld ?_
 iterate 1
  refine yk ?_ rfl (Or.inl ⟨by rfl,?_⟩) ?_;rotate_left
  ·intro w9 hSw;(try dsimp only at hSw);go_simp;(try with_reducible rfl)
  try simp only [sT,Act.put]
 refine aT ?_;simp only [au,sT];try simp only [sT,Act.put]
 refine wpAnyH_done (by kernel_rfl) ?_ _;clear hHeld;go_wp2_with fail
 go_ret
 exact ⟨v,rfl,by rw [← HA.out];exact bF HR3.out HK2.out.size,HK4.out⟩
theorem mW.lit (w:World) (l:List Int) (t:TypeId) (vs:Array Value) (n:Nat) (hn:l.length=n) (hv:vs=(l.map (Value.int .i64)).toArray) (hl:n≤1000):mW (w.alloc (.cells vs t)) (some ⟨w.heap.size,0,none⟩) n n l:=by
 subst hn;subst hv;refine ⟨rfl,Nat.le_refl _,by unfold maxLen;omega,fun i hi=>⟨w.heap.size,0,rfl,?_⟩⟩;rw [Nat.zero_add];exact ag (heap_alloc_new w _) (by simp [hi])
open Go.RowKit Go.Shelf
attribute [local go_sem] Oper.semAt_some
def AU (x:Ep):Value:=sL x.f (aK x.m)
theorem rM (n:Nat) (p:Option Addr) (w:World) :
 CallsIn Fence.wide n Tryz.prog 103 #[.pointer p] w fun e w'=>e=.returned (.func (.func 139) #[] #[.pointer (some ⟨w.heap.size,0,none⟩)])∧w'=w.alloc (.cells #[.pointer p] 61):=by
 refine callsIn_of_wp Tryz.func103 rfl trivial ?_ rfl;simp only [Tryz.ntmps103,List.size_toArray,List.length_cons,List.length_nil,Nat.reduceAdd,Nat.reduceSub,Array.replicate_succ,Array.replicate_zero,List.push_toArray,List.append_toArray,List.nil_append,List.cons_append];gi_wp2
 go_ret
 exact ⟨rfl,rfl⟩
theorem wi (l n₀ n b p g cap:Nat) (L:List Ep) (hl:L.length≤1000000) (J Jx:List Ep→World→Prop)
 (hJ:∀ pre W W',J pre W→aa [] W W'→J pre W')
 (hY:∀ pre (x:Ep) W,J pre W→pre.length < L.length→YieldAt Fence.wide (n - 1) Tryz.prog l #[AU x] W fun e W' =>
   (e=.returned (.bool true)∧J (pre++[x]) W'∧Below n₀ W W')∨(e=.returned (.bool false)∧Jx (pre++[x]) W'))
 (W:World) (hn₀:n₀≤W.heap.size) (hb:W.cell? ⟨b,0,none⟩=some (.pointer (some ⟨p,0,none⟩))) (h1:W.cell? ⟨p,1,none⟩=some (.slice (some ⟨g,0,none⟩) L.length cap)) (hg:g < n₀) (hr:∀ i (hi:i < L.length),W.rangeAt g (i*16) (nW L[i])) (h0:J [] W) :
 CallsIn Fence.wide n Tryz.prog 139 #[.func (.yield l) #[] #[],.pointer (some ⟨b,0,none⟩)] W fun e W'=>(∃ v,e=.returned v) ∧
  ((∃ ys,ys=L∧J ys W')∨(∃ pre,pre <+: L∧Jx pre W')):=by
 have HR:=ah hr;have HN:=ah hn₀;clear hr hn₀;generalize hln:L.length=len at h1 hl hY;have HL:=ah hln;clear hln;refine callsIn_of_wp Tryz.func139 rfl trivial ?_ rfl;simp only [Tryz.ntmps139,List.size_toArray,List.length_cons,List.length_nil,Nat.reduceAdd,Nat.reduceSub,Array.replicate_succ,Array.replicate_zero,List.push_toArray,List.append_toArray,List.nil_append,List.cons_append];gi_wp2_with fail
 gi_loopw [12] (fun i wr=>∃ k:Nat,k≤len∧i=.int .i64 k∧Hid (J (L.take k) wr)∧Hid (Below n₀ W wr))
  (fun i _=>len - (intOf i).toNat)
 case atStart=>exact ⟨0,Nat.zero_le _,rfl,by simpa [Hid] using h0,Below.refl _ _⟩
 case round =>
  obtain ⟨k,hk,rfl,HJ,HB⟩:=hrel;by_cases hlt:k < len
  ·have hlt':(k:Int) < len:=by omega
   have hkL:k < L.length:=by rw [HL.out];exact hlt
   have HT:Hid (L.take (k+1)=L.take k++[L[k]]):=List.take_succ_eq_append_getElem hkL;have HRk:Hid (wr.rangeAt g (k*16) (nW L[k])):=fun j v hv=>(HB.out.cell (p:=⟨g,k*16+j,none⟩) hg).trans (HR.out k hkL j v hv);have HPre:Hid (L.take k++[L[k]] <+: L):=by show _ <+: _;rw [← HT.out];exact List.take_prefix _ _
   generalize L[k]=x at *;have hX:dH (wr.alloc (.cells #[.int .i64 0,.bool false,.bool false,.bool false,.bool false,.bool false,.bool false,.bool false,.bool false,.bool false,.bool false,.bool false,.bool false,.bool false,.bool false,.bool false] 121)) wr.heap.size 0 (fun _=>false):=heap_alloc_new wr _
   gi_wp2_with (first
    | ((with_reducible refine j6 (f:=x.f) (S:=aK x.m) ?_ HRk.out ?_);rfl)
    | ((with_reducible refine j6 (f:=x.f) (S:=aK x.m) ?_ HS5.out.range ?_);rfl)
    | ((with_reducible refine gz x.f (aK x.m) ?_ ?_ hX ?_);rfl;rfl;intro w5 HS5 HK5a
       have HK5:Hid (aa [] wr w5):=((aa.refl [] wr).alloc _).trans HK5a.out (by simp);have HY5:=ah (hY (L.take k) x w5 (hJ _ _ _ HJ.out HK5.out) (by simp;omega));clear HK5a))
   obtain ⟨fn,tmps,assign,body,hy,hR⟩:=HY5.out;unfold AU at hy;clear HY5 hY;rw [hy];refine ⟨oK _,hR.mono ?_⟩;clear hR;have HB5:Hid (Below n₀ W w5):=HB.out.trans (HK5.out.below (Nat.le_trans HN.out HB.out.size) (by simp));rintro e W3 (⟨rfl,hJ3,hk3⟩ | ⟨rfl,hJx3⟩)
   ·gi_wp2_with fail
    go_roundw
    case rel=>exact ⟨k+1,by omega,by go_num,by show J _ _;rw [HT.out];exact hJ3,HB5.out.trans hk3⟩
    case measure=>simp [intOf];omega
   ·gi_wp2_with fail
    refine bodyPost_ret (results_none rfl _ _ _) rfl ?_;exact ⟨⟨_,rfl⟩,.inr ⟨_,HPre.out,hJx3⟩⟩
  ·obtain rfl:k=len:=by omega
   gi_wp2_with fail
   go_end0
   exact ⟨⟨_,rfl⟩,.inl ⟨_,List.take_of_length_le (by rw [HL.out];omega),HJ.out⟩⟩
theorem lB (n n₀ b p g cap:Nat) (L:List Ep) (hl:L.length≤1000000) (w:World) (hb0:b < w.heap.size) (hp0:p < w.heap.size) (hn₀:n₀≤w.heap.size) (hb:w.cell? ⟨b,0,none⟩=some (.pointer (some ⟨p,0,none⟩))) (h1:w.cell? ⟨p,1,none⟩=some (.slice (some ⟨g,0,none⟩) L.length cap)) (hg:g < n₀) (hr:∀ i (hi:i < L.length),w.rangeAt g (i*16) (nW L[i])) :
 SeqStopsK Fence.wide n Tryz.prog 139 #[.pointer (some ⟨b,0,none⟩)] (fun x:Ep=>#[AU x]) (Below n₀) (fun ys=>ys=L) (fun pre=>pre <+: L) L.length w :=
 fun l J Jx W hW hA _ hY h0=>wi l n₀ n b p g cap L hl J Jx (rW hA) hY W (Nat.le_trans hn₀ hW.size) ((hW.cell (p:=⟨b,0,none⟩) hb0).trans hb) ((hW.cell (p:=⟨p,1,none⟩) hp0).trans h1) hg
  (fun i hi j v hv=>(hW.cell (p:=⟨g,i*16+j,none⟩) (Nat.lt_of_lt_of_le hg hn₀)).trans (hr i hi j v hv)) h0
end Go.Proofs.YtgpnlidnbldiiaaGreat
namespace Go.Proofs.YtgpnlidnbldiiaaGreat
open Go.RowKit
def xY (x:Ep × Value):List Value:=[.int .i64 x.1.f,x.2]
theorem ve (X:List (Ep × Value)) (i:Nat) (h:i < X.length) (j:Nat) (hj:j < 2):(X.flatMap xY)[i*2+j]?=(xY X[i])[j]?:=by
 induction X generalizing i with
 | nil=>simp at h
 | cons x X ih =>
   rw [List.flatMap_cons];cases i with
   | zero=>rw [List.getElem?_append_left (by simp [xY];omega)];simp
   | succ i =>
     rw [List.getElem?_append_right (by simp [xY];omega)];simp only [xY,List.length_cons,List.length_nil,List.getElem_cons_succ];rw [show (i+1)*2+j - (0+1+1)=i*2+j by omega];exact ih i (by simpa using h)
def DC (w:World) (v:Value) (m:List Int):Prop:=∃ ao c,v=.slice ao m.length c∧mW w ao m.length c m
theorem DC.kept {a w:World}{v:Value}{m:List Int}(h:DC a v m) (k:aa [] a w):DC w v m:=by
 obtain ⟨ao,c,e,h1⟩:=h;exact ⟨ao,c,e,h1.kept k⟩
theorem bJ.is {B:Nat}{w:World}{v:Value}{m:List Int}(h:bJ B w v m):DC w v m:=h.sl
def qB (w:World) (ao:Option Addr) (n c:Nat) (X:List (Ep × Value)):Prop :=
 X.length=n∧n≤c∧c≤maxLen∧(∀ i (h:i < X.length),∃ b o,ao=some ⟨b,o,none⟩∧w.cell? ⟨b,o+i*2,none⟩=some (.int .i64 X[i].1.f)∧w.cell? ⟨b,o+i*2+1,none⟩=some X[i].2)∧∀ x∈X,DC w x.2 x.1.m
theorem qB.kept {a w:World}{ao:Option Addr}{n c:Nat}{X:List (Ep × Value)}(h:qB a ao n c X) (k:aa [] a w):qB w ao n c X :=
 ⟨h.1,h.2.1,h.2.2.1,fun i hi=>by obtain ⟨b,o,e,h1,h2⟩:=h.2.2.2.1 i hi;exact ⟨b,o,e,k.cell h1 (by simp),k.cell h2 (by simp)⟩,fun x hx=>(h.2.2.2.2 x hx).kept k⟩
def iR (B:Nat) (w:World) (v:Value) (X:List (Ep × Value)):Prop:=w.ownsRow B 134 2 v X.length (X.flatMap xY)
def iK (B:Nat) (w:World) (X:List (Ep × Value)):Prop:=∀ x∈X,bJ B w x.2 x.1.m
theorem iR.sl {B C:Nat}{w:World}{v:Value}{X:List (Ep × Value)}(h:iR B w v X) (ho:iK C w X):∃ ao c,v=.slice ao X.length c∧qB w ao X.length c X:=by
 have h':=h;obtain ⟨h1,h2⟩:=h;rcases h2 with ⟨hv,hn⟩ | ⟨g,cap,cur,hv,hg,hh,h3,h4,h5,h6⟩
 ·have:X=[]:=by simpa using hn
  subst this;exact ⟨none,0,by rw [hv];rfl,rfl,Nat.le_refl _,Nat.zero_le _,fun i hi=>by simp at hi,fun x hx=>by simp at hx⟩
 ·refine ⟨some ⟨g,0,none⟩,cap,hv,rfl,h3,h4,fun i hi=>⟨g,0,rfl,?_,?_⟩,fun x hx=>(ho x hx).is⟩
  ·unfold iR at h';rw [hv] at h';have:=World.ownsRow.cellAt h' (i*2+0) (by omega)
   rw [ve X i hi 0 (by omega)] at this;simpa [xY] using this
  ·unfold iR at h';rw [hv] at h';have:=World.ownsRow.cellAt h' (i*2+1) (by omega)
   rw [ve X i hi 1 (by omega)] at this;simpa [xY] using this
theorem A5:(Tryz.prog.info? 134).map (fun i=>(i.zero,i.size,i.bytes))=some (some (.agg #[.int .i64 0,.slice none 0 0]),2,32):=by kernel_rfl
theorem ey {ops:Array Oper}{a:Act}{w:World}{K:Act→World→Prop}{Q:Exit→Act→World→Prop}{E:Prop}{d:Option Tmp}{s x:Operand}{ty:TypeId}{ps:String}{af:Array Edge}
 (B:Nat) (v:Value) (X:List (Ep × Value)) (f:Int) (so:Option Addr) (sn sc:Nat) (g:Nat) (hs:a.eval s=v) (hO:iR B w v X) (hx:a.eval x=.slice (some ⟨g,0,none⟩) 1 1) (hc:w.heap[g]?=some (.cells #[.int .i64 f,.slice so sn sc] 134 (0,0))) (hlen:X.length≤1000000) (hB:B≤w.heap.size)
 (h:∀ g' n cap w',Hid (∀ m,iR B w' (.slice (some ⟨g',0,none⟩) n cap) (X++[(⟨f,m⟩,.slice so sn sc)]))→Hid (w.grownBy w' v.ownBlock)→K (a.put d (.slice (some ⟨g',0,none⟩) n cap)) w') :
 if Region.wanted (⟨d,.call { callee:=.builtin .append,args:=#[s,x],argTypes:=#[49,49] },ty,ps,af,none⟩:Oper) (yielded ops a.tmps)=true then Oper.wp Tryz.prog ⟨d,.call { callee:=.builtin .append,args:=#[s,x],argTypes:=#[49,49] },ty,ps,af,none⟩ a w K Q else E:=by
 obtain ⟨i0,hi,hz0,hz1,hz2⟩:=info_parts A5;refine step_append_lies w rfl s x 49 rfl B 134 i0 _ 2 32 Tryz.underlying49 hi hz0 hz1 hz2 rfl (by decide) v X.length (X.flatMap xY) hs hO ⟨g,0,none⟩ 1 1 [.int .i64 f,.slice so sn sc] hx rfl ?_ ?_ (by decide) (by unfold maxLen;omega) (by omega) hB _ rfl ?_
 ·intro j u hj;rw [dd,Nat.zero_add];exact ag hc (by simpa using hj)
 ·intro u hu;simp at hu
  rcases hu with rfl | rfl <;> rfl
 ·intro g' cap w' h2 h3 _ _;refine h g' _ cap w' (fun m=>?_) h3;unfold iR;rw [List.length_append,List.flatMap_append];simpa [xY] using h2
open Go.RowKit Go.Shelf
attribute [local go_sem] Oper.semAt_some
theorem si {B e size n:Nat}{X Y:World}{row:Option Nat}{v:Value}{xs:List Value}(h:X.ownsRow B e size v n xs) (hg:X.grownBy Y row) (hr:∀ r,row=some r→∃ o:Obj,X.heap[r]?=some o∧o.isCells=false):Y.ownsRow B e size v n xs:=by
 refine h.kept hg ?_;rcases h.2 with ⟨rfl,_⟩ | ⟨g,cap,cur,rfl,_,hgb,_⟩
 ·exact .inl rfl
 ·refine .inr fun e'=>?_;obtain ⟨o,ho,hc⟩:=hr g (by simpa [Value.ownBlock] using e'.symm);rw [hgb] at ho;cases ho;cases hc
def oQ (x:Ep):Ep:=⟨x.f,bc (aK x.m)⟩
theorem zJ {L:List Ep}(h:∀ x∈L,ea x.m):L.map oQ=L:=by
 rw [List.map_congr_left (g:=id) (fun x hx=>by unfold oQ;rw [l9 (h x hx)];rfl),List.map_id]
theorem wF (w:World):OwnFrom (w.heap.size+2) (fun (pre:List Ep) W=>(∃ v X,Boxed W w.heap.size 49 v∧W.ownsRow w.heap.size 134 2 v X.length (X.flatMap xY)∧X.map Prod.fst=pre.map oQ∧iK w.heap.size W X)∧Below w.heap.size w W) :=
 OwnFrom.and (fun pre X Y row ⟨v,Z,h1,h2,h3,h4⟩ hg hr=>⟨v,Z,Own.from (boxed_own (β:=Unit) w.heap.size 49 (fun _=>v)) (w.heap.size+2) () X Y row h1 hg hr,si h2 hg (fun r e=>(hr r e).2),h3,fun y hy=>si (h4 y hy) hg (fun r e=>(hr r e).2)⟩) (ownFrom_below (Nat.le_refl _) (by omega))
theorem wW (B:Nat) (w:World) (p:Nat) (al:Int) (L:List Ep) (h:g9 B w p al L) (hok:hH L) (hl:L.length≤1000000) :
 Calls Tryz.prog 56 #[.pointer (some ⟨p,0,none⟩)] w fun e w'=>∃ v X,e=.returned v∧iR w.heap.size w' v X∧iK w.heap.size w' X∧X.map Prod.fst=L∧aa [] w w':=by
 obtain ⟨g,cap,h1,h2,h3,h4⟩:=h.open hok.1;have hpl:=aq h1
 have hgl:g < w.heap.size:=by
  have hpos:=List.length_pos_iff.2 hok.1;have hc:=iS (h4 0 hpos);exact block_lt_of_cell hc
 have HT:Hid (L.map oQ=L):=zJ fun x hx=>(hok.2.2 x hx).1;refine (callsIn_wide (n:=3)).1 ?_;refine callsIn_of_wp_marks Tryz.func56 rfl trivial ?_ rfl;simp only [Tryz.ntmps56,List.size_toArray,List.length_cons,List.length_nil,Nat.reduceAdd,Nat.reduceSub,Array.replicate_succ,Array.replicate_zero,List.push_toArray,List.append_toArray,List.nil_append,List.cons_append];gi_wp2_with (refine ⟨trivial,?_⟩;gi_at_call 103;refine (rM _ _ _).mono ?_;rintro e w' ⟨rfl,rfl⟩)
 obtain ⟨W0,hW0⟩:∃ W0,((w.alloc (.cells #[.slice none 0 0] 49)).alloc (.cells #[.pointer (some ⟨p,0,none⟩)] 61))=W0:=⟨_,rfl⟩;have hsz:W0.heap.size=w.heap.size+2:=by rw [← hW0];simp
 have hK0:aa [] w W0:=by rw [← hW0];exact ((aa.refl _ _).alloc _).alloc _
 have bO:Boxed W0 w.heap.size 49 (.slice none 0 0):=by rw [← hW0];exact (Boxed.new w _ _).alloc _
 have bP:Boxed W0 (w.heap.size+1) 61 (.pointer (some ⟨p,0,none⟩)):=by
  rw [← hW0];have:=Boxed.new (w.alloc (.cells #[.slice none 0 0] 49)) 61 (.pointer (some ⟨p,0,none⟩))
  rwa [World.size_alloc] at this
 rw [hW0];clear hW0;have hB0:Below w.heap.size w W0:=hK0.below (Nat.le_refl _) (by simp)
 refine wpIn_rangeFunc_ownH rfl (by omega) (gf:=139) (lb:=#[.pointer (some ⟨w.heap.size+1,0,none⟩)]) rfl trivial (enters_of Tryz.func139 (by kernel_rfl) rfl)
  (lB _ w.heap.size (w.heap.size+1) p g cap L hl W0 (by omega) (by omega) (by omega) bP.cell (ag (k:=1) (hK0.at h1 (by simp)) rfl) hgl (fun i hi j v hv=>hK0.cell (h4 i hi j v hv) (by simp))) belowK_t (belowK_b (by omega)) (Below.refl _ _) (fun _=>rfl)
  (fun (pre:List Ep) W=>(∃ v X,Boxed W w.heap.size 49 v∧W.ownsRow w.heap.size 134 2 v X.length (X.flatMap xY)∧X.map Prod.fst=pre.map oQ∧iK w.heap.size W X)∧Below w.heap.size w W)
  (fun _ _ _=>False)
  (by rw [hsz];exact wF w)
  (fun _ _ _ _ _ h _ _=>h)
  ⟨⟨_,[],bO,World.ownsRow_nil _ _ _ _,rfl,fun _ h=>by cases h⟩,hB0⟩
  (fun x a' W=>∃ Bx,w.heap.size < Bx∧dH W Bx x.f (aK x.m)∧a'={ tmps:=#[.pointer (some ⟨p,0,none⟩),undef,.slice none 0 0,.pointer (some ⟨w.heap.size,0,none⟩),.pointer (some ⟨Bx,0,none⟩),.pointer (some ⟨p,0,none⟩),.func (.func 139) #[] #[.pointer (some ⟨w.heap.size+1,0,none⟩)],AU x,undef,undef,undef,undef,undef,undef,undef,undef,undef,undef],defers:=[] })
  (fun x a' _ X Y row ⟨Bx,h1,h2,h3⟩ hg hr=>⟨Bx,h1,(hg.block Bx (aq h2) (fun e=>by obtain ⟨_,o,ho,hc'⟩:=hr Bx e.symm;rw [show X.heap[Bx]?=_ from h2] at ho;cases ho;cases hc')).trans h2,h3⟩)
  ?assign ?body ?done ?stop
 case assign =>
  rintro l pre x W K ⟨⟨v,X,hv,hrow,hmap,hown⟩,hB⟩ hK;unfold AU;have hX:dH (W.alloc (.cells #[.int .i64 0,.bool false,.bool false,.bool false,.bool false,.bool false,.bool false,.bool false,.bool false,.bool false,.bool false,.bool false,.bool false,.bool false,.bool false,.bool false] 121)) W.heap.size 0 (fun _=>false):=heap_alloc_new W _;gi_wp2_with ((with_reducible refine gz x.f (aK x.m) ?_ ?_ hX ?_);rfl;rfl;intro w5 HS5 HK5)
  have hk:aa [] W w5:=((aa.refl [] W).alloc _).trans HK5.out (by simp);exact hK _ _ ((dp hk).from _) (hk.below hB.size (by simp)) ⟨⟨v,X,gX hv hk,hk.ownsRow hrow (by simp),hmap,fun y hy=>hk.ownsRow (hown y hy) (by simp)⟩,hB.trans (hk.below hB.size (by simp))⟩ ⟨W.heap.size,hv.lt,HS5.out,rfl⟩
 case body =>
  rintro l pre x a' W hl' _ ⟨⟨v,X,hv,hrow,hmap,hown⟩,hB⟩ ⟨Bx,hBx,bX,rfl⟩ hlt;have hX:=bX.range;have hcb:=hv.cell;have HBx:=ah bX
  have HXl:Hid (X.length≤1000000):=by
   have:(X.map Prod.fst).length=(pre.map oQ).length:=by rw [hmap]
   simp at this
   show _≤_;omega
  have HBn:Hid (Bx≠w.heap.size):=by show _≠_;omega
  unfold AU;clear bX;gi_wp2_with fail
  refine xq (S:=fun w'=>w'.rangeAt Bx 0 (ix x.f (aK x.m))) (by kernel_rfl) (by kernel_rfl) hX (fun hHeld=>?_);refine aU [1] (by rfl) (by kernel_rfl) (fun _ _ _ _ _ h=>h) hHeld ?_
  iterate 1
   refine yk ?_ rfl (Or.inl ⟨by rfl,?_⟩) ?_;rotate_left
   ·intro w9 hSw;(try dsimp only at hSw);go_simp;(try with_reducible rfl)
   try simp only [sT,Act.put]
  refine aT ?_;simp only [au,sT];refine aU [2] (by rfl) (by kernel_rfl) (fun _ _ _ _ _ h=>h) hHeld ?_
  iterate 1
   refine yk ?_ rfl (Or.inl ⟨by rfl,?_⟩) ?_;rotate_left
   ·intro w9 hSw;(try dsimp only at hSw);have hq9:=iS hSw;go_simp;(try with_reducible rfl)
   try simp only [sT,Act.put]
  refine aT ?_;simp only [au,sT];refine aU [3] (by rfl) (by kernel_rfl) (fun _ _ _ _ _ h=>h) hHeld ?_
  iterate 1
   refine yk ?_ rfl (Or.inl ⟨by rfl,?_⟩) ?_;rotate_left
   ·intro w9 hSw;(try dsimp only at hSw);go_simp;(try with_reducible rfl)
   try simp only [sT,Act.put]
  refine aT ?_;simp only [au,sT];refine wpAnyH_take (i:=4) (v:=.agg (bG (aK x.m)).toArray) rfl (by kernel_rfl) (by kernel_rfl) (by kernel_rfl) (fun _ _ _ h=>h) (yieldsIf_load_mid (by rfl) _ _ rfl Bx (1) rfl (bG (aK x.m)) _ (fun w9 hSw=>lU hSw) Tryz.underlying116 rfl fD) hHeld ?_;(try simp only [sT,Act.put]);refine wpAnyH_ready (rs:=[0,5]) (by kernel_rfl) (by simp) (AllReadyH.cons rfl (fun K0 hK0=>?_) (AllReadyH.cons rfl (fun K0 hK0=>?_) (AllReadyH.nil)))
  ·go_simp;(go_wp2_with fail);refine hK0.out _ _ (hX) (fun hHeld=>?_);clear hK0 K0;(try simp only [sT,Act.put]);refine aH 5 (by kernel_rfl) rfl (fun K0 hK0=>?_);go_simp;refine (jg _ (aK x.m)).mono ?_;rintro _ w2 ⟨u2,rfl,hR2a,hK2a⟩;have HK2:Hid (aa [] W w2):=(aa.refl [] W).drew.trans hK2a (by simp);have HR2:Hid (bJ w.heap.size w2 u2 (bc (aK x.m))):=bF hR2a hB.size;clear hR2a hK2a;obtain ⟨so,sc,rfl,hsl2⟩:=HR2.out.sl;clear hsl2;obtain ⟨sn,hsn⟩:∃ sn,sn=(bc (aK x.m)).length:=⟨_,rfl⟩;rw [← hsn] at HR2 ⊢;clear hsn;(go_wp2_with fail);refine hK0.out _ _ (fun j v hv=>HK2.out.cell (hX j v hv) (by simp)) (fun hHeld=>?_);clear hK0 K0;(try simp only [sT,Act.put]);refine aU [6] (by rfl) (by kernel_rfl) (fun _ _ _ _ _ h=>h) hHeld ?_
   iterate 1
    refine yk ?_ rfl (Or.inl ⟨by rfl,?_⟩) ?_;rotate_left
    ·intro w9 hSw;(try dsimp only at hSw);go_simp;(try with_reducible rfl)
    try simp only [sT,Act.put]
   refine aT ?_;simp only [au,sT];refine aH 7 (by kernel_rfl) rfl (fun K0 hK0=>?_);obtain ⟨w3,hw3⟩:∃ w3,w3=w2.alloc (.cells #[.int .i64 x.f,.slice so sn sc] 134):=⟨_,rfl⟩;go_simp;(go_wp2_with fail);rw [← hw3];have HK3:Hid (aa [] W w3):=by show aa _ _ _;rw [hw3];exact HK2.out.alloc _
   have HW3:=ah hw3;clear hw3;refine hK0.out _ _ (fun j v hv=>HK3.out.cell (hX j v hv) (by simp)) (fun hHeld=>?_);clear hK0 K0;(try simp only [sT,Act.put]);refine aH 8 (by kernel_rfl) rfl (fun K0 hK0=>?_);refine ey w.heap.size v X x.f so sn sc w2.heap.size rfl (HK3.out.ownsRow hrow (by simp)) rfl (by rw [HW3.out];exact heap_alloc_new w2 _) HXl.out (Nat.le_trans hB.size HK3.out.size) ?_;intro g' n' cap' w4 HR4 HG4;have hgr:(w2.alloc (.cells #[.int .i64 x.f,.slice so sn sc] 134)).grownBy w4 v.ownBlock:=by rw [← HW3.out];exact HG4.out
   have hapd:=(gX hv HK2.out).appended (by decide) (HK2.out.ownsRow hrow (by simp)) (Nat.le_trans hB.size HK2.out.size) (Nat.le_refl _) (HR4.out (bc (aK x.m))) hgr;obtain ⟨hv2,hv3,hr3,hk3,hb3⟩:=hapd;have hk34:aa v.ownBlock.toList w2 w4:=(((aa.refl v.ownBlock.toList w2).alloc _).grown hgr (fun k hk=>.inl (by simp [hk])))
   have ht2:aJ w2 v.ownBlock.toList [134]:=fun k hk cur t mk hh=>by
    obtain ⟨cur',hh'⟩:=ar (HK2.out.ownsRow hrow (by simp)) (aw.1 hk);rw [hh'] at hh;cases hh;simp
   have HB4:Hid (∀ (u:Value) (m:List Int),bJ w.heap.size w2 u m→bJ w.heap.size (w4.setCell ⟨w.heap.size,0,none⟩ (.slice (some ⟨g',0,none⟩) n' cap')) u m):=fun u m hu=>by
    have h1:bJ w.heap.size w4 u m:=ap hk34 ht2 hu (by decide)
    exact ((aa.refl [w.heap.size] w4).setCell (by simp) _).ownsRow h1 fun k hk hm=>by
     simp at hm;subst hm
     obtain ⟨cur,hh⟩:=ar h1 hk;have h2:w4.heap[w.heap.size]?=_:=hv2;rw [h2] at hh;cases hh
   have hS4:w4.rangeAt Bx 0 (ix x.f (aK x.m)):=fun j u hu=>hk34.cell (HK2.out.cell (hX j u hu) (by simp)) (fun hm=>by
    obtain ⟨cur,hh⟩:=ar (HK2.out.ownsRow hrow (by simp)) (aw.1 hm);rw [HK2.out.at HBx.out (by simp)] at hh;cases hh)
   have HV3:=ah hv3;have HR3:=ah hr3;have HK3f:=ah hk3;have HB3:=ah hb3;have hc2:=hv2.cell;have hf2:=hv2.frozen;clear hv2 hv3 hr3 hk3 hb3 hk34 ht2 hgr;refine hK0.out _ _ hS4 (fun hHeld=>?_);clear hK0 K0;(try simp only [sT,Act.put]);refine aH 9 (by kernel_rfl) rfl (fun K0 hK0=>?_);go_simp;(go_wp2_with fail);refine hK0.out _ _ (fun j u hu=>((aa.refl [w.heap.size] w4).setCell (by simp) _).cell (hS4 j u hu) (by simpa using HBn.out)) (fun hHeld=>?_);clear hK0 K0;(try simp only [sT,Act.put]);refine wpAnyH_done (by kernel_rfl) ?_ _;clear hHeld;refine ⟨rfl,?_⟩;gi_wp2_with fail
   refine ⟨((dp HK2.out).trans HK3f.out).from _,(HK2.out.below hB.size (by simp)).trans HB3.out,⟨_,_,HV3.out,HR3.out,?_,fun y hy=>?_⟩,hB.trans ((HK2.out.below hB.size (by simp)).trans HB3.out)⟩
   ·rw [List.map_append,List.map_append,hmap];rfl
   ·rcases List.mem_append.1 hy with hy | hy
    ·exact HB4.out _ _ (HK2.out.ownsRow (hown y hy) (by simp))
    ·rw [show y=(⟨x.f,bc (aK x.m)⟩,.slice so sn sc) by simpa using hy];exact HB4.out _ _ HR2.out
  ·go_simp;refine (jg _ (aK x.m)).mono ?_;rintro _ w2 ⟨u2,rfl,hR2a,hK2a⟩;have HK2:Hid (aa [] W w2):=(aa.refl [] W).drew.trans hK2a (by simp);have HR2:Hid (bJ w.heap.size w2 u2 (bc (aK x.m))):=bF hR2a hB.size;clear hR2a hK2a;obtain ⟨so,sc,rfl,hsl2⟩:=HR2.out.sl;clear hsl2;obtain ⟨sn,hsn⟩:∃ sn,sn=(bc (aK x.m)).length:=⟨_,rfl⟩;rw [← hsn] at HR2 ⊢;clear hsn;(go_wp2_with fail);refine hK0.out _ _ (fun j v hv=>HK2.out.cell (hX j v hv) (by simp)) (fun hHeld=>?_);clear hK0 K0;(try simp only [sT,Act.put]);refine aU [6] (by rfl) (by kernel_rfl) (fun _ _ _ _ _ h=>h) hHeld ?_
   iterate 1
    refine yk ?_ rfl (Or.inl ⟨by rfl,?_⟩) ?_;rotate_left
    ·intro w9 hSw;(try dsimp only at hSw);go_simp;(try with_reducible rfl)
    try simp only [sT,Act.put]
   refine aT ?_;simp only [au,sT];refine wpAnyH_ready (rs:=[0,7]) (by kernel_rfl) (by simp) (AllReadyH.cons rfl (fun K0 hK0=>?_) (AllReadyH.cons rfl (fun K0 hK0=>?_) (AllReadyH.nil)))
   ·have hcb2:=HK2.out.cell hcb (by simp);go_simp;(go_wp2_with fail);refine hK0.out _ _ (fun j v hv=>HK2.out.cell (hX j v hv) (by simp)) (fun hHeld=>?_);clear hK0 K0;(try simp only [sT,Act.put]);refine aH 7 (by kernel_rfl) rfl (fun K0 hK0=>?_);obtain ⟨w3,hw3⟩:∃ w3,w3=w2.alloc (.cells #[.int .i64 x.f,.slice so sn sc] 134):=⟨_,rfl⟩;go_simp;(go_wp2_with fail);rw [← hw3];have HK3:Hid (aa [] W w3):=by show aa _ _ _;rw [hw3];exact HK2.out.alloc _
    have HW3:=ah hw3;clear hw3;refine hK0.out _ _ (fun j v hv=>HK3.out.cell (hX j v hv) (by simp)) (fun hHeld=>?_);clear hK0 K0;(try simp only [sT,Act.put]);refine aH 8 (by kernel_rfl) rfl (fun K0 hK0=>?_);refine ey w.heap.size v X x.f so sn sc w2.heap.size rfl (HK3.out.ownsRow hrow (by simp)) rfl (by rw [HW3.out];exact heap_alloc_new w2 _) HXl.out (Nat.le_trans hB.size HK3.out.size) ?_;intro g' n' cap' w4 HR4 HG4;have hgr:(w2.alloc (.cells #[.int .i64 x.f,.slice so sn sc] 134)).grownBy w4 v.ownBlock:=by rw [← HW3.out];exact HG4.out
    have hapd:=(gX hv HK2.out).appended (by decide) (HK2.out.ownsRow hrow (by simp)) (Nat.le_trans hB.size HK2.out.size) (Nat.le_refl _) (HR4.out (bc (aK x.m))) hgr;obtain ⟨hv2,hv3,hr3,hk3,hb3⟩:=hapd;have hk34:aa v.ownBlock.toList w2 w4:=(((aa.refl v.ownBlock.toList w2).alloc _).grown hgr (fun k hk=>.inl (by simp [hk])))
    have ht2:aJ w2 v.ownBlock.toList [134]:=fun k hk cur t mk hh=>by
     obtain ⟨cur',hh'⟩:=ar (HK2.out.ownsRow hrow (by simp)) (aw.1 hk);rw [hh'] at hh;cases hh;simp
    have HB4:Hid (∀ (u:Value) (m:List Int),bJ w.heap.size w2 u m→bJ w.heap.size (w4.setCell ⟨w.heap.size,0,none⟩ (.slice (some ⟨g',0,none⟩) n' cap')) u m):=fun u m hu=>by
     have h1:bJ w.heap.size w4 u m:=ap hk34 ht2 hu (by decide)
     exact ((aa.refl [w.heap.size] w4).setCell (by simp) _).ownsRow h1 fun k hk hm=>by
      simp at hm;subst hm
      obtain ⟨cur,hh⟩:=ar h1 hk;have h2:w4.heap[w.heap.size]?=_:=hv2;rw [h2] at hh;cases hh
    have hS4:w4.rangeAt Bx 0 (ix x.f (aK x.m)):=fun j u hu=>hk34.cell (HK2.out.cell (hX j u hu) (by simp)) (fun hm=>by
     obtain ⟨cur,hh⟩:=ar (HK2.out.ownsRow hrow (by simp)) (aw.1 hm);rw [HK2.out.at HBx.out (by simp)] at hh;cases hh)
    have HV3:=ah hv3;have HR3:=ah hr3;have HK3f:=ah hk3;have HB3:=ah hb3;have hc2:=hv2.cell;have hf2:=hv2.frozen;clear hv2 hv3 hr3 hk3 hb3 hk34 ht2 hgr;refine hK0.out _ _ hS4 (fun hHeld=>?_);clear hK0 K0;(try simp only [sT,Act.put]);refine aH 9 (by kernel_rfl) rfl (fun K0 hK0=>?_);go_simp;(go_wp2_with fail);refine hK0.out _ _ (fun j u hu=>((aa.refl [w.heap.size] w4).setCell (by simp) _).cell (hS4 j u hu) (by simpa using HBn.out)) (fun hHeld=>?_);clear hK0 K0;(try simp only [sT,Act.put]);refine wpAnyH_done (by kernel_rfl) ?_ _;clear hHeld;refine ⟨rfl,?_⟩;gi_wp2_with fail
    refine ⟨((dp HK2.out).trans HK3f.out).from _,(HK2.out.below hB.size (by simp)).trans HB3.out,⟨_,_,HV3.out,HR3.out,?_,fun y hy=>?_⟩,hB.trans ((HK2.out.below hB.size (by simp)).trans HB3.out)⟩
    ·rw [List.map_append,List.map_append,hmap];rfl
    ·rcases List.mem_append.1 hy with hy | hy
     ·exact HB4.out _ _ (HK2.out.ownsRow (hown y hy) (by simp))
     ·rw [show y=(⟨x.f,bc (aK x.m)⟩,.slice so sn sc) by simpa using hy];exact HB4.out _ _ HR2.out
   ·obtain ⟨w3,hw3⟩:∃ w3,w3=w2.alloc (.cells #[.int .i64 x.f,.slice so sn sc] 134):=⟨_,rfl⟩;go_simp;(go_wp2_with fail);rw [← hw3];have HK3:Hid (aa [] W w3):=by show aa _ _ _;rw [hw3];exact HK2.out.alloc _
    have HW3:=ah hw3;clear hw3;refine hK0.out _ _ (fun j v hv=>HK3.out.cell (hX j v hv) (by simp)) (fun hHeld=>?_);clear hK0 K0;(try simp only [sT,Act.put]);have hcb3:=HK3.out.cell hcb (by simp);refine aH 0 (by kernel_rfl) rfl (fun K0 hK0=>?_);go_simp;(go_wp2_with fail);refine hK0.out _ _ (fun j v hv=>HK3.out.cell (hX j v hv) (by simp)) (fun hHeld=>?_);clear hK0 K0;(try simp only [sT,Act.put]);refine aH 8 (by kernel_rfl) rfl (fun K0 hK0=>?_);refine ey w.heap.size v X x.f so sn sc w2.heap.size rfl (HK3.out.ownsRow hrow (by simp)) rfl (by rw [HW3.out];exact heap_alloc_new w2 _) HXl.out (Nat.le_trans hB.size HK3.out.size) ?_;intro g' n' cap' w4 HR4 HG4;have hgr:(w2.alloc (.cells #[.int .i64 x.f,.slice so sn sc] 134)).grownBy w4 v.ownBlock:=by rw [← HW3.out];exact HG4.out
    have hapd:=(gX hv HK2.out).appended (by decide) (HK2.out.ownsRow hrow (by simp)) (Nat.le_trans hB.size HK2.out.size) (Nat.le_refl _) (HR4.out (bc (aK x.m))) hgr;obtain ⟨hv2,hv3,hr3,hk3,hb3⟩:=hapd;have hk34:aa v.ownBlock.toList w2 w4:=(((aa.refl v.ownBlock.toList w2).alloc _).grown hgr (fun k hk=>.inl (by simp [hk])))
    have ht2:aJ w2 v.ownBlock.toList [134]:=fun k hk cur t mk hh=>by
     obtain ⟨cur',hh'⟩:=ar (HK2.out.ownsRow hrow (by simp)) (aw.1 hk);rw [hh'] at hh;cases hh;simp
    have HB4:Hid (∀ (u:Value) (m:List Int),bJ w.heap.size w2 u m→bJ w.heap.size (w4.setCell ⟨w.heap.size,0,none⟩ (.slice (some ⟨g',0,none⟩) n' cap')) u m):=fun u m hu=>by
     have h1:bJ w.heap.size w4 u m:=ap hk34 ht2 hu (by decide)
     exact ((aa.refl [w.heap.size] w4).setCell (by simp) _).ownsRow h1 fun k hk hm=>by
      simp at hm;subst hm
      obtain ⟨cur,hh⟩:=ar h1 hk;have h2:w4.heap[w.heap.size]?=_:=hv2;rw [h2] at hh;cases hh
    have hS4:w4.rangeAt Bx 0 (ix x.f (aK x.m)):=fun j u hu=>hk34.cell (HK2.out.cell (hX j u hu) (by simp)) (fun hm=>by
     obtain ⟨cur,hh⟩:=ar (HK2.out.ownsRow hrow (by simp)) (aw.1 hm);rw [HK2.out.at HBx.out (by simp)] at hh;cases hh)
    have HV3:=ah hv3;have HR3:=ah hr3;have HK3f:=ah hk3;have HB3:=ah hb3;have hc2:=hv2.cell;have hf2:=hv2.frozen;clear hv2 hv3 hr3 hk3 hb3 hk34 ht2 hgr;refine hK0.out _ _ hS4 (fun hHeld=>?_);clear hK0 K0;(try simp only [sT,Act.put]);refine aH 9 (by kernel_rfl) rfl (fun K0 hK0=>?_);go_simp;(go_wp2_with fail);refine hK0.out _ _ (fun j u hu=>((aa.refl [w.heap.size] w4).setCell (by simp) _).cell (hS4 j u hu) (by simpa using HBn.out)) (fun hHeld=>?_);clear hK0 K0;(try simp only [sT,Act.put]);refine wpAnyH_done (by kernel_rfl) ?_ _;clear hHeld;refine ⟨rfl,?_⟩;gi_wp2_with fail
    refine ⟨((dp HK2.out).trans HK3f.out).from _,(HK2.out.below hB.size (by simp)).trans HB3.out,⟨_,_,HV3.out,HR3.out,?_,fun y hy=>?_⟩,hB.trans ((HK2.out.below hB.size (by simp)).trans HB3.out)⟩
    ·rw [List.map_append,List.map_append,hmap];rfl
    ·rcases List.mem_append.1 hy with hy | hy
     ·exact HB4.out _ _ (HK2.out.ownsRow (hown y hy) (by simp))
     ·rw [show y=(⟨x.f,bc (aK x.m)⟩,.slice so sn sc) by simpa using hy];exact HB4.out _ _ HR2.out
 case done =>
  rintro D ys W hD rfl ⟨⟨v,X,hv,hrow,hmap,hown⟩,hB⟩ hK;have hc:=hv.cell;gi_wp2_with fail
  refine ⟨by simp,.inl ⟨_,_,rfl,run_takeDeferred hK,?_⟩⟩;refine ⟨_,results_tmp rfl _ _ _,v,X,rfl,ownsRow_putObj hrow _ hK rfl,fun y hy=>ownsRow_putObj (hown y hy) _ hK rfl,by rw [hmap,HT.out],aa.of_below (hB.trans (belowK_b (w:=w) (Nat.le_refl _) W D _ _ (by omega) hK rfl rfl))⟩
 case stop =>
  rintro D c pre W _ _ h _;exact h.elim
end Go.Proofs.YtgpnlidnbldiiaaGreat
namespace Go.Proofs.YtgpnlidnbldiiaaGreat
open Go.RowKit Go.Shelf
attribute [local go_sem] Oper.semAt_some
theorem bh.congr {w:World}{b:Nat}{S T:Nat→Bool}(h:bh w b S) (e:∀ k,k < 15→S k=T k):bh w b T:=by
 unfold bh at *;rw [← mr e];exact h
theorem mH {β:Type}(B' b:Nat) (f:β→Obj) (hc:∀ s,(f s).isCells=true):OwnFrom B' (fun s W=>W.heap[b]?=some (f s)):=fun s X Y row hs hg hr =>
 (hg.block b (aq hs) (fun e=>by obtain ⟨_,o,ho,hc'⟩:=hr b e.symm;rw [hs] at ho;cases ho;rw [hc] at hc';cases hc')).trans hs
def qr (S:Nat→Bool) (l:List xX) (k:Nat):Bool:=S k || l.any fun y=>decide (y.1=k)
theorem AP (S:Nat→Bool):qr S []=S:=by funext k;simp [qr]
theorem yX (S:Nat→Bool) (l:List xX) (x:xX):qr S (l++[x])=cz (qr S l) x.1 true:=by
 funext k
 unfold qr cz;by_cases e:k=x.1
 ·simp [e]
 ·have e':¬ x.1=k:=fun h=>e h.symm;simp [e,e']
theorem nP (S:Nat→Bool) (y:xX):∀ K,K≤15→(y∈eZ S K↔y.1 < K∧S y.1=true)
 | 0,_=>by simp [eZ]
 | K+1,h=>by
   have ih:=nP S y K (by omega);simp only [eZ,dif_pos (show K < 15 by omega)];cases hs:S K with
   | true =>
     simp only [if_true,List.mem_append,List.mem_singleton,ih];constructor
     ·rintro (⟨h1,h2⟩ | rfl)
      ·exact ⟨by omega,h2⟩
      ·exact ⟨by simp,hs⟩
     ·rintro ⟨h1,h2⟩;by_cases e:y.1=K
      ·exact .inr (Fin.ext e)
      ·exact .inl ⟨by omega,h2⟩
   | false =>
     simp only [Bool.false_eq_true,if_false,ih];constructor
     ·rintro ⟨h1,h2⟩;exact ⟨by omega,h2⟩
     ·rintro ⟨h1,h2⟩;refine ⟨?_,h2⟩;by_cases e:y.1=K
      ·rw [e,hs] at h2;cases h2
      ·omega
theorem Ao (pre:List Ep) (x:Ep) {k:Nat}(hk:k < 15):qr (fd pre) (eZ (aK x.m) 15) k=fd (pre++[x]) k:=by
 have h:((eZ (aK x.m) 15).any fun y=>decide (y.1=k))=aK x.m k:=by
  rw [Bool.eq_iff_iff,List.any_eq_true];constructor
  ·rintro ⟨y,hy,e⟩;obtain ⟨_,h2⟩:=(nP _ y 15 (Nat.le_refl _)).1 hy;rw [← show y.1=k by simpa using e];exact h2
  ·intro h;exact ⟨⟨k,hk⟩,(nP _ _ 15 (Nat.le_refl _)).2 ⟨hk,h⟩,by simp⟩
 unfold qr fd;rw [h,List.any_append];simp
theorem Bu (w:World) (B:Nat) (hB:w.heap.size≤B):OwnFrom B (fun (pre:List Ep) W=>bh W w.heap.size (fd pre)∧Below w.heap.size w W) :=
 OwnFrom.and (mH B w.heap.size (fun pre=>.cells (bG (fd pre)).toArray 116 (0,0)) (fun _=>rfl)) (ownFrom_below (Nat.le_refl _) hB)
theorem tA (B:Nat) (w:World) (p:Nat) (al:Int) (L:List Ep) (h:g9 B w p al L) (hn:L≠[]) (hl:L.length≤1000000) :
 Calls Tryz.prog 95 #[.pointer (some ⟨p,0,none⟩)] w fun e w'=>∃ v,e=.returned v∧bJ w.heap.size w' v (bc (fd L))∧aa [] w w':=by
 obtain ⟨g,cap,h1,h2,h3,h4⟩:=h.open hn;have hpl:=aq h1;have hgl:g < w.heap.size:=block_lt_of_cell (iS (h4 0 (List.length_pos_iff.2 hn)));refine (callsIn_wide (n:=6)).1 ?_;refine callsIn_of_wp_marks Tryz.func95 rfl trivial ?_ rfl;simp only [Tryz.ntmps95,List.size_toArray,List.length_cons,List.length_nil,Nat.reduceAdd,Nat.reduceSub,Array.replicate_succ,Array.replicate_zero,List.push_toArray,List.append_toArray,List.nil_append,List.cons_append];gi_wp2_with (refine ⟨trivial,?_⟩;gi_at_call 103;refine (rM _ _ _).mono ?_;rintro e w' ⟨rfl,rfl⟩)
 obtain ⟨W0,hW0⟩:∃ W0,((w.alloc (.cells #[.bool false,.bool false,.bool false,.bool false,.bool false,.bool false,.bool false,.bool false,.bool false,.bool false,.bool false,.bool false,.bool false,.bool false,.bool false] 116)).alloc (.cells #[.pointer (some ⟨p,0,none⟩)] 61))=W0:=⟨_,rfl⟩;have hsz:W0.heap.size=w.heap.size+2:=by rw [← hW0];simp
 have hK0:aa [] w W0:=by rw [← hW0];exact ((aa.refl _ _).alloc _).alloc _
 have bA:bh W0 w.heap.size (fd []):=by rw [← hW0];exact (Below.heap_alloc _ _ _ (by simp)).trans (heap_alloc_new w _)
 have bP:Boxed W0 (w.heap.size+1) 61 (.pointer (some ⟨p,0,none⟩)):=by
  rw [← hW0];have:=Boxed.new (w.alloc (.cells #[.bool false,.bool false,.bool false,.bool false,.bool false,.bool false,.bool false,.bool false,.bool false,.bool false,.bool false,.bool false,.bool false,.bool false,.bool false] 116)) 61 (.pointer (some ⟨p,0,none⟩))
  rwa [World.size_alloc] at this
 rw [hW0];clear hW0;have hB0:Below w.heap.size w W0:=hK0.below (Nat.le_refl _) (by simp)
 refine wpIn_rangeFunc_ownH rfl (by omega) (gf:=139) (lb:=#[.pointer (some ⟨w.heap.size+1,0,none⟩)]) rfl trivial (enters_of Tryz.func139 (by kernel_rfl) rfl)
  (lB _ w.heap.size (w.heap.size+1) p g cap L hl W0 (by omega) (by omega) (by omega) bP.cell (ag (k:=1) (hK0.at h1 (by simp)) rfl) hgl (fun i hi j v hv=>hK0.cell (h4 i hi j v hv) (by simp))) belowK_t (belowK_b (by omega)) (Below.refl _ _) (fun _=>rfl)
  (fun (pre:List Ep) W=>bh W w.heap.size (fd pre)∧Below w.heap.size w W)
  (fun _ _ _=>False)
  (Bu w _ (by omega))
  (fun _ _ _ _ _ h _ _=>h)
  ⟨bA,hB0⟩
  (fun x a' W=>∃ Bx,w.heap.size < Bx∧dH W Bx x.f (aK x.m)∧a'={ tmps:=#[.pointer (some ⟨p,0,none⟩),undef,.slice none 0 0,.pointer (some ⟨w.heap.size,0,none⟩),.pointer (some ⟨Bx,0,none⟩),undef,.pointer (some ⟨p,0,none⟩),.func (.func 139) #[] #[.pointer (some ⟨w.heap.size+1,0,none⟩)],AU x,undef,undef,undef,undef,undef,undef,undef,undef],defers:=[] })
  (fun x a' _ X Y row ⟨Bx,h1,h2,h3⟩ hg hr=>⟨Bx,h1,(hg.block Bx (aq h2) (fun e=>by obtain ⟨_,o,ho,hc'⟩:=hr Bx e.symm;rw [show X.heap[Bx]?=_ from h2] at ho;cases ho;cases hc')).trans h2,h3⟩)
  ?assign ?body ?done ?stop
 case assign =>
  rintro l pre x W K ⟨hA,hB⟩ hK;unfold AU;have hX:dH (W.alloc (.cells #[.int .i64 0,.bool false,.bool false,.bool false,.bool false,.bool false,.bool false,.bool false,.bool false,.bool false,.bool false,.bool false,.bool false,.bool false,.bool false,.bool false] 121)) W.heap.size 0 (fun _=>false):=heap_alloc_new W _;gi_wp2_with ((with_reducible refine gz x.f (aK x.m) ?_ ?_ hX ?_);rfl;rfl;intro w5 HS5 HK5)
  have hk:aa [] W w5:=((aa.refl [] W).alloc _).trans HK5.out (by simp);exact hK _ _ ((dp hk).from _) (hk.below hB.size (by simp)) ⟨hA.kept hk (by simp),hB.trans (hk.below hB.size (by simp))⟩ ⟨W.heap.size,aq hA,HS5.out,rfl⟩
 case body =>
  rintro l pre x a' W hl' ⟨r,hr⟩ ⟨hA,hB⟩ ⟨Bx,hBx,bX,rfl⟩ hlt;have hX:=lU bX.range;rw [Nat.zero_add] at hX;unfold AU;gi_wp2_with (first | ((with_reducible refine go (S:=aK x.m) ?_ hX ?_);rfl) | (refine ⟨trivial,?_⟩;gi_at_call 131;refine (CallsIn.inRound l (vF _ (aK x.m) _)).mono ?_;rintro e w' ⟨rfl,rfl⟩))
  have hsW:w.heap.size≤W.heap.size:=hB.size;have hr':(W.alloc (.cells (bG (aK x.m)).toArray 116)).heap[l]?=some (.loop r):=(Below.heap_alloc W _ l (Array.getElem?_eq_some_iff.1 hr).1).trans hr
  refine wpIn_rangeFunc_ownN (l₀:=l) (r₀:=r) rfl hr' (by omega) (gf:=157) (lb:=#[.pointer (some ⟨W.heap.size,0,none⟩)]) rfl trivial (enters_of Tryz.func157 (by kernel_rfl) rfl)
   ((mS _ w.heap.size W.heap.size (aK x.m) _ (heap_alloc_new W _)).inRound l) belowK_t (belowK_b (by simp;omega)) (Below.refl _ _) (fun _=>rfl)
   (fun (pre':List xX) W'=>bh W' w.heap.size (qr (fd pre) pre')∧(Below w.heap.size W W'∧KeepsFrom W0.heap.size W W'))
   (fun _ _ _=>False)
   (OwnFrom.and (mH _ w.heap.size (fun pre'=>.cells (bG (qr (fd pre) pre')).toArray 116 (0,0)) (fun _=>rfl)) (OwnFrom.and (ownFrom_below hsW (by simp;omega)) (ownFrom_keepsFrom (by simp))))
   (fun _ _ _ _ _ hs _ _=>hs)
   ⟨by rw [AP];exact hA.kept ((aa.refl [] W).alloc _) (by simp),(Below.refl _ W).alloc hsW _,(KeepsOthers.alloc _ _).from _⟩
   (fun y a'' _=>a''={ tmps:=#[.pointer (some ⟨p,0,none⟩),undef,.slice none 0 0,.pointer (some ⟨w.heap.size,0,none⟩),.pointer (some ⟨Bx,0,none⟩),.int .i64 (kO y),.pointer (some ⟨p,0,none⟩),.func (.func 139) #[] #[.pointer (some ⟨w.heap.size+1,0,none⟩)],sL x.f (aK x.m),.pointer (some ⟨Bx,1,none⟩),eG (aK x.m),.func (.func 157) #[] #[.pointer (some ⟨W.heap.size,0,none⟩)],.int .i64 (kO y),undef,undef,undef,undef],defers:=[] })
   (fun _ _ _ _ _ _ hs _ _=>hs)
   ?assign2 ?body2 ?done2 ?stop2
  case assign2 =>
   rintro l2 pre' y W' K hi hK;gi_wp2
   exact hK _ _ (KeepsFrom.refl _ _) (Below.refl _ _) hi rfl
  case body2 =>
   rintro l2 pre' y a'' W' _ _ ⟨hA2,hBW,hKF⟩ rfl _;have hy15:(y.1:Int) < 15:=by have:=y.2;omega
   have c2:=hA2.cell y.2;have f2:=aj hA2 y.1;unfold kO;gi_wp2_with fail
   exact ⟨(KeepsOthers.setCell _ _ _).from _,(Below.refl _ W').setCell (p:=⟨w.heap.size,y.1,none⟩) (by simp) _,
    ⟨by rw [yX];exact hA2.set true y.2,hBW.setCell (p:=⟨w.heap.size,y.1,none⟩) (by simp) _,hKF.trans ((KeepsOthers.setCell _ _ _).from _)⟩⟩
  case done2 =>
   rintro ys' W' rfl ⟨hA2,hBW,hKF⟩;gi_wp2
   exact ⟨hKF,hBW,hA2.congr (fun k hk=>Ao pre x hk),hB.trans hBW⟩
  case stop2 =>
   rintro c pre' W' _ h;exact h.elim
 case done =>
  rintro D ys W hD rfl ⟨hA,hB⟩ hK;have cT:=jg W (fd ys);gi_wp2_with (first | ((with_reducible refine go (S:=fd ys) ?_ hA.range ?_);rfl) | (refine ⟨trivial,?_⟩;gi_at_call 104;refine (callsIn_wide.2 cT).mono ?_;clear cT;rintro e w2 ⟨v,rfl,hR,hK2⟩))
  have hKd:w2.heap[D]?=some (.deferred (some [])):=hK2.at hK (by simp);refine ⟨by simp,.inl ⟨_,_,rfl,run_takeDeferred hKd,?_⟩⟩;refine ⟨_,results_tmp rfl _ _ _,v,rfl,ownsRow_putObj (bF hR hB.size) _ hKd rfl,aa.of_below ((hB.trans (hK2.below hB.size (by simp))).trans (belowK_b (w:=w) (Nat.le_refl _) w2 D _ _ (by omega) hKd rfl rfl))⟩
 case stop =>
  rintro D c pre W _ _ h _;exact h.elim
end Go.Proofs.YtgpnlidnbldiiaaGreat
