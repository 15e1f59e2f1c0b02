/-
  Texts of this claim that are laid as one: EpCut, EpNew.
-/
import Derived.Test.YtddhmfildfdbdaaGreatQ15r
set_option maxHeartbeats 4000000
/-
 slices.Clone of epochs;Cut;Clone.
-/
namespace Go.Proofs.YtddhmfildfdbdaaGreat
open Go.RowKit
theorem epC_runs {w:World}{g o:Nat}{L:List Ep}(hr:∀ i (hi:i < L.length),w.rangeAt g (o+i*16) (epC L[i])):∀ (j:Nat) (u:Value),(L.flatMap epC)[j]?=some u→w.cell? ((⟨g,o,none⟩:Addr).add j)=some u:=by
 intro j u hj
 have hlt:j < L.length*16:=by have:=(List.getElem?_eq_some_iff.1 hj).1;rwa [epC_len] at this
 have hi:j / 16 < L.length:=by omega
 have hk:j % 16 < 16:=Nat.mod_lt _ (by omega)
 have e:j=j / 16*16+j % 16:=by omega
 rw [e,epC_get L (j / 16) hi (j % 16) hk] at hj
 have:=hr (j / 16) hi (j % 16) u hj
 rw [adr_addC,show o+j=o+j / 16*16+j % 16 by omega]
 exact this
set_option maxRecDepth 100000 in
theorem sclone_call (w:World) (g o n c:Nat) (L:List Ep) (hn:L.length=n) (hl:n≤1000000) (hr:∀ i (hi:i < L.length),w.rangeAt g (o+i*16) (epC L[i])) :
 Calls Tryz.prog 89 #[.slice (some ⟨g,o,none⟩) n c] w fun e w'=>∃ v,e=.returned v∧RowE w.heap.size w' v L∧Kept [] w w':=by
 obtain ⟨i0,hi,hz0,hz1,hz2⟩:=info_parts info_span
 have HR:=hide hr
 have HN:=hide hn
 have hnil:(binOp BinOp.eql 100 (.slice (some ⟨g,o,none⟩) n c) (.slice none 0 0)).run Tryz.prog w=.ok (.bool false) w:=by kernel_rfl
 clear hr hn
 go_enter Tryz.func89,Tryz.ntmps89
 go_wp2_with (at_builtin;refine wpList_append_own _ rfl _ _ 100 rfl w.heap.size 99 i0 _ 16 24 Tryz.underlying100 hi hz0 hz1 hz2 rfl (by decide) _ 0 [] rfl ⟨rfl,.inr ⟨w.heap.size,0,#[],rfl,Nat.le_refl _,heap_alloc_new w _,Nat.le_refl _,Nat.zero_le _,rfl,rfl⟩⟩ ⟨g,o,none⟩ n c (L.flatMap epC) rfl (by rw [epC_len,HN.out]) ?n1 (epC_one L) (by unfold maxLen;omega) (by omega) (by simp) ?n2)
 case n1 =>
  intro j u hj
  exact ((Kept.refl [] w).alloc _).cell (epC_runs HR.out j u hj) (by simp)
 case n2 =>
  intro v' w' h2 h3 _
  go_wp2_with fail
  go_ret
  refine ⟨v',rfl,?_,((Kept.refl [] w).alloc _).grown h3 (fun k hk=>.inr (by cases hk;exact Nat.le_refl _))⟩
  unfold RowE
  rw [HN.out]
  simpa using h2
theorem EpA.put {B:Nat}{w w':World}{p:Nat}{al:Int}{L M:List Ep}{u:Value}(h:EpA B w p al L) (hk:Kept [] w w') (hR:RowE B w' u M) :
 EpA B (w'.setCell ⟨p,1,none⟩ u) p al M∧Tn B [102,99] w (w'.setCell ⟨p,1,none⟩ u):=by
 obtain ⟨v,hv1,hv2,hv3⟩:=id h
 exact h.grown hv2 hk hR ⟨rfl,rfl,rfl,Nat.le_refl _,fun _ _ _=>rfl⟩ hv3
def CutP (B:Nat) (al:Int) (L:List Ep) (z:Int) (w:World) (p:Nat) (e:Ending) (w':World):Prop :=
 (∃ v,e=.returned v)∧EpA B w' p al (cutL L z)∧Tn B [102,99] w w'
set_option maxRecDepth 100000 in
theorem cut_call (B:Nat) (w:World) (p:Nat) (al:Int) (L:List Ep) (h:EpA B w p al L) (hok:OkL L) (hl:L.length≤1000000) (hB:B≤w.heap.size) (z:Int) :
 Calls Tryz.prog 61 #[.pointer (some ⟨p,0,none⟩),.int .i64 z] w fun e w'=>CutP B al L z w p e w':=by
 obtain ⟨g,cap,h1,h2,h3,h4⟩:=h.open hok.1
 have cM:=madeE_call B w p al L h hok.1
 have cP:=placeE_call B w p al L h hok.1 hok.2.1 hl z
 have c1:w.cell? ⟨p,1,none⟩=some (.slice (some ⟨g,0,none⟩) L.length cap):=cell_inC (k:=1) h1 rfl
 have HA:=hide h
 have HC:Hid (cutL L z=L.drop (plc L z)):=rfl
 have hq:=plc_lt hok.1 z
 have HR:=hide h4
 have HH:=hide h1
 unfold maxLen at h3
 generalize plc L z=q at *
 generalize hln:L.length=n at c1 h2 hl hq
 have HN:=hide hln
 clear h h1 h4 hok hln
 by_cases h0:q=0
 ·subst h0
  go_enter Tryz.func61,Tryz.ntmps61
  go_wp2_with (first | (go_at_call 87;refine cM.mono ?_;clear cM;rintro _ _ ⟨rfl,rfl⟩) | (go_at_call 88;refine cP.mono ?_;clear cP;rintro _ w2 ⟨rfl,hK2⟩))
  go_end0
  exact ⟨⟨_,rfl⟩,by rw [HC.out];exact HA.out.kept hK2,Tn.kept hK2⟩
 ·have h0':0 < (q:Int):=by omega
  have hqc:¬ cap=q:=by omega
  have hqn:q≤n:=by omega
  have hqc':q≤cap:=by omega
  have hqn':(q:Int)≤n:=by omega
  go_enter Tryz.func61,Tryz.ntmps61
  go_upto_region 3 with (first | (go_at_call 87;refine cM.mono ?_;clear cM;rintro _ _ ⟨rfl,rfl⟩) | (go_at_call 88;refine cP.mono ?_;clear cP;rintro _ w2 ⟨rfl,hK2⟩))
  have HK2:=hide hK2
  have d1:=hK2.cell c1 (by simp)
  have cS:=sclone_call w2 g (q*16) (n - q) (cap - q) (L.drop q) (by rw [List.length_drop,HN.out]) (by omega) (fun i hi=>by
   have h5:q+i < L.length:=by rw [List.length_drop] at hi;omega
   have h6:=HR.out (q+i) h5
   intro j v hv
   rw [List.getElem_drop] at hv
   rw [show q*16+i*16=(q+i)*16 by omega]
   exact hK2.cell (h6 j v hv) (by simp))
  clear hK2 c1
  go_wp2_with (go_at_call 89;refine cS.mono ?_;clear cS;rintro _ w3 ⟨u,rfl,hR3,hK3⟩;obtain ⟨g3,cap3,rfl,_⟩:=hR3.slice (by intro e;have:=congrArg List.length e;simp at this;have:=HN.out;omega);have e1:=hK3.cell d1 (by simp);have ef:w3.frozen? ⟨p,1,none⟩=false:=froz3 (hK3.at (HK2.out.at HH.out (by simp)) (by simp)) 1;have HK3:=hide hK3;have HR3:=hide hR3;clear hK3 hR3 d1)
  go_end0
  have hR:RowE B w3 (.slice (some ⟨g3,0,none⟩) (L.length - q) cap3) (L.drop q):=by
   have h:=HR3.out
   rw [List.length_drop] at h
   exact row_mono h (Nat.le_trans hB HK2.out.size)
  have hput:=HA.out.put (HK2.out.trans HK3.out (by simp)) hR
  exact ⟨⟨_,rfl⟩,by rw [HC.out];exact hput.1,hput.2⟩
theorem wl_build0 {ops:Array Oper}{rest:List Oper}{a:Act}{w:World}{Q:Exit→Act→World→Prop}{d:Option Tmp}{x:Operand}{ty:TypeId}{ps:String}{af:Array Edge}
 {S:Nat→Bool}(hx:a.eval x=setV S) (h:wpList Tryz.prog ops Q rest (a.put d (spV 0 S)) w):wpList Tryz.prog ops Q (⟨d,.build 99 #[(1,x)],ty,ps,af,none⟩ :: rest) a w :=
 wpList_plain rfl fun _ hK=>by
  unfold Oper.wp execOp
  simp only [List.map_toArray,List.map_cons,List.map_nil,hx,Sem.run_bind,build_span0,Result.andThen_ok,Sem.run_pure]
  exact hK _ _ h
theorem wl_slice {ops:Array Oper}{rest:List Oper}{a:Act}{w:World}{Q:Exit→Act→World→Prop}{d:Option Tmp}{x:Operand}{ty:TypeId}{ps:String}{af:Array Edge}
 {f:Int}{S:Nat→Bool}(hx:a.eval x=spV f S) (h:∀ w',Hid (SpAt w' w.heap.size f S)→Hid (Kept [] w w')→w'.heap.size=w.heap.size+1→wpList Tryz.prog ops Q rest (a.put d (.slice (some ⟨w.heap.size,0,none⟩) 1 1)) w'):wpList Tryz.prog ops Q (⟨d,.buildSlice 100 1 #[(0,x)],ty,ps,af,none⟩ :: rest) a w :=
 wpList_plain rfl fun _ hK=>by
  unfold Oper.wp execOp
  simp only [List.map_toArray,List.map_cons,List.map_nil,hx,Sem.run_bind,slice_span,Result.andThen_ok,Sem.run_pure]
  exact hK _ _ (h _ (heap_alloc_new w _) ((Kept.refl _ _).alloc _) (by simp))
theorem SpAt.row {B:Nat}{w:World}{b:Nat}{x:Ep}(h:SpAt w b x.f (setB x.m)) (hB:B≤b):RowE B w (.slice (some ⟨b,0,none⟩) 1 1) [x] :=
 ⟨by simp [epC,spC_len],.inr ⟨b,1,_,rfl,hB,h,Nat.le_refl _,by decide,by simp [spC_len],by simp only [List.flatMap_cons,List.flatMap_nil,List.append_nil];exact List.take_of_length_le (by simp [spC_len])⟩⟩
def NewP (m:List Int) (al:Int) (w:World) (e:Ending) (w':World):Prop :=
 ((May m∧1≤al∧al≤8)∧∃ p:Nat,e=.returned (.tuple #[.pointer (some ⟨p,0,none⟩),.int .i64 0])∧EpA w.heap.size w' p al [⟨0,m⟩]∧Kept [] w w') ∨
 (¬ (May m∧1≤al∧al≤8)∧e=.returned (.tuple #[.pointer none,.int .i64 1])∧Kept [] w w')
set_option maxRecDepth 100000 in
theorem newE_call (w:World) (ao:Option Addr) (n c:Nat) (m:List Int) (hS:SlI w ao n c m) (al:Int) :
 Calls Tryz.prog 20 #[.slice ao n c,.int .i64 al] w fun e w'=>NewP m al w e w':=by
 have cS:=setOf_call w ao n c m hS
 have cA:=fun W=>isAlpha_call W al
 clear hS
 go_enter Tryz.func20,Tryz.ntmps20
 go_upto_region 2 with (first | ((with_reducible refine wl_store_set S ?_ ?_ HX6 ?_);rfl;rfl;intro w7 HS7 HK7a) | (go_at_call 46;refine cS.mono ?_;clear cS;rintro _ w6 ⟨S,rfl,hS6,hK6⟩;have HX6:SetAt (w6.alloc (.cells #[.bool false,.bool false,.bool false,.bool false,.bool false,.bool false,.bool false,.bool false,.bool false,.bool false,.bool false,.bool false,.bool false,.bool false,.bool false] 94)) w6.heap.size (fun _=>false):=heap_alloc_new w6 _))
 have HK7:Hid (Kept [] w w7):=(hK6.alloc _).trans HK7a.out (fun i hi=>.inr (by simp at hi;subst hi;exact hK6.size))
 have HSm:=hide hS6
 have h67:w.heap.size≤w6.heap.size:=hK6.size
 clear hS6 hK6 HK7a HX6
 generalize w6.heap.size=b6 at *
 by_cases hm:May m
 ·by_cases ha:1≤al∧al≤8
  ·have cA1:=cA w7
   rw [show decide (1≤al∧al≤8)=true by simpa using ha] at cA1
   have HE:Hid (setB m=S):=(HSm.out hm).symm
   rw [show decide (May m)=true by simpa using hm]
   have HM:=hide (show May m∧1≤al∧al≤8 from ⟨hm,ha⟩)
   clear hm ha HSm
   go_wp2_with (first | ((with_reducible refine wl_load_set ?_ HS7.out.range ?_);rfl) | ((with_reducible refine wl_build0 (S:=S) ?_ ?_);rfl) | ((with_reducible refine wl_slice (f:=0) (S:=S) ?_ ?_);rfl;intro w8 HS8 HK8 hz8) | (go_at_call 47;refine cA1.mono ?_;clear cA1;rintro _ _ ⟨rfl,rfl⟩))
   go_ret2
   refine .inl ⟨HM.out,w8.heap.size,by rw [hz8];rfl,⟨_,?_,heap_alloc_new w8 _,?_⟩,(HK7.out.trans HK8.out (by simp)).alloc _⟩
   ·exact Nat.le_trans HK7.out.size HK8.out.size
   ·have h1:SpAt w8 w7.heap.size (0:Int) (setB m):=by rw [HE.out];exact HS8.out
    exact ((Kept.refl [] w8).alloc _).ownsRow (SpAt.row (x:=⟨0,m⟩) h1 HK7.out.size) (by simp)
  ·have cA1:=cA w7
   rw [show decide (1≤al∧al≤8)=false by simpa using ha] at cA1
   rw [show decide (May m)=true by simpa using hm]
   have HM:=hide (show ¬ (May m∧1≤al∧al≤8) from fun h=>ha h.2)
   clear hm ha HSm
   go_wp2_with (go_at_call 47;refine cA1.mono ?_;clear cA1;rintro _ _ ⟨rfl,rfl⟩)
   go_ret2
   exact .inr ⟨HM.out,rfl,HK7.out⟩
 ·rw [show decide (May m)=false by simpa using hm]
  have HM:=hide (show ¬ (May m∧1≤al∧al≤8) from fun h=>hm h.1)
  clear hm HSm
  go_wp2_with fail
  go_ret2
  exact .inr ⟨HM.out,rfl,HK7.out⟩
end Go.Proofs.YtddhmfildfdbdaaGreat
