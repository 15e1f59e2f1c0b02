/-
  Texts of this claim that are laid as one: ImEyI, ImEyC.
-/
import Derived.Test.YtddhmfildfdbdaaGreatImEyer
import Derived.Test.YtddhmfildfdbdaaGreatImRowr
import Derived.Test.YtddhmfildfdbdaaGreatImEy1r
set_option maxHeartbeats 8000000
/-
 The image's eye: a list of numbers. (Written by mk/mkeyel.py.)
-/
namespace Go.Proofs.YtddhmfildfdbdaaGreat
open Go.RowKit
theorem Rd.oct {w:World}{p:Nat}{F:List Nat}{l:List Int}{e:Int}(h:Rd w p F l e):Oct l:=by
 obtain ⟨_,_,_,_,_,_,h5,_⟩:=h
 exact h5
theorem up_num {t:Int}(s:List Int × Int):upR t s=if t < (numR s).1 then (0,([],rdRefE (numR s).2.2)) else numR s:=rfl
theorem ls_bad {α:Type}(most:Int) (h0:0≤most) {one:Rdr α}{ok:α→Prop}{b:α→List Int}(_h:Cdc one ok b) (_z:α) {l:List Int}(he:(numR (l,0)).2.2≠0):(lsR most one (l,0)).2.2=(numR (l,0)).2.2:=by
 have hn:numR (l,0)=(0,([],(numR (l,0)).2.2)):=by
  have h1:(rdNumE 0 l).2=(0,[]):=rdNumE_nil l he
  show ((rdNumE 0 l).2.1,((rdNumE 0 l).2.2,(rdNumE 0 l).1))=_
  rw [h1];rfl
 have hu:upR most (l,0)=(0,([],(numR (l,0)).2.2)):=by
  rw [up_num,if_neg (by rw [hn];show ¬ most < 0;omega)];exact hn
 show (repR one (upR most (l,0)).1.toNat (upR most (l,0)).2).2.2=_
 rw [hu]
 rfl
theorem ls_much {α:Type}{most:Int}(_h0:0≤most) {one:Rdr α}{l t:List Int}{x:Int}(h1:numR (l,0)=(x,(t,0))) (h2:most < x):(lsR most one (l,0)).2.2=4:=by
 have hu:upR most (l,0)=(0,([],4)):=by rw [up_num,h1,if_pos h2];rfl
 show (repR one (upR most (l,0)).1.toNat (upR most (l,0)).2).2.2=_
 rw [hu]
 rfl
theorem ls_goes {α:Type}{most:Int}{one:Rdr α}{l t:List Int}{x:Int}(h1:numR (l,0)=(x,(t,0))) (h2:¬ most < x):lsR most one (l,0)=repR one x.toNat (t,0):=by
 have hu:upR most (l,0)=(x,(t,0)):=by rw [up_num,h1,if_neg h2]
 show ((repR one (upR most (l,0)).1.toNat (upR most (l,0)).2).1,(repR one (upR most (l,0)).1.toNat (upR most (l,0)).2).2)=_
 rw [hu]
def EyiI (p:Nat) (F:List Nat) (w:World) (l l1:List Int) (lv iv:Value) (N:Nat) (wr:World):Prop :=
 ∃ (j:Nat) (L:List Int) (lj:List Int),iv=.int .i64 (j:Int)∧j≤N∧Hid (RowI w.heap.size wr lv L)∧Hid (Rd wr p F lj 0)∧Hid (Kept (p :: F) w wr)∧Hid (repR numR j (l1,0)=(L,(lj,0)))∧L.length=j∧j+lj.length≤l.length
set_option maxRecDepth 100000 in
theorem eyIs_call (w:World) (p:Nat) (F:List Nat) (l:List Int) (most:Nat) (hm:most≤1099511627776) (hR:Rd w p F l 0) (hF:∀ k∈F,k < w.heap.size) (hl:l.length≤1000000) :
 Calls Tryz.prog 51 #[eyV p,.int .i64 most,.func (.func 24) #[eyV p] #[]] w (Eyd p F w (lsR most numR (l,0)) (fun L W v=>RowI w.heap.size W v L)):=by
 have hpw:=hR.lt
 have hoc:=hR.oct
 have k1:Kept [] w (w.alloc (.cells #[.pointer (some ⟨p,0,none⟩)] 38)):=(Kept.refl _ _).alloc _
 have hq:(w.alloc (.cells #[.pointer (some ⟨p,0,none⟩)] 38)).cell? ⟨w.heap.size,0,none⟩=some (.pointer (some ⟨p,0,none⟩)):=by simp [World.cell?_alloc_new]
 have cN:=eyN_call _ p F l (Rd.kept k1 hR (by simp) (by simp))
 have henter:∀ (a:Array Value) (w:World),Sem.run Tryz.prog (callFunc 24 a) w=.ok (.enter 24 a) w:=fun _ _=>by kernel_rfl
 have hshort:∀ x t,numR (l,0)=(x,(t,0))→t.length < l.length∧0≤x∧x≤1099511627776:=fun x t h=>⟨(cdc_num.eats encNum_pos) l x t hoc h,(good_iff x).1 (cdc_num.bwd l x t hoc h).1⟩
 obtain ⟨res,hres⟩:∃ res,res=lsR most numR (l,0):=⟨_,rfl⟩
 have HB1:Hid ((numR (l,0)).2.2≠0→res.2.2=(numR (l,0)).2.2):=fun h=>by rw [hres];exact ls_bad (most:Int) (by omega) cdc_num 0 h
 have HB2:Hid (∀ x t,numR (l,0)=(x,(t,0))→(most:Int) < x→res.2.2=4):=fun x t h1 h2=>by rw [hres];exact ls_much (by omega) h1 h2
 have HB3:Hid (∀ x t,numR (l,0)=(x,(t,0))→¬ (most:Int) < x→res=repR numR x.toNat (t,0)):=fun x t h1 h2=>by rw [hres];exact ls_goes h1 h2
 rw [← hres]
 have HF:=hide hF
 have HOF:Hid (∀ k∈p :: F,k < w.heap.size):=fun k hk=>by
  rcases List.mem_cons.1 hk with h | h
  ·rw [h];exact hpw
  ·exact hF k h
 generalize numR (l,0)=q at *
 obtain ⟨x,l1,e1⟩:=q
 clear hR hF hres hoc
 unfold eyV at *
 go_enter Tryz.func51,Tryz.ntmps51
 go_wp2_with fail
 refine cN.mono ?_
 clear cN
 rintro r w1 hE
 rcases hE.cases with ⟨he,hk1,v1,rfl,hv1,hR1⟩ | ⟨he,hk1,rfl⟩
 ·subst he hv1
  obtain ⟨hs1,hx0,hx1⟩:=hshort x l1 rfl
  obtain ⟨N,rfl⟩:∃ N:Nat,x=(N:Int):=⟨x.toNat,by omega⟩
  have HR1:=hide hR1
  have HKw:Hid (Kept (p :: F) w w1):=(k1.mono (by simp)).trans hk1 (fun i hi=>.inl hi)
  clear hE hk1 hR1 hshort HB1
  by_cases hmo:(most:Int) < N
  ·have HE:Hid (res.2.2=4):=HB2.out _ _ rfl hmo
   (try unfold pncE)
   go_wp2_with fail
   refine ⟨rfl,HKw.out,.inr ⟨by rw [HE.out];decide,?_⟩⟩
   rw [HE.out];rfl
  ·have HRP:Hid (res=repR numR N (l1,0)):=by
    have h:=HB3.out _ _ rfl (by omega)
    rw [Int.toNat_natCast] at h
    exact h
   clear HB2 HB3
   have hmd:decide (most < N)=false:=decide_eq_false (by omega)
   go_wp2_with fail
   go_loopw [8,16] (fun lv iv wr=>EyiI p F w l l1 lv iv N wr) (fun _ iv _=>N - (intOf iv).toNat)
   case atStart=>exact ⟨0,[],l1,rfl,Nat.zero_le _,RowI.nil _ _,HR1,HKw,rfl,rfl,by omega⟩
   case round =>
    obtain ⟨j,L,lj,rfl,hj,HO,HR,HK,HI,hLl,hjl⟩:=hrel
    by_cases hlt:j < N
    ·have hlt':(j:Int) < N:=by omega
     have hFr:∀ k∈F,k < wr.heap.size:=fun k hk=>Nat.lt_of_lt_of_le (HF.out k hk) HK.out.size
     have cE:=eyN_call wr p F lj HR.out
     have HNX:Hid (repR numR (j+1) (l1,0)=(L++[(numR (lj,0)).1],(numR (lj,0)).2)):=by show _=_;rw [rep_snoc,HI.out]
     have HEat:Hid (∀ x t,numR (lj,0)=(x,(t,0))→t.length < lj.length):=fun x t h=>(cdc_num.eats encNum_pos) lj x t HR.out.oct h
     have HBad:Hid ((numR (lj,0)).2.2≠0→res.2.2=(numR (lj,0)).2.2):=fun h=>by
      have h0:=cdc_num.nil lj h
      have h1:(repR numR (j+1) (l1,0)).2=([],(numR (lj,0)).2.2):=by rw [HNX.out];exact Prod.ext h0 rfl
      rw [HRP.out,rep_stop cdc_num h h1 N hlt]
     generalize numR (lj,0)=q2 at *
     obtain ⟨y,l2,e2⟩:=q2
     clear hFr
     unfold eyV at cE
     go_wp2_with fail
     refine cE.mono ?_
     clear cE
     rintro r w2 hE2
     rcases hE2.cases with ⟨he2,hk2,v2,rfl,hv2,hR2⟩ | ⟨he2,hk2,rfl⟩
     ·subst he2
      have hsz:=HK.out.size
      have hsz2:=hk2.size
      have hL2:=HO.out.low hk2 HOF.out
      obtain rfl:=hv2
      have HEt:=hide (HEat.out y l2 rfl)
      obtain ⟨W,hW⟩:∃ W,W=w2.alloc (.cells #[.int .i64 y] 3):=⟨_,rfl⟩
      have kW:Kept [] w2 W:=by rw [hW];exact (Kept.refl _ _).alloc _
      have HcW:Hid (W.heap[w2.heap.size]?=some (.cells #[.int .i64 y] 3 (0,0))):=by rw [hW];exact heap_alloc_new _ _
      have HLW:=hide (hL2.low kW (by simp))
      have HRW:=hide (Rd.kept kW hR2 (by simp) (by simp))
      have HKW:Hid (Kept (p :: F) w W):=(HK.out.trans hk2 (fun i hi=>.inl hi)).trans kW (by simp)
      have hszW:=kW.size
      clear hk2 hR2 hL2 kW hE2 HBad HEat
      go_wp2_with (at_builtin;(try rw [← hW]);refine wl_appI rfl _ _ rfl w.heap.size _ L rfl HLW.out w2.heap.size y rfl HcW.out (by omega) (by omega) ?b1)
      case b1 =>
       intro v3 w3 hL3 hH3
       have hH3:HiK w.heap.size W w3:=by rw [hW];exact hH3
       obtain ⟨S3,k3,hS3⟩:=hH3
       have HL3:=hide hL3
       have HR3:=hide (Rd.kept k3 HRW.out (fun hm=>by have:=hS3 _ hm;omega) (fun k hk hm=>by have:=hS3 _ hm;have:=HF.out k hk;omega))
       have HK3:Hid (Kept (p :: F) w w3):=HKW.out.trans k3 (fun i hi=>.inr (hS3 i hi))
       have hl2:=HEt.out
       clear hL3 k3 hS3
       go_wp2_with fail
       go_roundw
       case rel=>exact ⟨j+1,L++[y],l2,by go_num,by omega,HL3,HR3,HK3,HNX,by simp [hLl],by omega⟩
       case measure=>simp [intOf];omega
     ·have HQ:Hid (res.2.2=e2):=HBad.out he2
      have HKf:Hid (Kept (p :: F) w w2):=HK.out.trans hk2 (fun i hi=>.inl hi)
      (try unfold pncE)
      go_wp2_with fail
      refine ⟨rfl,HKf.out,.inr ⟨by rw [HQ.out];exact he2,?_⟩⟩
      rw [HQ.out];rfl
    ·have hlt':¬ (j:Int) < N:=by omega
     have hjN:j=N:=by omega
     have HQ:Hid (res=(L,(lj,0))):=by show res=_;rw [HRP.out,← hjN,HI.out]
     clear hjN
     go_wp2_with fail
     go_ret
     rw [HQ.out]
     exact ⟨HK.out,.inl ⟨rfl,_,rfl,HO.out,HR.out⟩⟩
 ·have HQ:Hid (res.2.2=e1):=HB1.out he
  have HKf:Hid (Kept (p :: F) w w1):=(k1.mono (by simp)).trans hk1 (fun i hi=>.inl hi)
  (try unfold pncE)
  go_wp2_with fail
  refine ⟨rfl,HKf.out,.inr ⟨by rw [HQ.out];exact he,?_⟩⟩
  rw [HQ.out];rfl
theorem bT_pos (t:List UInt8):0 < (bT t).length:=by
 have:=encNum_pos (t.length:Int)
 unfold bT;rw [List.length_append];omega
theorem bC_pos (x:Ch):0 < (bC x).length:=by
 have:=bT_pos x.p
 unfold bC;simp only [List.length_append];omega
def EycI (p:Nat) (F:List Nat) (w:World) (l l1:List Int) (lv iv:Value) (N:Nat) (wr:World):Prop :=
 ∃ (j:Nat) (L:List Ch) (lj:List Int),iv=.int .i64 (j:Int)∧j≤N∧Hid (OwnC w.heap.size wr lv L)∧Hid (Rd wr p F lj 0)∧Hid (Kept (p :: F) w wr)∧Hid (repR chgR j (l1,0)=(L,(lj,0)))∧L.length=j∧j+lj.length≤l.length
set_option maxRecDepth 100000 in
theorem eyCs_call (w:World) (p:Nat) (F:List Nat) (l:List Int) (most:Nat) (hm:most≤1099511627776) (hR:Rd w p F l 0) (hF:∀ k∈F,k < w.heap.size) (hl:l.length≤1000000) :
 Calls Tryz.prog 54 #[eyV p,.int .i64 most,.func (.func 55) #[eyV p] #[]] w (Eyd p F w (lsR most chgR (l,0)) (fun L W v=>OwnC w.heap.size W v L)):=by
 have hpw:=hR.lt
 have hoc:=hR.oct
 have k1:Kept [] w (w.alloc (.cells #[.pointer (some ⟨p,0,none⟩)] 38)):=(Kept.refl _ _).alloc _
 have hq:(w.alloc (.cells #[.pointer (some ⟨p,0,none⟩)] 38)).cell? ⟨w.heap.size,0,none⟩=some (.pointer (some ⟨p,0,none⟩)):=by simp [World.cell?_alloc_new]
 have cN:=eyN_call _ p F l (Rd.kept k1 hR (by simp) (by simp))
 have henter:∀ (a:Array Value) (w:World),Sem.run Tryz.prog (callFunc 55 a) w=.ok (.enter 55 a) w:=fun _ _=>by kernel_rfl
 have hshort:∀ x t,numR (l,0)=(x,(t,0))→t.length < l.length∧0≤x∧x≤1099511627776:=fun x t h=>⟨(cdc_num.eats encNum_pos) l x t hoc h,(good_iff x).1 (cdc_num.bwd l x t hoc h).1⟩
 obtain ⟨res,hres⟩:∃ res,res=lsR most chgR (l,0):=⟨_,rfl⟩
 have HB1:Hid ((numR (l,0)).2.2≠0→res.2.2=(numR (l,0)).2.2):=fun h=>by rw [hres];exact ls_bad (most:Int) (by omega) cdc_chg ch0 h
 have HB2:Hid (∀ x t,numR (l,0)=(x,(t,0))→(most:Int) < x→res.2.2=4):=fun x t h1 h2=>by rw [hres];exact ls_much (by omega) h1 h2
 have HB3:Hid (∀ x t,numR (l,0)=(x,(t,0))→¬ (most:Int) < x→res=repR chgR x.toNat (t,0)):=fun x t h1 h2=>by rw [hres];exact ls_goes h1 h2
 rw [← hres]
 have HF:=hide hF
 have HOF:Hid (∀ k∈p :: F,k < w.heap.size):=fun k hk=>by
  rcases List.mem_cons.1 hk with h | h
  ·rw [h];exact hpw
  ·exact hF k h
 generalize numR (l,0)=q at *
 obtain ⟨x,l1,e1⟩:=q
 clear hR hF hres hoc
 unfold eyV at *
 go_enter Tryz.func54,Tryz.ntmps54
 go_wp2_with fail
 refine cN.mono ?_
 clear cN
 rintro r w1 hE
 rcases hE.cases with ⟨he,hk1,v1,rfl,hv1,hR1⟩ | ⟨he,hk1,rfl⟩
 ·subst he hv1
  obtain ⟨hs1,hx0,hx1⟩:=hshort x l1 rfl
  obtain ⟨N,rfl⟩:∃ N:Nat,x=(N:Int):=⟨x.toNat,by omega⟩
  have HR1:=hide hR1
  have HKw:Hid (Kept (p :: F) w w1):=(k1.mono (by simp)).trans hk1 (fun i hi=>.inl hi)
  clear hE hk1 hR1 hshort HB1
  by_cases hmo:(most:Int) < N
  ·have HE:Hid (res.2.2=4):=HB2.out _ _ rfl hmo
   (try unfold pncE)
   go_wp2_with fail
   refine ⟨rfl,HKw.out,.inr ⟨by rw [HE.out];decide,?_⟩⟩
   rw [HE.out];rfl
  ·have HRP:Hid (res=repR chgR N (l1,0)):=by
    have h:=HB3.out _ _ rfl (by omega)
    rw [Int.toNat_natCast] at h
    exact h
   clear HB2 HB3
   have hmd:decide (most < N)=false:=decide_eq_false (by omega)
   go_wp2_with fail
   go_loopw [8,16] (fun lv iv wr=>EycI p F w l l1 lv iv N wr) (fun _ iv _=>N - (intOf iv).toNat)
   case atStart=>exact ⟨0,[],l1,rfl,Nat.zero_le _,OwnC.nil _ _,HR1,HKw,rfl,rfl,by omega⟩
   case round =>
    obtain ⟨j,L,lj,rfl,hj,HO,HR,HK,HI,hLl,hjl⟩:=hrel
    by_cases hlt:j < N
    ·have hlt':(j:Int) < N:=by omega
     have hFr:∀ k∈F,k < wr.heap.size:=fun k hk=>Nat.lt_of_lt_of_le (HF.out k hk) HK.out.size
     have cE:=eyChg_call wr p F lj HR.out hFr
     have HNX:Hid (repR chgR (j+1) (l1,0)=(L++[(chgR (lj,0)).1],(chgR (lj,0)).2)):=by show _=_;rw [rep_snoc,HI.out]
     have HEat:Hid (∀ x t,chgR (lj,0)=(x,(t,0))→t.length < lj.length):=fun x t h=>(cdc_chg.eats bC_pos) lj x t HR.out.oct h
     have HBad:Hid ((chgR (lj,0)).2.2≠0→res.2.2=(chgR (lj,0)).2.2):=fun h=>by
      have h0:=cdc_chg.nil lj h
      have h1:(repR chgR (j+1) (l1,0)).2=([],(chgR (lj,0)).2.2):=by rw [HNX.out];exact Prod.ext h0 rfl
      rw [HRP.out,rep_stop cdc_chg h h1 N hlt]
     generalize chgR (lj,0)=q2 at *
     obtain ⟨y,l2,e2⟩:=q2
     clear hFr
     unfold eyV at cE
     go_wp2_with fail
     refine cE.mono ?_
     clear cE
     rintro r w2 hE2
     rcases hE2.cases with ⟨he2,hk2,v2,rfl,hv2,hR2⟩ | ⟨he2,hk2,rfl⟩
     ·subst he2
      have hsz:=HK.out.size
      have hsz2:=hk2.size
      have hL2:=HO.out.low hk2 HOF.out
      obtain rfl:=hv2
      have HEt:=hide (HEat.out y l2 rfl)
      obtain ⟨W,hW⟩:∃ W,W=w2.alloc (.cells #[.string (str y.p),.bool y.g,.int .u64 y.d] 116):=⟨_,rfl⟩
      have kW:Kept [] w2 W:=by rw [hW];exact (Kept.refl _ _).alloc _
      have HcW:Hid (W.heap[w2.heap.size]?=some (.cells #[.string (str y.p),.bool y.g,.int .u64 y.d] 116 (0,0))):=by rw [hW];exact heap_alloc_new _ _
      have HLW:=hide (hL2.low kW (by simp))
      have HRW:=hide (Rd.kept kW hR2 (by simp) (by simp))
      have HKW:Hid (Kept (p :: F) w W):=(HK.out.trans hk2 (fun i hi=>.inl hi)).trans kW (by simp)
      have hszW:=kW.size
      clear hk2 hR2 hL2 kW hE2 HBad HEat
      go_wp2_with (at_builtin;(try rw [← hW]);refine wl_appC rfl _ _ rfl w.heap.size _ L rfl HLW.out w2.heap.size y rfl HcW.out (by omega) (by omega) ?b1)
      case b1 =>
       intro v3 w3 hL3 hH3
       have hH3:HiK w.heap.size W w3:=by rw [hW];exact hH3
       obtain ⟨S3,k3,hS3⟩:=hH3
       have HL3:=hide hL3
       have HR3:=hide (Rd.kept k3 HRW.out (fun hm=>by have:=hS3 _ hm;omega) (fun k hk hm=>by have:=hS3 _ hm;have:=HF.out k hk;omega))
       have HK3:Hid (Kept (p :: F) w w3):=HKW.out.trans k3 (fun i hi=>.inr (hS3 i hi))
       have hl2:=HEt.out
       clear hL3 k3 hS3
       go_wp2_with fail
       go_roundw
       case rel=>exact ⟨j+1,L++[y],l2,by go_num,by omega,HL3,HR3,HK3,HNX,by simp [hLl],by omega⟩
       case measure=>simp [intOf];omega
     ·have HQ:Hid (res.2.2=e2):=HBad.out he2
      have HKf:Hid (Kept (p :: F) w w2):=HK.out.trans hk2 (fun i hi=>.inl hi)
      (try unfold pncE)
      go_wp2_with fail
      refine ⟨rfl,HKf.out,.inr ⟨by rw [HQ.out];exact he2,?_⟩⟩
      rw [HQ.out];rfl
    ·have hlt':¬ (j:Int) < N:=by omega
     have hjN:j=N:=by omega
     have HQ:Hid (res=(L,(lj,0))):=by show res=_;rw [HRP.out,← hjN,HI.out]
     clear hjN
     go_wp2_with fail
     go_ret
     rw [HQ.out]
     exact ⟨HK.out,.inl ⟨rfl,_,rfl,HO.out,HR.out⟩⟩
 ·have HQ:Hid (res.2.2=e1):=HB1.out he
  have HKf:Hid (Kept (p :: F) w w1):=(k1.mono (by simp)).trans hk1 (fun i hi=>.inl hi)
  (try unfold pncE)
  go_wp2_with fail
  refine ⟨rfl,HKf.out,.inr ⟨by rw [HQ.out];exact he,?_⟩⟩
  rw [HQ.out];rfl
end Go.Proofs.YtddhmfildfdbdaaGreat
