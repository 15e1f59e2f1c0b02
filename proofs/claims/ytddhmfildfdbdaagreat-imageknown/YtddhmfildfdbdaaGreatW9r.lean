/-
  Texts of this claim that are laid as one: ImEyE, ImEyM.
-/
import Derived.Test.YtddhmfildfdbdaaGreatW10r
import Derived.Test.YtddhmfildfdbdaaGreatW11r
import Derived.Test.YtddhmfildfdbdaaGreatImEyPr
set_option maxHeartbeats 8000000
/-
 The image's eye: a list of epochs. (Written by mk/mkeyel.py.)
-/
namespace Go.Proofs.YtddhmfildfdbdaaGreat
open Go.RowKit
theorem bEp_pos (x:Ep):0 < (bEp x).length:=by
 have:=encNum_pos x.f
 unfold bEp;rw [List.length_append];omega
def EyeI (p:Nat) (F:List Nat) (w:World) (l l1:List Int) (lv iv:Value) (N:Nat) (wr:World):Prop :=
 ∃ (j:Nat) (L:List Ep) (lj:List Int),iv=.int .i64 (j:Int)∧j≤N∧Hid (LsE w.heap.size wr lv L)∧Hid (Rd wr p F lj 0)∧Hid (Kept (p :: F) w wr)∧Hid (repR epR j (l1,0)=(L,(lj,0)))∧L.length=j∧j+lj.length≤l.length
set_option maxRecDepth 100000 in
theorem eyEs_call (w:World) (p:Nat) (F:List Nat) (l:List Int) (most:Nat) (hm:most≤1099511627776) (hR:Rd w p F l 0) (hF:∀ k∈F,k < w.heap.size) (hl:l.length≤1000000) :
 Calls Tryz.prog 25 #[eyV p,.int .i64 most,.func (.func 26) #[eyV p] #[]] w (Eyd p F w (lsR most epR (l,0)) (fun L W v=>LsE w.heap.size W v L)):=by
 have hpw:=hR.lt
 have hoc:=hR.oct
 have k1:Kept [] w (w.alloc (.cells #[.pointer (some ⟨p,0,none⟩)] 38)):=(Kept.refl _ _).alloc _
 have hq:(w.alloc (.cells #[.pointer (some ⟨p,0,none⟩)] 38)).cell? ⟨w.heap.size,0,none⟩=some (.pointer (some ⟨p,0,none⟩)):=by simp [World.cell?_alloc_new]
 have cN:=eyN_call _ p F l (Rd.kept k1 hR (by simp) (by simp))
 have henter:∀ (a:Array Value) (w:World),Sem.run Tryz.prog (callFunc 26 a) w=.ok (.enter 26 a) w:=fun _ _=>by kernel_rfl
 have hshort:∀ x t,numR (l,0)=(x,(t,0))→t.length < l.length∧0≤x∧x≤1099511627776:=fun x t h=>⟨(cdc_num.eats encNum_pos) l x t hoc h,(good_iff x).1 (cdc_num.bwd l x t hoc h).1⟩
 obtain ⟨res,hres⟩:∃ res,res=lsR most epR (l,0):=⟨_,rfl⟩
 have HB1:Hid ((numR (l,0)).2.2≠0→res.2.2=(numR (l,0)).2.2):=fun h=>by rw [hres];exact ls_bad (most:Int) (by omega) cdc_ep ⟨0,[]⟩ h
 have HB2:Hid (∀ x t,numR (l,0)=(x,(t,0))→(most:Int) < x→res.2.2=4):=fun x t h1 h2=>by rw [hres];exact ls_much (by omega) h1 h2
 have HB3:Hid (∀ x t,numR (l,0)=(x,(t,0))→¬ (most:Int) < x→res=repR epR x.toNat (t,0)):=fun x t h1 h2=>by rw [hres];exact ls_goes h1 h2
 rw [← hres]
 have HF:=hide hF
 have HOF:Hid (∀ k∈p :: F,k < w.heap.size):=fun k hk=>by
  rcases List.mem_cons.1 hk with h | h
  ·rw [h];exact hpw
  ·exact hF k h
 generalize numR (l,0)=q at *
 obtain ⟨x,l1,e1⟩:=q
 clear hR hF hres hoc
 unfold eyV at *
 go_enter Tryz.func25,Tryz.ntmps25
 go_wp2_with fail
 refine cN.mono ?_
 clear cN
 rintro r w1 hE
 rcases hE.cases with ⟨he,hk1,v1,rfl,hv1,hR1⟩ | ⟨he,hk1,rfl⟩
 ·subst he hv1
  obtain ⟨hs1,hx0,hx1⟩:=hshort x l1 rfl
  obtain ⟨N,rfl⟩:∃ N:Nat,x=(N:Int):=⟨x.toNat,by omega⟩
  have HR1:=hide hR1
  have HKw:Hid (Kept (p :: F) w w1):=(k1.mono (by simp)).trans hk1 (fun i hi=>.inl hi)
  clear hE hk1 hR1 hshort HB1
  by_cases hmo:(most:Int) < N
  ·have HE:Hid (res.2.2=4):=HB2.out _ _ rfl hmo
   (try unfold pncE)
   go_wp2_with fail
   refine ⟨rfl,HKw.out,.inr ⟨by rw [HE.out];decide,?_⟩⟩
   rw [HE.out];rfl
  ·have HRP:Hid (res=repR epR N (l1,0)):=by
    have h:=HB3.out _ _ rfl (by omega)
    rw [Int.toNat_natCast] at h
    exact h
   clear HB2 HB3
   have hmd:decide (most < N)=false:=decide_eq_false (by omega)
   go_wp2_with fail
   go_loopw [8,16] (fun lv iv wr=>EyeI p F w l l1 lv iv N wr) (fun _ iv _=>N - (intOf iv).toNat)
   case atStart=>exact ⟨0,[],l1,rfl,Nat.zero_le _,LsE.nil _ _,HR1,HKw,rfl,rfl,by omega⟩
   case round =>
    obtain ⟨j,L,lj,rfl,hj,HO,HR,HK,HI,hLl,hjl⟩:=hrel
    by_cases hlt:j < N
    ·have hlt':(j:Int) < N:=by omega
     have hFr:∀ k∈F,k < wr.heap.size:=fun k hk=>Nat.lt_of_lt_of_le (HF.out k hk) HK.out.size
     have cE:=eyEp_call wr p F lj HR.out hFr (by omega)
     have HNX:Hid (repR epR (j+1) (l1,0)=(L++[(epR (lj,0)).1],(epR (lj,0)).2)):=by show _=_;rw [rep_snoc,HI.out]
     have HEat:Hid (∀ x t,epR (lj,0)=(x,(t,0))→t.length < lj.length):=fun x t h=>(cdc_ep.eats bEp_pos) lj x t HR.out.oct h
     have HBad:Hid ((epR (lj,0)).2.2≠0→res.2.2=(epR (lj,0)).2.2):=fun h=>by
      have h0:=cdc_ep.nil lj h
      have h1:(repR epR (j+1) (l1,0)).2=([],(epR (lj,0)).2.2):=by rw [HNX.out];exact Prod.ext h0 rfl
      rw [HRP.out,rep_stop cdc_ep h h1 N hlt]
     generalize epR (lj,0)=q2 at *
     obtain ⟨y,l2,e2⟩:=q2
     clear hFr
     unfold eyV at cE
     go_wp2_with fail
     refine cE.mono ?_
     clear cE
     rintro r w2 hE2
     rcases hE2.cases with ⟨he2,hk2,v2,rfl,hv2,hR2⟩ | ⟨he2,hk2,rfl⟩
     ·subst he2
      have hsz:=HK.out.size
      have hsz2:=hk2.size
      have hL2:=HO.out.low hk2 HOF.out
      obtain ⟨u2,rfl,hu2⟩:=hv2
      obtain ⟨ua,un,uc,rfl⟩:=row_bare hu2
      have hu2:RowI w.heap.size w2 (.slice ua un uc) y.m:=row_mono hu2 hsz
      have HEt:=hide (HEat.out y l2 rfl)
      obtain ⟨W,hW⟩:∃ W,W=w2.alloc (.cells #[.int .i64 y.f,.slice ua un uc] 62):=⟨_,rfl⟩
      have kW:Kept [] w2 W:=by rw [hW];exact (Kept.refl _ _).alloc _
      have HcW:Hid (W.heap[w2.heap.size]?=some (.cells #[.int .i64 y.f,.slice ua un uc] 62 (0,0))):=by rw [hW];exact heap_alloc_new _ _
      have HLW:=hide (hL2.low kW (by simp))
      have HUW:=hide (hu2.low kW (by simp))
      have HRW:=hide (Rd.kept kW hR2 (by simp) (by simp))
      have HKW:Hid (Kept (p :: F) w W):=(HK.out.trans hk2 (fun i hi=>.inl hi)).trans kW (by simp)
      have hszW:=kW.size
      clear hk2 hR2 hL2 kW hE2 HBad HEat hu2
      go_wp2_with (at_builtin;(try rw [← hW]);refine wl_appE rfl _ _ rfl w.heap.size _ L rfl HLW.out w2.heap.size y (.slice ua un uc) HUW.out rfl rfl HcW.out (by omega) (by omega) ?b1)
      case b1 =>
       intro v3 w3 hL3 hH3
       have hH3:HiK w.heap.size W w3:=by rw [hW];exact hH3
       obtain ⟨S3,k3,hS3⟩:=hH3
       have HL3:=hide hL3
       have HR3:=hide (Rd.kept k3 HRW.out (fun hm=>by have:=hS3 _ hm;omega) (fun k hk hm=>by have:=hS3 _ hm;have:=HF.out k hk;omega))
       have HK3:Hid (Kept (p :: F) w w3):=HKW.out.trans k3 (fun i hi=>.inr (hS3 i hi))
       have hl2:=HEt.out
       clear hL3 k3 hS3
       go_wp2_with fail
       go_roundw
       case rel=>exact ⟨j+1,L++[y],l2,by go_num,by omega,HL3,HR3,HK3,HNX,by simp [hLl],by omega⟩
       case measure=>simp [intOf];omega
     ·have HQ:Hid (res.2.2=e2):=HBad.out he2
      have HKf:Hid (Kept (p :: F) w w2):=HK.out.trans hk2 (fun i hi=>.inl hi)
      (try unfold pncE)
      go_wp2_with fail
      refine ⟨rfl,HKf.out,.inr ⟨by rw [HQ.out];exact he2,?_⟩⟩
      rw [HQ.out];rfl
    ·have hlt':¬ (j:Int) < N:=by omega
     have hjN:j=N:=by omega
     have HQ:Hid (res=(L,(lj,0))):=by show res=_;rw [HRP.out,← hjN,HI.out]
     clear hjN
     go_wp2_with fail
     go_ret
     rw [HQ.out]
     exact ⟨HK.out,.inl ⟨rfl,_,rfl,HO.out,HR.out⟩⟩
 ·have HQ:Hid (res.2.2=e1):=HB1.out he
  have HKf:Hid (Kept (p :: F) w w1):=(k1.mono (by simp)).trans hk1 (fun i hi=>.inl hi)
  (try unfold pncE)
  go_wp2_with fail
  refine ⟨rfl,HKf.out,.inr ⟨by rw [HQ.out];exact he,?_⟩⟩
  rw [HQ.out];rfl
set_option maxRecDepth 100000 in
theorem eyM_call (w:World) (p:Nat) (F:List Nat) (l:List Int) (hR:Rd w p F l 0) (hF:∀ k∈F,k < w.heap.size) (hl:l.length≤30000) :
 Calls Tryz.prog 14 #[eyV p] w (EymP p F w (imR (l,0))):=by
 have hmf:∀ (fn:Go.Fn) (first cap:Array Value) (w:World),(Instr.makeFunc fn first cap).run Tryz.prog w=.ok (.func fn first cap) w:=fun _ _ _ _=>rfl
 have hpw:=hR.lt
 have ho:=hR.oct
 have k1:Kept [] w (w.alloc (.cells #[.pointer (some ⟨p,0,none⟩)] 38)):=(Kept.refl _ _).alloc _
 obtain ⟨W,hW⟩:∃ W,W=w.alloc (.cells #[.pointer (some ⟨p,0,none⟩)] 38):=⟨_,rfl⟩
 have HM0:Hid (Em w p F W l):=by
  refine ⟨by rw [hW];exact k1.mono (by simp),by rw [hW];exact cell_inC (k:=0) (heap_alloc_new w _) rfl,by rw [hW];exact Rd.kept k1 hR (by simp) (by simp),fun k hk=>?_,by rw [hW];simp⟩
  rcases List.mem_cons.1 hk with h | h
  ·rw [h];exact hpw
  ·exact hF k h
 have HL0:Hid (l.length≤30000):=hl
 obtain ⟨q,hq⟩:∃ q,q=imR (l,0):=⟨_,rfl⟩
 have HO:Hid (Oct l):=ho
 have HIM:=hide (fun (x:Pt) (t:List Int) (h:q=(x,(t,0)))=>(cdc_im.bwd l x t ho (by rw [← hq];exact h)).1)
 clear k1 ho hpw hF hl
 obtain ⟨al,l1,e1,h1⟩:∃ x t e,(numR) (l,0)=(x,(t,e)):=⟨_,_,_,rfl⟩
 obtain ⟨sz,l2,e2,h2⟩:∃ x t e,(numR) (l1,0)=(x,(t,e)):=⟨_,_,_,rfl⟩
 obtain ⟨a,l3,e3,h3⟩:∃ x t e,(numR) (l2,0)=(x,(t,e)):=⟨_,_,_,rfl⟩
 obtain ⟨es,l4,e4,h4⟩:∃ x t e,(lsR 16 epR) (l3,0)=(x,(t,e)):=⟨_,_,_,rfl⟩
 obtain ⟨ss,l5,e5,h5⟩:∃ x t e,(lsR 16 seR) (l4,0)=(x,(t,e)):=⟨_,_,_,rfl⟩
 obtain ⟨cs,l6,e6,h6⟩:∃ x t e,(lsR 1099511627776 coR) (l5,0)=(x,(t,e)):=⟨_,_,_,rfl⟩
 have HC:=hide (im_parts h1)
 rw [← hq] at HC ⊢
 have HH1:=hide h1
 have HH2:=hide h2
 have HH3:=hide h3
 have HH4:=hide h4
 have HH5:=hide h5
 have HH6:=hide h6
 clear hR hq h1 h2 h3 h4 h5 h6
 have q0:=HM0.out.e
 have c0:=eyN_call W p F l HM0.out.d
 rw [HH1.out] at c0
 unfold eyV at c0
 unfold eyV at *
 go_enter Tryz.func14,Tryz.ntmps14
 go_upto_region 1 with fail
 rw [← hW]
 clear hW
 go_wp2_with fail
 refine c0.mono ?_
 clear c0
 rintro r w1 hE
 rcases hE.cases with ⟨he,hk1,v1,rfl,hv1,hR1⟩ | ⟨he,hk1,rfl⟩
 ·subst he
  subst hv1
  have HM1:=hide (HM0.out.call hk1 hR1)
  have HL1:Hid (l1.length≤30000):=by show _≤_;have:=num_less HO.out HH1.out;have:=HL0.out;omega
  clear hE hk1 hR1 q0
  have q1:=HM1.out.e
  have c1:=eyN_call w1 p F l1 HM1.out.d
  rw [HH2.out] at c1
  unfold eyV at c1
  go_wp2_with fail
  refine c1.mono ?_
  clear c1
  rintro r w2 hE
  rcases hE.cases with ⟨he,hk2,v2,rfl,hv2,hR2⟩ | ⟨he,hk2,rfl⟩
  ·subst he
   subst hv2
   have HM2:=hide (HM1.out.call hk2 hR2)
   have HL2:Hid (l2.length≤30000):=by show _≤_;have:=num_less HM1.out.d.oct HH2.out;have:=HL1.out;omega
   clear hE hk2 hR2 q1
   have q2:=HM2.out.e
   have c2:=eyN_call w2 p F l2 HM2.out.d
   rw [HH3.out] at c2
   unfold eyV at c2
   go_wp2_with fail
   refine c2.mono ?_
   clear c2
   rintro r w3 hE
   rcases hE.cases with ⟨he,hk3,v3,rfl,hv3,hR3⟩ | ⟨he,hk3,rfl⟩
   ·subst he
    subst hv3
    have HM3:=hide (HM2.out.call hk3 hR3)
    have HL3:Hid (l3.length≤30000):=by show _≤_;have:=num_less HM2.out.d.oct HH3.out;have:=HL2.out;omega
    clear hE hk3 hR3 q2
    have q3:=HM3.out.e
    have c3:=eyEs_call w3 p F l3 16 (by omega) HM3.out.d HM3.out.f (by have:=HL3.out;omega)
    rw [show ((16:Nat):Int)=16 from rfl] at c3
    rw [HH4.out] at c3
    unfold eyV at c3
    go_wp2_with fail
    refine c3.mono ?_
    clear c3
    rintro r w4 hE
    rcases hE.cases with ⟨he,hk4,v4,rfl,hv4,hR4⟩ | ⟨he,hk4,rfl⟩
    ·subst he
     have HM4:=hide (HM3.out.call hk4 hR4)
     have HE4:=hide hv4
     have HZ4:=hide HM3.out.z
     obtain ⟨ea,en,ec,rfl⟩:∃ ea en ec,v4=.slice ea en ec:=by obtain ⟨X,h,_⟩:=hv4;exact row_bare h
     have HL4:Hid (l4.length≤30000):=by show _≤_;have:=ls_less cdc_ep ⟨0,[]⟩ 16 (by omega) HM3.out.d.oct HH4.out;have:=HL3.out;omega
     clear hE hk4 hR4 q3 hv4
     have q4:=HM4.out.e
     have c4:=eySs_call w4 p F l4 16 (by omega) HM4.out.d HM4.out.f (by have:=HL4.out;omega)
     rw [show ((16:Nat):Int)=16 from rfl] at c4
     rw [HH5.out] at c4
     unfold eyV at c4
     go_wp2_with fail
     refine c4.mono ?_
     clear c4
     rintro r w5 hE
     rcases hE.cases with ⟨he,hk5,v5,rfl,hv5,hR5⟩ | ⟨he,hk5,rfl⟩
     ·subst he
      have HM5:=hide (HM4.out.call hk5 hR5)
      have HE5:=hide (HE4.out.low hk5 (fun k hk=>by have:=HM3.out.o k hk;have:=HZ4.out;omega))
      have HS5:=hide hv5
      have HZ5:=hide HM4.out.z
      obtain ⟨sa,sn,sc,rfl⟩:∃ ea en ec,v5=.slice ea en ec:=by obtain ⟨X,h,_⟩:=hv5;exact row_bare h
      have HL5:Hid (l5.length≤30000):=by show _≤_;have:=ls_less cdc_se se0 16 (by omega) HM4.out.d.oct HH5.out;have:=HL4.out;omega
      clear hE hk5 hR5 q4 hv5
      have q5:=HM5.out.e
      have c5:=eyKs_call w5 p F l5 1099511627776 (by omega) HM5.out.d HM5.out.f (by have:=HL5.out;omega)
      rw [show ((1099511627776:Nat):Int)=1099511627776 from rfl] at c5
      rw [HH6.out] at c5
      unfold eyV at c5
      go_wp2_with fail
      refine c5.mono ?_
      clear c5
      rintro r w6 hE
      rcases hE.cases with ⟨he,hk6,v6,rfl,hv6,hR6⟩ | ⟨he,hk6,rfl⟩
      ·subst he
       have HM6:=hide (HM5.out.call hk6 hR6)
       have HK6:=hide hv6
       have HKc:=hide hk6
       obtain ⟨ka,kn,kc,rfl⟩:=ko_bare hv6
       have HQ:Hid (q=(⟨al,sz,a,es,ss,cs⟩,(l6,0))):=(((((HC.out.2 (by trivial) _ _ _ HH2.out).2 (by trivial) _ _ _ HH3.out).2 (by trivial) _ _ _ HH4.out).2 (by trivial) _ _ _ HH5.out).2 (by trivial) _ _ _ HH6.out)
       have HOK:=hide (HIM.out _ _ HQ.out)
       clear hE hk6 hR6 q5 hv6 HC HIM HH1 HH2 HH3 HH4 HH5
       have HNc:Hid (cs.length=kn):=by
        obtain ⟨K,h1,_,h3⟩:=HK6.out
        show _=_
        rw [← h3,List.length_map];exact row_len h1
       have HCs:Hid (cs.length≤10000):=by
        show _≤_
        have h1:=cos_short HM5.out.d.oct HH6.out rfl
        have h2:=HL5.out
        omega
       go_wp2_with fail
       go_loopw [32] (fun iv wr=>IrI w p F w5 l6 w5.heap.size (.slice ka kn kc) cs kn iv wr) (fun iv _=>kn - (intOf iv).toNat)
       case atStart =>
        obtain ⟨K,h1,h2,h3⟩:=HK6.out
        exact ⟨0,rfl,Nat.zero_le _,⟨K,h1,h2,h3⟩,HM6,HKc⟩
       case round =>
        obtain ⟨j,rfl,hj,HKj,HMj,HKj2⟩:=hrel
        by_cases hlt:j < kn
        ·have hlt':(j:Int) < kn:=by omega
         obtain ⟨K,hK1,hK2,hK3⟩:=HKj.out
         obtain ⟨g,r0,rfl,hg,hnc,hcm,n0,f0,hset⟩:=rowK_set hK1 hK2 hlt
         unfold maxLen at hcm
         have HSet:=hide hset
         have HK3:=hide hK3
         have HG:Hid (w5.heap.size≤g):=hg
         clear hset hK1 hK2 hK3 hg
         go_upto_region 11 with fail
         obtain ⟨Wj,hWj⟩:∃ Wj,Wj=wr.setCell ⟨g,j*4,none⟩ (.int .i64 ((j:Int)+1)):=⟨_,rfl⟩
         rw [← hWj]
         obtain ⟨s1,s2,s3⟩:=HSet.out Wj hWj
         have HKn:Hid (∃ K,RowK w5.heap.size Wj (.slice (some ⟨g,0,none⟩) kn kc) K∧OwnK w5.heap.size Wj K∧K.map Prod.fst=revs (j+1) cs):=⟨_,s1,s2,by rw [modA_map (rvK j) (rvC j) Prod.fst (fun _=>rfl),HK3.out];rfl⟩
         have HMn:Hid (Em w p F Wj l6):=HMj.out.hi s3 (fun b hb=>by simp at hb;subst hb;have:=HM5.out.z;have:=HG.out;omega)
         have HKm:Hid (Kept (p :: F) w5 Wj):=HKj2.out.trans s3 (fun i hi=>.inr (by simp at hi;subst hi;exact HG.out))
         clear s1 s2 s3 n0 f0 hWj
         go_wp2_with fail
         go_roundw
         case rel=>exact ⟨j+1,by go_num,by omega,HKn,HMn,HKm⟩
         case measure=>simp [intOf];omega
        ·have hlt':¬ (j:Int) < kn:=by omega
         have hjn:j=cs.length:=by have:=HNc.out;omega
         subst hjn
         have HEf:=hide ((HE5.out.low HKj2.out (fun k hk=>by have:=HM3.out.o k hk;have:=HZ4.out;omega)))
         have HSf:=hide (HS5.out.low HKj2.out (fun k hk=>by have:=HM3.out.o k hk;have:=HZ5.out;omega))
         obtain ⟨ea',ec',EX,hev,hES,hEm⟩:=lsE_sl HEf.out
         obtain ⟨sa',sc',SX,hsv,hSS,hSm⟩:=lsS_sl HSf.out
         obtain ⟨ka',kc',KX,hkv,hKS,hKm⟩:=koO_sl HKj.out
         cases hev;cases hsv;cases hkv
         have HKf:Hid (Kept (p :: F) w wr):=HMj.out.k
         have qe:=HMj.out.e
         have cE:=end_call wr p F l6 0 HMj.out.d
         rw [if_pos rfl] at cE
         have hokS:∀ x∈SX.map Prod.fst,okS x:=by rw [hSm];exact fun x hx=>okSI (HOK.out.2.2.2.2.1.2 x hx)
         have hsmC:∀ x∈KX,SmallC x.1:=fun x hx=>by
          have h1:x.1∈revs cs.length cs:=by rw [← hKm];exact List.mem_map_of_mem hx
          obtain ⟨y,hy,e1,e2,_⟩:=revs_mem h1
          have h2:=okCI (HOK.out.2.2.2.2.2.2 y hy)
          unfold SmallC at h2 ⊢
          rw [e1,e2];exact h2
         have hE16:EX.length≤1000:=by have h1:=HOK.out.2.2.2.1.1;rw [← hEm,List.length_map] at h1;omega
         have hK16:KX.length≤10000:=by have h1:=congrArg List.length hKm;rw [List.length_map,revs_length] at h1;have h2:=HCs.out;omega
         have cM:=make_call wr [] (by simp) al sz a _ _ _ EX hES hE16 _ _ _ SX hSS hokS _ _ _ KX hKS hK16 hsmC
         rw [hEm,hSm,hKm] at cM
         clear hES hSS hKS hokS hsmC hE16 hK16 HEf HSf HE4 HE5 HS5 HK6
         by_cases hl6:l6=[]
         ·subst hl6
          rw [if_pos (by rfl)] at cE
          have cO:=must_ok wr
          go_wp2_with fail
          refine cE.mono ?_
          rintro _ _ ⟨rfl,rfl⟩
          go_wp2_with fail
          refine cO.mono ?_
          rintro _ Wx ⟨rfl,hWx⟩
          obtain rfl:=hWx.symm
          clear cE cO hWx
          go_wp2_with fail
          refine cM.mono ?_
          clear cM
          rintro r w10 hM
          rcases hM with ⟨n,hn,rfl,hk⟩ | ⟨M,hM,b,u,G,rfl,hLv,hG⟩
          ·have hn0:=mkM_err hn
           have HB:=hide (must_bad w10 n hn0)
           have HN:=hide hn
           have HN0:=hide hn0
           have HKz:=hide (HKf.out.trans hk (by simp))
           clear hn hn0 hk
           go_wp2_with fail
           refine HB.out.mono ?_
           rintro _ _ ⟨rfl,rfl⟩
           unfold pncE
           go_wp2_with fail
           refine ⟨rfl,?_⟩
           rw [HQ.out]
           exact ⟨HKz.out,.inr (.inr ⟨rfl,rfl,.inl ⟨n,HN.out,HN0.out,rfl⟩⟩)⟩
          ·have cO:=must_ok w10
           have HLv:=hide hLv
           have HM:=hide hM
           have HKz:=hide (HKf.out.trans hLv.keeps (by simp))
           clear hLv hM hG
           go_wp2_with fail
           refine cO.mono ?_
           rintro _ _ ⟨rfl,rfl⟩
           go_wp2_with fail
           go_ret
           rw [HQ.out]
           exact ⟨HKz.out,.inr (.inr ⟨rfl,rfl,.inr ⟨M,wr,b,u,G,HM.out,HKf.out,HLv.out,rfl⟩⟩)⟩
         ·have hl0:l6.length≠0:=fun h=>hl6 (List.eq_nil_of_length_eq_zero h)
          rw [if_neg hl0] at cE
          have cB:=must_bad wr 3 (by decide)
          clear hl0 cM
          have HL6:=hide hl6
          clear hl6
          go_wp2_with fail
          refine cE.mono ?_
          rintro _ _ ⟨rfl,rfl⟩
          go_wp2_with fail
          refine cB.mono ?_
          rintro _ _ ⟨rfl,rfl⟩
          unfold pncE
          go_wp2_with fail
          refine ⟨rfl,?_⟩
          rw [HQ.out]
          exact ⟨HKf.out,.inr (.inl ⟨rfl,HL6.out,rfl⟩)⟩
      ·have HQ:=hide (((((HC.out.2 (by trivial) _ _ _ HH2.out).2 (by trivial) _ _ _ HH3.out).2 (by trivial) _ _ _ HH4.out).2 (by trivial) _ _ _ HH5.out).2 (by trivial) _ _ _ HH6.out)
       have HKf:=hide (HM5.out.k.trans hk6 (fun i hi=>.inl hi))
       unfold pncE
       go_wp2_with fail
       refine ⟨rfl,?_⟩
       exact EymP.bad (by rw [HQ.out]) he HKf.out
     ·have HQ:=hide (((((HC.out.2 (by trivial) _ _ _ HH2.out).2 (by trivial) _ _ _ HH3.out).2 (by trivial) _ _ _ HH4.out).2 (by trivial) _ _ _ HH5.out).1 he)
      have HKf:=hide (HM4.out.k.trans hk5 (fun i hi=>.inl hi))
      unfold pncE
      go_wp2_with fail
      refine ⟨rfl,?_⟩
      exact EymP.bad HQ.out he HKf.out
    ·have HQ:=hide ((((HC.out.2 (by trivial) _ _ _ HH2.out).2 (by trivial) _ _ _ HH3.out).2 (by trivial) _ _ _ HH4.out).1 he)
     have HKf:=hide (HM3.out.k.trans hk4 (fun i hi=>.inl hi))
     unfold pncE
     go_wp2_with fail
     refine ⟨rfl,?_⟩
     exact EymP.bad HQ.out he HKf.out
   ·have HQ:=hide (((HC.out.2 (by trivial) _ _ _ HH2.out).2 (by trivial) _ _ _ HH3.out).1 he)
    have HKf:=hide (HM2.out.k.trans hk3 (fun i hi=>.inl hi))
    unfold pncE
    go_wp2_with fail
    refine ⟨rfl,?_⟩
    exact EymP.bad HQ.out he HKf.out
  ·have HQ:=hide ((HC.out.2 (by trivial) _ _ _ HH2.out).1 he)
   have HKf:=hide (HM1.out.k.trans hk2 (fun i hi=>.inl hi))
   unfold pncE
   go_wp2_with fail
   refine ⟨rfl,?_⟩
   exact EymP.bad HQ.out he HKf.out
 ·have HQ:=hide (HC.out.1 he)
  have HKf:=hide (HM0.out.k.trans hk1 (fun i hi=>.inl hi))
  unfold pncE
  go_wp2_with fail
  refine ⟨rfl,?_⟩
  exact EymP.bad HQ.out he HKf.out
end Go.Proofs.YtddhmfildfdbdaaGreat
