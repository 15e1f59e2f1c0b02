/-
  MsgKnown: the walk.
-/
import Derived.Test.YtakafmejllilnaaGreatMgAwk
import Derived.Test.YtakafmejllilnaaGreatF5
namespace Go.Proofs.YtakafmejllilnaaGreat
open Go.RowKit
def mS:Mm:={ mm0 with k:=5,f:=1,t:=2,s:=1 }
def mF:Mm:={ mm0 with k:=5,f:=99,t:=2 }
theorem known_nack:(encM mN.ms).2=0∧(encM mN.ms).1.length=17∧(decM ((encM mN.ms).1.take 11)).2=2∧(decM ((encM mN.ms).1++[0])).2=3:=by decide +kernel
theorem known_S:encM mS.ms=([],1):=by decide +kernel
theorem known_F:encM mF.ms=([],1):=by decide +kernel
set_option linter.unusedSimpArgs false in
set_option maxHeartbeats 8000000 in
set_option maxRecDepth 100000 in
theorem known_walk (w:World):Calls Tryz.prog 3 #[] w fun r w'=>r=.returned (.bool true)∧Kept [] w w':=by
 have cA:=hide (awake_call w)
 obtain ⟨h1,h2,h3,h4⟩:=known_nack
 have ho:=encM_oct mN.ms (hyH w 5 1 2 300 0 0 0).ms
 have hE0:=fun W=>encM_call W mN (hyH W 5 1 2 300 0 0 0)
 generalize encM mN.ms=q at *
 obtain ⟨B,e⟩:=q
 simp only at h1 h2 h3 h4 ho
 subst h1
 have HO:=hide ho
 have HB:=hide h2
 have HC:=hide h3
 have HD:=hide h4
 have HE:Hid (∀ W,Calls Tryz.prog 10 #[.agg (msC mN).toArray] W (EncP W (B,0))):=hE0
 have HS:Hid (∀ W,Calls Tryz.prog 10 #[.agg (msC mS).toArray] W (EncP W ([],1))):=fun W=>by have h:=encM_call W mS (hyH W 5 1 2 0 1 0 0);rw [known_S] at h;exact h
 have HF:Hid (∀ W,Calls Tryz.prog 10 #[.agg (msC mF).toArray] W (EncP W ([],1))):=fun W=>by have h:=encM_call W mF (hyH W 5 99 2 0 0 0 0);rw [known_F] at h;exact h
 clear h2 h3 h4 hE0 ho
 unfold mN mm0 rm0 vt0 msC at HE
 unfold mS mm0 rm0 vt0 msC at HS
 unfold mF mm0 rm0 vt0 msC at HF
 go_enter Tryz.func3,Tryz.ntmps3
 go_wp2_with fail
 refine cA.out.mono ?_
 clear cA
 rintro _ w0 ⟨rfl,hk0⟩
 have HK0:=hide hk0
 clear hk0
 go_wp2_with fail
 refine (HE.out _).mono ?_
 clear HE
 rintro _ w1 ⟨a1,c1,rfl,hS1,hb1,hk1⟩
 have hS1':Sl w1 a1 17 c1 B:=by rw [← HB.out];exact hS1
 obtain ⟨b1,o1,rfl,_⟩:=hS1'.some (by decide)
 rw [show (B,(0:Int)).1.length=17 from HB.out]
 have HS1:=hide hS1'
 have HK1:=hide (HK0.out.trans hk1 (by simp))
 have hc1:17≤c1:=hS1'.2.1
 have hc11:(11:Int)≤(c1:Int):=by omega
 clear hS1 hS1' hb1 hk1
 have cD:=hide (decM_call w1 _ 11 c1 (B.take 11) (HS1.out.take (by decide)) (by omega) (HO.out.take _))
 go_wp2_with fail
 refine cD.out.mono ?_
 clear cD
 rintro _ w2 ⟨y2,rfl,_,_,hk2⟩
 rw [HC.out]
 have HS2:=hide (Sl.kept hk2 HS1.out (by simp))
 have HK2:=hide (HK1.out.trans hk2 (by simp))
 clear hk2
 have HBy2:Hid (Bx (w2.alloc (.cells zmsg.toArray 36)) w2.heap.size 36 zmsg):=Bx.new w2 _ _
 have HKy2:Hid (Kept [] w2 (w2.alloc (.cells zmsg.toArray 36))):=lay1 w2 _ zmsg
 have HTY2:Hid (RowT Tryz.prog 36 (msC y2).length):=rowT_msg
 have HOY2:=hide (one_msC y2)
 have HLY2:Hid ((msC y2).length=zmsg.length):=rfl
 unfold zmsg at HBy2 HKy2
 go_upto_region 5 with ((refine wl_store_bx HBy2.out ?_ HOY2.out HTY2.out ?_ ?_ ?_);exact HLY2.out;rfl;rfl;intro w3 HB3 HK3)
 have HKW:=hide (HK2.out.trans (HKy2.out.trans HK3.out (S:=[]) (by simp)) (by simp))
 have HS3:=hide (Sl.kept (HKy2.out.trans HK3.out (S:=[]) (by simp)) HS2.out (by simp))
 have cC:=hide (copy_call w3 _ 17 c1 B HS3.out (by decide))
 clear HBy2 HKy2 HTY2 HOY2 HLY2 HB3
 go_wp2_with fail
 refine cC.out.mono ?_
 clear cC
 rintro _ w4 ⟨v4,rfl,hO4,hf4,hk4⟩
 have HK4:=hide (HKW.out.trans hk4 (by simp))
 have k5:Kept [] w4 (w4.alloc (.cells #[.int .u8 0] 5)):=(Kept.refl _ _).alloc _
 have HO5:Hid (Own (w4.alloc (.cells #[.int .u8 0] 5)) v4 B):=hide (k5.ownsRow hO4 (by simp))
 have HL5:Hid (Sl (w4.alloc (.cells #[.int .u8 0] 5)) (some ⟨w4.heap.size,0,none⟩) 1 1 [0]):=Sl.lit rfl rfl (by decide)
 have HK5:=hide k5
 have HF4:=hide hf4
 have hz4:=HKW.out.size
 clear hO4 hf4 hk4 k5
 go_wp2_with (at_builtin;refine wp_app rfl _ _ rfl v4 B rfl HO5.out (some ⟨w4.heap.size,0,none⟩) 1 1 [0] rfl HL5.out ?hlen ?_)
 case hlen=>have:=HB.out;simp;omega
 intro v5 w5 hO5 _ hk5
 have HK6:=hide ((HK4.out.trans HK5.out (by simp)).trans hk5 (fun i hi=>.inr (by have:=HF4.out i (by simpa using hi);have:=hz4;omega)))
 obtain ⟨a5,n5,c5,rfl,hs5,_⟩:=own_sl hO5
 have hn5:=hs5.1
 have hn5':n5=18:=by rw [← hn5,List.length_append,HB.out];rfl
 have cD:=hide (decM_call w5 a5 n5 c5 (B++[0]) hs5 (by omega) (HO.out.append (by intro x hx;simp at hx;subst hx;decide)))
 clear hO5 hk5 hs5 hn5 HO5 HL5 HK5 HF4 hz4 hn5'
 go_wp2_with fail
 refine cD.out.mono ?_
 clear cD
 rintro _ w6 ⟨y6,rfl,_,_,hk6⟩
 rw [HD.out]
 have HK7:=hide (HK6.out.trans hk6 (by simp))
 clear hk6
 have HBy6:Hid (Bx (w6.alloc (.cells zmsg.toArray 36)) w6.heap.size 36 zmsg):=Bx.new w6 _ _
 have HKy6:Hid (Kept [] w6 (w6.alloc (.cells zmsg.toArray 36))):=lay1 w6 _ zmsg
 have HTY6:Hid (RowT Tryz.prog 36 (msC y6).length):=rowT_msg
 have HOY6:=hide (one_msC y6)
 have HLY6:Hid ((msC y6).length=zmsg.length):=rfl
 unfold zmsg at HBy6 HKy6
 go_upto_region 6 with ((refine wl_store_bx HBy6.out ?_ HOY6.out HTY6.out ?_ ?_ ?_);exact HLY6.out;rfl;rfl;intro w7 HB7 HK7s)
 have HK8:=hide (HK7.out.trans (HKy6.out.trans HK7s.out (S:=[]) (by simp)) (by simp))
 clear HBy6 HKy6 HTY6 HOY6 HLY6 HB7
 go_wp2_with fail
 refine (HS.out _).mono ?_
 clear HS
 rintro _ w8 ⟨a8,c8,rfl,_,_,hk8⟩
 have HK9:=hide (HK8.out.trans hk8 (by simp))
 clear hk8
 go_wp2_with fail
 refine (HF.out _).mono ?_
 clear HF
 rintro _ w9 ⟨a9,c9,rfl,_,_,hk9⟩
 have HK10:=hide (HK9.out.trans hk9 (by simp))
 clear hk9
 go_wp2_with fail
 go_ret
 exact ⟨rfl,HK10.out⟩
end Go.Proofs.YtakafmejllilnaaGreat
