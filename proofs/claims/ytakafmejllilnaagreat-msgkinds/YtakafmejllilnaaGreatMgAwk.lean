/-
  awake: a message is written and read.
-/
import Derived.Test.YtakafmejllilnaaGreatH2
import Derived.Test.YtakafmejllilnaaGreatTornP
namespace Go.Proofs.YtakafmejllilnaaGreat
open Go.RowKit
def mN:Mm:={ mm0 with k:=5,f:=1,t:=2,b:=300 }
theorem hyH (w:World) (k f t b s m n:Int):MsHy w { mm0 with k:=k,f:=f,t:=t,b:=b,s:=s,m:=m,n:=n } :=
 ⟨(hy0 w).x,(hy0 w).v,(hy0 w).i,(hy0 w).o,(hy0 w).r,(hy0 w).u,(hy0 w).uv,(hy0 w).ur⟩
def nackL:List Int:=[0,0,0,5,0,0,0,0]
theorem enc_nack:(encM mN.ms).2=0∧(encM mN.ms).1.length=17∧(((encM mN.ms).1.take 13).drop 8)=[5,1,2,172,2]∧decM (encM mN.ms).1=(mN.ms,0):=by decide +kernel
theorem encM_oct (x:Ms) (h:MsU x):Oct (encM x).1:=by
 unfold encM
 split
 ·split
  ·exact frameOf_oct (oct_bM (okMs_form ((okMsB_iff h).1 (by assumption))))
  ·exact oct_nil
 ·exact oct_nil
set_option linter.unusedSimpArgs false in
set_option maxHeartbeats 8000000 in
set_option maxRecDepth 100000 in
theorem awake_call (w:World):Calls Tryz.prog 9 #[] w fun r w'=>r=.returned (.bool true)∧Kept [] w w':=by
 have cE:=encM_call w mN (hyH w 5 1 2 300 0 0 0)
 have HO:=hide (encM_oct mN.ms (hyH w 5 1 2 300 0 0 0).ms)
 obtain ⟨h1,h2,h3,h4⟩:=enc_nack
 generalize encM mN.ms=q at *
 obtain ⟨B,e⟩:=q
 simp only at h1 h2 h3 h4 HO
 subst h1
 have HB:=hide h2
 have HC:=hide h3
 have HD:=hide h4
 have HE:Hid (Calls Tryz.prog 10 #[.agg (msC mN).toArray] w (EncP w (B,0))):=cE
 clear h2 h3 h4 cE
 unfold mN mm0 rm0 vt0 msC at HE
 go_enter Tryz.func9,Tryz.ntmps9
 go_wp2_with fail
 refine HE.out.mono ?_
 clear HE
 rintro _ w1 ⟨a1,c1,rfl,hS1,hb1,hk1⟩
 have hS1':Sl w1 a1 17 c1 B:=by rw [← HB.out];exact hS1
 obtain ⟨b1,o1,rfl,_⟩:=hS1'.some (by decide)
 rw [show (B,(0:Int)).1.length=17 from HB.out]
 have HS1:=hide hS1'
 have HK1:=hide hk1
 have hc1:17≤c1:=hS1'.2.1
 have hc13:(13:Int)≤(c1:Int):=by omega
 have hc8:¬ c1=8:=by omega
 clear hS1 hS1' hb1 hk1
 have cD:=hide (decM_call w1 _ _ c1 B HS1.out (by omega) HO.out)
 rw [HD.out] at cD
 go_wp2_with fail
 refine cD.out.mono ?_
 clear cD
 rintro _ w2 ⟨y,rfl,hy,hm,hk2⟩
 have HS2:=hide (Sl.kept hk2 HS1.out (by simp))
 have HK2:=hide (HK1.out.trans hk2 (by simp))
 have hyb:y.b=300:=congrArg Ms.b hy
 have HYB:=hide hyb
 clear hy hm hk2 hyb
 have HBy:Hid (Bx (w2.alloc (.cells zmsg.toArray 36)) w2.heap.size 36 zmsg):=Bx.new w2 _ _
 have HKy:Hid (Kept [] w2 (w2.alloc (.cells zmsg.toArray 36))):=lay1 w2 _ zmsg
 have HTY:Hid (RowT Tryz.prog 36 (msC y).length):=rowT_msg
 have HOY:=hide (one_msC y)
 have HLY:Hid ((msC y).length=zmsg.length):=rfl
 unfold zmsg at HBy HKy
 go_upto_region 3 with ((refine wl_store_bx HBy.out ?_ HOY.out HTY.out ?_ ?_ ?_);exact HLY.out;rfl;rfl;intro w3 HB3 HK3)
 have d3:=HB3.out.cell 3 rfl
 rw [HYB.out] at d3
 have HKW:=hide (HK2.out.trans (HKy.out.trans HK3.out (S:=[]) (by simp)) (by simp))
 have HS3:=hide (Sl.kept (HKy.out.trans HK3.out (S:=[]) (by simp)) HS2.out (by simp))
 go_wp2_with fail
 obtain ⟨w4,hw4⟩:∃ w4,w4=w3.alloc (.cells #[.int .u8 5,.int .u8 1,.int .u8 2,.int .u8 172,.int .u8 2] 5):=⟨_,rfl⟩
 have k4:Kept [] w3 w4:=by rw [hw4];exact (Kept.refl _ _).alloc _
 have h6:Sl w4 (some ⟨w3.heap.size,0,none⟩) 5 5 [5,1,2,172,2]:=by rw [hw4];exact Sl.lit rfl rfl (by decide)
 have h5:Sl w4 (some ⟨b1,o1+8,none⟩) 5 (c1 - 8) ((B.take 13).drop 8):=by
  have h:=((Sl.kept k4 HS3.out (by simp)).take (show 13≤17 by decide)).drop (show 8≤13 by decide)
  rw [Option.map_some,adr_addC] at h
  exact h
 have cS:=bsame_call w4 _ _ _ _ _ _ _ _ h5 h6
 rw [HC.out,decide_eq_true rfl] at cS
 rw [← hw4]
 have d4:=k4.cell d3 (by simp)
 have HK4:=hide (HKW.out.trans k4 (by simp))
 have HSC:=hide cS
 clear hw4 k4 h5 h6 cS d3
 refine HSC.out.mono ?_
 clear HSC
 rintro _ w5 ⟨rfl,hk5⟩
 have d5:=hk5.cell d4 (by simp)
 have HK5:=hide (HK4.out.trans hk5 (by simp))
 clear hk5 d4
 go_wp2_with fail
 go_ret
 exact ⟨rfl,HK5.out⟩
end Go.Proofs.YtakafmejllilnaaGreat
