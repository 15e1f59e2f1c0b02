/-
  Texts of this claim that are laid as one: MgBaO, MgAwk, MgSml, MgSame, MgBaW, MgArgs.
-/
import Derived.Test.YtakafmejllilnaaGreatH3
import Derived.Test.YtakafmejllilnaaGreatTornP
import Derived.Test.YtakafmejllilnaaGreatF3
import Derived.Test.YtakafmejllilnaaGreatH2
import Derived.Test.YtakafmejllilnaaGreatMgMem
import Derived.Test.YtakafmejllilnaaGreatF16
import Derived.Test.YtakafmejllilnaaGreatEnSmB
import Derived.Test.YtakafmejllilnaaGreatF14
import Derived.Test.YtakafmejllilnaaGreatF2
import Derived.Deep.RegionHeld3
import Derived.Test.YtakafmejllilnaaGreatF15
import Derived.Test.YtakafmejllilnaaGreatF5
/-
  Encode, where it goes well: the bytes are owned.
-/
namespace Go.Proofs.YtakafmejllilnaaGreat
open Go.RowKit
def MadeO (w:World) (a:Option Addr) (n c:Nat) (L:List Int) (w':World):Prop :=
 Own w' (.slice a n c) L∧(∀ k∈blk a,w.heap.size≤k)∧Kept [] w w'
set_option maxHeartbeats 1000000 in
theorem frameO_call (w:World) (ao:Option Addr) (n c:Nat) (l:List Int) (hs:Sl w ao n c l) (ho:Oct l) (hbig:l.length≤1048576) :
 Calls Tryz.prog 22 #[.slice ao n c] w fun r w'=>∃ a n' c',r=.returned (.tuple #[.slice a n' c',.int .i64 0])∧MadeO w a n' c' (frameOf l) w':=by
 have hn:=hs.1
 subst hn
 have hm:=hs.2.2.1
 have hc:=hs.2.1
 unfold maxLen at hm
 have HS:Hid (Sl w ao l.length c l):=hs
 clear hs
 have hb2:¬ (1048576:Int) < (l.length:Int):=by omega
 go_enter Tryz.func22,Tryz.ntmps22
 go_wp2_with fail
 refine (appendHigh_any _ _ [] _ 4 (World.ownsRow_nil _ _ _ _) (by omega) (by simp)).mono ?_
 rintro _ w1 ⟨v1,rfl,hO1,hf1,hk1⟩
 simp only [List.nil_append] at hO1
 obtain ⟨a1,n1,c1,rfl,hs1,hb1⟩:=Sl.of_owns' hO1
 have hk1':Kept [] w w1:=hk1
 clear hk1
 go_wp2_with fail
 refine (appendSummed_any _ _ [] _ _ _ _ (World.ownsRow_nil _ _ _ _) hs1 (hiB_oct _ _) (by intro _ k _ h;cases h) (by simp) (by have:=hs1.1;rw [hiB_length] at this;omega)).mono ?_
 rintro _ w2 ⟨v2,rfl,hO2,hf2,hk2⟩
 have hk2':Kept [] w1 w2:=hk2
 simp only [List.nil_append] at hO2
 have hs2:Sl w2 ao l.length c l:=Sl.kept (hk1'.trans hk2' (by simp)) HS.out (by simp)
 clear hk2
 have hdis:0 < l.length→∀ k∈blk ao,v2.ownBlock≠some k:=by
  intro h0 k hk h
  have h2:=HS.out.lt h0 k hk
  rcases hf2 k h with h3 | h3
  ·cases h3
  ·have:=hk1'.size;omega
 go_wp2_with fail
 refine (appendSummed_any _ _ _ _ _ _ _ hO2 hs2 ho hdis (by simp [hiB_length]) (by omega)).mono ?_
 rintro _ w3 ⟨v3,rfl,hO3,hf3,hk3⟩
 obtain ⟨a3,n3,c3,rfl,hs3,hb3⟩:=Sl.of_owns' hO3
 have hK2:Kept [] w w2:=hk1'.trans hk2' (by simp)
 have hfresh:∀ k,v2.ownBlock=some k→w.heap.size≤k:=by
  intro k hk
  rcases hf2 k hk with h3 | h3
  ·cases h3
  ·have:=hk1'.size;omega
 have HM:Hid (MadeO w a3 n3 c3 (frameOf l) w3):=by
  refine ⟨hO3,fun k hk=>?_,hK2.trans hk3 (fun i hi=>.inr (hfresh i (by simpa using hi)))⟩
  have h4:=hb3 k hk
  rcases hf3 k h4.2.2 with h5 | h5
  ·exact hfresh k h5
  ·have:=hK2.size;omega
 clear hO1 hO2 hO3 hs1 hs3 hb3 hf3 hk3
 go_wp2
 go_ret2
 exact ⟨a3,n3,c3,rfl,HM.out⟩
set_option maxHeartbeats 4000000 in
set_option maxRecDepth 100000 in
theorem encO_call (w:World) (y:Mm) (hx:MsHy w y) (hm:okMsB y.ms=true) (hl:(bM y.ms).length≤1048576) :
 Calls Tryz.prog 10 #[.agg (msC y).toArray] w fun r w'=>∃ a n c,r=.returned (.tuple #[.slice a n c,.int .i64 0])∧MadeO w a n c (frameOf (bM y.ms)) w':=by
 obtain ⟨W,hW⟩:∃ W,W=w.alloc (.cells (msC y).toArray 36):=⟨_,rfl⟩
 have hK:Kept [] w W:=by rw [hW];exact (Kept.refl _ _).alloc _
 have HK:=hide hK
 have HB:Hid (Bx W w.heap.size 36 (msC y)):=by rw [hW];exact Bx.new w _ _
 have HT:Hid (RowT Tryz.prog 36 (msC y).length):=rowT_msg
 have hXW:=hx.kept hK
 have HX:=hide hXW
 have cC:=check_call W y hXW
 have hcm:=chk_okB hx
 rw [hcm,hm] at cC
 unfold msC at hW
 have HW:=hide hW
 have hok:=(okMsB_iff hx.ms).1 hm
 have HOC:=hide (oct_bM (okMs_form hok))
 have HWK:=hide (wok_of hx hok)
 have HL:=hide hl
 have HC:=hide cC
 clear hW hK hcm cC hXW hx hm hok hl
 unfold msC
 go_enter Tryz.func10,Tryz.ntmps10
 go_upto_region 1 with fail
 rw [← HW.out]
 go_upto_region 4 with (first | ((with_reducible refine wl_load_bx HB.out HT.out ?_ ?_);rfl) | (go_at_call 16;refine HC.out.mono ?_;rintro _ w1 ⟨rfl,hk1⟩;have HK1:=hide (HK.out.trans hk1 (by simp));have HB1:=hide (HB.out.kept hk1 (by simp));have HX1:=hide (HX.out.kept hk1);clear hk1))
 have cW:=hide (write_call w1 y HX1.out HWK.out)
 go_upto_region 7 with (first | ((with_reducible refine wl_load_bx HB1.out HT.out ?_ ?_);rfl) | (go_at_call 21;refine cW.out.mono ?_;rintro _ w2 ⟨a2,c2,rfl,hS2,hb2,hk2⟩;have HS2:=hide hS2;have HK2:=hide (HK1.out.trans hk2 (by simp));clear hS2 hb2 hk2))
 have cF:=hide (frameO_call w2 a2 _ c2 _ HS2.out HOC.out HL.out)
 go_wp2_with fail
 refine cF.out.mono ?_
 clear cF
 rintro _ w3 ⟨a3,n3,c3,rfl,hO3,hb3,hk3⟩
 have HM:Hid (MadeO w a3 n3 c3 (frameOf (bM y.ms)) w3):=⟨hO3,fun k hk=>Nat.le_trans HK2.out.size (hb3 k hk),HK2.out.trans hk3 (by simp)⟩
 clear hO3 hb3 hk3
 go_wp2_with fail
 go_ret2
 exact ⟨a3,n3,c3,rfl,HM.out⟩
end Go.Proofs.YtakafmejllilnaaGreat

/-
  awake: a message is written and read.
-/
namespace Go.Proofs.YtakafmejllilnaaGreat
open Go.RowKit
def mN:Mm:={ mm0 with k:=5,f:=1,t:=2,b:=300 }
theorem hyH (w:World) (k f t b s m n:Int):MsHy w { mm0 with k:=k,f:=f,t:=t,b:=b,s:=s,m:=m,n:=n } :=
 ⟨(hy0 w).x,(hy0 w).v,(hy0 w).i,(hy0 w).o,(hy0 w).r,(hy0 w).u,(hy0 w).uv,(hy0 w).ur⟩
def nackL:List Int:=[0,0,0,5,0,0,0,0]
theorem enc_nack:(encM mN.ms).2=0∧(encM mN.ms).1.length=17∧(((encM mN.ms).1.take 13).drop 8)=[5,1,2,172,2]∧decM (encM mN.ms).1=(mN.ms,0):=by decide +kernel
theorem encM_oct (x:Ms) (h:MsU x):Oct (encM x).1:=by
 unfold encM
 split
 ·split
  ·exact frameOf_oct (oct_bM (okMs_form ((okMsB_iff h).1 (by assumption))))
  ·exact oct_nil
 ·exact oct_nil
set_option linter.unusedSimpArgs false in
set_option maxHeartbeats 8000000 in
set_option maxRecDepth 100000 in
theorem awake_call (w:World):Calls Tryz.prog 9 #[] w fun r w'=>r=.returned (.bool true)∧Kept [] w w':=by
 have cE:=encM_call w mN (hyH w 5 1 2 300 0 0 0)
 have HO:=hide (encM_oct mN.ms (hyH w 5 1 2 300 0 0 0).ms)
 obtain ⟨h1,h2,h3,h4⟩:=enc_nack
 generalize encM mN.ms=q at *
 obtain ⟨B,e⟩:=q
 simp only at h1 h2 h3 h4 HO
 subst h1
 have HB:=hide h2
 have HC:=hide h3
 have HD:=hide h4
 have HE:Hid (Calls Tryz.prog 10 #[.agg (msC mN).toArray] w (EncP w (B,0))):=cE
 clear h2 h3 h4 cE
 unfold mN mm0 rm0 vt0 msC at HE
 go_enter Tryz.func9,Tryz.ntmps9
 go_wp2_with fail
 refine HE.out.mono ?_
 clear HE
 rintro _ w1 ⟨a1,c1,rfl,hS1,hb1,hk1⟩
 have hS1':Sl w1 a1 17 c1 B:=by rw [← HB.out];exact hS1
 obtain ⟨b1,o1,rfl,_⟩:=hS1'.some (by decide)
 rw [show (B,(0:Int)).1.length=17 from HB.out]
 have HS1:=hide hS1'
 have HK1:=hide hk1
 have hc1:17≤c1:=hS1'.2.1
 have hc13:(13:Int)≤(c1:Int):=by omega
 have hc8:¬ c1=8:=by omega
 clear hS1 hS1' hb1 hk1
 have cD:=hide (decM_call w1 _ _ c1 B HS1.out (by omega) HO.out)
 rw [HD.out] at cD
 go_wp2_with fail
 refine cD.out.mono ?_
 clear cD
 rintro _ w2 ⟨y,rfl,hy,hm,hk2⟩
 have HS2:=hide (Sl.kept hk2 HS1.out (by simp))
 have HK2:=hide (HK1.out.trans hk2 (by simp))
 have hyb:y.b=300:=congrArg Ms.b hy
 have HYB:=hide hyb
 clear hy hm hk2 hyb
 have HBy:Hid (Bx (w2.alloc (.cells zmsg.toArray 36)) w2.heap.size 36 zmsg):=Bx.new w2 _ _
 have HKy:Hid (Kept [] w2 (w2.alloc (.cells zmsg.toArray 36))):=lay1 w2 _ zmsg
 have HTY:Hid (RowT Tryz.prog 36 (msC y).length):=rowT_msg
 have HOY:=hide (one_msC y)
 have HLY:Hid ((msC y).length=zmsg.length):=rfl
 unfold zmsg at HBy HKy
 go_upto_region 3 with ((refine wl_store_bx HBy.out ?_ HOY.out HTY.out ?_ ?_ ?_);exact HLY.out;rfl;rfl;intro w3 HB3 HK3)
 have d3:=HB3.out.cell 3 rfl
 rw [HYB.out] at d3
 have HKW:=hide (HK2.out.trans (HKy.out.trans HK3.out (S:=[]) (by simp)) (by simp))
 have HS3:=hide (Sl.kept (HKy.out.trans HK3.out (S:=[]) (by simp)) HS2.out (by simp))
 go_wp2_with fail
 obtain ⟨w4,hw4⟩:∃ w4,w4=w3.alloc (.cells #[.int .u8 5,.int .u8 1,.int .u8 2,.int .u8 172,.int .u8 2] 5):=⟨_,rfl⟩
 have k4:Kept [] w3 w4:=by rw [hw4];exact (Kept.refl _ _).alloc _
 have h6:Sl w4 (some ⟨w3.heap.size,0,none⟩) 5 5 [5,1,2,172,2]:=by rw [hw4];exact Sl.lit rfl rfl (by decide)
 have h5:Sl w4 (some ⟨b1,o1+8,none⟩) 5 (c1 - 8) ((B.take 13).drop 8):=by
  have h:=((Sl.kept k4 HS3.out (by simp)).take (show 13≤17 by decide)).drop (show 8≤13 by decide)
  rw [Option.map_some,adr_addC] at h
  exact h
 have cS:=bsame_call w4 _ _ _ _ _ _ _ _ h5 h6
 rw [HC.out,decide_eq_true rfl] at cS
 rw [← hw4]
 have d4:=k4.cell d3 (by simp)
 have HK4:=hide (HKW.out.trans k4 (by simp))
 have HSC:=hide cS
 clear hw4 k4 h5 h6 cS d3
 refine HSC.out.mono ?_
 clear HSC
 rintro _ w5 ⟨rfl,hk5⟩
 have d5:=hk5.cell d4 (by simp)
 have HK5:=hide (HK4.out.trans hk5 (by simp))
 clear hk5 d4
 go_wp2_with fail
 go_ret
 exact ⟨rfl,HK5.out⟩
end Go.Proofs.YtakafmejllilnaaGreat

/-
  Small: has a message few and small parts? Whatever it says, it says, and changes nothing.
-/
namespace Go.Proofs.YtakafmejllilnaaGreat
open Go.RowKit
def SlI (n:Nat) (iv:Value):Prop:=∃ i:Nat,iv=.int .i64 (i:Int)∧i≤n
theorem koV_sm {w:World}{x:Vt}{u:Value}(h:VtHy [] w x u):KoV w u x.k:=by
 obtain ⟨uo,un,uc,KK,e,hK,hm⟩:=h.u
 exact ⟨uo,un,uc,KK,e,hK.sl,hm,hK.2.2.2.1⟩
set_option linter.unusedSimpArgs false in
set_option maxHeartbeats 8000000 in
set_option maxRecDepth 100000 in
theorem smallM_call (w:World) (y:Mm) (hy:MsHy w y):Calls Tryz.prog 13 #[.agg (msC y).toArray] w (SaB w):=by
 obtain ⟨W,hW⟩:∃ W,W=w.alloc (.cells (msC y).toArray 36):=⟨_,rfl⟩
 have hK:Kept [] w W:=by rw [hW];exact (Kept.refl _ _).alloc _
 have HK:=hide hK
 have HB:Hid (Bx W w.heap.size 36 (msC y)):=by rw [hW];exact Bx.new w _ _
 have HY:=hide (hy.kept hK)
 have HR1:=hide HB.out.msr
 have HTV:Hid (RowT Tryz.prog 34 (vtLE y.r (.slice y.uo y.un y.uc)).length):=rowT_ver
 have cV:Hid (Calls Tryz.prog 25 #[.agg (vtLE y.r (.slice y.uo y.un y.uc)).toArray] W (SaB W)):=smallV_call W y.r _ (koV_sm HY.out.r)
 have c12:=HB.out.cell 12 rfl
 have c17:=HB.out.cell 17 rfl
 have c18:=HB.out.cell 18 rfl
 have hmx:=HY.out.v.mx
 have hle:=HY.out.v.le
 unfold maxLen at hmx
 unfold msC at hW
 have HW:=hide hW
 clear hW hK hy
 obtain ⟨ao,hao⟩:∃ ao,ao=y.vo:=⟨_,rfl⟩
 have HV:Hid (SlV W ao y.D.length y.vc y.D):=by rw [hao];exact HY.out.v
 rw [← hao] at c17
 have HNO:Hid (∀ b wr,Kept [] w wr→SaB w (.returned (.bool b)) wr):=fun b wr h=>⟨b,rfl,h⟩
 clear hao
 unfold msC
 by_cases h1:200 < y.D.length
 ·have h1':(200:Int) < y.D.length:=by omega
  go_enter Tryz.func13,Tryz.ntmps13
  go_upto_region 1 with fail
  rw [← HW.out]
  go_wp2_with fail
  go_ret
  exact HNO.out _ _ HK.out
 have h1':¬ (200:Int) < y.D.length:=by omega
 by_cases h2:5000 < y.i.length
 ·have h2':(5000:Int) < y.i.length:=by omega
  go_enter Tryz.func13,Tryz.ntmps13
  go_upto_region 1 with fail
  rw [← HW.out]
  go_wp2_with fail
  go_ret
  exact HNO.out _ _ HK.out
 have h2':¬ (5000:Int) < y.i.length:=by omega
 by_cases h3:200 < y.x.m
 ·have h3':(200:Int) < y.x.m:=by omega
  go_enter Tryz.func13,Tryz.ntmps13
  go_upto_region 1 with fail
  rw [← HW.out]
  go_wp2_with fail
  go_ret
  exact HNO.out _ _ HK.out
 have h3':¬ (200:Int) < y.x.m:=by omega
 go_enter Tryz.func13,Tryz.ntmps13
 go_upto_region 1 with fail
 rw [← HW.out]
 go_wp2_with ((with_reducible refine wl_load_atg HR1.out HTV.out ?_ ?_ ?_);rfl;rfl)
 refine cV.out.mono ?_
 clear cV
 rintro _ w2 ⟨bb,rfl,hk2⟩
 have HK2:=hide (HK.out.trans hk2 (by simp))
 have HC:=hide (hk2.cell c17 (by simp))
 have HV2:=hide (HV.out.kept hk2)
 clear hk2 c12 c17 c18
 cases bb
 ·go_wp2_with fail
  go_ret
  exact HNO.out _ _ HK2.out
 ·have c17:=HC.out
  go_wp2_with fail
  go_loop [3] (fun iv=>SlI y.D.length iv) (fun iv=>y.D.length - (intOf iv).toNat)
  case atStart=>exact ⟨0,rfl,Nat.zero_le _⟩
  case round =>
   obtain ⟨i,rfl,hi⟩:=hrel
   by_cases hlt:i < y.D.length
   ·have hlt':(i:Int) < y.D.length:=by omega
    have hic:i≤y.vc:=by omega
    obtain ⟨b0,o0,hao,hel⟩:=HV2.out.e i hlt
    generalize y.D[i]=v at hel
    have c8:=hel 8 (.slice v.x.mo v.x.m v.x.mc) rfl
    rw [hao] at c17
    clear hel hao
    by_cases h4:200 < v.x.m
    ·have h4':(200:Int) < v.x.m:=by omega
     go_wp2_with fail
     go_ret
     exact HNO.out _ _ HK2.out
    ·have h4':¬ (200:Int) < v.x.m:=by omega
     go_wp2_with fail
     go_round
     case rel=>exact ⟨i+1,by go_num,by omega⟩
     case measure=>simp [intOf];omega
   ·have hlt':¬ (i:Int) < y.D.length:=by omega
    go_wp2_with fail
    go_ret
    exact HNO.out _ _ HK2.out
end Go.Proofs.YtakafmejllilnaaGreat

/-
  The document's own Same: two messages that are the same.
-/
namespace Go.Proofs.YtakafmejllilnaaGreat
open Go.RowKit
theorem neI {a b:Int}(h:a=b):(a != b)=false:=by rw [h];simp
theorem eqI {a b:Int}(h:a=b):(a==b)=true:=by rw [h];simp
theorem koV_hy {w:World}{x:Vt}{u:Value}(h:VtHy [] w x u):KoV w u x.k:=by
 obtain ⟨uo,un,uc,KK,e,hK,hm⟩:=h.u
 exact ⟨uo,un,uc,KK,e,hK.sl,hm,hK.2.2.2.1⟩
set_option maxHeartbeats 4000000 in
set_option maxRecDepth 100000 in
theorem sameVote_call (w:World) (y z:Vm) (hy:RqHy [] w y.x) (hz:RqHy [] w z.x) (h:y.v=z.v):Calls Tryz.prog 51 #[.agg (voC y).toArray,.agg (voC z).toArray] w fun r w'=>r=.returned (.bool true)∧Kept [] w w':=by
 have h1:y.s=z.s:=congrArg Vo.s h
 have h2:y.b=z.b:=congrArg Vo.b h
 have h3:y.x.r=z.x.r:=congrArg Vo.v h
 have e1:=eqI h1
 have e2:=eqI h2
 obtain ⟨W,hW⟩:∃ W,W=(w.alloc (.cells (voC y).toArray 55)).alloc (.cells (voC z).toArray 55):=⟨_,rfl⟩
 have k1:=lay1 w 55 (voC y)
 have k2:=lay1 (w.alloc (.cells (voC y).toArray 55)) 55 (voC z)
 have hB1:Bx W w.heap.size 55 (voC y):=by rw [hW];exact (Bx.new w _ _).kept k2 (by simp)
 have hB2:Bx W (w.heap.size+1) 55 (voC z):=by rw [hW];have h:=Bx.new (w.alloc (.cells (voC y).toArray 55)) 55 (voC z);simpa using h
 have HK:Hid (Kept [] w W):=by rw [hW];exact k1.trans k2 (by simp)
 have c0:=hB1.cell 0 rfl
 have c1:=hB1.cell 1 rfl
 have d0:=hB2.cell 0 rfl
 have d1:=hB2.cell 1 rfl
 have HX1:=hide hB1.vox
 have HX2:=hide hB2.vox
 have HT1:Hid (RowT Tryz.prog 29 (rqC y.x).length):=rowT_req
 have HT2:Hid (RowT Tryz.prog 29 (rqC z.x).length):=rowT_req
 have cS:Calls Tryz.prog 49 #[.agg (rqC y.x).toArray,.agg (rqC z.x).toArray] W fun e w'=>e=.returned (.bool (decide (y.x.r=z.x.r)))∧Kept [] W w':=rqdoc_call W y.x.r z.x.r _ _ _ _ _ _ (hy.kept HK.out).s (hz.kept HK.out).s
 rw [decide_eq_true h3] at cS
 have HS:=hide cS
 unfold voC at hW
 have HW:=hide hW
 clear hW k1 k2 hB1 hB2 cS h1 h2 h3 hy hz h
 unfold voC
 go_enter Tryz.func51,Tryz.ntmps51
 go_upto_region 1 with fail
 rw [← HW.out]
 go_wp2_with (first | ((with_reducible refine wl_load_atg HX1.out HT1.out ?_ ?_ ?_);rfl;rfl) | ((with_reducible refine wl_load_atg HX2.out HT2.out ?_ ?_ ?_);rfl;rfl) | (go_at_call 49;refine HS.out.mono ?_;rintro _ w2 ⟨rfl,hk2⟩;have HK2:=hide (HK.out.trans hk2 (by simp));clear hk2))
 go_ret
 exact ⟨rfl,HK2.out⟩
def SmI (W:World) (n:Nat) (jv:Value) (wr:World):Prop:=∃ j:Nat,jv=.int .i64 (j:Int)∧j≤n∧Hid (Kept [] W wr)
theorem size_voteS:(Tryz.prog.info? 55).map (·.size)=some 13:=by kernel_rfl
set_option linter.unusedSimpArgs false in
set_option maxHeartbeats 8000000 in
set_option maxRecDepth 100000 in
theorem msame_call (w:World) (y z:Mm) (hy:MsHy w y) (hz:MsHy w z) (h:y.ms=z.ms):Calls Tryz.prog 19 #[.agg (msC y).toArray,.agg (msC z).toArray] w fun r w'=>r=.returned (.bool true)∧Kept [] w w':=by
 have e1:=neI (show y.k=z.k from congrArg Ms.k h)
 have e2:=neI (show y.f=z.f from congrArg Ms.f h)
 have e3:=neI (show y.t=z.t from congrArg Ms.t h)
 have e4:=neI (show y.b=z.b from congrArg Ms.b h)
 have e5:=neI (show y.s=z.s from congrArg Ms.s h)
 have e6:=neI (show y.m=z.m from congrArg Ms.m h)
 have e7:=neI (show y.n=z.n from congrArg Ms.n h)
 have hl:y.D.map Vm.v=z.D.map Vm.v:=congrArg Ms.l h
 have hlen:y.D.length=z.D.length:=by have:=congrArg List.length hl;simpa using this
 have e8:=neI (show (y.D.length:Int)=z.D.length by omega)
 have hx:y.x.r=z.x.r:=congrArg Ms.v h
 have hi:y.i=z.i:=congrArg Ms.i h
 have hr:y.r=z.r:=congrArg Ms.r h
 obtain ⟨W,hW⟩:∃ W,W=(w.alloc (.cells (msC y).toArray 36)).alloc (.cells (msC z).toArray 36):=⟨_,rfl⟩
 have k1:=lay1 w 36 (msC y)
 have k2:=lay1 (w.alloc (.cells (msC y).toArray 36)) 36 (msC z)
 have hB1:Bx W w.heap.size 36 (msC y):=by rw [hW];exact (Bx.new w _ _).kept k2 (by simp)
 have hB2:Bx W (w.heap.size+1) 36 (msC z):=by rw [hW];have h:=Bx.new (w.alloc (.cells (msC y).toArray 36)) 36 (msC z);simpa using h
 have hK:Kept [] w W:=by rw [hW];exact k1.trans k2 (by simp)
 have HK:=hide hK
 have HB1:=hide hB1
 have HB2:=hide hB2
 have HX1:=hide hB1.msx
 have HX2:=hide hB2.msx
 have HT1:Hid (RowT Tryz.prog 29 (rqC y.x).length):=rowT_req
 have HT2:Hid (RowT Tryz.prog 29 (rqC z.x).length):=rowT_req
 have HV1:Hid (RowT Tryz.prog 34 (vtLE y.r (.slice y.uo y.un y.uc)).length):=rowT_ver
 have HV2:Hid (RowT Tryz.prog 34 (vtLE z.r (.slice z.uo z.un z.uc)).length):=rowT_ver
 have HY:=hide (hy.kept hK)
 have HZ:=hide (hz.kept hK)
 have cS:Calls Tryz.prog 49 #[.agg (rqC y.x).toArray,.agg (rqC z.x).toArray] W fun e w'=>e=.returned (.bool (decide (y.x.r=z.x.r)))∧Kept [] W w':=rqdoc_call W y.x.r z.x.r _ _ _ _ _ _ HY.out.x.s HZ.out.x.s
 rw [decide_eq_true hx] at cS
 have HS:=hide cS
 have HR:=hide hr
 have HI:=hide hi
 have HL:=hide hl
 have HLEN:=hide hlen
 have c0:=hB1.cell 0 rfl
 have c1:=hB1.cell 1 rfl
 have c2:=hB1.cell 2 rfl
 have c3:=hB1.cell 3 rfl
 have c4:=hB1.cell 4 rfl
 have c5:=hB1.cell 5 rfl
 have c19:=hB1.cell 19 rfl
 have c17:=hB1.cell 17 rfl
 have d0:=hB2.cell 0 rfl
 have d1:=hB2.cell 1 rfl
 have d2:=hB2.cell 2 rfl
 have d3:=hB2.cell 3 rfl
 have d4:=hB2.cell 4 rfl
 have d5:=hB2.cell 5 rfl
 have d19:=hB2.cell 19 rfl
 have d17:=hB2.cell 17 rfl
 unfold msC at hW
 have HW:=hide hW
 clear hW k1 k2 hB1 hB2 cS hx hi hr hl hlen hy hz h hK
 unfold msC
 go_enter Tryz.func19,Tryz.ntmps19
 go_upto_region 1 with fail
 rw [← HW.out]
 go_upto_region 3 with fail
 clear c0 c1 c2 c3 c4 c5 c19 d0 d1 d2 d3 d4 d5 d19 e1 e2 e3 e4 e5 e6 e7 e8
 go_wp2_with (first | ((with_reducible refine wl_load_at HX1.out HT1.out ?_ ?_);rfl) | ((with_reducible refine wl_load_at HX2.out HT2.out ?_ ?_);rfl))
 refine HS.out.mono ?_
 clear HS
 rintro _ w2 ⟨rfl,hk2⟩
 have HK2:=hide (HK.out.trans hk2 (by simp))
 have hY2:=HB1.out.kept hk2 (by simp)
 have hZ2:=HB2.out.kept hk2 (by simp)
 have HB12:=hide hY2
 have HB22:=hide hZ2
 have HR1:=hide hY2.msr
 have HR2:=hide hZ2.msr
 have HY2:=hide (HY.out.kept hk2)
 have HZ2:=hide (HZ.out.kept hk2)
 have cV:Calls Tryz.prog 50 #[.agg (vtLE y.r (.slice y.uo y.un y.uc)).toArray,.agg (vtLE z.r (.slice z.uo z.un z.uc)).toArray] w2 fun e w'=>e=.returned (.bool (decide (y.r=z.r)))∧Kept [] w2 w':=vtdoc_call w2 y.r z.r _ _ (koV_hy HY2.out.r) (koV_hy HZ2.out.r)
 rw [decide_eq_true HR.out] at cV
 have HV:=hide cV
 have d18:=hY2.cell 18 rfl
 have g18:=hZ2.cell 18 rfl
 clear cV hk2 hY2 hZ2 c17 d17
 go_wp2_with (first | ((with_reducible refine wl_load_atg HR1.out HV1.out ?_ ?_ ?_);rfl;rfl) | ((with_reducible refine wl_load_atg HR2.out HV2.out ?_ ?_ ?_);rfl;rfl))
 refine HV.out.mono ?_
 clear HV
 rintro _ w3 ⟨rfl,hk3⟩
 have HK3:=hide (HK2.out.trans hk3 (by simp))
 have hY3:=HB12.out.kept hk3 (by simp)
 have hZ3:=HB22.out.kept hk3 (by simp)
 have HY3:=hide (HY2.out.kept hk3)
 have HZ3:=hide (HZ2.out.kept hk3)
 have cB:=bsame_call w3 y.io z.io _ y.ic _ z.ic y.i z.i HY3.out.i HZ3.out.i
 rw [decide_eq_true HI.out] at cB
 have HBs:=hide cB
 have d18:=hY3.cell 18 rfl
 have g18:=hZ3.cell 18 rfl
 have HB13:=hide hY3
 have HB23:=hide hZ3
 clear cB hk3 hY3 hZ3
 go_wp2_with fail
 refine HBs.out.mono ?_
 clear HBs
 rintro _ w4 ⟨rfl,hk4⟩
 have HK4:=hide (HK3.out.trans hk4 (by simp))
 have HB14:=hide (HB13.out.kept hk4 (by simp))
 have HB24:=hide (HB23.out.kept hk4 (by simp))
 have HY4:=hide (HY3.out.kept hk4)
 have HZ4:=hide (HZ3.out.kept hk4)
 have hmx:=HY4.out.v.mx
 have hle:=HY4.out.v.le
 unfold maxLen at hmx
 have hle2:=HZ4.out.v.le
 clear hk4 d18 g18
 obtain ⟨ao,hao⟩:∃ ao,ao=y.vo:=⟨_,rfl⟩
 obtain ⟨bo,hbo⟩:∃ bo,bo=z.vo:=⟨_,rfl⟩
 have HVY:Hid (SlV w4 ao y.D.length y.vc y.D):=by rw [hao];exact HY4.out.v
 have HVZ:Hid (SlV w4 bo z.D.length z.vc z.D):=by rw [hbo];exact HZ4.out.v
 have HC1:Hid (w4.cell? ⟨w.heap.size,17,none⟩=some (.slice ao y.D.length y.vc)):=by rw [hao];exact HB14.out.cell 17 rfl
 have HC2:Hid (w4.cell? ⟨w.heap.size+1,17,none⟩=some (.slice bo z.D.length z.vc)):=by rw [hbo];exact HB24.out.cell 17 rfl
 clear hao hbo
 go_wp2_with fail
 go_loopw [5] (fun jv wr=>SmI w4 y.D.length jv wr) (fun jv _=>y.D.length - (intOf jv).toNat)
 case atStart=>exact ⟨0,rfl,Nat.zero_le _,Kept.refl _ _⟩
 case round =>
  obtain ⟨i,rfl,hi,HKi⟩:=hrel
  have c17:=HKi.out.cell HC1.out (by simp)
  have d17:=HKi.out.cell HC2.out (by simp)
  by_cases hlt:i < y.D.length
  rotate_left
  ·have hlt':¬ (i:Int) < y.D.length:=by omega
   go_wp2_with fail
   go_ret
   exact ⟨rfl,HK4.out.trans HKi.out (by simp)⟩
  ·have hlt':(i:Int) < y.D.length:=by omega
   have hltz:i < z.D.length:=by have:=HLEN.out;omega
   have hltz':(i:Int) < z.D.length:=by omega
   have hiy:i≤y.vc:=by omega
   have hiz:i≤z.vc:=by omega
   obtain ⟨b1,o1,h1,hel1⟩:=HVY.out.e i hlt
   obtain ⟨b2,o2,h2,hel2⟩:=HVZ.out.e i hltz
   have hv:y.D[i].v=z.D[i].v:=by
    have h3:=HL.out
    have h4:(y.D.map Vm.v)[i]?=(z.D.map Vm.v)[i]?:=by rw [h3]
    rw [List.getElem?_map,List.getElem?_map,List.getElem?_eq_getElem hlt,List.getElem?_eq_getElem hltz] at h4
    simpa using h4
   have cV:=sameVote_call wr.drew y.D[i] z.D[i] ((HVY.out.x _ (List.getElem_mem hlt)).kept (HKi.out.trans (Kept.refl [] wr).drew (by simp))) ((HVZ.out.x _ (List.getElem_mem hltz)).kept (HKi.out.trans (Kept.refl [] wr).drew (by simp))) hv
   have HV:=hide cV
   have HE1:=hide (range_kept hel1 HKi.out (by simp))
   have HE2:=hide (range_kept hel2 HKi.out (by simp))
   generalize y.D[i]=v1 at HV HE1
   generalize z.D[i]=v2 at HV HE2
   subst h1
   subst h2
   clear hel1 hel2 hv cV
   go_upto_region 8 with fail
   refine wp_region_held_drew (S:=fun w9=>w9.cell? ⟨w.heap.size,17,none⟩=some (.slice (some ⟨b1,o1,none⟩) y.D.length y.vc)∧w9.cell? ⟨w.heap.size+1,17,none⟩=some (.slice (some ⟨b2,o2,none⟩) z.D.length z.vc)∧w9.rangeAt b1 (o1+i*13) (voC v1)∧w9.rangeAt b2 (o2+i*13) (voC v2)) (by kernel_rfl) ⟨c17,d17,HE1.out,HE2.out⟩ (fun hHeld=>?_)
   refine tks [0,1,2,3] (by rfl) (by kernel_rfl) (fun _ _ _ _ _ h=>h) hHeld ?_
   iterate 4
    refine yk ?_ rfl (Or.inl ⟨by rfl,?_⟩) ?_
    rotate_left
    ·intro w9 hSw;obtain ⟨m0,m1,_⟩:=hSw;go_simp;(try with_reducible rfl)
    try simp only [sT,Act.put]
   refine yk0 ?_
   simp only [setK,sT]
   refine wpAnyH_take (i:=4) (v:=.agg (voC v1).toArray) rfl (by kernel_rfl) (by kernel_rfl) (by kernel_rfl) (fun _ _ _ h=>h) (yieldsIf_load_mid (by rfl) _ _ rfl b1 (o1+i*13) rfl (voC v1) _ (fun w9 hSw=>hSw.2.2.1) Tryz.underlying55 rfl size_voteS) hHeld ?_
   try simp only [sT,Act.put]
   refine tks [5,6,7,8] (by rfl) (by kernel_rfl) (fun _ _ _ _ _ h=>h) hHeld ?_
   iterate 4
    refine yk ?_ rfl (Or.inl ⟨by rfl,?_⟩) ?_
    rotate_left
    ·intro w9 hSw;obtain ⟨m0,m1,_⟩:=hSw;go_simp;(try with_reducible rfl)
    try simp only [sT,Act.put]
   refine yk0 ?_
   simp only [setK,sT]
   refine wpAnyH_take (i:=9) (v:=.agg (voC v2).toArray) rfl (by kernel_rfl) (by kernel_rfl) (by kernel_rfl) (fun _ _ _ h=>h) (yieldsIf_load_mid (by rfl) _ _ rfl b2 (o2+i*13) rfl (voC v2) _ (fun w9 hSw=>hSw.2.2.2) Tryz.underlying55 rfl size_voteS) hHeld ?_
   try simp only [sT,Act.put]
   refine rd1 10 (by kernel_rfl) rfl (fun K0 hK0=>?_)
   go_simp
   refine HV.out.mono ?_
   rintro _ w5 ⟨rfl,hk5⟩
   have HC5:=hide (And.intro (hk5.cell c17 (by simp)) (And.intro (hk5.cell d17 (by simp)) (And.intro (range_kept (show wr.drew.rangeAt b1 (o1+i*13) (voC v1) from HE1.out) hk5 (by simp)) (range_kept (show wr.drew.rangeAt b2 (o2+i*13) (voC v2) from HE2.out) hk5 (by simp)))))
   have HK5:=hide (HKi.out.trans ((Kept.refl [] wr).drew.trans hk5 (by simp)) (by simp))
   clear hk5
   go_wp2_with fail
   refine hK0.out _ _ HC5.out (fun hHeld=>?_)
   clear hK0 K0
   try simp only [sT,Act.put]
   refine tks [11] (by rfl) (by kernel_rfl) (fun _ _ _ _ _ h=>h) hHeld ?_
   iterate 1
    refine yk ?_ rfl (Or.inl ⟨by rfl,?_⟩) ?_
    rotate_left
    ·intro w9 hSw;obtain ⟨m0,m1,_⟩:=hSw;go_simp;(try with_reducible rfl)
    try simp only [sT,Act.put]
   refine yk0 ?_
   simp only [setK,sT]
   refine wpAnyH_done (by kernel_rfl) ?_ _
   clear hHeld
   go_wp2_with fail
   go_roundw
   case rel=>exact ⟨i+1,by go_num,by omega,HK5⟩
   case measure=>simp [intOf];omega
end Go.Proofs.YtakafmejllilnaaGreat

/-
  MsgBack: the walk.
-/
namespace Go.Proofs.YtakafmejllilnaaGreat
open Go.RowKit
theorem torn_atM (x:Int) (n:Nat) (hn:n≤1048576):∃ k:Nat,k < n+12∧(wrap64 (x.tmod (↑n+12)+(↑n+12))).tmod (↑n+12)=(k:Int):=by
 have h1:=Int.tmod_lt_of_pos x (b:=(n:Int)+12) (by omega)
 have h2:=Int.lt_tmod_of_pos x (b:=(n:Int)+12) (by omega)
 generalize x.tmod (↑n+12)=t at *
 rw [IntWalk.wrap64_in _ (by omega),Int.tmod_eq_emod_of_nonneg (by omega)]
 have h3:=Int.emod_nonneg (t+(↑n+12)) (b:=(n:Int)+12) (by omega)
 have h4:=Int.emod_lt_of_pos (t+(↑n+12)) (b:=(n:Int)+12) (by omega)
 exact ⟨((t+(↑n+12)) % (↑n+12)).toNat,by omega,by omega⟩
theorem Sl.setAtM {w:World}{b o n c:Nat}{l:List Int}(hs:Sl w (Option.some ⟨b,o,none⟩) n c l) {k:Nat}(y:Int):Sl (w.setCell ⟨b,o+k,none⟩ (.int .u8 y)) (Option.some ⟨b,o,none⟩) n c (l.set k y):=by
 obtain ⟨h1,h2,h3,h4,h5⟩:=hs
 refine ⟨by simpa using h1,h2,h3,h4,fun i hi=>⟨b,o,rfl,?_⟩⟩
 obtain ⟨b',o',e,hc⟩:=h5 i hi
 cases e
 by_cases hik:i=k
 ·subst hik
  rw [World.cell?_setCell_same _ _ _ hc]
  simp [List.getD,List.getElem?_set_self (by omega:i < l.length)]
 ·rw [World.cell?_setCell_other _ _ _ _ (by intro h;injection h with h6 h7;omega),hc]
  simp [List.getD,List.getElem?_set_ne (Ne.symm hik)]
theorem own_frozM {w:World}{b o n c:Nat}{l:List Int}(h:Own w (.slice (Option.some ⟨b,o,none⟩) n c) l) (j:Nat):w.frozen? ⟨b,j,none⟩=false:=by
 have h0:=h
 obtain ⟨h1,h2⟩:=h0
 rcases h2 with ⟨hv,hn⟩ | ⟨g,cap,cur,hv,_⟩
 ·cases hv
 ·cases hv
  exact World.ownsRow.frozenAt h j
theorem bit_turnedM (x:Int) (hx:0≤x∧x < 256) (m:Nat):0≤bits .xor .u8 x (2 ^ (m % 8) % 256)∧bits .xor .u8 x (2 ^ (m % 8) % 256) < 256∧x≠bits .xor .u8 x (2 ^ (m % 8) % 256):=by
 obtain ⟨y,rfl⟩:=Int.eq_ofNat_of_zero_le hx.1
 have hp:∀ z:Fin 8,(2 ^ z.val % 256:Int)=((2 ^ z.val:Nat):Int)∧2 ^ z.val < 256∧0 < 2 ^ z.val:=by decide
 obtain ⟨h1,h2,h3⟩:=hp ⟨m % 8,by omega⟩
 simp only at h1 h2 h3
 rw [h1]
 generalize 2 ^ (m % 8)=t at *
 have hy:y < 256:=by omega
 have e:=u8_xor_nat y t hy h2
 rw [e]
 have h4:=Nat.xor_lt_two_pow (n:=8) (x:=y) (y:=t) hy h2
 refine ⟨by omega,by omega,fun h=>?_⟩
 have h5:y=y ^^^ t:=by omega
 have h6:t=0:=xor_cancel (a:=y) (by rw [← h5,Nat.xor_zero])
 omega
theorem dec_back {x:Ms}(h:MsU x) (hx:okMs x) (hl:(bM x).length≤1048576):decM (frameOf (bM x))=(x,0):=by
 have h1:=unframe_more (bM x) hl []
 rw [List.append_nil] at h1
 unfold decM
 rw [h1]
 have h2:=frameOf_length (bM x)
 simp only [ne_eq,not_true_eq_false,if_false]
 rw [if_neg (by omega),decM2_enc h hx]
theorem dec_torn (l:List Int) (hl:l.length≤1048576) (k:Nat) (hk:k < l.length+12):decM ((frameOf l).take k)=(ms0,2):=by
 unfold decM
 rw [unframe_torn l hl k hk]
 rfl
theorem dec_bad (l:List Int) (e:Int) (he:e≠0) (h:(unframe l).2.2=e):(decM l).2=e:=by
 unfold decM
 rw [h,if_pos he]
theorem dec_changed (l:List Int) (ho:Oct l) (hl:l.length≤1048576) (k:Nat) (x y:Int) (hx:(frameOf l)[k]?=some x) (hy:0≤y∧y < 256) (hne:x≠y):decM ((frameOf l).set k y)=(ms0,5):=by
 unfold decM
 rw [unframe_changed l ho hl k x y hx hy hne]
 rfl
theorem enc_okM {x:Ms}(h:okMsB x=true) (hl:(bM x).length≤1048576):encM x=(frameOf (bM x),0):=by
 unfold encM
 rw [if_pos h,if_pos hl]
theorem enc_noM {x:Ms}(h:¬ (okMsB x=true∧(bM x).length≤1048576)):(encM x).2≠0:=by
 unfold encM
 split
 ·rename_i h1
  split
  ·rename_i h2;exact absurd ⟨h1,h2⟩ h
  ·simp
 ·simp
set_option linter.unusedSimpArgs false in
set_option maxHeartbeats 8000000 in
set_option maxRecDepth 100000 in
theorem back_walk (w:World) (y:Mm) (hy:MsHy w y) (x0:Int):Calls Tryz.prog 6 #[.agg (msC y).toArray,.int .i64 x0] w fun r w'=>r=.returned (.bool true)∧Kept [] w w':=by
 obtain ⟨W,hW⟩:∃ W,W=w.alloc (.cells (msC y).toArray 36):=⟨_,rfl⟩
 have hK:Kept [] w W:=by rw [hW];exact (Kept.refl _ _).alloc _
 have HK:=hide hK
 have HB:Hid (Bx W w.heap.size 36 (msC y)):=by rw [hW];exact Bx.new w _ _
 have HT:Hid (RowT Tryz.prog 36 (msC y).length):=rowT_msg
 have HY:=hide (hy.kept hK)
 have HU:=hide hy.ms
 have cA:=hide (awake_call W)
 unfold msC at hW
 have HW:=hide hW
 clear hW hK hy
 unfold msC
 go_enter Tryz.func6,Tryz.ntmps6
 go_upto_region 1 with fail
 rw [← HW.out]
 go_upto_region 3 with (go_at_call 9;refine cA.out.mono ?_;rintro _ w1 ⟨rfl,hk1⟩;have HK1:=hide (HK.out.trans hk1 (by simp));have HB1:=hide (HB.out.kept hk1 (by simp));have HY1:=hide (HY.out.kept hk1);clear hk1)
 clear cA
 have cS:=hide (smallM_call w1 y HY1.out)
 go_upto_region 5 with (first | ((with_reducible refine wl_load_bx HB1.out HT.out ?_ ?_);rfl) | (go_at_call 13;refine cS.out.mono ?_;clear cS;rintro _ w2 ⟨bb,rfl,hk2⟩;have HK2:=hide (HK1.out.trans hk2 (by simp));have HB2:=hide (HB1.out.kept hk2 (by simp));have HY2:=hide (HY1.out.kept hk2);clear hk2;cases bb))
 ·go_ret
  exact ⟨rfl,HK2.out⟩
 by_cases hm:okMsB y.ms=true∧(bM y.ms).length≤1048576
 rotate_left
 ·have cE:=encM_call w2 y HY2.out
  have hne:=enc_noM hm
  generalize encM y.ms=q at cE hne
  obtain ⟨B,e⟩:=q
  have hneb:(e != 0)=true:=by simpa using hne
  have HE:=hide cE
  clear cE hm hne
  go_wp2_with (first | ((with_reducible refine wl_load_bx HB2.out HT.out ?_ ?_);rfl) | (go_at_call 10;refine HE.out.mono ?_;clear HE;rintro _ w3 ⟨a3,c3,rfl,_,_,hk3⟩;have HK3:=hide (HK2.out.trans hk3 (by simp));clear hk3))
  go_ret
  exact ⟨rfl,HK3.out⟩
 obtain ⟨hm,hl⟩:=hm
 have hok:=(okMsB_iff HU.out).1 hm
 have cE:=hide (encO_call w2 y HY2.out hm hl)
 have HDB:=hide (dec_back HU.out hok hl)
 have HEN:=hide (enc_okM hm hl)
 have HOC:=hide (oct_bM (okMs_form hok))
 have HML:=hide hl
 obtain ⟨l,hll⟩:∃ l,l=bM y.ms:=⟨_,rfl⟩
 rw [← hll] at cE HDB HEN HOC HML
 clear hm hl hok hll
 go_upto_region 8 with (first | ((with_reducible refine wl_load_bx HB2.out HT.out ?_ ?_);rfl) | (go_at_call 10;refine cE.out.mono ?_;clear cE;rintro _ w3 ⟨a3,n3,c3,rfl,hO3,hb3,hk3⟩;have HO3:=hide hO3;have HK3:=hide (HK2.out.trans hk3 (by simp));have HBn:=hide hb3;have HB3:=hide (HB2.out.kept hk3 (by simp));have HY3:=hide (HY2.out.kept hk3);have HKS:=hide HK2.out.size;clear hO3 hk3 hb3))
 obtain ⟨ax,nx,cx,ex,hs3,hb7⟩:=own_sl HO3.out
 obtain ⟨rfl,rfl,rfl⟩:a3=ax∧n3=nx∧c3=cx:=by injection ex with h1 h2 h3;exact ⟨h1,h2,h3⟩
 have hn3:n3=l.length+12:=by rw [← hs3.1,frameOf_length]
 subst hn3
 have HS3:=hide hs3
 clear ex hs3 hb7
 have cD:=hide (decM_call w3 a3 _ c3 _ HS3.out (by have:=HML.out;omega) (frameOf_oct HOC.out))
 rw [HDB.out] at cD
 go_wp2_with fail
 refine cD.out.mono ?_
 clear cD
 rintro _ w4 ⟨y4,rfl,hy4,hm4,hk4⟩
 have HY4e:=hide hy4
 have HM4:=hide hm4
 have HK34:=hide hk4
 clear hy4 hm4 hk4
 have HBy4:Hid (Bx (w4.alloc (.cells zmsg.toArray 36)) w4.heap.size 36 zmsg):=Bx.new w4 _ _
 have HKy4:Hid (Kept [] w4 (w4.alloc (.cells zmsg.toArray 36))):=lay1 w4 _ zmsg
 have HTY4:Hid (RowT Tryz.prog 36 (msC y4).length):=rowT_msg
 have HOY4:=hide (one_msC y4)
 have HLY4:Hid ((msC y4).length=zmsg.length):=rfl
 unfold zmsg at HBy4 HKy4
 go_upto_region 9 with ((refine wl_store_bx HBy4.out ?_ HOY4.out HTY4.out ?_ ?_ ?_);exact HLY4.out;rfl;rfl;intro w5 HB5 HK5)
 have HK45:=hide (HKy4.out.trans HK5.out (S:=[]) (by simp))
 have HM5:=hide (HM4.out.kept HK45.out)
 have cE2:=encM_call w5 y4 HM5.out
 rw [HY4e.out,HEN.out] at cE2
 have HE2:=hide cE2
 clear cE2
 go_upto_region 10 with (first | ((with_reducible refine wl_load_bx HB5.out HTY4.out ?_ ?_);rfl) | (go_at_call 10;refine HE2.out.mono ?_;clear HE2;rintro _ w6 ⟨a6,c6,rfl,hS6,_,hk6⟩;have HS6:=hide hS6;have HK56:=hide hk6;clear hS6 hk6))
 have HK36:=hide ((HK34.out.trans HK45.out (by simp)).trans HK56.out (by simp))
 have HBm6:=hide (HB3.out.kept HK36.out (by simp))
 have HBn6:=hide (HB5.out.kept HK56.out (by simp))
 have cM:=hide (msame_call w6 y y4 (HY3.out.kept HK36.out) (HM5.out.kept HK56.out) HY4e.out.symm)
 have HS36:=hide (Sl.kept HK36.out HS3.out (by simp))
 go_upto_region 12 with (first | ((with_reducible refine wl_load_bxg HBm6.out HT.out ?_ ?_ ?_);rfl;rfl) | ((with_reducible refine wl_load_bxg HBn6.out HTY4.out ?_ ?_ ?_);rfl;rfl) | (go_at_call 19;refine cM.out.mono ?_;clear cM;rintro _ w7 ⟨rfl,hk7⟩;have HK67:=hide hk7;have cB:=bsame_call w7 a3 a6 _ c3 _ c6 (frameOf l) (frameOf l) (Sl.kept hk7 HS36.out (by simp)) (Sl.kept hk7 HS6.out (by simp));rw [decide_eq_true rfl] at cB;have HBS:=hide cB;clear cB hk7) | (go_at_call 15;refine HBS.out.mono ?_;clear HBS;rintro _ w8 ⟨rfl,hk8⟩;have HK68:=hide (HK67.out.trans hk8 (by simp));clear hk8))
 have HK38:=hide (HK36.out.trans HK68.out (by simp))
 have HK08:=hide (HK3.out.trans HK38.out (by simp))
 have HS8:=hide (Sl.kept HK38.out HS3.out (by simp))
 have HO8:Hid (Own w8 (.slice a3 (l.length+12) c3) (frameOf l)):=HK38.out.ownsRow HO3.out (by simp)
 clear HBm6 HBn6 HS36 HK67 HS6 HK56 HB5 HKy4 HBy4
 obtain ⟨k,hkn,hT⟩:∃ k:Nat,k < l.length+12∧(wrap64 (x0.tmod (↑l.length+12)+(↑l.length+12))).tmod (↑l.length+12)=(k:Int):=torn_atM x0 l.length HML.out
 have hc3:l.length+12≤c3:=HS8.out.2.1
 have hb0:0≤(wrap64 (x0.tmod (↑l.length+12)+(↑l.length+12))).tmod (↑l.length+12):=by omega
 have hb1:(wrap64 (x0.tmod (↑l.length+12)+(↑l.length+12))).tmod (↑l.length+12)≤(c3:Int):=by omega
 have HT0:Hid ((wrap64 (x0.tmod (↑l.length+12)+(↑l.length+12))).tmod (↑l.length+12)=(k:Int)):=hT
 have hll:l.length≤1048576:=HML.out
 clear hT
 go_wp2_with fail
 rw [HT0.out,Int.toNat_natCast]
 clear hb0 hb1
 have cT:=decM_call w8 a3 k c3 ((frameOf l).take k) (HS8.out.take (by omega)) (by omega) ((frameOf_oct HOC.out).take _)
 rw [dec_torn l HML.out k hkn] at cT
 refine cT.mono ?_
 clear cT
 rintro _ w9 ⟨y9,rfl,_,_,hk9⟩
 have HK89:=hide hk9
 clear hk9
 have HBy9:Hid (Bx (w9.alloc (.cells zmsg.toArray 36)) w9.heap.size 36 zmsg):=Bx.new w9 _ _
 have HKy9:Hid (Kept [] w9 (w9.alloc (.cells zmsg.toArray 36))):=lay1 w9 _ zmsg
 have HTY9:Hid (RowT Tryz.prog 36 (msC y9).length):=rowT_msg
 have HOY9:=hide (one_msC y9)
 have HLY9:Hid ((msC y9).length=zmsg.length):=rfl
 unfold zmsg at HBy9 HKy9
 go_upto_region 14 with ((refine wl_store_bx HBy9.out ?_ HOY9.out HTY9.out ?_ ?_ ?_);exact HLY9.out;rfl;rfl;intro w10 HB10 HK10)
 have HK810:=hide (HK89.out.trans (HKy9.out.trans HK10.out (S:=[]) (by simp)) (by simp))
 have hO10:Own w10 (.slice a3 (l.length+12) c3) (frameOf l):=HK810.out.ownsRow HO8.out (by simp)
 have hS10:=Sl.kept HK810.out HS8.out (by simp)
 have HK010:=hide (HK08.out.trans HK810.out (by simp))
 clear HB10 HBy9 HKy9 HTY9 HOY9 HLY9
 obtain ⟨b,o,rfl,hcell⟩:=hS10.some (by omega)
 have hg:=hcell k hkn
 have HFR:Hid (w.heap.size≤b):=Nat.le_trans HKS.out (HBn.out b (by simp [blk]))
 have HS10:=hide hS10
 generalize hx:(frameOf l).getD k 0=x at hg
 have HX:=hide hx
 have hT2:=HT0.out
 have hfz:w10.frozen? ⟨b,o+k,none⟩=false:=own_frozM hO10 _
 clear hcell hS10 hO10 hx HO8 HS8 HO3 HS3 HBn HB3 HY3
 go_wp2_with fail
 have hxo:(frameOf l)[k]?=some x:=by
  rw [← HX.out,List.getD,List.getElem?_eq_getElem (by rw [frameOf_length];exact hkn)];simp
 have hxb:=bit_turnedM x (frameOf_oct HOC.out x (List.mem_of_getElem? hxo)) k
 generalize bits .xor .u8 x (2 ^ (k % 8) % 256)=z at hxb ⊢
 have hoc:Oct ((frameOf l).set k z):=by
  intro a ha
  rcases List.mem_or_eq_of_mem_set ha with h1 | rfl
  ·exact frameOf_oct HOC.out a h1
  ·exact ⟨hxb.1,hxb.2.1⟩
 have cZ:=decM_call _ _ _ _ _ (HS10.out.setAtM (k:=k) z) (by omega) hoc
 rw [dec_changed l HOC.out HML.out k x z hxo ⟨hxb.1,hxb.2.1⟩ hxb.2.2] at cZ
 have HK11:=hide (HK010.out.trans (kept_set w10 b (o+k) (.int .u8 z)) (by simp;exact HFR.out))
 clear hxb hoc hxo hg hfz hT2
 refine cZ.mono ?_
 clear cZ
 rintro _ w12 ⟨y12,rfl,_,_,hk12⟩
 have HK12:=hide (HK11.out.trans hk12 (by simp))
 clear hk12
 have HBy12:Hid (Bx (w12.alloc (.cells zmsg.toArray 36)) w12.heap.size 36 zmsg):=Bx.new w12 _ _
 have HKy12:Hid (Kept [] w12 (w12.alloc (.cells zmsg.toArray 36))):=lay1 w12 _ zmsg
 have HTY12:Hid (RowT Tryz.prog 36 (msC y12).length):=rowT_msg
 have HOY12:=hide (one_msC y12)
 have HLY12:Hid ((msC y12).length=zmsg.length):=rfl
 unfold zmsg at HBy12 HKy12
 go_upto_region 16 with ((refine wl_store_bx HBy12.out ?_ HOY12.out HTY12.out ?_ ?_ ?_);exact HLY12.out;rfl;rfl;intro w13 HB13 HK13)
 have HKE:=hide (HK12.out.trans (HKy12.out.trans HK13.out (S:=[]) (by simp)) (by simp))
 go_wp2_with fail
 go_ret
 exact ⟨rfl,HKE.out⟩
end Go.Proofs.YtakafmejllilnaaGreat

/-
  Messages that came in, as they are read.
-/
namespace Go.Proofs.YtakafmejllilnaaGreat
open Go.ChangeShapes Go.WideShapes Go.ChangeAt Go.RowKit Go.Deep
theorem cellsOf_Vote:Tryz.prog.cellsOf 55=13:=by kernel_rfl
theorem cellsOf_Message:Tryz.prog.cellsOf 36=27:=by kernel_rfl
theorem cellsLV:Tryz.prog.cellsOf 30=1:=by kernel_rfl
theorem cellsLB:Tryz.prog.cellsOf 23=1:=by kernel_rfl
set_option maxRecDepth 100000 in
theorem open_requestM {H:Type}{enc:TypeId × Value→H}{W:World}{base:Nat}{sp:Nat→Bool}{held:Bool}{fuel:Nat}{cs:List Value}{x:DataW H × List MemPlace}
 (h:DataW.trod enc Tryz.prog W base sp held fuel 29 cs=some x) (hw:∀ m∈x.1.weights Tryz.prog 29,m≤reachBytes):∃ t:Rm,cs=rqC t∧RqHy [] W t∧U64c t.r.c:=by
 obtain ⟨xs,n,rfl,rfl,hlen,hxs,hf⟩:=DataW.trod_struct Tryz.underlying29 h
 rw [cellsOf_Request] at hlen
 match cs,hlen with
 | [v0,v1,v2,v3,v4,v5,v6,v7,v8,v9,v10],_ =>
   match xs,hxs with
   | [y0,y1,y2,y3,y4,y5,y6,y7,y8,y9,y10],_ =>
     have f0:DataW.trod enc Tryz.prog W base sp held n 3 [v0]=some y0:=by
      have h:DataW.trod enc Tryz.prog W base sp held n 3 (([v0,v1,v2,v3,v4,v5,v6,v7,v8,v9,v10].drop 0).take (Tryz.prog.cellsOf 3))=some y0:=hf 0 _ rfl
      rw [cellsI] at h
      exact h
     have f1:DataW.trod enc Tryz.prog W base sp held n 9 [v1]=some y1:=by
      have h:DataW.trod enc Tryz.prog W base sp held n 9 (([v0,v1,v2,v3,v4,v5,v6,v7,v8,v9,v10].drop 1).take (Tryz.prog.cellsOf 9))=some y1:=hf 1 _ rfl
      rw [cellsS] at h
      exact h
     have w1:∀ m∈y1.1.weights Tryz.prog 9,m≤reachBytes:=light_field Tryz.underlying29 hw (j:=1) rfl rfl
     have f2:DataW.trod enc Tryz.prog W base sp held n 3 [v2]=some y2:=by
      have h:DataW.trod enc Tryz.prog W base sp held n 3 (([v0,v1,v2,v3,v4,v5,v6,v7,v8,v9,v10].drop 2).take (Tryz.prog.cellsOf 3))=some y2:=hf 2 _ rfl
      rw [cellsI] at h
      exact h
     have f3:DataW.trod enc Tryz.prog W base sp held n 3 [v3]=some y3:=by
      have h:DataW.trod enc Tryz.prog W base sp held n 3 (([v0,v1,v2,v3,v4,v5,v6,v7,v8,v9,v10].drop 3).take (Tryz.prog.cellsOf 3))=some y3:=hf 3 _ rfl
      rw [cellsI] at h
      exact h
     have f4:DataW.trod enc Tryz.prog W base sp held n 3 [v4]=some y4:=by
      have h:DataW.trod enc Tryz.prog W base sp held n 3 (([v0,v1,v2,v3,v4,v5,v6,v7,v8,v9,v10].drop 4).take (Tryz.prog.cellsOf 3))=some y4:=hf 4 _ rfl
      rw [cellsI] at h
      exact h
     have f5:DataW.trod enc Tryz.prog W base sp held n 9 [v5]=some y5:=by
      have h:DataW.trod enc Tryz.prog W base sp held n 9 (([v0,v1,v2,v3,v4,v5,v6,v7,v8,v9,v10].drop 5).take (Tryz.prog.cellsOf 9))=some y5:=hf 5 _ rfl
      rw [cellsS] at h
      exact h
     have w5:∀ m∈y5.1.weights Tryz.prog 9,m≤reachBytes:=light_field Tryz.underlying29 hw (j:=5) rfl rfl
     have f6:DataW.trod enc Tryz.prog W base sp held n 27 [v6]=some y6:=by
      have h:DataW.trod enc Tryz.prog W base sp held n 27 (([v0,v1,v2,v3,v4,v5,v6,v7,v8,v9,v10].drop 6).take (Tryz.prog.cellsOf 27))=some y6:=hf 6 _ rfl
      rw [cellsLC] at h
      exact h
     have w6:∀ m∈y6.1.weights Tryz.prog 27,m≤reachBytes:=light_field Tryz.underlying29 hw (j:=6) rfl rfl
     have f7:DataW.trod enc Tryz.prog W base sp held n 9 [v7]=some y7:=by
      have h:DataW.trod enc Tryz.prog W base sp held n 9 (([v0,v1,v2,v3,v4,v5,v6,v7,v8,v9,v10].drop 7).take (Tryz.prog.cellsOf 9))=some y7:=hf 7 _ rfl
      rw [cellsS] at h
      exact h
     have w7:∀ m∈y7.1.weights Tryz.prog 9,m≤reachBytes:=light_field Tryz.underlying29 hw (j:=7) rfl rfl
     have f8:DataW.trod enc Tryz.prog W base sp held n 3 [v8]=some y8:=by
      have h:DataW.trod enc Tryz.prog W base sp held n 3 (([v0,v1,v2,v3,v4,v5,v6,v7,v8,v9,v10].drop 8).take (Tryz.prog.cellsOf 3))=some y8:=hf 8 _ rfl
      rw [cellsI] at h
      exact h
     have f9:DataW.trod enc Tryz.prog W base sp held n 3 [v9]=some y9:=by
      have h:DataW.trod enc Tryz.prog W base sp held n 3 (([v0,v1,v2,v3,v4,v5,v6,v7,v8,v9,v10].drop 9).take (Tryz.prog.cellsOf 3))=some y9:=hf 9 _ rfl
      rw [cellsI] at h
      exact h
     have f10:DataW.trod enc Tryz.prog W base sp held n 3 [v10]=some y10:=by
      have h:DataW.trod enc Tryz.prog W base sp held n 3 (([v0,v1,v2,v3,v4,v5,v6,v7,v8,v9,v10].drop 10).take (Tryz.prog.cellsOf 3))=some y10:=hf 10 _ rfl
      rw [cellsI] at h
      exact h
     obtain ⟨d0,e0,_,_⟩:=DataW.trod_int Tryz.underlying3 f0
     obtain ⟨s1,e1,rfl,_⟩:=DataW.trod_string Tryz.underlying9 f1
     have l1:s1.data.toList.length≤140737488351232:=by have:=w1 s1.data.toList.length (by simp [DataW.weights]);unfold reachBytes at this;omega
     obtain ⟨d2,e2,_,_⟩:=DataW.trod_int Tryz.underlying3 f2
     obtain ⟨d3,e3,_,_⟩:=DataW.trod_int Tryz.underlying3 f3
     obtain ⟨d4,e4,_,_⟩:=DataW.trod_int Tryz.underlying3 f4
     obtain ⟨s5,e5,rfl,_⟩:=DataW.trod_string Tryz.underlying9 f5
     have l5:s5.data.toList.length≤140737488351232:=by have:=w5 s5.data.toList.length (by simp [DataW.weights]);unfold reachBytes at this;omega
     have hv6:∃ a l c,v6=.slice a l c:=by
      rcases DataW.trod_slice Tryz.underlying27 f6 with ⟨h0,_⟩ | ⟨a,l,c,_,_,_,_,h0,_⟩
      ·simp at h0;exact ⟨_,_,_,h0⟩
      ·simp at h0;exact ⟨_,_,_,h0⟩
     obtain ⟨a,l,c,rfl⟩:=hv6
     obtain ⟨s7,e7,rfl,_⟩:=DataW.trod_string Tryz.underlying9 f7
     have l7:s7.data.toList.length≤140737488351232:=by have:=w7 s7.data.toList.length (by simp [DataW.weights]);unfold reachBytes at this;omega
     obtain ⟨d8,e8,_,_⟩:=DataW.trod_int Tryz.underlying3 f8
     obtain ⟨d9,e9,_,_⟩:=DataW.trod_int Tryz.underlying3 f9
     obtain ⟨d10,e10,_,_⟩:=DataW.trod_int Tryz.underlying3 f10
     simp at e0 e1 e2 e3 e4 e5 e7 e8 e9 e10
     subst e0;subst e1;subst e2;subst e3;subst e4;subst e5;subst e7;subst e8;subst e9;subst e10
     obtain ⟨L,hs,hn,hl,ho⟩:=open_changesR f6 w6
     exact ⟨⟨⟨d0,s1.data.toList,d2,d3,d4,s5.data.toList,L,s7.data.toList,d8,d9,d10⟩,a,l,c⟩,by simp only [rqC];rw [← str_of s1,← str_of s5,← str_of s7],⟨hs,hn,(fun _ _ _ hm=>by cases hm),l1,l5,l7,fun z hz=>(ho z hz).1⟩,fun z hz=>(ho z hz).2⟩
set_option maxRecDepth 100000 in
theorem open_voteM {H:Type}{enc:TypeId × Value→H}{W:World}{base:Nat}{sp:Nat→Bool}{held:Bool}{fuel:Nat}{cs:List Value}{x:DataW H × List MemPlace}
 (h:DataW.trod enc Tryz.prog W base sp held fuel 55 cs=some x) (hw:∀ m∈x.1.weights Tryz.prog 55,m≤reachBytes):∃ t:Vm,cs=voC t∧RqHy [] W t.x∧U64c t.x.r.c:=by
 obtain ⟨xs,n,rfl,rfl,hlen,hxs,hf⟩:=DataW.trod_struct Tryz.underlying55 h
 rw [cellsOf_Vote] at hlen
 match cs,hlen with
 | [v0,v1,v2,v3,v4,v5,v6,v7,v8,v9,v10,v11,v12],_ =>
   match xs,hxs with
   | [y0,y1,y2],_ =>
     have f0:DataW.trod enc Tryz.prog W base sp held n 3 [v0]=some y0:=by
      have h:DataW.trod enc Tryz.prog W base sp held n 3 (([v0,v1,v2,v3,v4,v5,v6,v7,v8,v9,v10,v11,v12].drop 0).take (Tryz.prog.cellsOf 3))=some y0:=hf 0 _ rfl
      rw [cellsI] at h
      exact h
     have f1:DataW.trod enc Tryz.prog W base sp held n 3 [v1]=some y1:=by
      have h:DataW.trod enc Tryz.prog W base sp held n 3 (([v0,v1,v2,v3,v4,v5,v6,v7,v8,v9,v10,v11,v12].drop 1).take (Tryz.prog.cellsOf 3))=some y1:=hf 1 _ rfl
      rw [cellsI] at h
      exact h
     have f2:DataW.trod enc Tryz.prog W base sp held n 29 [v2,v3,v4,v5,v6,v7,v8,v9,v10,v11,v12]=some y2:=by
      have h:DataW.trod enc Tryz.prog W base sp held n 29 (([v0,v1,v2,v3,v4,v5,v6,v7,v8,v9,v10,v11,v12].drop 2).take (Tryz.prog.cellsOf 29))=some y2:=hf 2 _ rfl
      rw [cellsOf_Request] at h
      exact h
     have w2:∀ m∈y2.1.weights Tryz.prog 29,m≤reachBytes:=light_field Tryz.underlying55 hw (j:=2) rfl rfl
     obtain ⟨d0,e0,_,_⟩:=DataW.trod_int Tryz.underlying3 f0
     obtain ⟨d1,e1,_,_⟩:=DataW.trod_int Tryz.underlying3 f1
     obtain ⟨q,e2,hq,hu⟩:=open_requestM f2 w2
     simp at e0 e1
     subst e0;subst e1
     refine ⟨⟨d0,d1,q⟩,?_,hq,hu⟩
     show _ :: _ :: _=_ :: _ :: rqC q
     rw [← e2]
theorem open_votesM {H:Type}{enc:TypeId × Value→H}{W:World}{base:Nat}{sp:Nat→Bool}{held:Bool}{fuel:Nat}{a:Option Addr}{len cap:Nat}{x:DataW H × List MemPlace}
 (h:DataW.trod enc Tryz.prog W base sp held fuel 30 [.slice a len cap]=some x) (hw:∀ m∈x.1.weights Tryz.prog 30,m≤reachBytes):∃ D,SlV W a len cap D∧∀ z∈D,U64c z.x.r.c:=by
 obtain ⟨L,h1,h2,h3,h4,_,h6⟩:=open_rows Tryz.underlying30 cellsOf_Vote (by omega) (⟨0,0,rm0⟩:Vm) (fun t cs=>cs=voC t∧RqHy [] W t.x∧U64c t.x.r.c) (fun _ _ _ h hw=>by obtain ⟨t,e,ho⟩:=open_voteM h hw;exact ⟨t,⟨e,ho⟩,by rw [e];rfl⟩) h hw
 refine ⟨L,⟨h1,h2,h3,h4,fun i hi=>?_,fun y hy=>?_⟩,fun y hy=>?_⟩
 ·obtain ⟨b,o,cs,e,⟨rfl,_⟩,hc⟩:=h6 i hi
  refine ⟨b,o,e,fun j v hv=>?_⟩
  have hj:j < 13:=by
   by_cases hl:j < 13
   ·exact hl
   ·rw [List.getElem?_eq_none (by rw [voC_length];omega)] at hv;cases hv
  rw [hc j hj,hv]
 ·obtain ⟨i,hi,rfl⟩:=List.getElem_of_mem hy
  obtain ⟨b,o,cs,e,⟨_,ho,_⟩,hc⟩:=h6 i hi
  exact ho
 ·obtain ⟨i,hi,rfl⟩:=List.getElem_of_mem hy
  obtain ⟨b,o,cs,e,⟨_,_,ho⟩,hc⟩:=h6 i hi
  exact ho
set_option maxRecDepth 100000 in
theorem open_messageM {H:Type}{enc:TypeId × Value→H}{W:World}{base:Nat}{sp:Nat→Bool}{held:Bool}{fuel:Nat}{cs:List Value}{x:DataW H × List MemPlace}
 (h:DataW.trod enc Tryz.prog W base sp held fuel 36 cs=some x) (hw:∀ m∈x.1.weights Tryz.prog 36,m≤reachBytes):∃ y:Mm,cs=msC y∧MsHy W y:=by
 obtain ⟨xs,n,rfl,rfl,hlen,hxs,hf⟩:=DataW.trod_struct Tryz.underlying36 h
 rw [cellsOf_Message] at hlen
 match cs,hlen with
 | [v0,v1,v2,v3,v4,v5,v6,v7,v8,v9,v10,v11,v12,v13,v14,v15,v16,v17,v18,v19,v20,v21,v22,v23,v24,v25,v26],_ =>
   match xs,hxs with
   | [y0,y1,y2,y3,y4,y5,y6,y7,y8,y9,y10],_ =>
     have f0:DataW.trod enc Tryz.prog W base sp held n 3 [v0]=some y0:=by
      have h:DataW.trod enc Tryz.prog W base sp held n 3 (([v0,v1,v2,v3,v4,v5,v6,v7,v8,v9,v10,v11,v12,v13,v14,v15,v16,v17,v18,v19,v20,v21,v22,v23,v24,v25,v26].drop 0).take (Tryz.prog.cellsOf 3))=some y0:=hf 0 _ rfl
      rw [cellsI] at h
      exact h
     have f1:DataW.trod enc Tryz.prog W base sp held n 3 [v1]=some y1:=by
      have h:DataW.trod enc Tryz.prog W base sp held n 3 (([v0,v1,v2,v3,v4,v5,v6,v7,v8,v9,v10,v11,v12,v13,v14,v15,v16,v17,v18,v19,v20,v21,v22,v23,v24,v25,v26].drop 1).take (Tryz.prog.cellsOf 3))=some y1:=hf 1 _ rfl
      rw [cellsI] at h
      exact h
     have f2:DataW.trod enc Tryz.prog W base sp held n 3 [v2]=some y2:=by
      have h:DataW.trod enc Tryz.prog W base sp held n 3 (([v0,v1,v2,v3,v4,v5,v6,v7,v8,v9,v10,v11,v12,v13,v14,v15,v16,v17,v18,v19,v20,v21,v22,v23,v24,v25,v26].drop 2).take (Tryz.prog.cellsOf 3))=some y2:=hf 2 _ rfl
      rw [cellsI] at h
      exact h
     have f3:DataW.trod enc Tryz.prog W base sp held n 3 [v3]=some y3:=by
      have h:DataW.trod enc Tryz.prog W base sp held n 3 (([v0,v1,v2,v3,v4,v5,v6,v7,v8,v9,v10,v11,v12,v13,v14,v15,v16,v17,v18,v19,v20,v21,v22,v23,v24,v25,v26].drop 3).take (Tryz.prog.cellsOf 3))=some y3:=hf 3 _ rfl
      rw [cellsI] at h
      exact h
     have f4:DataW.trod enc Tryz.prog W base sp held n 3 [v4]=some y4:=by
      have h:DataW.trod enc Tryz.prog W base sp held n 3 (([v0,v1,v2,v3,v4,v5,v6,v7,v8,v9,v10,v11,v12,v13,v14,v15,v16,v17,v18,v19,v20,v21,v22,v23,v24,v25,v26].drop 4).take (Tryz.prog.cellsOf 3))=some y4:=hf 4 _ rfl
      rw [cellsI] at h
      exact h
     have f5:DataW.trod enc Tryz.prog W base sp held n 3 [v5]=some y5:=by
      have h:DataW.trod enc Tryz.prog W base sp held n 3 (([v0,v1,v2,v3,v4,v5,v6,v7,v8,v9,v10,v11,v12,v13,v14,v15,v16,v17,v18,v19,v20,v21,v22,v23,v24,v25,v26].drop 5).take (Tryz.prog.cellsOf 3))=some y5:=hf 5 _ rfl
      rw [cellsI] at h
      exact h
     have f6:DataW.trod enc Tryz.prog W base sp held n 29 [v6,v7,v8,v9,v10,v11,v12,v13,v14,v15,v16]=some y6:=by
      have h:DataW.trod enc Tryz.prog W base sp held n 29 (([v0,v1,v2,v3,v4,v5,v6,v7,v8,v9,v10,v11,v12,v13,v14,v15,v16,v17,v18,v19,v20,v21,v22,v23,v24,v25,v26].drop 6).take (Tryz.prog.cellsOf 29))=some y6:=hf 6 _ rfl
      rw [cellsOf_Request] at h
      exact h
     have w6:∀ m∈y6.1.weights Tryz.prog 29,m≤reachBytes:=light_field Tryz.underlying36 hw (j:=6) rfl rfl
     have f7:DataW.trod enc Tryz.prog W base sp held n 30 [v17]=some y7:=by
      have h:DataW.trod enc Tryz.prog W base sp held n 30 (([v0,v1,v2,v3,v4,v5,v6,v7,v8,v9,v10,v11,v12,v13,v14,v15,v16,v17,v18,v19,v20,v21,v22,v23,v24,v25,v26].drop 17).take (Tryz.prog.cellsOf 30))=some y7:=hf 7 _ rfl
      rw [cellsLV] at h
      exact h
     have w7:∀ m∈y7.1.weights Tryz.prog 30,m≤reachBytes:=light_field Tryz.underlying36 hw (j:=7) rfl rfl
     have f8:DataW.trod enc Tryz.prog W base sp held n 23 [v18]=some y8:=by
      have h:DataW.trod enc Tryz.prog W base sp held n 23 (([v0,v1,v2,v3,v4,v5,v6,v7,v8,v9,v10,v11,v12,v13,v14,v15,v16,v17,v18,v19,v20,v21,v22,v23,v24,v25,v26].drop 18).take (Tryz.prog.cellsOf 23))=some y8:=hf 8 _ rfl
      rw [cellsLB] at h
      exact h
     have w8:∀ m∈y8.1.weights Tryz.prog 23,m≤reachBytes:=light_field Tryz.underlying36 hw (j:=8) rfl rfl
     have f9:DataW.trod enc Tryz.prog W base sp held n 3 [v19]=some y9:=by
      have h:DataW.trod enc Tryz.prog W base sp held n 3 (([v0,v1,v2,v3,v4,v5,v6,v7,v8,v9,v10,v11,v12,v13,v14,v15,v16,v17,v18,v19,v20,v21,v22,v23,v24,v25,v26].drop 19).take (Tryz.prog.cellsOf 3))=some y9:=hf 9 _ rfl
      rw [cellsI] at h
      exact h
     have f10:DataW.trod enc Tryz.prog W base sp held n 34 [v20,v21,v22,v23,v24,v25,v26]=some y10:=by
      have h:DataW.trod enc Tryz.prog W base sp held n 34 (([v0,v1,v2,v3,v4,v5,v6,v7,v8,v9,v10,v11,v12,v13,v14,v15,v16,v17,v18,v19,v20,v21,v22,v23,v24,v25,v26].drop 20).take (Tryz.prog.cellsOf 34))=some y10:=hf 10 _ rfl
      rw [cellsOf_Verdict] at h
      exact h
     have w10:∀ m∈y10.1.weights Tryz.prog 34,m≤reachBytes:=light_field Tryz.underlying36 hw (j:=10) rfl rfl
     obtain ⟨d0,e0,_,_⟩:=DataW.trod_int Tryz.underlying3 f0
     obtain ⟨d1,e1,_,_⟩:=DataW.trod_int Tryz.underlying3 f1
     obtain ⟨d2,e2,_,_⟩:=DataW.trod_int Tryz.underlying3 f2
     obtain ⟨d3,e3,_,_⟩:=DataW.trod_int Tryz.underlying3 f3
     obtain ⟨d4,e4,_,_⟩:=DataW.trod_int Tryz.underlying3 f4
     obtain ⟨d5,e5,_,_⟩:=DataW.trod_int Tryz.underlying3 f5
     obtain ⟨d9,e9,_,_⟩:=DataW.trod_int Tryz.underlying3 f9
     obtain ⟨q,e6,hq,hu⟩:=open_requestM f6 w6
     obtain ⟨t,u,e10,ht,hi⟩:=open_verdictR f10 w10
     obtain ⟨uo,un,uc,rfl⟩:=ht.one
     have hv7:∃ a l c,v17=.slice a l c:=by
      rcases DataW.trod_slice Tryz.underlying30 f7 with ⟨h0,_⟩ | ⟨a,l,c,_,_,_,_,h0,_⟩
      ·simp at h0;exact ⟨_,_,_,h0⟩
      ·simp at h0;exact ⟨_,_,_,h0⟩
     obtain ⟨vo,vn,vc,rfl⟩:=hv7
     have hv8:∃ a l c,v18=.slice a l c:=by
      rcases DataW.trod_slice Tryz.underlying23 f8 with ⟨h0,_⟩ | ⟨a,l,c,_,_,_,_,h0,_⟩
      ·simp at h0;exact ⟨_,_,_,h0⟩
      ·simp at h0;exact ⟨_,_,_,h0⟩
     obtain ⟨io,im,ic,rfl⟩:=hv8
     obtain ⟨D,hD,hDu⟩:=open_votesM f7 w7
     obtain ⟨l,hl,ho,_⟩:=open_bytes f8
     simp at e0 e1 e2 e3 e4 e5 e9
     subst e0;subst e1;subst e2;subst e3;subst e4;subst e5;subst e9
     obtain rfl:=hD.l
     obtain rfl:=hl.1
     refine ⟨⟨d0,d1,d2,d3,d4,d5,q,vo,vc,D,io,ic,l,d9,t,uo,un,uc⟩,?_,⟨hq,hD,hl,ho,vtHy_of ht hi,hu,hDu,inV_u hi⟩⟩
     rw [msC_x]
     show [_,_,_,_,_,_]++([_,_,_,_,_,_,_,_,_,_,_]++[_,_,_,_,_,_,_,_,_,_])=_
     rw [e6]
     have e11:∀ a b c:Value,[a,b,c]++vtLA t (.slice uo un uc)=[a,b,c,.int .i64 t.c,.int .i64 t.s,.int .i64 t.r,.string (str t.p),.int .u64 t.d,.slice uo un uc,.int .i64 t.m]:=fun _ _ _=>rfl
     rw [← e11,← e10]
     rfl
end Go.Proofs.YtakafmejllilnaaGreat
