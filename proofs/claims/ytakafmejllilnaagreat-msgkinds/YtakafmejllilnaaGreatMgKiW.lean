/-
  MsgKinds: the walk.
-/
import Derived.Test.YtakafmejllilnaaGreatMgAwk
import Derived.Deep.CutRange
import Derived.Deep.CutBlock
namespace Go.Proofs.YtakafmejllilnaaGreat
open Go.RowKit
def nmd (k:Int):List Int :=
 if k=1∨k=4 then [0,1] else if k=2 then [0,1,4] else if k=3 then [0,1,3] else if k=5 then [0] else if k=6 then [1,3] else if k=7∨k=8 then [0,1,2]
 else if k=9 then [1] else if k=10 then [1,5] else if k=11∨k=12 then [6,3] else if k=13 then [6,7] else [6,1]
def yK (k:Int):Mm:={ mm0 with k:=k,f:=1,t:=100 }
def rqA:Rq:=⟨1,[97],0,0,0,[],[],[],0,0,0⟩
def vtA1:Vt:=⟨2,0,1,[],0,[],0⟩
def fldM (k j:Int):Ms :=
 if j=0 then { (yK k).ms with b:=1 } else if j=1 then { (yK k).ms with s:=1 } else if j=2 then { (yK k).ms with m:=1 } else if j=3 then { (yK k).ms with v:=rqA }
 else if j=4 then { (yK k).ms with l:=[⟨3,0,rq0⟩] } else if j=5 then { (yK k).ms with i:=[1] } else if j=6 then { (yK k).ms with n:=1 } else { (yK k).ms with r:=vtA1 }
theorem kinds_all:∀ k:Fin 14,∀ j:Fin 8,((encM (fldM (k.val+1) j.val)).2==0)=(nmd (k.val+1)).contains (j.val:Int)∧decide (0 < ((encM (fldM (k.val+1) j.val)).1.length:Int))=(nmd (k.val+1)).contains (j.val:Int):=by decide +kernel
theorem kinds_at (k j:Int) (hk:1≤k∧k≤14) (hj:0≤j∧j < 8):((encM (fldM k j)).2==0)=(nmd k).contains j∧decide (0 < ((encM (fldM k j)).1.length:Int))=(nmd k).contains j:=by
 have h:=kinds_all ⟨(k - 1).toNat,by omega⟩ ⟨j.toNat,by omega⟩
 have e1:(((k - 1).toNat:Nat):Int)+1=k:=by omega
 have e2:((j.toNat:Nat):Int)=j:=by omega
 simp only [e1,e2] at h
 exact h
theorem base_all:∀ k:Fin 14,okMsB (yK (k.val+1)).ms=true:=by decide +kernel
theorem base_yes (k:Int) (hk:1≤k∧k≤14):okMsB (yK k).ms=true:=by
 have h:=base_all ⟨(k - 1).toNat,by omega⟩
 have e1:(((k - 1).toNat:Nat):Int)+1=k:=by omega
 simp only [e1] at h
 exact h
theorem base_no (k:Int) (hk:¬ (1≤k∧k≤14)):okMsB (yK k).ms=false:=by
 have e:shp k=[]:=by
  by_cases h:shp k=[]
  ·exact h
  ·exact absurd (shp_kind h) hk
 unfold okMsB
 show (!(shp k).isEmpty && _)=false
 rw [e];rfl
theorem nmd_len (k:Int):1≤(nmd k).length∧(nmd k).length≤3:=by
 unfold nmd
 repeat' split
 all_goals decide
theorem has_next (L:List Int) {i:Nat}(hi:i < L.length) (j:Int):(L.take (i+1)).contains j=((L.take i).contains j || (L[i]==j)):=by
 rw [List.take_succ_eq_append_getElem hi]
 simp only [List.contains_eq_mem,List.mem_append,List.mem_singleton]
 by_cases h1:j∈L.take i
 ·simp [h1]
 ·simp only [h1,false_or,decide_false,Bool.false_or]
  by_cases h2:L[i]=j
  ·simp [h2]
  ·simp [h2,Ne.symm h2]
def intC (L:List Int):List Value:=L.map (Value.int .i64)
theorem hyK (w:World) (k b s m n:Int):MsHy w { yK k with b:=b,s:=s,m:=m,n:=n }:=hyH w k 1 100 b s m n
theorem hyX (w:World) (k:Int):MsHy w { yK k with x:=⟨rqA,none,0,0⟩ } :=
 ⟨⟨⟨rfl,Nat.le_refl _,Nat.zero_le _,fun i hi=>by simp [rqA] at hi⟩,fun _=>rfl,(fun h0=>by simp at h0),by simp [rqA],by simp [rqA],by simp [rqA],fun y hy=>by simp [rqA] at hy⟩,
  (hy0 w).v,(hy0 w).i,(hy0 w).o,(hy0 w).r,(fun c hc=>by simp [rqA] at hc),(hy0 w).uv,(hy0 w).ur⟩
theorem hyR (w:World) (k:Int):MsHy w { yK k with r:=vtA1 } :=
 ⟨(hy0 w).x,(hy0 w).v,(hy0 w).i,(hy0 w).o,vtHy_of ⟨none,0,0,[],rfl,⟨rfl,Nat.le_refl _,Nat.zero_le _,(fun i hi=>by simp at hi),fun x hx=>by cases hx⟩,rfl,fun _=>rfl⟩ ⟨by simp [vtA1],by simp [vtA1],(fun x hx=>by simp [vtA1] at hx),by simp [vtA1,I64],by simp [vtA1,U64]⟩,(hy0 w).u,(hy0 w).uv,⟨by simp [vtA1],fun x hx=>by simp [vtA1] at hx⟩⟩
theorem hyI {w:World}{ao:Option Addr}(k:Int) (h:Sl w ao 1 1 [1]):MsHy w { yK k with io:=ao,ic:=1,i:=[1] } :=
 ⟨(hy0 w).x,(hy0 w).v,h,(fun x hx=>by simp at hx;subst hx;decide),(hy0 w).r,(hy0 w).u,(hy0 w).uv,(hy0 w).ur⟩
theorem hyV {w:World}{g:Nat}(k:Int) (h:Bx w g 55 (voC ⟨3,0,rm0⟩)):MsHy w { yK k with vo:=some ⟨g,0,none⟩,vc:=1,D:=[⟨3,0,rm0⟩] } :=
 ⟨(hy0 w).x,⟨rfl,Nat.le_refl _,(show 1≤maxLen by decide),(fun e=>by cases e),fun i hi=>by
   obtain rfl:i=0:=by simp at hi;omega
   exact ⟨g,0,rfl,h.range⟩,fun y hy=>by simp at hy;subst hy;exact (hy0 w).x⟩,(hy0 w).i,(hy0 w).o,(hy0 w).r,(hy0 w).u,(fun z hz=>by simp at hz;subst hz;exact (hy0 w).u),(hy0 w).ur⟩
set_option linter.unusedSimpArgs false in
set_option maxHeartbeats 16000000 in
set_option maxRecDepth 100000 in
theorem kinds_walk (w:World) (k fd:Int) (hf:0≤fd∧fd < 256):Calls Tryz.prog 8 #[.int .i64 k,.int .u8 fd] w fun r w'=>r=.returned (.bool true)∧Kept [] w w':=by
 have cA:=hide (awake_call w)
 go_enter Tryz.func8,Tryz.ntmps8
 go_wp2_with fail
 refine cA.out.mono ?_
 clear cA
 rintro _ w1 ⟨rfl,hk1⟩
 have HK1:=hide hk1
 clear hk1
 have HBz:Hid (Bx (w1.alloc (.cells zmsg.toArray 36)) w1.heap.size 36 zmsg):=Bx.new w1 _ _
 have HKz:Hid (Kept [] w1 (w1.alloc (.cells zmsg.toArray 36))):=lay1 w1 _ zmsg
 have HTY:Hid (RowT Tryz.prog 36 (msC (yK k)).length):=rowT_msg
 have HOY:=hide (one_msC (yK k))
 have HLY:Hid ((msC (yK k)).length=zmsg.length):=rfl
 unfold zmsg at HBz HKz
 go_upto_region 4 with ((refine wl_store_bx HBz.out ?_ HOY.out HTY.out ?_ ?_ ?_);exact HLY.out;rfl;rfl;intro w2 HB2 HK2)
 have HK12:=hide (HKz.out.trans HK2.out (S:=[]) (by simp))
 have hy2:MsHy w2 (yK k):=hyH w2 k 1 100 0 0 0 0
 have cC:=check_call w2 (yK k) hy2
 rw [chk_okB hy2] at cC
 have HKW:=hide (HK1.out.trans HK12.out (by simp))
 clear hy2 HBz HKz
 by_cases hk:1≤k∧k≤14
 rotate_left
 ·rw [base_no k hk] at cC
  have HC:=hide cC
  clear cC
  by_cases h1:1≤k
  ·have h2:¬ k≤14:=by omega
   have h3:decide (k ≥ 1)=true:=decide_eq_true h1
   have h4:decide (k≤14)=false:=decide_eq_false h2
   clear hk
   go_wp2_with (first | ((with_reducible refine wl_load_bx HB2.out HTY.out ?_ ?_);rfl) | (go_at_call 16;refine HC.out.mono ?_;clear HC;rintro _ w3 ⟨rfl,hk3⟩;have HK3:=hide (HKW.out.trans hk3 (by simp));clear hk3))
   go_ret
   exact ⟨rfl,HK3.out⟩
  ·have h3:decide (k ≥ 1)=false:=decide_eq_false h1
   clear hk
   go_wp2_with (first | ((with_reducible refine wl_load_bx HB2.out HTY.out ?_ ?_);rfl) | (go_at_call 16;refine HC.out.mono ?_;clear HC;rintro _ w3 ⟨rfl,hk3⟩;have HK3:=hide (HKW.out.trans hk3 (by simp));clear hk3))
   go_ret
   exact ⟨rfl,HK3.out⟩
 rw [base_yes k hk] at cC
 have HC:=hide cC
 have h1:decide (k ≥ 1)=true:=decide_eq_true hk.1
 have h2:decide (k≤14)=true:=decide_eq_true hk.2
 have HKB:=hide hk
 clear cC hk
 go_upto_region 10 with (first | ((with_reducible refine wl_load_bx HB2.out HTY.out ?_ ?_);rfl) | (go_at_call 16;refine HC.out.mono ?_;clear HC;rintro _ w3 ⟨rfl,hk3⟩;have HK3:=hide (HKW.out.trans hk3 (by simp));have HB3:=hide (HB2.out.kept hk3 (by simp));clear hk3))
 clear h1 h2
 go_upto_block 0 with fail
 go_cut [7] from 31 to 64 (fun s7 wx=>s7=.slice (some ⟨w3.heap.size,0,none⟩) (nmd k).length (nmd k).length∧Hid (Bx wx w3.heap.size 3 (intC (nmd k)))∧Hid (Kept [] w3 wx))
 case first =>
  have h14:k=1∨k=2∨k=3∨k=4∨k=5∨k=6∨k=7∨k=8∨k=9∨k=10∨k=11∨k=12∨k=13∨k=14:=by have:=HKB.out;omega
  clear HKB
  rcases h14 with rfl | rfl | rfl | rfl | rfl | rfl | rfl | rfl | rfl | rfl | rfl | rfl | rfl | rfl
  all_goals
   go_wp2_with fail
   go_meet
   exact ⟨rfl,Bx.new w3 _ _,(Kept.refl _ _).alloc _⟩
 case rest =>
  obtain ⟨rfl,HN,HKN⟩:=hcut
  obtain ⟨j,hj⟩:∃ j,j=fd % 8:=⟨_,rfl⟩
  have hj8:0≤j∧j < 8:=by rw [hj];omega
  have HJ:=hide hj
  have HJ8:=hide hj8
  clear hj hj8
  go_upto_block 1 with fail
  rw [← HJ.out]
  clear HJ
  have HB4:=hide (HB3.out.kept HKN.out (by simp))
  have HK4:=hide (HK3.out.trans HKN.out (by simp))
  have HBN:Hid (w1.heap.size≠w3.heap.size):=by show _≠_;have:=HB3.out.lt;omega
  have HLB:Hid (w.heap.size≤w1.heap.size):=HK1.out.size
  clear HB3 HK3 HB2 HKN HKW HK12 HK2 HK1
  go_cut [] from 69 to 95 (fun wz=>∃ y:Mm,Hid (Bx wz w1.heap.size 36 (msC y))∧Hid (MsHy wz y)∧Hid (y.ms=fldM k j)∧Hid (Kept [] w wz)∧Hid (Bx wz w3.heap.size 3 (intC (nmd k))))
  case first =>
   have h8:j=0∨j=1∨j=2∨j=3∨j=4∨j=5∨j=6∨j=7:=by have:=HJ8.out;omega
   clear HJ8
   rcases h8 with rfl | rfl | rfl | rfl | rfl | rfl | rfl | rfl
   ·have e:=HB4.out.cell 3 rfl
    have f:=HB4.out.froz 3
    have HBS:=hide (HB4.out.set 3 (.int .i64 1))
    have hk5:Kept [w1.heap.size] wc (wc.setCell ⟨w1.heap.size,3,none⟩ (.int .i64 1)):=kept_set _ _ _ _
    have HN5:=hide (HN.out.kept hk5 (by simpa using Ne.symm HBN.out))
    have HK5:=hide (HK4.out.trans hk5 (by simp;exact HLB.out))
    clear hk5
    go_wp2_with fail
    go_meet
    exact ⟨{ yK k with b:=1 },HBS,hyH _ k 1 100 1 0 0 0,rfl,HK5,HN5⟩
   ·have e:=HB4.out.cell 4 rfl
    have f:=HB4.out.froz 4
    have HBS:=hide (HB4.out.set 4 (.int .i64 1))
    have hk5:Kept [w1.heap.size] wc (wc.setCell ⟨w1.heap.size,4,none⟩ (.int .i64 1)):=kept_set _ _ _ _
    have HN5:=hide (HN.out.kept hk5 (by simpa using Ne.symm HBN.out))
    have HK5:=hide (HK4.out.trans hk5 (by simp;exact HLB.out))
    clear hk5
    go_wp2_with fail
    go_meet
    exact ⟨{ yK k with s:=1 },HBS,hyH _ k 1 100 0 1 0 0,rfl,HK5,HN5⟩
   ·have e:=HB4.out.cell 5 rfl
    have f:=HB4.out.froz 5
    have HBS:=hide (HB4.out.set 5 (.int .i64 1))
    have hk5:Kept [w1.heap.size] wc (wc.setCell ⟨w1.heap.size,5,none⟩ (.int .i64 1)):=kept_set _ _ _ _
    have HN5:=hide (HN.out.kept hk5 (by simpa using Ne.symm HBN.out))
    have HK5:=hide (HK4.out.trans hk5 (by simp;exact HLB.out))
    clear hk5
    go_wp2_with fail
    go_meet
    exact ⟨{ yK k with m:=1 },HBS,hyH _ k 1 100 0 0 1 0,rfl,HK5,HN5⟩
   ·have hB5:=HB4.out
    rw [msC_x] at hB5
    have HB5:=hide hB5
    have HO0:=hide (one_rqC ⟨rqA,none,0,0⟩)
    have HT0:Hid (RowT Tryz.prog 29 (rqC ⟨rqA,none,0,0⟩).length):=rowT_req
    have HL0:Hid ((rqC (yK k).x).length=(rqC ⟨rqA,none,0,0⟩).length):=rfl
    clear hB5
    go_wp2_with ((refine wl_store_at (o:=6) HB5.out ?_ HL0.out HO0.out HT0.out ?_ ?_ ?_);rfl;rfl;rfl;intro w6 HB6 HK6)
    go_meet
    exact ⟨{ yK k with x:=⟨rqA,none,0,0⟩ },by rw [msC_x];exact HB6,hyX _ k,rfl,HK4.out.trans HK6.out (by simp;exact HLB.out),HN.out.kept HK6.out (by simpa using Ne.symm HBN.out)⟩
   ·obtain ⟨w5,hw5⟩:∃ w5,w5=wc.alloc (.cells (voC ⟨3,0,rm0⟩).toArray 55):=⟨_,rfl⟩
    have k5:Kept [] wc w5:=by rw [hw5];exact (Kept.refl _ _).alloc _
    have hV5:Bx w5 wc.heap.size 55 (voC ⟨3,0,rm0⟩):=by rw [hw5];exact Bx.new wc _ _
    have hB5:=HB4.out.kept k5 (by simp)
    have hN5:=HN.out.kept k5 (by simp)
    have hk6:Kept [w1.heap.size] w5 (w5.setCell ⟨w1.heap.size,17,none⟩ (.slice (some ⟨wc.heap.size,0,none⟩) 1 1)):=kept_set _ _ _ _
    have e:=hB5.cell 17 rfl
    have f:=hB5.froz 17
    have HB6:=hide (hB5.set 17 (.slice (some ⟨wc.heap.size,0,none⟩) 1 1))
    have HV6:=hide (hV5.kept hk6 (by have:=HB4.out.lt;simp;omega))
    have HN6:=hide (hN5.kept hk6 (by simpa using Ne.symm HBN.out))
    have HK6:=hide ((HK4.out.trans k5 (by simp)).trans hk6 (by simp;exact HLB.out))
    have hw5':w5=wc.alloc (.cells #[.int .i64 3,.int .i64 0,.int .i64 0,.string ⟨#[]⟩,.int .i64 0,.int .i64 0,.int .i64 0,.string ⟨#[]⟩,.slice none 0 0,.string ⟨#[]⟩,.int .i64 0,.int .i64 0,.int .i64 0] 55):=hw5
    rw [hw5'] at e f HB6 HV6 HN6 HK6
    clear hw5 hw5' k5 hV5 hB5 hN5 hk6
    go_wp2_with fail
    go_meet
    exact ⟨{ yK k with vo:=some ⟨wc.heap.size,0,none⟩,vc:=1,D:=[⟨3,0,rm0⟩] },HB6,hyV k HV6.out,rfl,HK6,HN6⟩
   ·obtain ⟨w5,hw5⟩:∃ w5,w5=wc.alloc (.cells #[.int .u8 1] 5):=⟨_,rfl⟩
    have k5:Kept [] wc w5:=by rw [hw5];exact (Kept.refl _ _).alloc _
    have hV5:Sl w5 (some ⟨wc.heap.size,0,none⟩) 1 1 [1]:=by rw [hw5];exact Sl.lit rfl rfl (by decide)
    have hB5:=HB4.out.kept k5 (by simp)
    have hN5:=HN.out.kept k5 (by simp)
    have hk6:Kept [w1.heap.size] w5 (w5.setCell ⟨w1.heap.size,18,none⟩ (.slice (some ⟨wc.heap.size,0,none⟩) 1 1)):=kept_set _ _ _ _
    have e:=hB5.cell 18 rfl
    have f:=hB5.froz 18
    have HB6:=hide (hB5.set 18 (.slice (some ⟨wc.heap.size,0,none⟩) 1 1))
    have HV6:=hide (Sl.kept hk6 hV5 (by intro k hk hm;have:=HB4.out.lt;simp [blk] at hk hm;omega))
    have HN6:=hide (hN5.kept hk6 (by simpa using Ne.symm HBN.out))
    have HK6:=hide ((HK4.out.trans k5 (by simp)).trans hk6 (by simp;exact HLB.out))
    rw [hw5] at e f HB6 HV6 HN6 HK6
    clear hw5 k5 hV5 hB5 hN5 hk6
    go_wp2_with fail
    go_meet
    exact ⟨{ yK k with io:=some ⟨wc.heap.size,0,none⟩,ic:=1,i:=[1] },HB6,hyI k HV6.out,rfl,HK6,HN6⟩
   ·have e:=HB4.out.cell 19 rfl
    have f:=HB4.out.froz 19
    have HBS:=hide (HB4.out.set 19 (.int .i64 1))
    have hk5:Kept [w1.heap.size] wc (wc.setCell ⟨w1.heap.size,19,none⟩ (.int .i64 1)):=kept_set _ _ _ _
    have HN5:=hide (HN.out.kept hk5 (by simpa using Ne.symm HBN.out))
    have HK5:=hide (HK4.out.trans hk5 (by simp;exact HLB.out))
    clear hk5
    go_wp2_with fail
    go_meet
    exact ⟨{ yK k with n:=1 },HBS,hyH _ k 1 100 0 0 0 1,rfl,HK5,HN5⟩
   ·have hB5:=HB4.out
    rw [msC_r] at hB5
    have HB5:=hide hB5
    have HO0:=hide (one_vtLE vtA1 (.slice none 0 0) rfl)
    have HT0:Hid (RowT Tryz.prog 34 (vtLE vtA1 (.slice none 0 0)).length):=rowT_ver
    have HL0:Hid ((vtLE (yK k).r (.slice (yK k).uo (yK k).un (yK k).uc)).length=(vtLE vtA1 (.slice none 0 0)).length):=rfl
    clear hB5
    go_wp2_with ((refine wl_store_at (o:=20) HB5.out ?_ HL0.out HO0.out HT0.out ?_ ?_ ?_);rfl;rfl;rfl;intro w6 HB6 HK6)
    go_meet
    exact ⟨{ yK k with r:=vtA1 },by rw [msC_r];exact HB6,hyR _ k,rfl,HK4.out.trans HK6.out (by simp;exact HLB.out),HN.out.kept HK6.out (by simpa using Ne.symm HBN.out)⟩
  case rest =>
   obtain ⟨y,HBy,HMy,HFy,HKy,HNy⟩:=hcut
   have HKA:=hide (kinds_at k j HKB.out HJ8.out)
   have hnl:=nmd_len k
   clear HB4 HK4 HN
   generalize nmd k=L at hnl HNy HKA ⊢
   have h31:(L.length:Int)≤3:=by omega
   clear hnl
   go_wp2_with fail
   go_loop [9,10] (fun bv iv=>∃ i:Nat,iv=.int .i64 (i:Int)∧i≤L.length∧bv=.bool ((L.take i).contains j)) (fun _ iv=>L.length - (intOf iv).toNat)
   case atStart=>exact ⟨0,rfl,Nat.zero_le _,rfl⟩
   case round =>
    obtain ⟨i,rfl,hi,rfl⟩:=hrel
    by_cases hlt:i < L.length
    ·have hlt':(i:Int) < L.length:=by omega
     have hcl:=HNy.out.cell i (v:=.int .i64 L[i]) (by simp [intC,hlt])
     have HT:=hide (has_next L hlt j)
     generalize L[i]=z at hcl HT
     generalize (L.take i).contains j=b at HT ⊢
     cases b with
     | true =>
       clear hcl
       go_wp2_with fail
       go_round
       case rel=>exact ⟨i+1,by go_num,by omega,by rw [HT.out];rfl⟩
       case measure=>simp [intOf];omega
     | false =>
       by_cases hd:z=j
       ·have HE:Hid ((z==j)=true):=by show _=_;simpa using hd
        go_wp2_with fail
        go_round
        case rel=>exact ⟨i+1,by go_num,by omega,by rw [HT.out,HE.out];rfl⟩
        case measure=>simp [intOf];omega
       ·have HE:Hid ((z==j)=false):=by show _=_;simpa using hd
        go_wp2_with fail
        go_round
        case rel=>exact ⟨i+1,by go_num,by omega,by rw [HT.out,HE.out];rfl⟩
        case measure=>simp [intOf];omega
    ·have hlt':¬ (i:Int) < L.length:=by omega
     have HE:Hid (L.take i=L):=List.take_of_length_le (by omega)
     rw [HE.out]
     clear hlt hi HE
     have cE:=encM_call wc y HMy.out
     rw [HFy.out] at cE
     have HC2:=hide cE
     clear cE
     generalize L.contains j=c at HKA ⊢
     generalize encM (fldM k j)=X at HKA HC2
     have HTY2:Hid (RowT Tryz.prog 36 (msC y).length):=rowT_msg
     go_wp2_with (first | ((with_reducible refine wl_load_bx HBy.out HTY2.out ?_ ?_);rfl) | (go_at_call 10;refine HC2.out.mono ?_;clear HC2;rintro _ w9 ⟨a9,c9,rfl,hs9,_,hk9⟩;have HK9:=hide (HKy.out.trans hk9 (by simp));clear hk9))
     ·have e:decide (0 < X.1.length)=c:=by rw [← HKA.out.2];simp
      rw [e]
      go_ret
      exact ⟨by simp,HK9.out⟩
     ·rename_i hno
      exact absurd HKA.out.1 hno
end Go.Proofs.YtakafmejllilnaaGreat
