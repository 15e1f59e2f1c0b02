/-
  What is new in the document's machine.
-/
import Derived.Test.YtgpnlidnbldiiaaGreatQ2r
import Derived.Test.YtgpnlidnbldiiaaGreatW2r
set_option maxHeartbeats 8000000
set_option linter.unusedSimpArgs false
namespace Go.Proofs.YtgpnlidnbldiiaaGreat
open Go.RowKit
variable {w0 w : World} {M D : List Nat} {b : Nat} {p : Pl} {al : Int} {sz : Nat} {m : Ma}
def ViaD (w0 w:World) (M D:List Nat) (b:Nat) (p:Pl) (al:Int) (sz:Nat) (v:Vt) (m:Ma) (e:Ending) (w':World):Prop :=
 e=.returned (.agg #[.int .i64 v.c,.int .i64 v.s,.int .i64 v.r,.string (str v.p),.int .u64 v.d,.slice none 0 0,.int .i64 v.m])∧Hid (v.k=[])∧Hid (StepD w0 w M D b p al sz m w')
theorem landD (h:LiveD w0 w M D b p al sz m) (hl:m.g.cs.length≤10000) (x:Rm) (hx:RqOk w x):Calls Tryz.prog 110 #[.pointer (some ⟨b,1,none⟩),.int .i64 x.r.b,.string (str x.r.f),.slice x.mo x.m x.mc] w fun e w'=>ViaD w0 w M D b p al sz (vdT (landV m.g x.r.b x.r.f x.r.c)) ⟨m.a,landG m.g x.r.b x.r.f x.r.c,m.s,m.e⟩ e w':=by
 obtain ⟨v,vL,vR,K,vt,X,h1,rfl,h3,h4,h5,h6,h7⟩:=h
 obtain ⟨⟨hs,hn,_⟩,hm⟩:=hx
 have hl4:=hm.2.2.2.1
 exact (mland_callI h1.g h1.nl h6.g.wf hl x.r.b x.r.f (by have:=hm.2.1;omega) x.mo x.m x.mc x.r.c hs (by have:=hs.1;omega) (fun y hy=>by have:=hm.2.2.2.2 y hy;omega)).mono fun e w' ⟨he,hL⟩=>⟨he,rfl,stepGd h1 h3 h4 h5 h6 h7 hL (.land _ _ _ h6.g)⟩
theorem changeD (h:LiveD w0 w M D b p al sz m) (hl:m.e.length≤1000) (q:Int) (add:Bool):Calls Tryz.prog 130 #[.pointer (some ⟨p.e,0,none⟩),.int .i64 m.a,.int .i64 q,.bool add] w fun e w'=>e=.returned (.int .i64 (chE al m.e m.a q add))∧Hid (StepD w0 w M D b p al sz ⟨m.a,m.g,m.s,chL al m.e m.a q add⟩ w'):=by
 have hsz:=h.size
 obtain ⟨v,vL,vR,K,vt,X,h1,rfl,h3,h4,h5,h6,h7⟩:=h
 exact (rchange_call _ w p.e al m.e h1.e h6.e h6.l0 h6.l1 (by omega) hsz m.a q add).mono fun e w' ⟨he,hE,hT⟩=>⟨he,stepEd h1 h3 h4 h5 h6 h7 hE hT (okL_ch ⟨h6.l0,h6.l1⟩ h6.e _ _ _)⟩
set_option maxRecDepth 100000 in
theorem doLand_call (h:LiveD w0 w M D b p al sz m) (hl:m.g.cs.length≤10000) (x:Rm) (hx:RqOk w x) (h2:x.r.k=2):Calls Tryz.prog 90 #[.pointer (some ⟨b,0,none⟩),rqV x] w fun e w'=>DeedD w0 w M D b p al sz (vdT (landV m.g x.r.b x.r.f x.r.c)) ⟨m.a,landG m.g x.r.b x.r.f x.r.c,m.s,m.e⟩ e w':=by
 have hsz:=h.size
 have hk:=wDeed_kept w x
 have HK1:=hide hk
 have HQ1:=hide (wDeed_rv w x).1
 have HV1:=hide (wDeed_rv w x).2
 have HL1:=hide (h.kept hk)
 have cC:=fun W (hk:Kept [] (wDeed w x) W)=>landD ((h.kept (wDeed_kept w x)).kept hk) hl x ((hx.kept (wDeed_kept w x)).kept hk)
 obtain ⟨vv,hvv⟩:∃ vv:Vt,vv=vdT (landV m.g x.r.b x.r.f x.r.c):=⟨_,rfl⟩
 rw [← hvv] at cC ⊢
 clear hvv
 obtain ⟨W1,hW1⟩:∃ W1,W1=wDeed w x:=⟨_,rfl⟩
 rw [← hW1] at HK1 HQ1 HV1 HL1 cC
 unfold wDeed at hW1
 unfold rqV
 have HSZ:=hide hsz
 obtain ⟨q0,q1,q2,q3,q4,q5,q6,q7,q8,q9,q10⟩:=HQ1.out.cells
 clear h hk hsz hx hl q1 q2 q3 q4 q5 q6 q7 q8 q9 q10
 rw [h2] at q0
 clear h2
 go_enter Tryz.func90,Tryz.ntmps90
 go_upto_region 1 with fail
 rw [← hW1]
 clear hW1
 go_upto_region 3 with fail
 clear q0
 refine wp_region_held_drew (S:=DqS b w.heap.size p m.a x) (by kernel_rfl) ((HL1.out.kept (Kept.refl [] _).drew).dq (HQ1.out.kept (Kept.refl [] _).drew)) (fun hHeld=>?_)
 refine tks [0,1,2,3,4,5,6,7,8] (by rfl) (by kernel_rfl) (fun _ _ _ _ _ h=>h) hHeld ?_
 iterate 9
  refine yk ?_ rfl (Or.inl ⟨by rfl,?_⟩) ?_
  rotate_left
  ·intro w9 hSw;obtain ⟨m0,m4,m5,q0,q1,q2,q3,q4,q5,q6,q7,q8,q9,q10,_⟩:=hSw;go_simp;(try with_reducible rfl)
  try simp only [sT,Act.put]
 refine yk0 ?_
 simp only [setK,sT]
 refine rd1 9 (by kernel_rfl) rfl (fun K0 hK0=>?_)
 go_simp
 refine (cC _ (Kept.refl [] _).drew).mono ?_
 rintro _ w2 ⟨rfl,HE2,HS2⟩
 obtain ⟨F2,hL2,hF2,hs2⟩:=id HS2.out
 have HQ2:=hide ((HQ1.out.kept (Kept.refl [] _).drew).frd hF2)
 have HV2:=hide ((HV1.out.kept (Kept.refl [] _).drew).frd hF2)
 have hS2:=hL2.dq HQ2.out
 have hSt:∀ w3,Hid (VdB w3 (w.heap.size+1) vv (.slice none 0 0))→Hid (Kept [w.heap.size+1] w2 w3)→DqS b w.heap.size p m.a x w3:=fun w3 _ k3=>(hL2.box HV2.out k3.out (by have:=HSZ.out;omega)).dq (k3.out.at HQ2.out (by simp))
 clear hL2 hF2 hs2
 go_wp2_with fail
 refine hK0.out _ _ hS2 (fun hHeld=>?_)
 clear hK0 K0
 try simp only [sT,Act.put]
 refine rd1 10 (by kernel_rfl) rfl (fun K0 hK0=>?_)
 refine step_storeV vv (.slice none 0 0) ⟨_,_,_,rfl⟩ rfl rfl HV2.out fun w3 HV3 HK3=>?_
 refine hK0.out _ _ (hSt w3 HV3 HK3) (fun hHeld=>?_)
 clear hK0 K0
 try simp only [sT,Act.put]
 refine wpAnyH_done (by kernel_rfl) ?_ _
 clear hHeld
 go_wp2_with fail
 refine bodyPost_ret (vt_res (by rfl) _ (by rfl) HV3.out rfl) rfl ?_
 exact deedD_end HSZ.out (HK1.out.trans (Kept.refl [] _).drew (by simp)) HS2.out.u0 (by rw [HE2.out];exact KoO.nil _ _) HV2.out HK3.out
set_option maxRecDepth 100000 in
theorem doAdd_call (h:LiveD w0 w M D b p al sz m) (hl:m.e.length≤1000) (x:Rm) (h2:x.r.k=6):Calls Tryz.prog 90 #[.pointer (some ⟨b,0,none⟩),rqV x] w fun e w'=>DeedD w0 w M D b p al sz (if chE al m.e m.a x.r.mb true=0 then ⟨12,0,0,[],0,[],x.r.mb⟩ else ⟨14,0,0,[],0,[],x.r.mb⟩) ⟨m.a,m.g,m.s,chL al m.e m.a x.r.mb true⟩ e w':=by
 have hsz:=h.size
 have hk:=wDeed_kept w x
 have HK1:=hide hk
 have HQ1:=hide (wDeed_rv w x).1
 have HV1:=hide (wDeed_rv w x).2
 have HL1:=hide (h.kept hk)
 have cC:=fun W (hk:Kept [] (wDeed w x) W)=>changeD ((h.kept (wDeed_kept w x)).kept hk) hl x.r.mb true
 obtain ⟨vv,hvv⟩:∃ vv:Vt,vv=if chE al m.e m.a x.r.mb true=0 then ⟨12,0,0,[],0,[],x.r.mb⟩ else ⟨14,0,0,[],0,[],x.r.mb⟩:=⟨_,rfl⟩
 rw [← hvv]
 have HVV:=hide hvv
 clear hvv
 obtain ⟨W1,hW1⟩:∃ W1,W1=wDeed w x:=⟨_,rfl⟩
 rw [← hW1] at HK1 HQ1 HV1 HL1 cC
 unfold wDeed at hW1
 unfold rqV
 have HSZ:=hide hsz
 obtain ⟨q0,q1,q2,q3,q4,q5,q6,q7,q8,q9,q10⟩:=HQ1.out.cells
 clear h hk hsz hl q1 q2 q3 q4 q5 q6 q7 q8 q9 q10
 rw [h2] at q0
 have HK6:=hide h2
 clear h2
 go_enter Tryz.func90,Tryz.ntmps90
 go_upto_region 1 with fail
 rw [← hW1]
 clear hW1
 go_upto_region 6 with fail
 clear q0
 refine wp_region_held_drew (S:=DqS b w.heap.size p m.a x) (by kernel_rfl) ((HL1.out.kept (Kept.refl [] _).drew).dq (HQ1.out.kept (Kept.refl [] _).drew)) (fun hHeld=>?_)
 refine tks [0,1,2,3,4,5,6,7,8,9,10,11,12] (by rfl) (by kernel_rfl) (fun _ _ _ _ _ h=>h) hHeld ?_
 iterate 13
  refine yk ?_ rfl (Or.inl ⟨by rfl,?_⟩) ?_
  rotate_left
  ·intro w9 hSw;obtain ⟨m0,m4,m5,q0,q1,q2,q3,q4,q5,q6,q7,q8,q9,q10,_⟩:=hSw;rw [HK6.out] at q0;go_simp;(try with_reducible rfl)
  try simp only [sT,Act.put]
 refine yk0 ?_
 simp only [setK,sT]
 refine rd1 13 (by kernel_rfl) rfl (fun K0 hK0=>?_)
 go_simp
 refine (cC _ (Kept.refl [] _).drew).mono ?_
 rintro _ w2 ⟨rfl,HS2⟩
 obtain ⟨F2,hL2,hF2,hs2⟩:=id HS2.out
 have HQ2:=hide ((HQ1.out.kept (Kept.refl [] _).drew).frd hF2)
 have HV2:=hide ((HV1.out.kept (Kept.refl [] _).drew).frd hF2)
 have hS2:=hL2.dq HQ2.out
 clear hL2 hF2 hs2
 go_wp2_with fail
 refine hK0.out _ _ hS2 (fun hHeld=>?_)
 clear hK0 K0
 try simp only [sT,Act.put]
 refine tks [14] (by rfl) (by kernel_rfl) (fun _ _ _ _ _ h=>h) hHeld ?_
 iterate 1
  refine yk ?_ rfl (Or.inl ⟨by rfl,?_⟩) ?_
  rotate_left
  ·intro w9 hSw;obtain ⟨m0,m4,m5,q0,q1,q2,q3,q4,q5,q6,q7,q8,q9,q10,_⟩:=hSw;go_simp;(try with_reducible rfl)
  try simp only [sT,Act.put]
 refine yk0 ?_
 simp only [setK,sT]
 refine wpAnyH_done (by kernel_rfl) ?_ _
 clear hHeld
 have c10:=hS2.q10
 have c0:=hS2.q0
 rw [HK6.out] at c0
 clear hS2
 have r0:=cell_inC (k:=0) HV2.out rfl
 have fr0:=froz3 HV2.out 0
 have r1:=cell_inC (k:=1) HV2.out rfl
 have fr1:=froz3 HV2.out 1
 have r2:=cell_inC (k:=2) HV2.out rfl
 have fr2:=froz3 HV2.out 2
 have r3:=cell_inC (k:=3) HV2.out rfl
 have fr3:=froz3 HV2.out 3
 have r4:=cell_inC (k:=4) HV2.out rfl
 have fr4:=froz3 HV2.out 4
 have r5:=cell_inC (k:=5) HV2.out rfl
 have fr5:=froz3 HV2.out 5
 have r6:=cell_inC (k:=6) HV2.out rfl
 have fr6:=froz3 HV2.out 6
 by_cases hz:chE al m.e m.a x.r.mb true=0
 ·have HVW:Hid (vv=⟨12,0,0,[],0,[],x.r.mb⟩):=HVV.out.trans (if_pos hz)
  rw [hz]
  clear hz
  go_wp2_with fail
  refine bodyPost_ret (vt_res (by rfl) _ (by rfl) (setA7_at HV2.out rfl _ _ _ _ _ _ _) rfl) rfl ?_
  rw [HVW.out]
  exact deedD_end HSZ.out (HK1.out.trans (Kept.refl [] _).drew (by simp)) HS2.out.u0 (KoO.nil _ _) HV2.out (setA7_kept (Kept.refl _ _) (by simp) _ _ _ _ _ _ _)
 ·have HVW:Hid (vv=⟨14,0,0,[],0,[],x.r.mb⟩):=HVV.out.trans (if_neg hz)
  go_wp2_with fail
  refine bodyPost_ret (vt_res (by rfl) _ (by rfl) (setA7_at HV2.out rfl _ _ _ _ _ _ _) rfl) rfl ?_
  rw [HVW.out]
  exact deedD_end HSZ.out (HK1.out.trans (Kept.refl [] _).drew (by simp)) HS2.out.u0 (KoO.nil _ _) HV2.out (setA7_kept (Kept.refl _ _) (by simp) _ _ _ _ _ _ _)
set_option maxRecDepth 100000 in
theorem doDrop_call (h:LiveD w0 w M D b p al sz m) (hl:m.e.length≤1000) (x:Rm) (h2:x.r.k=7):Calls Tryz.prog 90 #[.pointer (some ⟨b,0,none⟩),rqV x] w fun e w'=>DeedD w0 w M D b p al sz (if chE al m.e m.a x.r.mb false=0 then ⟨13,0,0,[],0,[],x.r.mb⟩ else ⟨14,0,0,[],0,[],x.r.mb⟩) ⟨m.a,m.g,m.s,chL al m.e m.a x.r.mb false⟩ e w':=by
 have hsz:=h.size
 have hk:=wDeed_kept w x
 have HK1:=hide hk
 have HQ1:=hide (wDeed_rv w x).1
 have HV1:=hide (wDeed_rv w x).2
 have HL1:=hide (h.kept hk)
 have cC:=fun W (hk:Kept [] (wDeed w x) W)=>changeD ((h.kept (wDeed_kept w x)).kept hk) hl x.r.mb false
 obtain ⟨vv,hvv⟩:∃ vv:Vt,vv=if chE al m.e m.a x.r.mb false=0 then ⟨13,0,0,[],0,[],x.r.mb⟩ else ⟨14,0,0,[],0,[],x.r.mb⟩:=⟨_,rfl⟩
 rw [← hvv]
 have HVV:=hide hvv
 clear hvv
 obtain ⟨W1,hW1⟩:∃ W1,W1=wDeed w x:=⟨_,rfl⟩
 rw [← hW1] at HK1 HQ1 HV1 HL1 cC
 unfold wDeed at hW1
 unfold rqV
 have HSZ:=hide hsz
 obtain ⟨q0,q1,q2,q3,q4,q5,q6,q7,q8,q9,q10⟩:=HQ1.out.cells
 clear h hk hsz hl q1 q2 q3 q4 q5 q6 q7 q8 q9 q10
 rw [h2] at q0
 have HK6:=hide h2
 clear h2
 go_enter Tryz.func90,Tryz.ntmps90
 go_upto_region 1 with fail
 rw [← hW1]
 clear hW1
 go_upto_region 6 with fail
 clear q0
 refine wp_region_held_drew (S:=DqS b w.heap.size p m.a x) (by kernel_rfl) ((HL1.out.kept (Kept.refl [] _).drew).dq (HQ1.out.kept (Kept.refl [] _).drew)) (fun hHeld=>?_)
 refine tks [0,1,2,3,4,5,6,7,8,9,10,11,12] (by rfl) (by kernel_rfl) (fun _ _ _ _ _ h=>h) hHeld ?_
 iterate 13
  refine yk ?_ rfl (Or.inl ⟨by rfl,?_⟩) ?_
  rotate_left
  ·intro w9 hSw;obtain ⟨m0,m4,m5,q0,q1,q2,q3,q4,q5,q6,q7,q8,q9,q10,_⟩:=hSw;rw [HK6.out] at q0;go_simp;(try with_reducible rfl)
  try simp only [sT,Act.put]
 refine yk0 ?_
 simp only [setK,sT]
 refine rd1 13 (by kernel_rfl) rfl (fun K0 hK0=>?_)
 go_simp
 refine (cC _ (Kept.refl [] _).drew).mono ?_
 rintro _ w2 ⟨rfl,HS2⟩
 obtain ⟨F2,hL2,hF2,hs2⟩:=id HS2.out
 have HQ2:=hide ((HQ1.out.kept (Kept.refl [] _).drew).frd hF2)
 have HV2:=hide ((HV1.out.kept (Kept.refl [] _).drew).frd hF2)
 have hS2:=hL2.dq HQ2.out
 clear hL2 hF2 hs2
 go_wp2_with fail
 refine hK0.out _ _ hS2 (fun hHeld=>?_)
 clear hK0 K0
 try simp only [sT,Act.put]
 refine tks [14] (by rfl) (by kernel_rfl) (fun _ _ _ _ _ h=>h) hHeld ?_
 iterate 1
  refine yk ?_ rfl (Or.inl ⟨by rfl,?_⟩) ?_
  rotate_left
  ·intro w9 hSw;obtain ⟨m0,m4,m5,q0,q1,q2,q3,q4,q5,q6,q7,q8,q9,q10,_⟩:=hSw;go_simp;(try with_reducible rfl)
  try simp only [sT,Act.put]
 refine yk0 ?_
 simp only [setK,sT]
 refine wpAnyH_done (by kernel_rfl) ?_ _
 clear hHeld
 have c10:=hS2.q10
 have c0:=hS2.q0
 rw [HK6.out] at c0
 clear hS2
 have r0:=cell_inC (k:=0) HV2.out rfl
 have fr0:=froz3 HV2.out 0
 have r1:=cell_inC (k:=1) HV2.out rfl
 have fr1:=froz3 HV2.out 1
 have r2:=cell_inC (k:=2) HV2.out rfl
 have fr2:=froz3 HV2.out 2
 have r3:=cell_inC (k:=3) HV2.out rfl
 have fr3:=froz3 HV2.out 3
 have r4:=cell_inC (k:=4) HV2.out rfl
 have fr4:=froz3 HV2.out 4
 have r5:=cell_inC (k:=5) HV2.out rfl
 have fr5:=froz3 HV2.out 5
 have r6:=cell_inC (k:=6) HV2.out rfl
 have fr6:=froz3 HV2.out 6
 by_cases hz:chE al m.e m.a x.r.mb false=0
 ·have HVW:Hid (vv=⟨13,0,0,[],0,[],x.r.mb⟩):=HVV.out.trans (if_pos hz)
  rw [hz]
  clear hz
  go_wp2_with fail
  refine bodyPost_ret (vt_res (by rfl) _ (by rfl) (setA7_at HV2.out rfl _ _ _ _ _ _ _) rfl) rfl ?_
  rw [HVW.out]
  exact deedD_end HSZ.out (HK1.out.trans (Kept.refl [] _).drew (by simp)) HS2.out.u0 (KoO.nil _ _) HV2.out (setA7_kept (Kept.refl _ _) (by simp) _ _ _ _ _ _ _)
 ·have HVW:Hid (vv=⟨14,0,0,[],0,[],x.r.mb⟩):=HVV.out.trans (if_neg hz)
  go_wp2_with fail
  refine bodyPost_ret (vt_res (by rfl) _ (by rfl) (setA7_at HV2.out rfl _ _ _ _ _ _ _) rfl) rfl ?_
  rw [HVW.out]
  exact deedD_end HSZ.out (HK1.out.trans (Kept.refl [] _).drew (by simp)) HS2.out.u0 (KoO.nil _ _) HV2.out (setA7_kept (Kept.refl _ _) (by simp) _ _ _ _ _ _ _)
set_option maxRecDepth 100000 in
theorem doLook_call (h:LiveD w0 w M D b p al sz m) (hl:m.g.cs.length≤10000) (x:Rm) (hx:RqOk w x) (h2:x.r.k≠2) (h6:x.r.k≠6) (h7:x.r.k≠7):Calls Tryz.prog 90 #[.pointer (some ⟨b,0,none⟩),rqV x] w fun e w'=>DeedD w0 w M D b p al sz (peekT m.g x.r) m e w':=by
 have hsz:=h.size
 have hk:=wDeed_kept w x
 have HK1:=hide hk
 have HQ1:=hide (wDeed_rv w x).1
 have HV1:=hide (wDeed_rv w x).2
 have HL1:=hide (h.kept hk)
 have cC:=dpeek_call (h.kept (wDeed_kept w x)) hl x (hx.kept (wDeed_kept w x))
 obtain ⟨vv,hvv⟩:∃ vv:Vt,vv=peekT m.g x.r:=⟨_,rfl⟩
 rw [← hvv] at cC ⊢
 clear hvv
 unfold rqV at cC
 obtain ⟨W1,hW1⟩:∃ W1,W1=wDeed w x:=⟨_,rfl⟩
 rw [← hW1] at HK1 HQ1 HV1 HL1 cC
 unfold wDeed at hW1
 unfold rqV
 have HSZ:=hide hsz
 obtain ⟨q0,q1,q2,q3,q4,q5,q6,q7,q8,q9,q10⟩:=HQ1.out.cells
 clear h hk hsz hx hl
 go_enter Tryz.func90,Tryz.ntmps90
 go_upto_region 1 with fail
 rw [← hW1]
 clear hW1
 go_wp2_with fail
 refine cC.mono ?_
 rintro _ w2 ⟨ao,n,c,rfl,hO2,hS2⟩
 have HO2:=hide hO2
 have HS2:=hide hS2
 obtain ⟨F2,hL2,hF2,hs2,_⟩:=hS2
 have HV2:=hide (HV1.out.frd hF2)
 unfold vtV
 clear hO2 hL2 hF2 hs2 q0 q1 q2 q3 q4 q5 q6 q7 q8 q9 q10 cC
 have r0:=cell_inC (k:=0) HV2.out rfl
 have fr0:=froz3 HV2.out 0
 have r1:=cell_inC (k:=1) HV2.out rfl
 have fr1:=froz3 HV2.out 1
 have r2:=cell_inC (k:=2) HV2.out rfl
 have fr2:=froz3 HV2.out 2
 have r3:=cell_inC (k:=3) HV2.out rfl
 have fr3:=froz3 HV2.out 3
 have r4:=cell_inC (k:=4) HV2.out rfl
 have fr4:=froz3 HV2.out 4
 have r5:=cell_inC (k:=5) HV2.out rfl
 have fr5:=froz3 HV2.out 5
 have r6:=cell_inC (k:=6) HV2.out rfl
 have fr6:=froz3 HV2.out 6
 go_wp2_with fail
 refine bodyPost_ret (vt_res (by rfl) _ (by rfl) (setA7_at HV2.out rfl _ _ _ _ _ _ _) rfl) rfl ?_
 exact deedD_end HSZ.out HK1.out HS2.out HO2.out HV2.out (setA7_kept (Kept.refl _ _) (by simp) _ _ _ _ _ _ _)
theorem do_call (h:LiveD w0 w M D b p al sz m) (hl:m.g.cs.length≤10000) (he:m.e.length≤1000) (x:Rm) (hx:RqOk w x):Calls Tryz.prog 90 #[.pointer (some ⟨b,0,none⟩),rqV x] w fun e w'=>DeedD w0 w M D b p al sz (doV al m x.r) ⟨m.a,doG m x.r,m.s,doE al m x.r⟩ e w':=by
 unfold doV doG doE
 by_cases h2:x.r.k=2
 ·rw [if_pos h2,if_pos h2,if_neg (by omega)];exact doLand_call h hl x hx h2
 ·rw [if_neg h2,if_neg h2]
  by_cases h6:x.r.k=6
  ·have e1:x.r.k=6∨x.r.k=7:=.inl h6
   simp only [if_pos e1,if_pos h6,decide_eq_true h6]
   exact doAdd_call h he x h6
  ·by_cases h7:x.r.k=7
   ·have e1:x.r.k=6∨x.r.k=7:=.inr h7
    simp only [if_pos e1,if_neg h6,decide_eq_false h6]
    exact doDrop_call h he x h7
   ·rw [if_neg (by omega),if_neg (by omega)];exact doLook_call h hl x hx h2 h6 h7
end Go.Proofs.YtgpnlidnbldiiaaGreat
