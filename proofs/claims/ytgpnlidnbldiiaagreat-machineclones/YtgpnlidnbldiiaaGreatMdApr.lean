/-
  The document's Apply.
-/
import Derived.Test.YtgpnlidnbldiiaaGreatQ2r
import Derived.Test.YtgpnlidnbldiiaaGreatMdVerr
import Derived.Test.YtgpnlidnbldiiaaGreatMaApplyr
import Derived.Test.YtgpnlidnbldiiaaGreatMtCopyr
namespace Go.Proofs.YtgpnlidnbldiiaaGreat
open Go.RowKit
variable {w0 w : World} {M D : List Nat} {b : Nat} {p : Pl} {al : Int} {sz : Nat} {m : Ma}
theorem verdict_callD (h:LiveD w0 w M D b p al sz m) (ha:m.a < 1099511627776) (hl:m.g.cs.length≤10000) (he:m.e.length≤1000) (x:Rm) (hx:RqOk w0 x):Calls Tryz.prog 42 #[.pointer (some ⟨b,0,none⟩),rqV x] w fun e w'=>DeedD w0 w M D b p al sz (verV al m x.r) ⟨m.a,verG m x.r,verS al sz m x.r,verE al m x.r⟩ e w':=by
 by_cases h0:x.r.k=0
 ·have e2:verV al m x.r=vtC 0:=if_pos h0
  have e3:(⟨m.a,verG m x.r,verS al sz m x.r,verE al m x.r⟩:Ma)=m:=by
   unfold verG verS verE newQ
   rw [if_pos h0]
   simp [h0]
  rw [e2,e3]
  exact vNoop_call h x h0
 ·by_cases h1:x.r.k=1
  ·have e2:verV al m x.r=if wordB false x.r.n=true then ⟨1,openI x.r.n (m.a+1) m.s,0,[],0,[],0⟩ else vtC 5:=(if_neg h0).trans (if_pos h1)
   have e3:(⟨m.a,verG m x.r,verS al sz m x.r,verE al m x.r⟩:Ma)=⟨m.a,m.g,if wordB false x.r.n=true then openL sz x.r.n (m.a+1) m.s else m.s,m.e⟩:=by
    unfold verG verS verE newQ
    rw [if_neg h0,if_pos h1]
    simp [h1]
   rw [e2,e3]
   exact vOpen_call h ha x hx h1
  ·obtain ⟨e2,e3⟩:=ver_old (al:=al) (sz:=sz) (m:=m) h0 h1
   rw [e2,e3]
   exact vOnce_call h hl he x hx h0 h1
theorem okV_c (c:Int):okV (vtC c):=⟨Nat.zero_le _,Nat.zero_le _,fun _ h=>by cases h⟩
theorem okV_ver {m:Ma}(hW:Wf m.g) (hs:∀ x∈m.s,okS x) (r:Rq):okV (verV al m r):=by
 unfold verV
 split
 ·exact okV_c 0
 ·split
  ·split
   ·exact ⟨Nat.zero_le _,Nat.zero_le _,fun _ h=>by cases h⟩
   ·exact okV_c 5
  ·split
   ·rename_i h
    rcases ask_told h with ⟨x,hx,e⟩ | e | e | e
    ·rw [e];exact (hs x hx).2
    all_goals rw [e];exact okV_c _
   ·exact okV_do hW r
theorem StepD.size {w0 w w2:World}{F D:List Nat}{b:Nat}{p:Pl}{al:Int}{sz:Nat}{m:Ma}(h:StepD w0 w F D b p al sz m w2):w.heap.size≤w2.heap.size:=by
 obtain ⟨_,_,h2,_⟩:=h;exact h2.size
theorem cutD (h:LiveD w0 w M D b p al sz m) (hl:m.e.length≤1000) (z:Int):Calls Tryz.prog 43 #[.pointer (some ⟨p.e,0,none⟩),.int .i64 z] w fun e w'=>(∃ v,e=.returned v)∧Hid (StepD w0 w M D b p al sz ⟨m.a,m.g,m.s,cutL m.e z⟩ w')∧Hid (KdK w w'):=by
 have hsz:=h.size
 obtain ⟨v,vL,vR,K,vt,X,h1,rfl,h3,h4,h5,h6,h7⟩:=h
 exact (rcut_call _ w p.e al m.e h1.e h6.e (by omega) hsz z).mono fun e w' ⟨he,hE,hT⟩=>⟨he,stepEd h1 h3 h4 h5 h6 h7 hE hT (okL_cut h6.e _),(by
  obtain ⟨U,k1,_,k3,_⟩:=hT
  exact KdK.typed k1 k3 (by decide) (by decide))⟩
theorem incD (h:LiveD w0 w M D b p al sz m) {a:Int}(ha:0≤a∧a≤1099511627776):StepD w0 w M D b p al sz ⟨a,m.g,m.s,m.e⟩ (w.setCell ⟨b,0,none⟩ (.int .i64 a))∧KdK w (w.setCell ⟨b,0,none⟩ (.int .i64 a)):=by
 obtain ⟨v0,vL0,vR0,hat⟩:=h.at
 obtain ⟨v,vL,vR,K,vt,X,h1,rfl,h3,h4,h5,h6,h7⟩:=h
 exact ⟨stepAd h1 h3 h4 h5 h6 h7 ha,KdK.typed ((Kept.refl [b] _).setCell (by simp) _) (typed1 hat) (by decide) (by decide)⟩
set_option linter.unusedSimpArgs false in
set_option maxHeartbeats 16000000 in
set_option maxRecDepth 100000 in
theorem dapply_call (h:LiveD w0 w M D b p al sz m) (hl:m.g.cs.length≤10000) (he:m.e.length≤999) (x:Rm) (hx:RqOk w0 x):Calls Tryz.prog 14 #[.pointer (some ⟨b,0,none⟩),rqV x] w fun e w'=>DeedD w0 w M D b p al sz (apV al m x.r) (apM al sz m x.r) e w':=by
 have hsz:=h.size
 have hk:=wDeed_kept w x
 have HK1:=hide hk
 have HQ1:=hide (wDeed_rv w x).1
 have HV1:=hide (wDeed_rv w x).2
 have HL1:=hide (h.kept hk)
 obtain ⟨W1,hW1⟩:∃ W1,W1=wDeed w x:=⟨_,rfl⟩
 rw [← hW1] at HK1 HQ1 HV1 HL1
 unfold wDeed at hW1
 unfold rqV
 have HSZ:=hide hsz
 obtain ⟨q0,q1,q2,q3,q4,q5,q6,q7,q8,q9,q10⟩:=HQ1.out.cells
 obtain ⟨va,vb,vc,hat⟩:=HL1.out.at
 have m0:=cell_inC (k:=0) hat rfl
 clear hat
 have hA0:=h.w.a0
 have hA1:=h.w.a1
 by_cases ha:1099511627776≤m.a
 ·have e1:apV al m x.r=vtC 5:=if_pos ha
  have e2:apM al sz m x.r=m:=if_pos ha
  rw [e1,e2]
  clear e1 e2 h hk hsz hx hl he hA0 hA1 q0 q1 q2 q3 q4 q5 q6 q7 q8 q9 q10
  go_enter Tryz.func14,Tryz.ntmps14
  go_upto_region 1 with fail
  rw [← hW1]
  clear hW1
  obtain ⟨r0,r1,r2,r3,r4,r5,r6⟩:=HV1.out.cells
  have fr0:=froz3 HV1.out 0
  have fr1:=froz3 HV1.out 1
  have fr2:=froz3 HV1.out 2
  have fr3:=froz3 HV1.out 3
  have fr4:=froz3 HV1.out 4
  have fr5:=froz3 HV1.out 5
  have fr6:=froz3 HV1.out 6
  go_wp2_with fail
  refine bodyPost_ret (vt_res (by rfl) _ (by rfl) (setA7_at HV1.out rfl _ _ _ _ _ _ _) rfl) rfl ?_
  exact deedD_end HSZ.out HK1.out (StepD.same HL1.out (Kept.refl _ _)).u0 (KoO.nil _ _) HV1.out (setA7_kept (Kept.refl _ _) (by simp) _ _ _ _ _ _ _)
 ·have hlt:m.a < 1099511627776:=by omega
  have cV:=verdict_callD HL1.out hlt hl (by omega) x hx
  have HOk:=hide (okV_ver (al:=al) HL1.out.w.g.wf HL1.out.w.so x.r)
  have e1:apV al m x.r=verV al m x.r:=if_neg (by omega)
  have e2:=ap_eq (al:=al) (sz:=sz) (r:=x.r) hlt
  rw [e1,e2]
  have hwr:IntKind.i64.wrap (m.a+1)=m.a+1:=IntWalk.i64_in _ (by omega)
  have HR:Hid (0≤m.a+1∧m.a+1≤1099511627776):=by show _∧_;omega
  have HEl:Hid ((verE al m x.r).length≤1000):=by
   show _≤_
   unfold verE doE
   split
   ·split
    ·exact Nat.le_trans (ch_len _ _ _ _ _) (by omega)
    ·omega
   ·omega
  generalize verV al m x.r=dv at *
  generalize verG m x.r=vG at *
  generalize verS al sz m x.r=vS at *
  generalize verE al m x.r=vE at *
  have hab:¬ 1099511627776≤m.a:=ha
  unfold rqV at cV
  clear ha e1 e2 h hk hsz hx hl he hA0 hA1 hlt
  go_enter Tryz.func14,Tryz.ntmps14
  go_upto_region 1 with fail
  rw [← hW1]
  clear hW1
  go_wp2_with fail
  refine cV.mono ?_
  rintro _ w2 ⟨ao2,n2,c2,rfl,hO2,hS2⟩
  clear cV q0 q1 q2 q3 q4 q5 q6 q7 q8 q9 q10 m0
  have HO2:=hide hO2
  have HT2:=hide hS2
  obtain ⟨F2,hL2,hF2,hs2,hu2⟩:=hS2
  have HL2:=hide hL2
  have HF2:=hide hF2
  have HS2:=hide hs2
  have HU2:=hide hu2
  unfold vtV
  clear hO2 hL2 hF2 hs2 hu2
  go_upto_region 4 with fail
  obtain ⟨w3,hw3⟩:∃ w3,w3=w2.alloc (.cells #[.int .i64 dv.c,.int .i64 dv.s,.int .i64 dv.r,.string (str dv.p),.int .u64 dv.d,.slice ao2 n2 c2,.int .i64 dv.m] 39):=⟨_,rfl⟩
  rw [← hw3]
  have HV3:Hid (VdB w3 w2.heap.size dv (.slice ao2 n2 c2)):=by rw [hw3];exact heap_alloc_new w2 _
  have HK13:Hid (Kept [] w2 w3):=by rw [hw3];exact (Kept.refl _ _).alloc _
  clear hw3
  have HL3:=hide (HL2.out.kept HK13.out)
  have HQ3:=hide ((HQ1.out.frd HF2.out).kept HK13.out)
  have HZ3:=hide ((HV1.out.frd HF2.out).kept HK13.out)
  have HO3:=hide (HO2.out.kept HK13.out)
  have HF3:=hide (HF2.out.trans (FrD.kept (M:=[]) HK13.out) (fun i hi=>by cases hi))
  obtain ⟨va2,vb2,vc2,hat3⟩:=HL3.out.at
  have m0:=cell_inC (k:=0) hat3 rfl
  have fm0:=froz3 hat3 0
  clear hat3
  dsimp only at m0
  go_upto_region 5 with fail
  obtain ⟨hI,hKi⟩:=incD HL3.out HR.out
  obtain ⟨w6,hw6⟩:∃ w6,w6=w3.setCell ⟨b,0,none⟩ (.int .i64 (m.a+1)):=⟨_,rfl⟩
  rw [← hw6] at hI hKi ⊢
  have HKi:=hide hKi
  obtain ⟨F6,hL6,hF6,hs6⟩:=hI
  have HL6:=hide hL6
  have HF6:=hide hF6
  have HS6:=hide hs6
  have HQ6:=hide (HQ3.out.frd hF6)
  have HV6:=hide (HV3.out.frd hF6)
  have HZ6:=hide (HZ3.out.frd hF6)
  have cT:=fun W (hk:Kept [] w6 W)=>cutD (hL6.kept hk) HEl.out (m.a+1)
  clear hL6 hF6 hs6 hKi hw6 m0 fm0
  refine wp_region_held_drew (S:=DqS b w.heap.size p (m.a+1) x) (by kernel_rfl) ((HL6.out.kept (Kept.refl [] _).drew).dq (HQ6.out.kept (Kept.refl [] _).drew)) (fun hHeld=>?_)
  refine tks [0,1,2,3,4,5,6,7] (by rfl) (by kernel_rfl) (fun _ _ _ _ _ h=>h) hHeld ?_
  iterate 8
   refine yk ?_ rfl (Or.inl ⟨by rfl,?_⟩) ?_
   rotate_left
   ·intro w9 hSw;obtain ⟨m0,m4,m5,q0,q1,q2,q3,q4,q5,q6,q7,q8,q9,q10,_⟩:=hSw;go_simp;(try with_reducible rfl)
   try simp only [sT,Act.put]
  refine yk0 ?_
  simp only [setK,sT]
  refine rd1 8 (by kernel_rfl) rfl (fun K0 hK0=>?_)
  go_simp
  refine (cT _ (Kept.refl [] _).drew).mono ?_
  rintro _ w7 ⟨⟨v7,rfl⟩,HT7,HK7⟩
  obtain ⟨F7,hL7,hF7,hs7⟩:=id HT7.out
  have HQ7:=hide ((HQ6.out.kept (Kept.refl [] _).drew).frd hF7)
  have HV7:=hide ((HV6.out.kept (Kept.refl [] _).drew).frd hF7)
  have HZ7:=hide ((HZ6.out.kept (Kept.refl [] _).drew).frd hF7)
  have HL7:=hide hL7
  go_wp2_with fail
  refine hK0.out _ _ (hL7.dq HQ7.out) (fun hHeld=>?_)
  clear hK0 K0
  try simp only [sT,Act.put]
  refine wpAnyH_done (by kernel_rfl) ?_ _
  have HO7:=hide (HK7.out _ _ _ ((HKi.out _ _ _ HO3.out).kept (Kept.refl [] _).drew))
  have cC:=rcopyV_call w7 dv (.slice ao2 n2 c2) HO7.out.ko HOk.out
  unfold vtV at cC
  clear hHeld hL7 hF7 hs7 cT
  obtain ⟨s0,s1,s2,s3,s4,s5,s6⟩:=HV7.out.cells
  go_wp2_with fail
  refine cC.mono ?_
  rintro _ w8 ⟨u8,rfl,hO8,hK8⟩
  obtain ⟨ao8,n8,c8,rfl⟩:=hO8.ko.one
  have HO8:=hide hO8
  have HK8:=hide hK8
  have HZ8:=hide (HZ7.out.kept hK8)
  clear hO8 hK8 cC s0 s1 s2 s3 s4 s5 s6
  obtain ⟨r0,r1,r2,r3,r4,r5,r6⟩:=HZ8.out.cells
  have fr0:=froz3 HZ8.out 0
  have fr1:=froz3 HZ8.out 1
  have fr2:=froz3 HZ8.out 2
  have fr3:=froz3 HZ8.out 3
  have fr4:=froz3 HZ8.out 4
  have fr5:=froz3 HZ8.out 5
  have fr6:=froz3 HZ8.out 6
  go_wp2_with fail
  refine bodyPost_ret (vt_res (by rfl) _ (by rfl) (setA7_at HZ8.out rfl _ _ _ _ _ _ _) rfl) rfl ?_
  have hz7:W1.heap.size≤w7.heap.size:=Nat.le_trans HF3.out.size (Nat.le_trans HF6.out.size (by have:=(StepD.lift (Kept.refl [] _).drew HT7.out).size;exact this))
  refine deedD_end HSZ.out HK1.out ?_ (HO8.out.mono hz7) HZ8.out (setA7_kept (Kept.refl _ _) (by simp) _ _ _ _ _ _ _)
  obtain ⟨F7,hL7,hF7,hs7⟩:=StepD.trans HF3.out HS2.out (StepD.trans HF6.out HS6.out (StepD.lift (Kept.refl [] _).drew HT7.out))
  exact ⟨F7,hL7.kept HK8.out,hF7.trans (FrD.kept (M:=[]) HK8.out) (fun i hi=>by cases hi),hs7,fun j hj hm=>by have:=(ko_ge HO8.out hj).1;have:=hL7.lt j hm;omega⟩
end Go.Proofs.YtgpnlidnbldiiaaGreat
