/-
  Apply, Peek.
-/
import Derived.Test.YtgpnlidnbldiiaaGreatQ2r
import Derived.Test.YtgpnlidnbldiiaaGreatMaOncer
set_option maxHeartbeats 16000000
set_option linter.unusedSimpArgs false
namespace Go.Proofs.YtgpnlidnbldiiaaGreat
open Go.RowKit
variable {w0 w : World} {F D : List Nat} {b : Nat} {p : Pl} {al : Int} {sz : Nat} {m : Ma}
def deedF (k:Int):Nat:=if k=0 then 81 else if k=1 then 82 else 83
set_option maxRecDepth 100000 in
theorem enter_deed (k:Int) (args:Array Value) (w:World):(callFunc (deedF k) args).run Tryz.prog w=.ok (.enter (deedF k) args) w:=by
 unfold deedF
 split
 ·rfl
 ·split <;> rfl
set_option maxRecDepth 100000 in
theorem enter_look (k:Int) (args:Array Value) (w:World):(callFunc (lookF k) args).run Tryz.prog w=.ok (.enter (lookF k) args) w:=by
 unfold lookF
 split
 ·rfl
 ·split
  ·rfl
  ·split <;> rfl
theorem ver_old {al:Int}{sz:Nat}{m:Ma}{r:Rq}(h0:r.k≠0) (h1:r.k≠1):verV al m r=(if (askV r.s r.q m.s).2=true then (askV r.s r.q m.s).1 else doV al m r)∧(⟨m.a,verG m r,verS al sz m r,verE al m r⟩:Ma)=(if (askV r.s r.q m.s).2=true then ⟨m.a,m.g,askL r.s m.s,m.e⟩ else ⟨m.a,doG m r,doneL r.s r.q (doV al m r) (askL r.s m.s),doE al m r⟩):=by
 unfold verV verG verS verE newQ
 rw [if_neg h0,if_neg h1,if_neg h0,if_neg h1]
 cases (askV r.s r.q m.s).2 with
 | true=>simp
 | false=>simp [h0,h1]
theorem deedC (h:LiveM w0 w F D b p al sz m) (ha:m.a < 1099511627776) (hl:m.g.cs.length≤10000) (he:m.e.length≤1000) (x:Rm) (hx:RqOk w x):Calls Tryz.prog (deedF x.r.k) #[.pointer (some ⟨b,0,none⟩),rqV x] w fun e w'=>DeedP w0 w F D b p al sz (verV al m x.r) ⟨m.a,verG m x.r,verS al sz m x.r,verE al m x.r⟩ e w':=by
 by_cases h0:x.r.k=0
 ·have e1:deedF x.r.k=81:=if_pos h0
  have e2:verV al m x.r=vtC 0:=if_pos h0
  have e3:(⟨m.a,verG m x.r,verS al sz m x.r,verE al m x.r⟩:Ma)=m:=by
   unfold verG verS verE newQ
   rw [if_pos h0]
   simp [h0]
  rw [e1,e2,e3]
  exact nothing_call h x
 ·by_cases h1:x.r.k=1
  ·have e1:deedF x.r.k=82:=(if_neg h0).trans (if_pos h1)
   have e2:verV al m x.r=_:=(if_neg h0).trans (if_pos h1)
   have e3:(⟨m.a,verG m x.r,verS al sz m x.r,verE al m x.r⟩:Ma)=⟨m.a,m.g,if wordB false x.r.n=true then openL sz x.r.n (m.a+1) m.s else m.s,m.e⟩:=by
    unfold verG verS verE newQ
    rw [if_neg h0,if_pos h1]
    simp [h1]
   rw [e1,e2,e3]
   exact openM_call h ha x hx
  ·have e1:deedF x.r.k=83:=(if_neg h0).trans (if_neg h1)
   obtain ⟨e2,e3⟩:=ver_old (al:=al) (sz:=sz) (m:=m) h0 h1
   rw [e1,e2,e3]
   exact once_call h hl he x hx
theorem cutC (h:LiveM w0 w F D b p al sz m) (hl:m.e.length≤1001) (z:Int):Calls Tryz.prog 41 #[.pointer (some ⟨p.e,0,none⟩),.int .i64 z] w fun e w'=>(∃ v,e=.returned v)∧Hid (StepM w0 w F D b p al sz ⟨m.a,m.g,m.s,cutL m.e z⟩ w')∧Hid (KpK w w'):=by
 have hsz:=h.keeps.size
 obtain ⟨S,vt,X,h1,rfl,h3,h4,h5,h6⟩:=h
 exact (cut_call _ w p.e al m.e h1.e h6.e (by omega) hsz z).mono fun e w' ⟨he,hE,hT⟩=>⟨he,stepE h1 h3 h4 h5 h6 hE hT (okL_cut h6.e _),(by
  obtain ⟨U,k1,_,k3,_⟩:=hT
  exact KpK.typed k1 k3 (by decide) (by decide))⟩
theorem incM (h:LiveM w0 w F D b p al sz m) {a:Int}(ha:0≤a∧a≤1099511627776):StepM w0 w F D b p al sz ⟨a,m.g,m.s,m.e⟩ (w.setCell ⟨b,2,none⟩ (.int .i64 a))∧KpK w (w.setCell ⟨b,2,none⟩ (.int .i64 a)):=by
 have hat:=h.at
 obtain ⟨S,vt,X,h1,rfl,h3,h4,h5,h6⟩:=h
 exact ⟨stepA h1 h3 h4 h5 h6 rfl ha,KpK.typed ((Kept.refl [b] _).setCell (by simp) _) (typed1 hat) (by decide) (by decide)⟩
set_option maxRecDepth 100000 in
theorem peek_call (h:LiveM w0 w F D b p al sz m) (hl:m.g.cs.length≤10000) (x:Rm) (hx:RqOk w x):Calls Tryz.prog 11 #[.pointer (some ⟨b,0,none⟩),rqV x] w fun e w'=>DeedP w0 w F D b p al sz (if m.a=1099511627776 then vtC 5 else peekT m.g x.r) m e w':=by
 have hsz:=h.size
 have hk:=wDeed_kept w x
 have HK1:=hide hk
 have HQ1:=hide (wDeed_rv w x).1
 have HV1:=hide (wDeed_rv w x).2
 have HL1:=hide (h.kept hk)
 have HX1:=hide (hx.kept hk)
 have cM:=madeM_call (h.kept hk)
 have cE:=endedM_call (h.kept hk)
 have cC:=fun W (hk:Kept [] (wDeed w x) W)=>lookC ((h.kept (wDeed_kept w x)).kept hk) hl x ((hx.kept (wDeed_kept w x)).kept hk)
 have cO:=fun W=>lookOf_call W x.r.k
 have hen:=enter_look x.r.k
 unfold fnV at cO
 rw [show (if x.r.k=3 then 74 else if x.r.k=4 then 75 else if x.r.k=5 then 76 else 77)=lookF x.r.k from rfl] at cO
 obtain ⟨W1,hW1⟩:∃ W1,W1=wDeed w x:=⟨_,rfl⟩
 rw [← hW1] at HK1 HQ1 HV1 HL1 HX1 cM cE cC
 have hq0:=HQ1.out.cells.q0
 unfold wDeed at hW1
 unfold rqV
 have HSZ:=hide hsz
 have HGl:=hide hl
 have hA0:=h.w.a0
 have hA1:=h.w.a1
 generalize lookF x.r.k=f at *
 clear h hk hsz hx hl
 by_cases ha:m.a=1099511627776
 ·rw [if_pos ha]
  have hab:(m.a==1099511627776)=true:=by simpa using ha
  rw [hab] at cE
  clear ha hab cC cO hen
  go_enter Tryz.func11,Tryz.ntmps11
  go_upto_region 1 with fail
  rw [← hW1]
  clear hW1
  obtain ⟨r0,r1,r2,r3,r4,r5,r6⟩:=HV1.out.cells
  have fr0:=froz3 HV1.out 0
  have fr1:=froz3 HV1.out 1
  have fr2:=froz3 HV1.out 2
  have fr3:=froz3 HV1.out 3
  have fr4:=froz3 HV1.out 4
  have fr5:=froz3 HV1.out 5
  have fr6:=froz3 HV1.out 6
  go_wp2_with (first
   | (go_at_call 35;refine cM.mono ?_;clear cM;rintro _ W0 ⟨rfl,hW0⟩;obtain rfl:=hW0.symm)
   | (go_at_call 36;refine cE.mono ?_;clear cE;rintro _ W0 ⟨rfl,hW0⟩;obtain rfl:=hW0.symm))
  refine bodyPost_ret (vt_res (by rfl) _ (by rfl) (setA7_at HV1.out rfl _ _ _ _ _ _ _) rfl) rfl ?_
  exact deed_end HSZ.out HK1.out (StepM.same HL1.out (Kept.refl _ _)).u0 (KoO.nil _ _) HV1.out (setA7_kept (Kept.refl _ _) (by simp) _ _ _ _ _ _ _)
 ·rw [if_neg ha]
  have hab:(m.a==1099511627776)=false:=by simpa using ha
  rw [hab] at cE
  clear ha hab
  obtain ⟨vv,hvv⟩:∃ vv:Vt,vv=peekT m.g x.r:=⟨_,rfl⟩
  rw [← hvv] at cC ⊢
  clear hvv
  go_enter Tryz.func11,Tryz.ntmps11
  go_upto_region 1 with fail
  rw [← hW1]
  clear hW1
  go_upto_region 5 with (first
   | (go_at_call 35;refine cM.mono ?_;clear cM;rintro _ W0 ⟨rfl,hW0⟩;obtain rfl:=hW0.symm)
   | (go_at_call 36;refine cE.mono ?_;clear cE;rintro _ W0 ⟨rfl,hW0⟩;obtain rfl:=hW0.symm))
  refine wp_region_held_drew (S:=MqS b w.heap.size p al sz m.a x) (by kernel_rfl) ((HL1.out.kept (Kept.refl [] _).drew).mq (HQ1.out.kept (Kept.refl [] _).drew)) (fun hHeld=>?_)
  refine tks [0,1,3] (by rfl) (by kernel_rfl) (fun _ _ _ _ _ h=>h) hHeld ?_
  iterate 3
   refine yk ?_ rfl (Or.inl ⟨by rfl,?_⟩) ?_
   rotate_left
   ·intro w9 hSw;obtain ⟨m0,m1,m2,m3,m4,m5,q0,q1,q2,q3,q4,q5,q6,q7,q8,q9,q10,_⟩:=hSw;go_simp;(try with_reducible rfl)
   try simp only [sT,Act.put]
  refine yk0 ?_
  simp only [setK,sT]
  refine wpAnyH_take (i:=4) (v:=rqV x) rfl (by kernel_rfl) (by kernel_rfl) (by kernel_rfl) (fun _ _ _ h=>h) (yieldsIf_load_mid (by rfl) _ _ rfl w.heap.size 0 rfl (rqC x) _ (fun w9 hSw=>hSw.rg) Tryz.underlying43 rfl size_rq) hHeld ?_
  try simp only [sT,Act.put]
  refine rd1 2 (by kernel_rfl) rfl (fun K0 hK0=>?_)
  go_simp
  refine (cO _).mono ?_
  rintro _ _ ⟨rfl,rfl⟩
  go_wp2_with fail
  refine hK0.out _ _ ((HL1.out.kept (Kept.refl [] _).drew).mq (HQ1.out.kept (Kept.refl [] _).drew)) (fun hHeld=>?_)
  clear hK0 K0
  try simp only [sT,Act.put]
  refine rd1 5 (by kernel_rfl) rfl (fun K0 hK0=>?_)
  go_simp
  refine (cC _ (Kept.refl [] _).drew).mono ?_
  rintro _ w2 ⟨ao,n,c,rfl,hO2,hS2⟩
  have HO2:=hide hO2
  have HS2:=hide hS2
  obtain ⟨F2,hL2,hF2,hs2,_⟩:=hS2
  have HQ2:=hide ((HQ1.out.kept (Kept.refl [] _).drew).fr hF2)
  have HV2:=hide ((HV1.out.kept (Kept.refl [] _).drew).fr hF2)
  have hS2:=hL2.mq HQ2.out
  have hSt:∀ w3,Hid (VdB w3 (w.heap.size+1) vv (.slice ao n c))→Hid (Kept [w.heap.size+1] w2 w3)→MqS b w.heap.size p al sz m.a x w3:=fun w3 _ k3=>(hL2.box HV2.out k3.out (by have:=HSZ.out;omega)).mq (k3.out.at HQ2.out (by simp))
  clear hL2 hF2 hs2
  go_wp2_with fail
  refine hK0.out _ _ hS2 (fun hHeld=>?_)
  clear hK0 K0
  try simp only [sT,Act.put]
  refine rd1 6 (by kernel_rfl) rfl (fun K0 hK0=>?_)
  refine step_storeV vv (.slice ao n c) ⟨_,_,_,rfl⟩ rfl rfl HV2.out fun w3 HV3 HK3=>?_
  refine hK0.out _ _ (hSt w3 HV3 HK3) (fun hHeld=>?_)
  clear hK0 K0
  try simp only [sT,Act.put]
  refine wpAnyH_done (by kernel_rfl) ?_ _
  clear hHeld
  go_wp2_with fail
  refine bodyPost_ret (vt_res (by rfl) _ (by rfl) HV3.out rfl) rfl ?_
  exact deed_end HSZ.out (HK1.out.trans (Kept.refl [] _).drew (by simp)) HS2.out HO2.out HV2.out HK3.out
set_option maxRecDepth 100000 in
theorem apply_call (h:LiveM w0 w F D b p al sz m) (hl:m.g.cs.length≤10000) (he:m.e.length≤1000) (x:Rm) (hx:RqOk w x):Calls Tryz.prog 13 #[.pointer (some ⟨b,0,none⟩),rqV x] w fun e w'=>DeedP w0 w F D b p al sz (apV al m x.r) (apM al sz m x.r) e w':=by
 have hsz:=h.size
 have hk:=wDeed_kept w x
 have HK1:=hide hk
 have HQ1:=hide (wDeed_rv w x).1
 have HV1:=hide (wDeed_rv w x).2
 have HL1:=hide (h.kept hk)
 have HX1:=hide (hx.kept hk)
 have cM:=madeM_call (h.kept hk)
 have cE:=endedM_call (h.kept hk)
 have cO:=fun W=>deedOf_call W x.r.k
 have hen:=enter_deed x.r.k
 unfold fnV at cO
 rw [show (if x.r.k=0 then 81 else if x.r.k=1 then 82 else 83)=deedF x.r.k from rfl] at cO
 obtain ⟨W1,hW1⟩:∃ W1,W1=wDeed w x:=⟨_,rfl⟩
 rw [← hW1] at HK1 HQ1 HV1 HL1 HX1 cM cE
 have hq0:=HQ1.out.cells.q0
 unfold wDeed at hW1
 unfold rqV
 have HSZ:=hide hsz
 have HGl:=hide hl
 have hA0:=h.w.a0
 have hA1:=h.w.a1
 by_cases ha:m.a=1099511627776
 ·have e1:apV al m x.r=vtC 5:=if_pos (by omega)
  have e2:apM al sz m x.r=m:=if_pos (by omega)
  rw [e1,e2]
  have hab:(m.a==1099511627776)=true:=by simpa using ha
  rw [hab] at cE
  clear ha hab cO hen e1 e2 h hk hsz hx hl he hA0 hA1
  go_enter Tryz.func13,Tryz.ntmps13
  go_upto_region 1 with fail
  rw [← hW1]
  clear hW1
  obtain ⟨r0,r1,r2,r3,r4,r5,r6⟩:=HV1.out.cells
  have fr0:=froz3 HV1.out 0
  have fr1:=froz3 HV1.out 1
  have fr2:=froz3 HV1.out 2
  have fr3:=froz3 HV1.out 3
  have fr4:=froz3 HV1.out 4
  have fr5:=froz3 HV1.out 5
  have fr6:=froz3 HV1.out 6
  go_wp2_with (first
   | (go_at_call 35;refine cM.mono ?_;clear cM;rintro _ W0 ⟨rfl,hW0⟩;obtain rfl:=hW0.symm)
   | (go_at_call 36;refine cE.mono ?_;clear cE;rintro _ W0 ⟨rfl,hW0⟩;obtain rfl:=hW0.symm))
  refine bodyPost_ret (vt_res (by rfl) _ (by rfl) (setA7_at HV1.out rfl _ _ _ _ _ _ _) rfl) rfl ?_
  exact deed_end HSZ.out HK1.out (StepM.same HL1.out (Kept.refl _ _)).u0 (KoO.nil _ _) HV1.out (setA7_kept (Kept.refl _ _) (by simp) _ _ _ _ _ _ _)
 ·have hlt:m.a < 1099511627776:=by omega
  have hab:(m.a==1099511627776)=false:=by simpa using ha
  rw [hab] at cE
  have cC:=fun W (hk:Kept [] W1 W)=>deedC (HL1.out.kept hk) hlt hl he x (HX1.out.kept hk)
  have e1:apV al m x.r=verV al m x.r:=if_neg (by omega)
  have e2:=ap_eq (al:=al) (sz:=sz) (r:=x.r) hlt
  rw [e1,e2]
  have hwr:IntKind.i64.wrap (m.a+1)=m.a+1:=IntWalk.i64_in _ (by omega)
  have HR:Hid (0≤m.a+1∧m.a+1≤1099511627776):=by show _∧_;omega
  have HEl:Hid ((verE al m x.r).length≤1001):=by
   show _≤_
   unfold verE doE
   split
   ·split
    ·exact Nat.le_trans (ch_len _ _ _ _ _) (by omega)
    ·omega
   ·omega
  generalize deedF x.r.k=f at *
  generalize verV al m x.r=dv at *
  generalize verG m x.r=vG at *
  generalize verS al sz m x.r=vS at *
  generalize verE al m x.r=vE at *
  clear ha hab e1 e2 h hk hsz hx hl he hA0 hA1
  go_enter Tryz.func13,Tryz.ntmps13
  go_upto_region 1 with fail
  rw [← hW1]
  clear hW1
  go_upto_region 5 with (first
   | (go_at_call 35;refine cM.mono ?_;clear cM;rintro _ W0 ⟨rfl,hW0⟩;obtain rfl:=hW0.symm)
   | (go_at_call 36;refine cE.mono ?_;clear cE;rintro _ W0 ⟨rfl,hW0⟩;obtain rfl:=hW0.symm))
  go_cut [5] from 13 to 18 (fun s5 wx=>WorkR w0 w W1 F D b p al sz dv ⟨m.a,vG,vS,vE⟩ x s5 wx)
  case first =>
   refine wp_region_held_drew (S:=MqS b w.heap.size p al sz m.a x) (by kernel_rfl) ((HL1.out.kept (Kept.refl [] _).drew).mq (HQ1.out.kept (Kept.refl [] _).drew)) (fun hHeld=>?_)
   refine tks [0,1,3] (by rfl) (by kernel_rfl) (fun _ _ _ _ _ h=>h) hHeld ?_
   iterate 3
    refine yk ?_ rfl (Or.inl ⟨by rfl,?_⟩) ?_
    rotate_left
    ·intro w9 hSw;obtain ⟨m0,m1,m2,m3,m4,m5,q0,q1,q2,q3,q4,q5,q6,q7,q8,q9,q10,_⟩:=hSw;go_simp;(try with_reducible rfl)
    try simp only [sT,Act.put]
   refine yk0 ?_
   simp only [setK,sT]
   refine wpAnyH_take (i:=4) (v:=rqV x) rfl (by kernel_rfl) (by kernel_rfl) (by kernel_rfl) (fun _ _ _ h=>h) (yieldsIf_load_mid (by rfl) _ _ rfl w.heap.size 0 rfl (rqC x) _ (fun w9 hSw=>hSw.rg) Tryz.underlying43 rfl size_rq) hHeld ?_
   try simp only [sT,Act.put]
   refine wpAnyH_ready (rs:=[2,6]) (by kernel_rfl) (by simp) (AllReadyH.cons rfl (fun K0 hK0=>?_) (AllReadyH.cons rfl (fun K0 hK0=>?_) AllReadyH.nil))
   ·go_simp
    refine (cO _).mono ?_
    rintro _ _ ⟨rfl,rfl⟩
    go_wp2_with fail
    refine hK0.out _ _ ((HL1.out.kept (Kept.refl [] _).drew).mq (HQ1.out.kept (Kept.refl [] _).drew)) (fun hHeld=>?_)
    clear hK0 K0
    try simp only [sT,Act.put]
    refine wpAnyH_ready (rs:=[5,6]) (by kernel_rfl) (by simp) (AllReadyH.cons rfl (fun K0 hK0=>?_) (AllReadyH.cons rfl (fun K0 hK0=>?_) AllReadyH.nil))
    ·go_simp
     refine (cC _ (Kept.refl [] _).drew).mono ?_
     rintro _ w2 ⟨ao2,n2,c2,rfl,hO2,hS2⟩
     have hkp:Kept [] W1 W1.drew:=(Kept.refl [] _).drew
     have HO2:=hide hO2
     have HT2:=hide hS2
     obtain ⟨F3,hL3,hF3,hs3,hu3⟩:=hS2
     have HQ2:=hide ((HQ1.out.kept hkp).fr hF3)
     have HZ2:=hide ((HV1.out.kept hkp).fr hF3)
     have hz2:=hF3.size
     have hkz:=hkp.size
     go_wp2_with fail
     refine hK0.out _ _ (hL3.mq HQ2.out) (fun hHeld=>?_)
     clear hK0 K0
     try simp only [sT,Act.put]
     refine rd1 6 (by kernel_rfl) rfl (fun K0 hK0=>?_)
     go_simp
     have hKa:=(Kept.refl [] w2).alloc (.cells #[.int .i64 0,.int .i64 0,.int .i64 0,.string ⟨#[]⟩,.int .u64 0,.slice none 0 0,.int .i64 0] 39)
     have HVa:Hid (VdB (w2.alloc (.cells #[.int .i64 0,.int .i64 0,.int .i64 0,.string ⟨#[]⟩,.int .u64 0,.slice none 0 0,.int .i64 0] 39)) w2.heap.size (vtC 0) (.slice none 0 0)):=heap_alloc_new w2 _
     refine hK0.out _ _ ((hL3.kept hKa).mq (HQ2.out.kept hKa)) (fun hHeld=>?_)
     clear hK0 K0
     try simp only [sT,Act.put]
     refine rd1 7 (by kernel_rfl) rfl (fun K0 hK0=>?_)
     refine step_storeV dv (.slice ao2 n2 c2) ⟨_,_,_,rfl⟩ rfl rfl HVa.out fun w3 HV3 HK3=>?_
     have hK3:=HK3.out
     have hbx:w.heap.size+1 < W1.heap.size:=HV1.out.lt
     have hw2:W1.heap.size≤w2.heap.size:=Nat.le_trans hkz hz2
     have hL4:=(hL3.kept hKa).box HVa.out hK3 (by have:=HSZ.out;omega)
     have HQ3:=hide (hK3.at (HQ2.out.kept hKa) (by simp;omega))
     have HZ3:=hide (hK3.at (HZ2.out.kept hKa) (by simp;omega))
     refine hK0.out _ _ (hL4.mq HQ3.out) (fun hHeld=>?_)
     clear hK0 K0
     try simp only [sT,Act.put]
     refine wpAnyH_done (by kernel_rfl) ?_ _
     clear hHeld
     go_wp2_with fail
     go_meet
     exact ⟨w2.heap.size,ao2,n2,c2,rfl,hw2,HV3,ko_box ((HO2.out.mono hkz).kept hKa) HVa.out hK3,((HT2.out.lift hkp).more hKa).box HVa.out hw2 (Nat.le_trans HSZ.out HK1.out.size) hK3,HQ3,HZ3⟩
    ·go_simp
     have hKa:Kept [] W1 (W1.drew.alloc (.cells #[.int .i64 0,.int .i64 0,.int .i64 0,.string ⟨#[]⟩,.int .u64 0,.slice none 0 0,.int .i64 0] 39)):=(Kept.refl [] W1).drew.alloc _
     have HVc:Hid (VdB (W1.alloc (.cells #[.int .i64 0,.int .i64 0,.int .i64 0,.string ⟨#[]⟩,.int .u64 0,.slice none 0 0,.int .i64 0] 39)) W1.heap.size (vtC 0) (.slice none 0 0)):=heap_alloc_new W1 _
     refine hK0.out _ _ ((HL1.out.kept hKa).mq (HQ1.out.kept hKa)) (fun hHeld=>?_)
     clear hK0 K0
     try simp only [sT,Act.put]
     refine rd1 5 (by kernel_rfl) rfl (fun K0 hK0=>?_)
     go_simp
     refine (cC _ ((Kept.refl [] _).alloc _).drew).mono ?_
     rintro _ w2 ⟨ao2,n2,c2,rfl,hO2,hS2⟩
     have hkp:Kept [] W1 (W1.alloc (.cells #[.int .i64 0,.int .i64 0,.int .i64 0,.string ⟨#[]⟩,.int .u64 0,.slice none 0 0,.int .i64 0] 39)).drew:=((Kept.refl [] _).alloc _).drew
     have HO2:=hide hO2
     have HT2:=hide hS2
     obtain ⟨F3,hL3,hF3,hs3,hu3⟩:=hS2
     have HQ2:=hide ((HQ1.out.kept hkp).fr hF3)
     have HZ2:=hide ((HV1.out.kept hkp).fr hF3)
     have hz2:=hF3.size
     have hkz:=hkp.size
     have HVb:=hide ((HVc.out.kept (Kept.refl [] _).drew).fr hF3)
     go_wp2_with fail
     refine hK0.out _ _ (hL3.mq HQ2.out) (fun hHeld=>?_)
     clear hK0 K0
     try simp only [sT,Act.put]
     refine rd1 7 (by kernel_rfl) rfl (fun K0 hK0=>?_)
     refine step_storeV dv (.slice ao2 n2 c2) ⟨_,_,_,rfl⟩ rfl rfl HVb.out fun w3 HV3 HK3=>?_
     have hK3:=HK3.out
     have hbx:w.heap.size+1 < W1.heap.size:=HV1.out.lt
     have hL4:=hL3.box HVb.out hK3 (by have:=HSZ.out;omega)
     have HQ3:=hide (hK3.at HQ2.out (by simp;omega))
     have HZ3:=hide (hK3.at HZ2.out (by simp;omega))
     refine hK0.out _ _ (hL4.mq HQ3.out) (fun hHeld=>?_)
     clear hK0 K0
     try simp only [sT,Act.put]
     refine wpAnyH_done (by kernel_rfl) ?_ _
     clear hHeld
     go_wp2_with fail
     go_meet
     exact ⟨W1.heap.size,ao2,n2,c2,rfl,Nat.le_refl _,HV3,ko_box (HO2.out.mono hkz) HVb.out hK3,(HT2.out.lift hkp).box HVb.out (Nat.le_refl _) (Nat.le_trans HSZ.out HK1.out.size) hK3,HQ3,HZ3⟩
   ·go_simp
    have hKa:Kept [] W1 (W1.drew.alloc (.cells #[.int .i64 0,.int .i64 0,.int .i64 0,.string ⟨#[]⟩,.int .u64 0,.slice none 0 0,.int .i64 0] 39)):=(Kept.refl [] W1).drew.alloc _
    have HVc:Hid (VdB (W1.alloc (.cells #[.int .i64 0,.int .i64 0,.int .i64 0,.string ⟨#[]⟩,.int .u64 0,.slice none 0 0,.int .i64 0] 39)) W1.heap.size (vtC 0) (.slice none 0 0)):=heap_alloc_new W1 _
    refine hK0.out _ _ ((HL1.out.kept hKa).mq (HQ1.out.kept hKa)) (fun hHeld=>?_)
    clear hK0 K0
    try simp only [sT,Act.put]
    refine rd1 2 (by kernel_rfl) rfl (fun K0 hK0=>?_)
    go_simp
    refine (cO _).mono ?_
    rintro _ _ ⟨rfl,rfl⟩
    go_wp2_with fail
    refine hK0.out _ _ ((HL1.out.kept ((Kept.refl [] _).alloc _).drew).mq (HQ1.out.kept ((Kept.refl [] _).alloc _).drew)) (fun hHeld=>?_)
    clear hK0 K0
    try simp only [sT,Act.put]
    refine rd1 5 (by kernel_rfl) rfl (fun K0 hK0=>?_)
    go_simp
    refine (cC _ ((Kept.refl [] _).alloc _).drew).mono ?_
    rintro _ w2 ⟨ao2,n2,c2,rfl,hO2,hS2⟩
    have hkp:Kept [] W1 (W1.alloc (.cells #[.int .i64 0,.int .i64 0,.int .i64 0,.string ⟨#[]⟩,.int .u64 0,.slice none 0 0,.int .i64 0] 39)).drew:=((Kept.refl [] _).alloc _).drew
    have HO2:=hide hO2
    have HT2:=hide hS2
    obtain ⟨F3,hL3,hF3,hs3,hu3⟩:=hS2
    have HQ2:=hide ((HQ1.out.kept hkp).fr hF3)
    have HZ2:=hide ((HV1.out.kept hkp).fr hF3)
    have hz2:=hF3.size
    have hkz:=hkp.size
    have HVb:=hide ((HVc.out.kept (Kept.refl [] _).drew).fr hF3)
    go_wp2_with fail
    refine hK0.out _ _ (hL3.mq HQ2.out) (fun hHeld=>?_)
    clear hK0 K0
    try simp only [sT,Act.put]
    refine rd1 7 (by kernel_rfl) rfl (fun K0 hK0=>?_)
    refine step_storeV dv (.slice ao2 n2 c2) ⟨_,_,_,rfl⟩ rfl rfl HVb.out fun w3 HV3 HK3=>?_
    have hK3:=HK3.out
    have hbx:w.heap.size+1 < W1.heap.size:=HV1.out.lt
    have hL4:=hL3.box HVb.out hK3 (by have:=HSZ.out;omega)
    have HQ3:=hide (hK3.at HQ2.out (by simp;omega))
    have HZ3:=hide (hK3.at HZ2.out (by simp;omega))
    refine hK0.out _ _ (hL4.mq HQ3.out) (fun hHeld=>?_)
    clear hK0 K0
    try simp only [sT,Act.put]
    refine wpAnyH_done (by kernel_rfl) ?_ _
    clear hHeld
    go_wp2_with fail
    go_meet
    exact ⟨W1.heap.size,ao2,n2,c2,rfl,Nat.le_refl _,HV3,ko_box (HO2.out.mono hkz) HVb.out hK3,(HT2.out.lift hkp).box HVb.out (Nat.le_refl _) (Nat.le_trans HSZ.out HK1.out.size) hK3,HQ3,HZ3⟩
  case rest =>
   obtain ⟨Bw,ao2,n2,c2,rfl,HBw,HVw,HOw,HTw,HQw,HZw⟩:=hcut
   obtain ⟨F3,hL3,hF3,hs3,hu3⟩:=id HTw.out
   obtain ⟨x0,x1,x2,x3,x4,x5⟩:=hL3.cells
   have fx2:=froz3 hL3.at 2
   have HL3:=hide hL3
   have HF3:=hide hF3
   have HS3:=hide hs3
   have HU3:=hide hu3
   clear hL3 hF3 hs3 hu3 cC cO hen
   dsimp only at x2
   go_upto_region 7 with fail
   obtain ⟨hI,hKi⟩:=incM HL3.out HR.out
   obtain ⟨w6,hw6⟩:∃ w6,w6=wc.setCell ⟨b,2,none⟩ (.int .i64 (m.a+1)):=⟨_,rfl⟩
   rw [← hw6] at hI hKi ⊢
   have HI:=hide hI
   have HKi:=hide hKi
   obtain ⟨F6,hL6,hF6,hs6⟩:=hI
   have HL6:=hide hL6
   have HF6:=hide hF6
   have HS6:=hide hs6
   have HQ6:=hide (HQw.out.fr hF6)
   have HV6:=hide (HVw.out.fr hF6)
   have HZ6:=hide (HZw.out.fr hF6)
   have cT:=fun W (hk:Kept [] w6 W)=>cutC (hL6.kept hk) HEl.out (m.a+1)
   clear hL6 hF6 hs6 hKi x0 x1 x2 x3 x4 x5 fx2 hw6
   refine wp_region_held_drew (S:=MqS b w.heap.size p al sz (m.a+1) x) (by kernel_rfl) ((HL6.out.kept (Kept.refl [] _).drew).mq (HQ6.out.kept (Kept.refl [] _).drew)) (fun hHeld=>?_)
   refine tks [0,1,2,3,4,5,6,7] (by rfl) (by kernel_rfl) (fun _ _ _ _ _ h=>h) hHeld ?_
   iterate 8
    refine yk ?_ rfl (Or.inl ⟨by rfl,?_⟩) ?_
    rotate_left
    ·intro w9 hSw;obtain ⟨m0,m1,m2,m3,m4,m5,q0,q1,q2,q3,q4,q5,q6,q7,q8,q9,q10,_⟩:=hSw;go_simp;(try with_reducible rfl)
    try simp only [sT,Act.put]
   refine yk0 ?_
   simp only [setK,sT]
   refine rd1 8 (by kernel_rfl) rfl (fun K0 hK0=>?_)
   go_simp
   refine (cT _ (Kept.refl [] _).drew).mono ?_
   rintro _ w7 ⟨⟨v7,rfl⟩,HT7,HK7⟩
   obtain ⟨F7,hL7,hF7,hs7⟩:=id HT7.out
   have HQ7:=hide ((HQ6.out.kept (Kept.refl [] _).drew).fr hF7)
   have HV7:=hide ((HV6.out.kept (Kept.refl [] _).drew).fr hF7)
   have HZ7:=hide ((HZ6.out.kept (Kept.refl [] _).drew).fr hF7)
   go_wp2_with fail
   refine hK0.out _ _ (hL7.mq HQ7.out) (fun hHeld=>?_)
   clear hK0 K0
   try simp only [sT,Act.put]
   refine wpAnyH_done (by kernel_rfl) ?_ _
   clear hHeld hL7 hF7 hs7 cT
   obtain ⟨r0,r1,r2,r3,r4,r5,r6⟩:=HZ7.out.cells
   have fr0:=froz3 HZ7.out 0
   have fr1:=froz3 HZ7.out 1
   have fr2:=froz3 HZ7.out 2
   have fr3:=froz3 HZ7.out 3
   have fr4:=froz3 HZ7.out 4
   have fr5:=froz3 HZ7.out 5
   have fr6:=froz3 HZ7.out 6
   obtain ⟨s0,s1,s2,s3,s4,s5,s6⟩:=HV7.out.cells
   go_wp2_with fail
   refine bodyPost_ret (vt_res (by rfl) _ (by rfl) (setA7_at HZ7.out rfl _ _ _ _ _ _ _) rfl) rfl ?_
   refine deed_end HSZ.out HK1.out ?_ (HK7.out _ _ _ ((HKi.out _ _ _ HOw.out).kept (Kept.refl [] _).drew)) HZ7.out (setA7_kept (Kept.refl _ _) (by simp) _ _ _ _ _ _ _)
   exact step_then (HF3.out.trans HF6.out HS3.out) (fun k hk=>(HS6.out k hk).elim (HS3.out k) (fun e=>.inr (Nat.le_trans HF3.out.size e))) (fun j hj=>by
    have hj1:=lt_of_at (ko_ge HOw.out hj).2.choose_spec
    have hz6:=HF6.out.size
    refine ⟨fun hm=>?_,by omega⟩
    rcases HS6.out j hm with e | e
    ·exact HU3.out j hj e
    ·omega) (StepM.lift (Kept.refl [] _).drew HT7.out)
end Go.Proofs.YtgpnlidnbldiiaaGreat
