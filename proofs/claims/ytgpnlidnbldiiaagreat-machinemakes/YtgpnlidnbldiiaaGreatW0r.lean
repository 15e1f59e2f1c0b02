/-
  Texts laid as one.
-/
import Derived.Test.YtgpnlidnbldiiaaGreatQ2r
import Derived.Test.YtgpnlidnbldiiaaGreatMaOncer
import Derived.Test.YtgpnlidnbldiiaaGreatMdVerr
import Derived.Test.YtgpnlidnbldiiaaGreatW7r
set_option maxHeartbeats 16000000
set_option maxRecDepth 100000
set_option linter.unusedSimpArgs false
/-
 Apply,Peek.
-/
namespace Go.Proofs.YtgpnlidnbldiiaaGreat
open Go.RowKit
variable {w0 w : World} {F D : List Nat} {b : Nat} {p : Pl} {al : Int} {sz : Nat} {m : Ma}
def jU (k:Int):Nat:=if k=0 then 81 else if k=1 then 82 else 83
theorem ux (k:Int) (args:Array Value) (w:World):(callFunc (jU k) args).run Tryz.prog w=.ok (.enter (jU k) args) w:=by
 unfold jU;split
 ·rfl
 ·split <;> rfl
theorem vA {al:Int}{sz:Nat}{m:Ma}{r:Rq}(h0:r.k≠0) (h1:r.k≠1):gg al m r=(if (aZ r.s r.q m.s).2=true then (aZ r.s r.q m.s).1 else jI al m r)∧(⟨m.a,fL m r,gc al sz m r,fe al m r⟩:Ma)=(if (aZ r.s r.q m.s).2=true then ⟨m.a,m.g,ct r.s m.s,m.e⟩ else ⟨m.a,doG m r,bZ r.s r.q (jI al m r) (ct r.s m.s),nV al m r⟩):=by
 unfold gg fL gc fe lM;rw [if_neg h0,if_neg h1,if_neg h0,if_neg h1];cases (aZ r.s r.q m.s).2 with
 | true=>simp
 | false=>simp [h0,h1]
theorem CY (h:ay w0 w F D b p al sz m) (ha:m.a < 1099511627776) (hl:m.g.cs.length≤10000) (he:m.e.length≤1000) (x:Rm) (hx:dE w x):Calls Tryz.prog (jU x.r.k) #[.pointer (some ⟨b,0,none⟩),eh x] w fun e w'=>fF w0 w F D b p al sz (gg al m x.r) ⟨m.a,fL m x.r,gc al sz m x.r,fe al m x.r⟩ e w':=by
 by_cases h0:x.r.k=0
 ·have e1:jU x.r.k=81:=if_pos h0;have e2:gg al m x.r=cq 0:=if_pos h0
  have e3:(⟨m.a,fL m x.r,gc al sz m x.r,fe al m x.r⟩:Ma)=m:=by
   unfold fL gc fe lM;rw [if_pos h0];simp [h0]
  rw [e1,e2,e3];exact pJ h x
 ·by_cases h1:x.r.k=1
  ·have e1:jU x.r.k=82:=(if_neg h0).trans (if_pos h1);have e2:gg al m x.r=_:=(if_neg h0).trans (if_pos h1)
   have e3:(⟨m.a,fL m x.r,gc al sz m x.r,fe al m x.r⟩:Ma)=⟨m.a,m.g,if bu false x.r.n=true then cd sz x.r.n (m.a+1) m.s else m.s,m.e⟩:=by
    unfold fL gc fe lM;rw [if_neg h0,if_pos h1];simp [h1]
   rw [e1,e2,e3];exact uc h ha x hx
  ·have e1:jU x.r.k=83:=(if_neg h0).trans (if_neg h1);obtain ⟨e2,e3⟩:=vA (al:=al) (sz:=sz) (m:=m) h0 h1;rw [e1,e2,e3];exact xS h hl he x hx
theorem Ed (h:ay w0 w F D b p al sz m) (hl:m.e.length≤1001) (z:Int):Calls Tryz.prog 41 #[.pointer (some ⟨p.e,0,none⟩),.int .i64 z] w fun e w'=>(∃ v,e=.returned v)∧Hid (db w0 w F D b p al sz ⟨m.a,m.g,m.s,dZ m.e z⟩ w')∧Hid (BG w w'):=by
 have hsz:=h.keeps.size;obtain ⟨S,vt,X,h1,rfl,h3,h4,h5,h6⟩:=h
 exact (sG _ w p.e al m.e h1.e h6.e (by omega) hsz z).mono fun e w' ⟨he,hE,hT⟩=>⟨he,BW h1 h3 h4 h5 h6 hE hT (kl h6.e _),(by
  obtain ⟨U,k1,_,k3,_⟩:=hT;exact BG.typed k1 k3 (by decide) (by decide))⟩
theorem Ee (h:ay w0 w F D b p al sz m) {a:Int}(ha:0≤a∧a≤1099511627776):db w0 w F D b p al sz ⟨a,m.g,m.s,m.e⟩ (w.setCell ⟨b,2,none⟩ (.int .i64 a))∧BG w (w.setCell ⟨b,2,none⟩ (.int .i64 a)):=by
 have hat:=h.at;obtain ⟨S,vt,X,h1,rfl,h3,h4,h5,h6⟩:=h;exact ⟨C3 h1 h3 h4 h5 h6 rfl ha,BG.typed ((aa.refl [b] _).setCell (by simp) _) (dw hat) (by decide) (by decide)⟩
theorem fY (h:ay w0 w F D b p al sz m) (hl:m.g.cs.length≤10000) (he:m.e.length≤1000) (x:Rm) (hx:dE w x):Calls Tryz.prog 13 #[.pointer (some ⟨b,0,none⟩),eh x] w fun e w'=>fF w0 w F D b p al sz (qH al m x.r) (lH al sz m x.r) e w':=by
 have hsz:=h.size;have hk:=ax w x;have HK1:=ah hk;have HQ1:=ah (aF w x).1;have HV1:=ah (aF w x).2;have HL1:=ah (h.kept hk);have HX1:=ah (hx.kept hk);have cM:=tT (h.kept hk);have cE:=sB (h.kept hk);have cO:=fun W=>sb W x.r.k;have hen:=ux x.r.k;unfold Cz at cO;rw [show (if x.r.k=0 then 81 else if x.r.k=1 then 82 else 83)=jU x.r.k from rfl] at cO;obtain ⟨W1,hW1⟩:∃ W1,W1=aX w x:=⟨_,rfl⟩;rw [← hW1] at HK1 HQ1 HV1 HL1 HX1 cM cE;have hq0:=HQ1.out.cells.q0;unfold aX at hW1;unfold eh;have HSZ:=ah hsz;have HGl:=ah hl;have hA0:=h.w.a0;have hA1:=h.w.a1;by_cases ha:m.a=1099511627776
 ·have e1:qH al m x.r=cq 5:=if_pos (by omega);have e2:lH al sz m x.r=m:=if_pos (by omega);rw [e1,e2];have hab:(m.a==1099511627776)=true:=by simpa using ha
  rw [hab] at cE;clear ha hab cO hen e1 e2 h hk hsz hx hl he hA0 hA1;go_enter Tryz.func13,Tryz.ntmps13;go_upto_region 1 with fail
  rw [← hW1];clear hW1;obtain ⟨r0,r1,r2,r3,r4,r5,r6⟩:=HV1.out.cells;have fr0:=aj HV1.out 0;have fr1:=aj HV1.out 1;have fr2:=aj HV1.out 2;have fr3:=aj HV1.out 3;have fr4:=aj HV1.out 4;have fr5:=aj HV1.out 5;have fr6:=aj HV1.out 6
  go_wp2_with (first
   | (go_at_call 35;refine cM.mono ?_;clear cM;rintro _ W0 ⟨rfl,hW0⟩;obtain rfl:=hW0.symm)
   | (go_at_call 36;refine cE.mono ?_;clear cE;rintro _ W0 ⟨rfl,hW0⟩;obtain rfl:=hW0.symm))
  refine bodyPost_ret (bj (by rfl) _ (by rfl) (aD HV1.out rfl _ _ _ _ _ _ _) rfl) rfl ?_;exact du HSZ.out HK1.out (db.same HL1.out (aa.refl _ _)).u0 (cw.nil _ _) HV1.out (az (aa.refl _ _) (by simp) _ _ _ _ _ _ _)
 ·have hlt:m.a < 1099511627776:=by omega
  have hab:(m.a==1099511627776)=false:=by simpa using ha
  rw [hab] at cE;have cC:=fun W (hk:aa [] W1 W)=>CY (HL1.out.kept hk) hlt hl he x (HX1.out.kept hk);have e1:qH al m x.r=gg al m x.r:=if_neg (by omega);have e2:=qK (al:=al) (sz:=sz) (r:=x.r) hlt;rw [e1,e2];have hwr:IntKind.i64.wrap (m.a+1)=m.a+1:=IntWalk.i64_in _ (by omega);have HR:Hid (0≤m.a+1∧m.a+1≤1099511627776):=by show _∧_;omega
  have HEl:Hid ((fe al m x.r).length≤1001):=by
   show _≤_;unfold fe nV;split
   ·split
    ·exact Nat.le_trans (tj _ _ _ _ _) (by omega)
    ·omega
   ·omega
  generalize jU x.r.k=f at *;generalize gg al m x.r=dv at *;generalize fL m x.r=vG at *;generalize gc al sz m x.r=vS at *;generalize fe al m x.r=vE at *;clear ha hab e1 e2 h hk hsz hx hl he hA0 hA1;go_enter Tryz.func13,Tryz.ntmps13;go_upto_region 1 with fail
  rw [← hW1];clear hW1
  go_upto_region 5 with (first
   | (go_at_call 35;refine cM.mono ?_;clear cM;rintro _ W0 ⟨rfl,hW0⟩;obtain rfl:=hW0.symm)
   | (go_at_call 36;refine cE.mono ?_;clear cE;rintro _ W0 ⟨rfl,hW0⟩;obtain rfl:=hW0.symm))
  go_cut [5] from 13 to 18 (fun s5 wx=>B1 w0 w W1 F D b p al sz dv ⟨m.a,vG,vS,vE⟩ x s5 wx)
  case first =>
   refine wp_region_held_drew (S:=ui b w.heap.size p al sz m.a x) (by kernel_rfl) ((HL1.out.kept (aa.refl [] _).drew).mq (HQ1.out.kept (aa.refl [] _).drew)) (fun hHeld=>?_);refine aU [0,1,3] (by rfl) (by kernel_rfl) (fun _ _ _ _ _ h=>h) hHeld ?_
   iterate 3
    refine yk ?_ rfl (Or.inl ⟨by rfl,?_⟩) ?_;rotate_left
    ·intro w9 hSw;obtain ⟨m0,m1,m2,m3,m4,m5,q0,q1,q2,q3,q4,q5,q6,q7,q8,q9,q10,_⟩:=hSw;go_simp;(try with_reducible rfl)
    try simp only [sT,Act.put]
   refine aT ?_;simp only [au,sT];refine tk 4 (eh x) rfl (by kernel_rfl) (fun _ _ _ h=>h) (yieldsIf_load_mid (by rfl) _ _ rfl w.heap.size 0 rfl (oH x) _ (fun w9 hSw=>hSw.rg) Tryz.underlying43 rfl jY) hHeld ?_;(try simp only [sT,Act.put]);refine wpAnyH_ready (rs:=[2,6]) (by kernel_rfl) (by simp) (AllReadyH.cons rfl (fun K0 hK0=>?_) (AllReadyH.cons rfl (fun K0 hK0=>?_) AllReadyH.nil))
   ·go_simp;refine (cO _).mono ?_;rintro _ _ ⟨rfl,rfl⟩;(go_wp2_with fail);refine hK0.out _ _ ((HL1.out.kept (aa.refl [] _).drew).mq (HQ1.out.kept (aa.refl [] _).drew)) (fun hHeld=>?_);clear hK0 K0;(try simp only [sT,Act.put]);refine wpAnyH_ready (rs:=[5,6]) (by kernel_rfl) (by simp) (AllReadyH.cons rfl (fun K0 hK0=>?_) (AllReadyH.cons rfl (fun K0 hK0=>?_) AllReadyH.nil))
    ·go_simp;refine (cC _ (aa.refl [] _).drew).mono ?_;rintro _ w2 ⟨ao2,n2,c2,rfl,hO2,hS2⟩;have hkp:aa [] W1 W1.drew:=(aa.refl [] _).drew;have HO2:=ah hO2;have HT2:=ah hS2;obtain ⟨F3,hL3,hF3,hs3,hu3⟩:=hS2;have HQ2:=ah ((HQ1.out.kept hkp).fr hF3);have HZ2:=ah ((HV1.out.kept hkp).fr hF3);have hz2:=hF3.size;have hkz:=hkp.size;(go_wp2_with fail);refine hK0.out _ _ (hL3.mq HQ2.out) (fun hHeld=>?_);clear hK0 K0;(try simp only [sT,Act.put]);refine aH 6 (by kernel_rfl) rfl (fun K0 hK0=>?_);go_simp;have hKa:=(aa.refl [] w2).alloc (.cells #[.int .i64 0,.int .i64 0,.int .i64 0,.string ⟨#[]⟩,.int .u64 0,.slice none 0 0,.int .i64 0] 39);have HVa:Hid (fg (w2.alloc (.cells #[.int .i64 0,.int .i64 0,.int .i64 0,.string ⟨#[]⟩,.int .u64 0,.slice none 0 0,.int .i64 0] 39)) w2.heap.size (cq 0) (.slice none 0 0)):=heap_alloc_new w2 _;refine hK0.out _ _ ((hL3.kept hKa).mq (HQ2.out.kept hKa)) (fun hHeld=>?_);clear hK0 K0;(try simp only [sT,Act.put]);refine aH 7 (by kernel_rfl) rfl (fun K0 hK0=>?_);refine aY dv (.slice ao2 n2 c2) ⟨_,_,_,rfl⟩ rfl rfl HVa.out fun w3 HV3 HK3=>?_;have hK3:=HK3.out;have hbx:w.heap.size+1 < W1.heap.size:=HV1.out.lt;have hw2:W1.heap.size≤w2.heap.size:=Nat.le_trans hkz hz2;have hL4:=(hL3.kept hKa).box HVa.out hK3 (by have:=HSZ.out;omega);have HQ3:=ah (hK3.at (HQ2.out.kept hKa) (by simp;omega));have HZ3:=ah (hK3.at (HZ2.out.kept hKa) (by simp;omega));refine hK0.out _ _ (hL4.mq HQ3.out) (fun hHeld=>?_);clear hK0 K0;(try simp only [sT,Act.put]);refine wpAnyH_done (by kernel_rfl) ?_ _;clear hHeld;(go_wp2_with fail);go_meet
     exact ⟨w2.heap.size,ao2,n2,c2,rfl,hw2,HV3,fp ((HO2.out.mono hkz).kept hKa) HVa.out hK3,((HT2.out.lift hkp).more hKa).box HVa.out hw2 (Nat.le_trans HSZ.out HK1.out.size) hK3,HQ3,HZ3⟩
    ·go_simp;have hKa:aa [] W1 (W1.drew.alloc (.cells #[.int .i64 0,.int .i64 0,.int .i64 0,.string ⟨#[]⟩,.int .u64 0,.slice none 0 0,.int .i64 0] 39)):=(aa.refl [] W1).drew.alloc _;have HVc:Hid (fg (W1.alloc (.cells #[.int .i64 0,.int .i64 0,.int .i64 0,.string ⟨#[]⟩,.int .u64 0,.slice none 0 0,.int .i64 0] 39)) W1.heap.size (cq 0) (.slice none 0 0)):=heap_alloc_new W1 _;refine hK0.out _ _ ((HL1.out.kept hKa).mq (HQ1.out.kept hKa)) (fun hHeld=>?_);clear hK0 K0;(try simp only [sT,Act.put]);refine aH 5 (by kernel_rfl) rfl (fun K0 hK0=>?_);go_simp;refine (cC _ ((aa.refl [] _).alloc _).drew).mono ?_;rintro _ w2 ⟨ao2,n2,c2,rfl,hO2,hS2⟩;have hkp:aa [] W1 (W1.alloc (.cells #[.int .i64 0,.int .i64 0,.int .i64 0,.string ⟨#[]⟩,.int .u64 0,.slice none 0 0,.int .i64 0] 39)).drew:=((aa.refl [] _).alloc _).drew;have HO2:=ah hO2;have HT2:=ah hS2;obtain ⟨F3,hL3,hF3,hs3,hu3⟩:=hS2;have HQ2:=ah ((HQ1.out.kept hkp).fr hF3);have HZ2:=ah ((HV1.out.kept hkp).fr hF3);have hz2:=hF3.size;have hkz:=hkp.size;have HVb:=ah ((HVc.out.kept (aa.refl [] _).drew).fr hF3);(go_wp2_with fail);refine hK0.out _ _ (hL3.mq HQ2.out) (fun hHeld=>?_);clear hK0 K0;(try simp only [sT,Act.put]);refine aH 7 (by kernel_rfl) rfl (fun K0 hK0=>?_);refine aY dv (.slice ao2 n2 c2) ⟨_,_,_,rfl⟩ rfl rfl HVb.out fun w3 HV3 HK3=>?_;have hK3:=HK3.out;have hbx:w.heap.size+1 < W1.heap.size:=HV1.out.lt;have hL4:=hL3.box HVb.out hK3 (by have:=HSZ.out;omega);have HQ3:=ah (hK3.at HQ2.out (by simp;omega));have HZ3:=ah (hK3.at HZ2.out (by simp;omega));refine hK0.out _ _ (hL4.mq HQ3.out) (fun hHeld=>?_);clear hK0 K0;(try simp only [sT,Act.put]);refine wpAnyH_done (by kernel_rfl) ?_ _;clear hHeld;(go_wp2_with fail);go_meet
     exact ⟨W1.heap.size,ao2,n2,c2,rfl,Nat.le_refl _,HV3,fp (HO2.out.mono hkz) HVb.out hK3,(HT2.out.lift hkp).box HVb.out (Nat.le_refl _) (Nat.le_trans HSZ.out HK1.out.size) hK3,HQ3,HZ3⟩
   ·go_simp;have hKa:aa [] W1 (W1.drew.alloc (.cells #[.int .i64 0,.int .i64 0,.int .i64 0,.string ⟨#[]⟩,.int .u64 0,.slice none 0 0,.int .i64 0] 39)):=(aa.refl [] W1).drew.alloc _;have HVc:Hid (fg (W1.alloc (.cells #[.int .i64 0,.int .i64 0,.int .i64 0,.string ⟨#[]⟩,.int .u64 0,.slice none 0 0,.int .i64 0] 39)) W1.heap.size (cq 0) (.slice none 0 0)):=heap_alloc_new W1 _;refine hK0.out _ _ ((HL1.out.kept hKa).mq (HQ1.out.kept hKa)) (fun hHeld=>?_);clear hK0 K0;(try simp only [sT,Act.put]);refine aH 2 (by kernel_rfl) rfl (fun K0 hK0=>?_);go_simp;refine (cO _).mono ?_;rintro _ _ ⟨rfl,rfl⟩;(go_wp2_with fail);refine hK0.out _ _ ((HL1.out.kept ((aa.refl [] _).alloc _).drew).mq (HQ1.out.kept ((aa.refl [] _).alloc _).drew)) (fun hHeld=>?_);clear hK0 K0;(try simp only [sT,Act.put]);refine aH 5 (by kernel_rfl) rfl (fun K0 hK0=>?_);go_simp;refine (cC _ ((aa.refl [] _).alloc _).drew).mono ?_;rintro _ w2 ⟨ao2,n2,c2,rfl,hO2,hS2⟩;have hkp:aa [] W1 (W1.alloc (.cells #[.int .i64 0,.int .i64 0,.int .i64 0,.string ⟨#[]⟩,.int .u64 0,.slice none 0 0,.int .i64 0] 39)).drew:=((aa.refl [] _).alloc _).drew;have HO2:=ah hO2;have HT2:=ah hS2;obtain ⟨F3,hL3,hF3,hs3,hu3⟩:=hS2;have HQ2:=ah ((HQ1.out.kept hkp).fr hF3);have HZ2:=ah ((HV1.out.kept hkp).fr hF3);have hz2:=hF3.size;have hkz:=hkp.size;have HVb:=ah ((HVc.out.kept (aa.refl [] _).drew).fr hF3);(go_wp2_with fail);refine hK0.out _ _ (hL3.mq HQ2.out) (fun hHeld=>?_);clear hK0 K0;(try simp only [sT,Act.put]);refine aH 7 (by kernel_rfl) rfl (fun K0 hK0=>?_);refine aY dv (.slice ao2 n2 c2) ⟨_,_,_,rfl⟩ rfl rfl HVb.out fun w3 HV3 HK3=>?_;have hK3:=HK3.out;have hbx:w.heap.size+1 < W1.heap.size:=HV1.out.lt;have hL4:=hL3.box HVb.out hK3 (by have:=HSZ.out;omega);have HQ3:=ah (hK3.at HQ2.out (by simp;omega));have HZ3:=ah (hK3.at HZ2.out (by simp;omega));refine hK0.out _ _ (hL4.mq HQ3.out) (fun hHeld=>?_);clear hK0 K0;(try simp only [sT,Act.put]);refine wpAnyH_done (by kernel_rfl) ?_ _;clear hHeld;(go_wp2_with fail);go_meet
    exact ⟨W1.heap.size,ao2,n2,c2,rfl,Nat.le_refl _,HV3,fp (HO2.out.mono hkz) HVb.out hK3,(HT2.out.lift hkp).box HVb.out (Nat.le_refl _) (Nat.le_trans HSZ.out HK1.out.size) hK3,HQ3,HZ3⟩
  case rest =>
   obtain ⟨Bw,ao2,n2,c2,rfl,HBw,HVw,HOw,HTw,HQw,HZw⟩:=hcut;obtain ⟨F3,hL3,hF3,hs3,hu3⟩:=id HTw.out;obtain ⟨x0,x1,x2,x3,x4,x5⟩:=hL3.cells;have fx2:=aj hL3.at 2;have HL3:=ah hL3;have HF3:=ah hF3;have HS3:=ah hs3;have HU3:=ah hu3;clear hL3 hF3 hs3 hu3 cC cO hen;dsimp only at x2;go_upto_region 7 with fail
   obtain ⟨hI,hKi⟩:=Ee HL3.out HR.out;obtain ⟨w6,hw6⟩:∃ w6,w6=wc.setCell ⟨b,2,none⟩ (.int .i64 (m.a+1)):=⟨_,rfl⟩;rw [← hw6] at hI hKi ⊢;have HI:=ah hI;have HKi:=ah hKi;obtain ⟨F6,hL6,hF6,hs6⟩:=hI;have HL6:=ah hL6;have HF6:=ah hF6;have HS6:=ah hs6;have HQ6:=ah (HQw.out.fr hF6);have HV6:=ah (HVw.out.fr hF6);have HZ6:=ah (HZw.out.fr hF6);have cT:=fun W (hk:aa [] w6 W)=>Ed (hL6.kept hk) HEl.out (m.a+1);clear hL6 hF6 hs6 hKi x0 x1 x2 x3 x4 x5 fx2 hw6;refine wp_region_held_drew (S:=ui b w.heap.size p al sz (m.a+1) x) (by kernel_rfl) ((HL6.out.kept (aa.refl [] _).drew).mq (HQ6.out.kept (aa.refl [] _).drew)) (fun hHeld=>?_);refine aU [0,1,2,3,4,5,6,7] (by rfl) (by kernel_rfl) (fun _ _ _ _ _ h=>h) hHeld ?_
   iterate 8
    refine yk ?_ rfl (Or.inl ⟨by rfl,?_⟩) ?_;rotate_left
    ·intro w9 hSw;obtain ⟨m0,m1,m2,m3,m4,m5,q0,q1,q2,q3,q4,q5,q6,q7,q8,q9,q10,_⟩:=hSw;go_simp;(try with_reducible rfl)
    try simp only [sT,Act.put]
   refine aT ?_;simp only [au,sT];refine aH 8 (by kernel_rfl) rfl (fun K0 hK0=>?_);go_simp;refine (cT _ (aa.refl [] _).drew).mono ?_;rintro _ w7 ⟨⟨v7,rfl⟩,HT7,HK7⟩;obtain ⟨F7,hL7,hF7,hs7⟩:=id HT7.out;have HQ7:=ah ((HQ6.out.kept (aa.refl [] _).drew).fr hF7);have HV7:=ah ((HV6.out.kept (aa.refl [] _).drew).fr hF7);have HZ7:=ah ((HZ6.out.kept (aa.refl [] _).drew).fr hF7);(go_wp2_with fail);refine hK0.out _ _ (hL7.mq HQ7.out) (fun hHeld=>?_);clear hK0 K0;(try simp only [sT,Act.put]);refine wpAnyH_done (by kernel_rfl) ?_ _;clear hHeld hL7 hF7 hs7 cT;obtain ⟨r0,r1,r2,r3,r4,r5,r6⟩:=HZ7.out.cells;have fr0:=aj HZ7.out 0;have fr1:=aj HZ7.out 1;have fr2:=aj HZ7.out 2;have fr3:=aj HZ7.out 3;have fr4:=aj HZ7.out 4;have fr5:=aj HZ7.out 5;have fr6:=aj HZ7.out 6;obtain ⟨s0,s1,s2,s3,s4,s5,s6⟩:=HV7.out.cells;(go_wp2_with fail);refine bodyPost_ret (bj (by rfl) _ (by rfl) (aD HZ7.out rfl _ _ _ _ _ _ _) rfl) rfl ?_;refine du HSZ.out HK1.out ?_ (HK7.out _ _ _ ((HKi.out _ _ _ HOw.out).kept (aa.refl [] _).drew)) HZ7.out (az (aa.refl _ _) (by simp) _ _ _ _ _ _ _)
   exact px (HF3.out.trans HF6.out HS3.out) (fun k hk=>(HS6.out k hk).elim (HS3.out k) (fun e=>.inr (Nat.le_trans HF3.out.size e))) (fun j hj=>by
    have hj1:=aq (il HOw.out hj).2.choose_spec;have hz6:=HF6.out.size;refine ⟨fun hm=>?_,by omega⟩;rcases HS6.out j hm with e | e
    ·exact HU3.out j hj e
    ·omega) (db.lift (aa.refl [] _).drew HT7.out)
end Go.Proofs.YtgpnlidnbldiiaaGreat
namespace Go.Proofs.YtgpnlidnbldiiaaGreat
open Go.RowKit
variable {w0 w : World} {M D : List Nat} {b : Nat} {p : Pl} {al : Int} {sz : Nat} {m : Ma}
theorem oh (h:aM w0 w M D b p al sz m) (ha:m.a < 1099511627776) (hl:m.g.cs.length≤10000) (he:m.e.length≤1000) (x:Rm) (hx:dE w0 x):Calls Tryz.prog 42 #[.pointer (some ⟨b,0,none⟩),eh x] w fun e w'=>gP w0 w M D b p al sz (gg al m x.r) ⟨m.a,fL m x.r,gc al sz m x.r,fe al m x.r⟩ e w':=by
 by_cases h0:x.r.k=0
 ·have e2:gg al m x.r=cq 0:=if_pos h0
  have e3:(⟨m.a,fL m x.r,gc al sz m x.r,fe al m x.r⟩:Ma)=m:=by
   unfold fL gc fe lM;rw [if_pos h0];simp [h0]
  rw [e2,e3];exact uA h x h0
 ·by_cases h1:x.r.k=1
  ·have e2:gg al m x.r=if bu false x.r.n=true then ⟨1,eF x.r.n (m.a+1) m.s,0,[],0,[],0⟩ else cq 5:=(if_neg h0).trans (if_pos h1)
   have e3:(⟨m.a,fL m x.r,gc al sz m x.r,fe al m x.r⟩:Ma)=⟨m.a,m.g,if bu false x.r.n=true then cd sz x.r.n (m.a+1) m.s else m.s,m.e⟩:=by
    unfold fL gc fe lM;rw [if_neg h0,if_pos h1];simp [h1]
   rw [e2,e3];exact sV h ha x hx h1
  ·obtain ⟨e2,e3⟩:=vA (al:=al) (sz:=sz) (m:=m) h0 h1;rw [e2,e3];exact tv h hl he x hx h0 h1
theorem yL (c:Int):vh (cq c):=⟨Nat.zero_le _,Nat.zero_le _,fun _ h=>by cases h⟩
theorem Bt {m:Ma}(hW:Wf m.g) (hs:∀ x∈m.s,jZ x) (r:Rq):vh (gg al m r):=by
 unfold gg;split
 ·exact yL 0
 ·split
  ·split
   ·exact ⟨Nat.zero_le _,Nat.zero_le _,fun _ h=>by cases h⟩
   ·exact yL 5
  ·split
   ·rename_i h
    rcases xZ h with ⟨x,hx,e⟩ | e | e | e
    ·rw [e];exact (hs x hx).2
    all_goals rw [e];exact yL _
   ·exact sZ hW r
theorem cj.size {w0 w w2:World}{F D:List Nat}{b:Nat}{p:Pl}{al:Int}{sz:Nat}{m:Ma}(h:cj w0 w F D b p al sz m w2):w.heap.size≤w2.heap.size:=by
 obtain ⟨_,_,h2,_⟩:=h;exact h2.size
theorem Ea (h:aM w0 w M D b p al sz m) (hl:m.e.length≤1000) (z:Int):Calls Tryz.prog 43 #[.pointer (some ⟨p.e,0,none⟩),.int .i64 z] w fun e w'=>(∃ v,e=.returned v)∧Hid (cj w0 w M D b p al sz ⟨m.a,m.g,m.s,dZ m.e z⟩ w')∧Hid (BH w w'):=by
 have hsz:=h.size;obtain ⟨v,vL,vR,K,vt,X,h1,rfl,h3,h4,h5,h6,h7⟩:=h
 exact (oy _ w p.e al m.e h1.e h6.e (by omega) hsz z).mono fun e w' ⟨he,hE,hT⟩=>⟨he,zc h1 h3 h4 h5 h6 h7 hE hT (kl h6.e _),(by
  obtain ⟨U,k1,_,k3,_⟩:=hT;exact BH.typed k1 k3 (by decide) (by decide))⟩
theorem Eh (h:aM w0 w M D b p al sz m) {a:Int}(ha:0≤a∧a≤1099511627776):cj w0 w M D b p al sz ⟨a,m.g,m.s,m.e⟩ (w.setCell ⟨b,0,none⟩ (.int .i64 a))∧BH w (w.setCell ⟨b,0,none⟩ (.int .i64 a)):=by
 obtain ⟨v0,vL0,vR0,hat⟩:=h.at;obtain ⟨v,vL,vR,K,vt,X,h1,rfl,h3,h4,h5,h6,h7⟩:=h;exact ⟨Ck h1 h3 h4 h5 h6 h7 ha,BH.typed ((aa.refl [b] _).setCell (by simp) _) (dw hat) (by decide) (by decide)⟩
theorem ly (h:aM w0 w M D b p al sz m) (hl:m.g.cs.length≤10000) (he:m.e.length≤999) (x:Rm) (hx:dE w0 x):Calls Tryz.prog 14 #[.pointer (some ⟨b,0,none⟩),eh x] w fun e w'=>gP w0 w M D b p al sz (qH al m x.r) (lH al sz m x.r) e w':=by
 have hsz:=h.size;have hk:=ax w x;have HK1:=ah hk;have HQ1:=ah (aF w x).1;have HV1:=ah (aF w x).2;have HL1:=ah (h.kept hk);obtain ⟨W1,hW1⟩:∃ W1,W1=aX w x:=⟨_,rfl⟩;rw [← hW1] at HK1 HQ1 HV1 HL1;unfold aX at hW1;unfold eh;have HSZ:=ah hsz;obtain ⟨q0,q1,q2,q3,q4,q5,q6,q7,q8,q9,q10⟩:=HQ1.out.cells;obtain ⟨va,vb,vc,hat⟩:=HL1.out.at;have m0:=ag (k:=0) hat rfl;clear hat;have hA0:=h.w.a0;have hA1:=h.w.a1;by_cases ha:1099511627776≤m.a
 ·have e1:qH al m x.r=cq 5:=if_pos ha;have e2:lH al sz m x.r=m:=if_pos ha;rw [e1,e2];clear e1 e2 h hk hsz hx hl he hA0 hA1 q0 q1 q2 q3 q4 q5 q6 q7 q8 q9 q10;go_enter Tryz.func14,Tryz.ntmps14;go_upto_region 1 with fail
  rw [← hW1];clear hW1;obtain ⟨r0,r1,r2,r3,r4,r5,r6⟩:=HV1.out.cells;have fr0:=aj HV1.out 0;have fr1:=aj HV1.out 1;have fr2:=aj HV1.out 2;have fr3:=aj HV1.out 3;have fr4:=aj HV1.out 4;have fr5:=aj HV1.out 5;have fr6:=aj HV1.out 6;(go_wp2_with fail);refine bodyPost_ret (bj (by rfl) _ (by rfl) (aD HV1.out rfl _ _ _ _ _ _ _) rfl) rfl ?_;exact bH HSZ.out HK1.out (cj.same HL1.out (aa.refl _ _)).u0 (cw.nil _ _) HV1.out (az (aa.refl _ _) (by simp) _ _ _ _ _ _ _)
 ·have hlt:m.a < 1099511627776:=by omega
  have cV:=oh HL1.out hlt hl (by omega) x hx;have HOk:=ah (Bt (al:=al) HL1.out.w.g.wf HL1.out.w.so x.r);have e1:qH al m x.r=gg al m x.r:=if_neg (by omega);have e2:=qK (al:=al) (sz:=sz) (r:=x.r) hlt;rw [e1,e2];have hwr:IntKind.i64.wrap (m.a+1)=m.a+1:=IntWalk.i64_in _ (by omega);have HR:Hid (0≤m.a+1∧m.a+1≤1099511627776):=by show _∧_;omega
  have HEl:Hid ((fe al m x.r).length≤1000):=by
   show _≤_;unfold fe nV;split
   ·split
    ·exact Nat.le_trans (tj _ _ _ _ _) (by omega)
    ·omega
   ·omega
  generalize gg al m x.r=dv at *;generalize fL m x.r=vG at *;generalize gc al sz m x.r=vS at *;generalize fe al m x.r=vE at *;have hab:¬ 1099511627776≤m.a:=ha;unfold eh at cV;clear ha e1 e2 h hk hsz hx hl he hA0 hA1 hlt;go_enter Tryz.func14,Tryz.ntmps14;go_upto_region 1 with fail
  rw [← hW1];clear hW1;(go_wp2_with fail);refine cV.mono ?_;rintro _ w2 ⟨ao2,n2,c2,rfl,hO2,hS2⟩;clear cV q0 q1 q2 q3 q4 q5 q6 q7 q8 q9 q10 m0;have HO2:=ah hO2;have HT2:=ah hS2;obtain ⟨F2,hL2,hF2,hs2,hu2⟩:=hS2;have HL2:=ah hL2;have HF2:=ah hF2;have HS2:=ah hs2;have HU2:=ah hu2;unfold gA;clear hO2 hL2 hF2 hs2 hu2;go_upto_region 4 with fail
  obtain ⟨w3,hw3⟩:∃ w3,w3=w2.alloc (.cells #[.int .i64 dv.c,.int .i64 dv.s,.int .i64 dv.r,.string (ak dv.p),.int .u64 dv.d,.slice ao2 n2 c2,.int .i64 dv.m] 39):=⟨_,rfl⟩;rw [← hw3];have HV3:Hid (fg w3 w2.heap.size dv (.slice ao2 n2 c2)):=by rw [hw3];exact heap_alloc_new w2 _
  have HK13:Hid (aa [] w2 w3):=by rw [hw3];exact (aa.refl _ _).alloc _
  clear hw3;have HL3:=ah (HL2.out.kept HK13.out);have HQ3:=ah ((HQ1.out.frd HF2.out).kept HK13.out);have HZ3:=ah ((HV1.out.frd HF2.out).kept HK13.out);have HO3:=ah (HO2.out.kept HK13.out);have HF3:=ah (HF2.out.trans (iB.kept (M:=[]) HK13.out) (fun i hi=>by cases hi));obtain ⟨va2,vb2,vc2,hat3⟩:=HL3.out.at;have m0:=ag (k:=0) hat3 rfl;have fm0:=aj hat3 0;clear hat3;dsimp only at m0;go_upto_region 5 with fail
  obtain ⟨hI,hKi⟩:=Eh HL3.out HR.out;obtain ⟨w6,hw6⟩:∃ w6,w6=w3.setCell ⟨b,0,none⟩ (.int .i64 (m.a+1)):=⟨_,rfl⟩;rw [← hw6] at hI hKi ⊢;have HKi:=ah hKi;obtain ⟨F6,hL6,hF6,hs6⟩:=hI;have HL6:=ah hL6;have HF6:=ah hF6;have HS6:=ah hs6;have HQ6:=ah (HQ3.out.frd hF6);have HV6:=ah (HV3.out.frd hF6);have HZ6:=ah (HZ3.out.frd hF6);have cT:=fun W (hk:aa [] w6 W)=>Ea (hL6.kept hk) HEl.out (m.a+1);clear hL6 hF6 hs6 hKi hw6 m0 fm0;refine wp_region_held_drew (S:=Ah b w.heap.size p (m.a+1) x) (by kernel_rfl) ((HL6.out.kept (aa.refl [] _).drew).dq (HQ6.out.kept (aa.refl [] _).drew)) (fun hHeld=>?_);refine aU [0,1,2,3,4,5,6,7] (by rfl) (by kernel_rfl) (fun _ _ _ _ _ h=>h) hHeld ?_
  iterate 8
   refine yk ?_ rfl (Or.inl ⟨by rfl,?_⟩) ?_;rotate_left
   ·intro w9 hSw;obtain ⟨m0,m4,m5,q0,q1,q2,q3,q4,q5,q6,q7,q8,q9,q10,_⟩:=hSw;go_simp;(try with_reducible rfl)
   try simp only [sT,Act.put]
  refine aT ?_;simp only [au,sT];refine aH 8 (by kernel_rfl) rfl (fun K0 hK0=>?_);go_simp;refine (cT _ (aa.refl [] _).drew).mono ?_;rintro _ w7 ⟨⟨v7,rfl⟩,HT7,HK7⟩;obtain ⟨F7,hL7,hF7,hs7⟩:=id HT7.out;have HQ7:=ah ((HQ6.out.kept (aa.refl [] _).drew).frd hF7);have HV7:=ah ((HV6.out.kept (aa.refl [] _).drew).frd hF7);have HZ7:=ah ((HZ6.out.kept (aa.refl [] _).drew).frd hF7);have HL7:=ah hL7;(go_wp2_with fail);refine hK0.out _ _ (hL7.dq HQ7.out) (fun hHeld=>?_);clear hK0 K0;(try simp only [sT,Act.put]);refine wpAnyH_done (by kernel_rfl) ?_ _;have HO7:=ah (HK7.out _ _ _ ((HKi.out _ _ _ HO3.out).kept (aa.refl [] _).drew));have cC:=gp w7 dv (.slice ao2 n2 c2) HO7.out.ko HOk.out;unfold gA at cC;clear hHeld hL7 hF7 hs7 cT;obtain ⟨s0,s1,s2,s3,s4,s5,s6⟩:=HV7.out.cells;(go_wp2_with fail);refine cC.mono ?_;rintro _ w8 ⟨u8,rfl,hO8,hK8⟩;obtain ⟨ao8,n8,c8,rfl⟩:=hO8.ko.one;have HO8:=ah hO8;have HK8:=ah hK8;have HZ8:=ah (HZ7.out.kept hK8);clear hO8 hK8 cC s0 s1 s2 s3 s4 s5 s6;obtain ⟨r0,r1,r2,r3,r4,r5,r6⟩:=HZ8.out.cells;have fr0:=aj HZ8.out 0;have fr1:=aj HZ8.out 1;have fr2:=aj HZ8.out 2;have fr3:=aj HZ8.out 3;have fr4:=aj HZ8.out 4;have fr5:=aj HZ8.out 5;have fr6:=aj HZ8.out 6;(go_wp2_with fail);refine bodyPost_ret (bj (by rfl) _ (by rfl) (aD HZ8.out rfl _ _ _ _ _ _ _) rfl) rfl ?_;have hz7:W1.heap.size≤w7.heap.size:=Nat.le_trans HF3.out.size (Nat.le_trans HF6.out.size (by have:=(cj.lift (aa.refl [] _).drew HT7.out).size;exact this));refine bH HSZ.out HK1.out ?_ (HO8.out.mono hz7) HZ8.out (az (aa.refl _ _) (by simp) _ _ _ _ _ _ _);obtain ⟨F7,hL7,hF7,hs7⟩:=cj.trans HF3.out HS2.out (cj.trans HF6.out HS6.out (cj.lift (aa.refl [] _).drew HT7.out));exact ⟨F7,hL7.kept HK8.out,hF7.trans (iB.kept (M:=[]) HK8.out) (fun i hi=>by cases hi),hs7,fun j hj hm=>by have:=(il HO8.out hj).1;have:=hL7.lt j hm;omega⟩
end Go.Proofs.YtgpnlidnbldiiaaGreat
