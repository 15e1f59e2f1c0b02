/-
  The document's verdict: a session's request, unless the session has done it.
-/
import Derived.Test.YtgpnlidnbldiiaaGreatQ2r
import Derived.Test.YtgpnlidnbldiiaaGreatW10r
import Derived.Test.YtgpnlidnbldiiaaGreatQ1r
import Derived.Test.YtgpnlidnbldiiaaGreatW9r
import Derived.Deep.CutRange
set_option maxHeartbeats 16000000
set_option maxRecDepth 100000
set_option linter.unusedSimpArgs false
namespace Go.Proofs.YtgpnlidnbldiiaaGreat
open Go.RowKit
variable {w0 w : World} {M D : List Nat} {b : Nat} {p : Pl} {al : Int} {sz : Nat} {m : Ma}
def BH (w w':World):Prop:=∀ B u k,cw B w u k→cw B w' u k
theorem BH.typed {S:List Nat}{Ts:List TypeId}{w w':World}(k:aa S w w') (hT:aJ w S Ts) (h1:137 ∉ Ts) (h2:60 ∉ Ts):BH w w':=fun _ _ _ h=>h.keep k hT h1 h2
theorem CE (h:aM w0 w M D b p al sz m) (n:List UInt8) (hn:n.length≤300) (id:Int):Calls Tryz.prog 88 #[.pointer (some ⟨p.t,0,none⟩),.string (ak n),.int .i64 id] w fun e w'=>e=.returned (.int .i64 (eF n id m.s))∧Hid (cj w0 w M D b p al sz ⟨m.a,m.g,cd sz n id m.s,m.e⟩ w'):=by
 obtain ⟨v,vL,vR,K,vt,X,h1,rfl,h3,h4,h5,h6,h7⟩:=h;have hz:=h6.z1;exact (uB h1.t h6.sl (by omega) h7 n id).mono fun e w' ⟨he,hL⟩=>⟨he,zR h1 h3 h4 h5 h6 h7 hL (gY h6.sl h7) (rm h6.so (by omega))⟩
theorem Ek (h:aM w0 w M D b p al sz m) (id seq:Int):Calls Tryz.prog 89 #[.pointer (some ⟨p.t,0,none⟩),.int .i64 id,.int .i64 seq] w fun e w'=>∃ ao n c,e=.returned (.tuple #[.agg #[.int .i64 (aZ id seq m.s).1.c,.int .i64 (aZ id seq m.s).1.s,.int .i64 (aZ id seq m.s).1.r,.string (ak (aZ id seq m.s).1.p),.int .u64 (aZ id seq m.s).1.d,.slice ao n c,.int .i64 (aZ id seq m.s).1.m],.bool (aZ id seq m.s).2])∧Hid (cw w.heap.size w' (.slice ao n c) (aZ id seq m.s).1.k)∧Hid (dK w0 w M D b p al sz ⟨m.a,m.g,ct id m.s,m.e⟩ (.slice ao n c) w'):=by
 obtain ⟨v,vL,vR,K,vt,X,h1,rfl,h3,h4,h5,h6,h7⟩:=h;have hz:=h6.z1;have hs:=h6.sl;refine (xN h1.t (by omega) h6.so id seq).mono fun e w' ⟨u,he,hO,hL⟩=>?_;obtain ⟨ao,n,c,rfl⟩:=hO.ko.one;obtain ⟨v',X',t1,t2,t3⟩:=hL;obtain ⟨k1,k2,k3⟩:=uL h1 h3 h4 h5 h6 h7 t1 t2 t3 (by rw [gv];exact hs) (vx h6.so);refine ⟨ao,n,c,he,hO,⟨_,k1,k2,k3,fun j hj hm=>?_⟩⟩;obtain ⟨hj1,cur,hj2⟩:=il hO hj;rcases List.mem_append.1 hm with hm | hm
 ·have:=h1.g.lt j hm;omega
 ·have:=t1.typed j hm _ _ _ hj2
  simp at this
theorem De (h:aM w0 w M D b p al sz m) (id seq:Int) (d:Vt) (u:Value) (hu:cw 0 w u d.k) (hd:vh d):Calls Tryz.prog 91 #[.pointer (some ⟨p.t,0,none⟩),.int .i64 id,.int .i64 seq,gA d u] w fun e w'=>e=.returned (.bool (dz id seq m.s).isSome)∧Hid (cj w0 w M D b p al sz ⟨m.a,m.g,bZ id seq d m.s,m.e⟩ w')∧Hid (BH w w'):=by
 obtain ⟨v,vL,vR,K,vt,X,h1,rfl,h3,h4,h5,h6,h7⟩:=h;have hz:=h6.z1;have hs:=h6.sl;have hT:=h1.t.typed
 exact (uf h1.t (by omega) id seq d u (fun W hk=>(hu.keep hk hT (by decide) (by decide)).ko) hd (fun k hk=>⟨fun hm=>by have:=h1.g.lt k hm;omega,fun hm=>by have:=h5 k hm;omega⟩)).mono fun e w' ⟨he,hL⟩=>⟨he,zR h1 h3 h4 h5 h6 h7 hL (by rw [ie];exact hs) (st h6.so hd),(by
  obtain ⟨v',X',t1,t2,t3⟩:=hL;exact BH.typed t2 hT (by decide) (by decide))⟩
theorem sQ {w0 a b' c:World}{F D:List Nat}{b:Nat}{p:Pl}{al:Int}{sz:Nat}{m':Ma}{u:Value}{F1:List Nat}(h2:iB w0.heap.size F a b') (h3:∀ k∈F1,k∈F∨a.heap.size≤k) (hu:∀ j,u.ownBlock=some j→j ∉ F1∧j < b'.heap.size) (k:cj w0 b' F1 D b p al sz m' c):dK w0 a F D b p al sz m' u c:=by
 obtain ⟨F',k1,k2,k3⟩:=k;refine ⟨F',k1,h2.trans k2 h3,fun i hi=>?_,fun j hj hm=>?_⟩
 ·rcases k3 i hi with h | h
  ·exact h3 i h
  ·exact .inr (Nat.le_trans h2.size h)
 ·rcases k3 j hm with h | h
  ·exact (hu j hj).1 h
  ·have:=(hu j hj).2;omega
def DV (w0 w W1:World) (F D:List Nat) (b:Nat) (p:Pl) (al:Int) (sz:Nat) (m:Ma) (x:Rm) (s5 s6:Value) (wx:World):Prop :=
 ∃ (Bk:Nat) (ao:Option Addr) (n c:Nat),s5=.pointer (some ⟨Bk,0,none⟩)∧s6=.bool (aZ x.r.s x.r.q m.s).2∧Hid (W1.heap.size≤Bk)∧Hid (fg wx Bk (aZ x.r.s x.r.q m.s).1 (.slice ao n c))∧Hid (cw W1.heap.size wx (.slice ao n c) (aZ x.r.s x.r.q m.s).1.k)∧Hid (dK w0 W1 F D b p al sz ⟨m.a,m.g,ct x.r.s m.s,m.e⟩ (.slice ao n c) wx)∧Hid (nY wx w.heap.size x)∧Hid (fg wx (w.heap.size+1) (cq 0) (.slice none 0 0))
theorem uA (h:aM w0 w M D b p al sz m) (x:Rm) (h0:x.r.k=0):Calls Tryz.prog 42 #[.pointer (some ⟨b,0,none⟩),eh x] w fun e w'=>gP w0 w M D b p al sz (cq 0) m e w':=by
 have hsz:=h.size;have hk:=ax w x;have HK1:=ah hk;have HQ1:=ah (aF w x).1;have HV1:=ah (aF w x).2;have HL1:=ah (h.kept hk);obtain ⟨W1,hW1⟩:∃ W1,W1=aX w x:=⟨_,rfl⟩;rw [← hW1] at HK1 HQ1 HV1 HL1;unfold aX at hW1;unfold eh;have HSZ:=ah hsz;obtain ⟨q0,q1,q2,q3,q4,q5,q6,q7,q8,q9,q10⟩:=HQ1.out.cells;clear h hk hsz q1 q2 q3 q4 q5 q6 q7 q8 q9 q10;rw [h0] at q0;clear h0;go_enter Tryz.func42,Tryz.ntmps42;go_upto_region 1 with fail
 rw [← hW1];clear hW1;obtain ⟨r0,r1,r2,r3,r4,r5,r6⟩:=HV1.out.cells;have fr0:=aj HV1.out 0;have fr1:=aj HV1.out 1;have fr2:=aj HV1.out 2;have fr3:=aj HV1.out 3;have fr4:=aj HV1.out 4;have fr5:=aj HV1.out 5;have fr6:=aj HV1.out 6;go_wp2_with fail
 refine bodyPost_ret (bj (by rfl) _ (by rfl) (aD HV1.out rfl _ _ _ _ _ _ _) rfl) rfl ?_;exact bH HSZ.out HK1.out (cj.same HL1.out (aa.refl _ _)).u0 (cw.nil _ _) HV1.out (az (aa.refl _ _) (by simp) _ _ _ _ _ _ _)
theorem sV (h:aM w0 w M D b p al sz m) (ha:m.a < 1099511627776) (x:Rm) (hx:dE w0 x) (h0:x.r.k=1):Calls Tryz.prog 42 #[.pointer (some ⟨b,0,none⟩),eh x] w fun e w'=>gP w0 w M D b p al sz (if bu false x.r.n=true then ⟨1,eF x.r.n (m.a+1) m.s,0,[],0,[],0⟩ else cq 5) ⟨m.a,m.g,if bu false x.r.n=true then cd sz x.r.n (m.a+1) m.s else m.s,m.e⟩ e w':=by
 have hsz:=h.size;have hk:=ax w x;have HK1:=ah hk;have HQ1:=ah (aF w x).1;have HV1:=ah (aF w x).2;have HL1:=ah (h.kept hk);have hwr:IntKind.i64.wrap (m.a+1)=m.a+1:=IntWalk.i64_in _ (by have:=h.w.a0;omega);have cC:=fun W (hk:aa [] (aX w x) W)=>CE ((h.kept (ax w x)).kept hk) x.r.n hx.2.1 (m.a+1);have cN:=jG x.r.n (aX w x) (by have:=hx.2.1;omega);obtain ⟨W1,hW1⟩:∃ W1,W1=aX w x:=⟨_,rfl⟩;rw [← hW1] at HK1 HQ1 HV1 HL1 cC cN;unfold aX at hW1;unfold eh;have HSZ:=ah hsz;obtain ⟨q0,q1,q2,q3,q4,q5,q6,q7,q8,q9,q10⟩:=HQ1.out.cells;clear h hk hsz hx ha q2 q3 q4 q5 q6 q7 q8 q9 q10;rw [h0] at q0;clear h0;cases hw:bu false x.r.n with
 | false =>
   rw [hw] at cN;go_enter Tryz.func42,Tryz.ntmps42;go_upto_region 1 with fail
   rw [← hW1];clear hW1;(go_wp2_with fail);refine cN.mono ?_;rintro _ _ ⟨rfl,rfl⟩;obtain ⟨r0,r1,r2,r3,r4,r5,r6⟩:=HV1.out.cells;have fr0:=aj HV1.out 0;have fr1:=aj HV1.out 1;have fr2:=aj HV1.out 2;have fr3:=aj HV1.out 3;have fr4:=aj HV1.out 4;have fr5:=aj HV1.out 5;have fr6:=aj HV1.out 6;(go_wp2_with fail);refine bodyPost_ret (bj (by rfl) _ (by rfl) (aD HV1.out rfl _ _ _ _ _ _ _) rfl) rfl ?_;exact bH HSZ.out HK1.out (cj.same HL1.out (aa.refl _ _)).u0 (cw.nil _ _) HV1.out (az (aa.refl _ _) (by simp) _ _ _ _ _ _ _)
 | true =>
   rw [hw] at cN;rw [if_pos rfl,if_pos rfl];go_enter Tryz.func42,Tryz.ntmps42;go_upto_region 1 with fail
   rw [← hW1];clear hW1;go_upto_region 7 with (go_at_call 87;refine cN.mono ?_;rintro _ _ ⟨rfl,rfl⟩)
   clear q0 q1;refine wp_region_held_drew (S:=Ah b w.heap.size p m.a x) (by kernel_rfl) ((HL1.out.kept (aa.refl [] _).drew).dq (HQ1.out.kept (aa.refl [] _).drew)) (fun hHeld=>?_);refine aU [0,1,2,3,4,5,6,7,8,9,10] (by rfl) (by kernel_rfl) (fun _ _ _ _ _ h=>h) hHeld ?_
   iterate 11
    refine yk ?_ rfl (Or.inl ⟨by rfl,?_⟩) ?_;rotate_left
    ·intro w9 hSw;obtain ⟨m0,m4,m5,q0,q1,q2,q3,q4,q5,q6,q7,q8,q9,q10,_⟩:=hSw;go_simp;(try with_reducible rfl)
    try simp only [sT,Act.put]
   refine aT ?_;simp only [au,sT];refine aH 11 (by kernel_rfl) rfl (fun K0 hK0=>?_);go_simp;refine (cC _ (aa.refl [] _).drew).mono ?_;rintro _ w2 ⟨rfl,HS2⟩;obtain ⟨F2,hL2,hF2,hs2⟩:=id HS2.out;have HQ2:=ah ((HQ1.out.kept (aa.refl [] _).drew).frd hF2);have HV2:=ah ((HV1.out.kept (aa.refl [] _).drew).frd hF2);have hS2:=hL2.dq HQ2.out;have hSt:∀ w3,Hid (fg w3 (w.heap.size+1) ⟨1,eF x.r.n (m.a+1) m.s,0,[],0,[],0⟩ (.slice none 0 0))→Hid (aa [w.heap.size+1] w2 w3)→Ah b w.heap.size p m.a x w3:=fun w3 _ k3=>(hL2.box HV2.out k3.out (by have:=HSZ.out;omega)).dq (k3.out.at HQ2.out (by simp));clear hL2 hF2 hs2;(go_wp2_with fail);refine hK0.out _ _ hS2 (fun hHeld=>?_);clear hK0 K0;(try simp only [sT,Act.put]);refine aU [12] (by rfl) (by kernel_rfl) (fun _ _ _ _ _ h=>h) hHeld ?_
   iterate 1
    refine yk ?_ rfl (Or.inl ⟨by rfl,?_⟩) ?_;rotate_left
    ·intro w9 hSw;obtain ⟨m0,m4,m5,q0,q1,q2,q3,q4,q5,q6,q7,q8,q9,q10,_⟩:=hSw;go_simp;(try with_reducible rfl)
    try simp only [sT,Act.put]
   refine aT ?_;simp only [au,sT];refine aH 13 (by kernel_rfl) rfl (fun K0 hK0=>?_);refine aY ⟨1,eF x.r.n (m.a+1) m.s,0,[],0,[],0⟩ (.slice none 0 0) ⟨_,_,_,rfl⟩ rfl rfl HV2.out fun w3 HV3 HK3=>?_;refine hK0.out _ _ (hSt w3 HV3 HK3) (fun hHeld=>?_);clear hK0 K0;(try simp only [sT,Act.put]);refine wpAnyH_done (by kernel_rfl) ?_ _;clear hHeld;(go_wp2_with fail);refine bodyPost_ret (bj (by rfl) _ (by rfl) HV3.out rfl) rfl ?_;exact bH HSZ.out (HK1.out.trans (aa.refl [] _).drew (by simp)) HS2.out.u0 (cw.nil _ _) HV2.out HK3.out
theorem tv (h:aM w0 w M D b p al sz m) (hl:m.g.cs.length≤10000) (he:m.e.length≤1000) (x:Rm) (hx:dE w0 x) (h0:x.r.k≠0) (h1:x.r.k≠1):Calls Tryz.prog 42 #[.pointer (some ⟨b,0,none⟩),eh x] w fun e w'=>gP w0 w M D b p al sz (if (aZ x.r.s x.r.q m.s).2=true then (aZ x.r.s x.r.q m.s).1 else jI al m x.r) (if (aZ x.r.s x.r.q m.s).2=true then ⟨m.a,m.g,ct x.r.s m.s,m.e⟩ else ⟨m.a,doG m x.r,bZ x.r.s x.r.q (jI al m x.r) (ct x.r.s m.s),nV al m x.r⟩) e w':=by
 have hsz:=h.size;have hk:=ax w x;have HK1:=ah hk;have HQ1:=ah (aF w x).1;have HV1:=ah (aF w x).2;have HL1:=ah (h.kept hk);have HX0:=ah hx;have HOk:=ah (sZ (al:=al) h.w.g.wf x.r);have cA:=fun W (hk:aa [] (aX w x) W)=>Ek ((h.kept (ax w x)).kept hk) x.r.s x.r.q;obtain ⟨vv,hvv⟩:∃ vv:Vt,vv=if (aZ x.r.s x.r.q m.s).2=true then (aZ x.r.s x.r.q m.s).1 else jI al m x.r:=⟨_,rfl⟩
 obtain ⟨mm,hmm⟩:∃ mm:Ma,mm=if (aZ x.r.s x.r.q m.s).2=true then ⟨m.a,m.g,ct x.r.s m.s,m.e⟩ else ⟨m.a,doG m x.r,bZ x.r.s x.r.q (jI al m x.r) (ct x.r.s m.s),nV al m x.r⟩:=⟨_,rfl⟩
 rw [← hvv,← hmm];have HVV:=ah hvv;have HMM:=ah hmm;clear hvv hmm;generalize hav:(aZ x.r.s x.r.q m.s).1=av at *;generalize hab:(aZ x.r.s x.r.q m.s).2=ab at *;have HAV:=ah hav;have HAB:=ah hab;clear hav hab;obtain ⟨W1,hW1⟩:∃ W1,W1=aX w x:=⟨_,rfl⟩;rw [← hW1] at HK1 HQ1 HV1 HL1 cA;unfold aX at hW1;unfold eh;have HSZ:=ah hsz;have HGl:=ah hl;have HEl:=ah he;have q0:=HQ1.out.cells.q0;clear h hk hsz hx hl he;go_enter Tryz.func42,Tryz.ntmps42;go_upto_region 1 with fail
 rw [← hW1];clear hW1;go_upto_region 8 with fail
 clear q0;have hb0:(x.r.k==(0:Int))=false:=by simpa using h0
 have hb1:(x.r.k==(1:Int))=false:=by simpa using h1
 simp only [hb0,hb1];clear hb0 hb1;go_cut [5,6] from 32 to 43 (fun s5 s6 wx=>DV w0 w W1 M D b p al sz m x s5 s6 wx)
 case first =>
  refine wp_region_held_drew (S:=Ah b w.heap.size p m.a x) (by kernel_rfl) ((HL1.out.kept (aa.refl [] _).drew).dq (HQ1.out.kept (aa.refl [] _).drew)) (fun hHeld=>?_);refine aU [0,1,2,3,4,5,6,7] (by rfl) (by kernel_rfl) (fun _ _ _ _ _ h=>h) hHeld ?_
  iterate 8
   refine yk ?_ rfl (Or.inl ⟨by rfl,?_⟩) ?_;rotate_left
   ·intro w9 hSw;obtain ⟨m0,m4,m5,q0,q1,q2,q3,q4,q5,q6,q7,q8,q9,q10,_⟩:=hSw;go_simp;(try with_reducible rfl)
   try simp only [sT,Act.put]
  refine aT ?_;simp only [au,sT];refine wpAnyH_ready (rs:=[8,12]) (by kernel_rfl) (by simp) (AllReadyH.cons rfl (fun K0 hK0=>?_) (AllReadyH.cons rfl (fun K0 hK0=>?_) AllReadyH.nil))
  ·go_simp;refine (cA _ (aa.refl [] _).drew).mono ?_;rintro _ w2 ⟨ao,n,c,rfl,HO2,HS2⟩;obtain ⟨F2,hL2,hF2,hs2,hu2⟩:=id HS2.out;have HQ2:=ah ((HQ1.out.kept (aa.refl [] _).drew).frd hF2);have HV2:=ah ((HV1.out.kept (aa.refl [] _).drew).frd hF2);have HL2:=ah hL2;have hz2:=hF2.size;(go_wp2_with fail);refine hK0.out _ _ (hL2.dq HQ2.out) (fun hHeld=>?_);clear hK0 K0;(try simp only [sT,Act.put]);refine aU [9,10,11] (by rfl) (by kernel_rfl) (fun _ _ _ _ _ h=>h) hHeld ?_
   iterate 3
    refine yk ?_ rfl (Or.inl ⟨by rfl,?_⟩) ?_;rotate_left
    ·intro w9 hSw;obtain ⟨m0,m4,m5,q0,q1,q2,q3,q4,q5,q6,q7,q8,q9,q10,_⟩:=hSw;go_simp;(try with_reducible rfl)
    try simp only [sT,Act.put]
   refine aT ?_;simp only [au,sT];refine aH 12 (by kernel_rfl) rfl (fun K0 hK0=>?_);go_simp;have hKa:=(aa.refl [] w2).alloc (.cells #[.int .i64 0,.int .i64 0,.int .i64 0,.string ⟨#[]⟩,.int .u64 0,.slice none 0 0,.int .i64 0] 39);have HVa:Hid (fg (w2.alloc (.cells #[.int .i64 0,.int .i64 0,.int .i64 0,.string ⟨#[]⟩,.int .u64 0,.slice none 0 0,.int .i64 0] 39)) w2.heap.size (cq 0) (.slice none 0 0)):=heap_alloc_new w2 _;refine hK0.out _ _ ((hL2.kept hKa).dq (HQ2.out.kept hKa)) (fun hHeld=>?_);clear hK0 K0;(try simp only [sT,Act.put]);refine aH 13 (by kernel_rfl) rfl (fun K0 hK0=>?_);refine aY av (.slice ao n c) ⟨_,_,_,rfl⟩ rfl rfl HVa.out fun w3 HV3 HK3=>?_;have hK3:=HK3.out;have hbx:w.heap.size+1 < w2.heap.size:=HV2.out.lt;have hL3:=(hL2.kept hKa).box HVa.out hK3 (by have:=HSZ.out;omega);have HQ3:=ah (hK3.at (HQ2.out.kept hKa) (by simp;omega));have HV3':=ah (hK3.at (HV2.out.kept hKa) (by simp;omega));refine hK0.out _ _ (hL3.dq HQ3.out) (fun hHeld=>?_);clear hK0 K0;(try simp only [sT,Act.put]);refine aU [14] (by rfl) (by kernel_rfl) (fun _ _ _ _ _ h=>h) hHeld ?_
   iterate 1
    refine yk ?_ rfl (Or.inl ⟨by rfl,?_⟩) ?_;rotate_left
    ·intro w9 hSw;obtain ⟨m0,m4,m5,q0,q1,q2,q3,q4,q5,q6,q7,q8,q9,q10,_⟩:=hSw;go_simp;(try with_reducible rfl)
    try simp only [sT,Act.put]
   refine aT ?_;simp only [au,sT];refine wpAnyH_done (by kernel_rfl) ?_ _;clear hHeld;(go_wp2_with fail);go_meet
   exact ⟨w2.heap.size,ao,n,c,rfl,by rw [HAB.out],by show _≤_;simpa using hz2,by rw [HAV.out];exact HV3,by rw [HAV.out];exact fp (HO2.out.kept hKa) HVa.out hK3,((HS2.out.lift (aa.refl [] W1).drew).more hKa).box HVa.out hz2 (Nat.le_trans HSZ.out HK1.out.size) hK3,HQ3,HV3'⟩
  ·go_simp;have hKa:=(aa.refl [] W1.drew).alloc (.cells #[.int .i64 0,.int .i64 0,.int .i64 0,.string ⟨#[]⟩,.int .u64 0,.slice none 0 0,.int .i64 0] 39);have HVa:Hid (fg (W1.drew.alloc (.cells #[.int .i64 0,.int .i64 0,.int .i64 0,.string ⟨#[]⟩,.int .u64 0,.slice none 0 0,.int .i64 0] 39)) W1.heap.size (cq 0) (.slice none 0 0)):=heap_alloc_new W1.drew _;have hK1a:aa [] W1 (W1.drew.alloc (.cells #[.int .i64 0,.int .i64 0,.int .i64 0,.string ⟨#[]⟩,.int .u64 0,.slice none 0 0,.int .i64 0] 39)):=(aa.refl [] W1).drew.alloc _;refine hK0.out _ _ ((HL1.out.kept hK1a).dq (HQ1.out.kept hK1a)) (fun hHeld=>?_);clear hK0 K0;(try simp only [sT,Act.put]);refine aH 8 (by kernel_rfl) rfl (fun K0 hK0=>?_);go_simp;refine (cA _ ((aa.refl [] _).alloc _).drew).mono ?_;rintro _ w2 ⟨ao,n,c,rfl,HO2,HS2⟩;obtain ⟨F2,hL2,hF2,hs2,hu2⟩:=id HS2.out;have hKw:aa [] W1 (W1.alloc (.cells #[.int .i64 0,.int .i64 0,.int .i64 0,.string ⟨#[]⟩,.int .u64 0,.slice none 0 0,.int .i64 0] 39)).drew:=((aa.refl [] W1).alloc _).drew;have HVc:Hid (fg (W1.alloc (.cells #[.int .i64 0,.int .i64 0,.int .i64 0,.string ⟨#[]⟩,.int .u64 0,.slice none 0 0,.int .i64 0] 39)) W1.heap.size (cq 0) (.slice none 0 0)):=heap_alloc_new W1 _;have HQ2:=ah ((HQ1.out.kept hKw).frd hF2);have HV2:=ah ((HV1.out.kept hKw).frd hF2);have HVb:=ah ((HVc.out.kept (aa.refl [] _).drew).frd hF2);(go_wp2_with fail);refine hK0.out _ _ (hL2.dq HQ2.out) (fun hHeld=>?_);clear hK0 K0;(try simp only [sT,Act.put]);refine aU [9,10,11] (by rfl) (by kernel_rfl) (fun _ _ _ _ _ h=>h) hHeld ?_
   iterate 3
    refine yk ?_ rfl (Or.inl ⟨by rfl,?_⟩) ?_;rotate_left
    ·intro w9 hSw;obtain ⟨m0,m4,m5,q0,q1,q2,q3,q4,q5,q6,q7,q8,q9,q10,_⟩:=hSw;go_simp;(try with_reducible rfl)
    try simp only [sT,Act.put]
   refine aT ?_;simp only [au,sT];refine aH 13 (by kernel_rfl) rfl (fun K0 hK0=>?_);refine aY av (.slice ao n c) ⟨_,_,_,rfl⟩ rfl rfl HVb.out fun w3 HV3 HK3=>?_;have hK3:=HK3.out;have hbx:w.heap.size+1 < W1.heap.size:=HV1.out.lt;have hL3:=hL2.box HVb.out hK3 (by have:=HSZ.out;omega);have HQ3:=ah (hK3.at HQ2.out (by simp;omega));have HV3':=ah (hK3.at HV2.out (by simp;omega));refine hK0.out _ _ (hL3.dq HQ3.out) (fun hHeld=>?_);clear hK0 K0;(try simp only [sT,Act.put]);refine aU [14] (by rfl) (by kernel_rfl) (fun _ _ _ _ _ h=>h) hHeld ?_
   iterate 1
    refine yk ?_ rfl (Or.inl ⟨by rfl,?_⟩) ?_;rotate_left
    ·intro w9 hSw;obtain ⟨m0,m4,m5,q0,q1,q2,q3,q4,q5,q6,q7,q8,q9,q10,_⟩:=hSw;go_simp;(try with_reducible rfl)
    try simp only [sT,Act.put]
   refine aT ?_;simp only [au,sT];refine wpAnyH_done (by kernel_rfl) ?_ _;clear hHeld;(go_wp2_with fail);go_meet
   exact ⟨W1.heap.size,ao,n,c,rfl,by rw [HAB.out],Nat.le_refl _,by rw [HAV.out];exact HV3,by rw [HAV.out];exact fp (HO2.out.mono hKw.size) HVb.out hK3,(HS2.out.lift hKw).box HVb.out (Nat.le_refl _) (Nat.le_trans HSZ.out HK1.out.size) hK3,HQ3,HV3'⟩
 case rest =>
  obtain ⟨Bk,ao,n,c,rfl,rfl,HBk,HVB,HOB,HSB,HQB,HZB⟩:=hcut;rw [HAV.out] at HVB HOB;rw [HAB.out];cases ab with
  | true =>
    have HVW:Hid (vv=av):=HVV.out;have HMW:Hid (mm=⟨m.a,m.g,ct x.r.s m.s,m.e⟩):=HMM.out;clear cA;obtain ⟨r0,r1,r2,r3,r4,r5,r6⟩:=HZB.out.cells;have fr0:=aj HZB.out 0;have fr1:=aj HZB.out 1;have fr2:=aj HZB.out 2;have fr3:=aj HZB.out 3;have fr4:=aj HZB.out 4;have fr5:=aj HZB.out 5;have fr6:=aj HZB.out 6;obtain ⟨s0,s1,s2,s3,s4,s5,s6⟩:=HVB.out.cells;(go_wp2_with fail);refine bodyPost_ret (bj (by rfl) _ (by rfl) (aD HZB.out rfl _ _ _ _ _ _ _) rfl) rfl ?_;rw [HVW.out,HMW.out];exact bH HSZ.out HK1.out HSB.out HOB.out HZB.out (az (aa.refl _ _) (by simp) _ _ _ _ _ _ _)
  | false =>
    have HVW:Hid (vv=jI al m x.r):=HVV.out;have HMW:Hid (mm=⟨m.a,doG m x.r,bZ x.r.s x.r.q (jI al m x.r) (ct x.r.s m.s),nV al m x.r⟩):=HMM.out;obtain ⟨F2,hL2,hF2,hs2,_⟩:=HSB.out;have HL2:=ah hL2;have HF2:=ah hF2;have HS2:=ah hs2;have cW:=A2 hL2 HGl.out HEl.out x (HX0.out.kept hL2.keeps);rw [show jI al ⟨m.a,m.g,ct x.r.s m.s,m.e⟩ x.r=jI al m x.r from rfl,show doG ⟨m.a,m.g,ct x.r.s m.s,m.e⟩ x.r=doG m x.r from rfl,show nV al ⟨m.a,m.g,ct x.r.s m.s,m.e⟩ x.r=nV al m x.r from rfl] at cW;generalize jI al m x.r=dv at *;clear hL2 hF2 hs2 cA;obtain ⟨q0,q1,q2,q3,q4,q5,q6,q7,q8,q9,q10⟩:=HQB.out.cells;unfold eh at cW;(go_wp2_with fail);refine cW.mono ?_;rintro _ w2 ⟨ao2,n2,c2,rfl,hO2,hS2⟩;have HO2:=ah hO2;have HT2:=ah (dK.trans HF2.out HS2.out hS2);obtain ⟨F3,hL3,hF3,hs3,hu3⟩:=hS2;have HQ2:=ah (HQB.out.frd hF3);have HZ2:=ah (HZB.out.frd hF3);have HV2:=ah (HVB.out.frd hF3);have HWd:=ah (HF2.out.size);unfold gA;clear hO2 hL3 hF3 hs3 hu3 q0 q1 q2 q3 q4 q5 q6 q7 q8 q9 q10 cW;obtain ⟨r0,r1,r2,r3,r4,r5,r6⟩:=HV2.out.cells;have fr0:=aj HV2.out 0;have fr1:=aj HV2.out 1;have fr2:=aj HV2.out 2;have fr3:=aj HV2.out 3;have fr4:=aj HV2.out 4;have fr5:=aj HV2.out 5;have fr6:=aj HV2.out 6;go_upto_region 11 with fail
    obtain ⟨w3,hw3⟩:∃ w3,w3=((((((w2.setCell ⟨Bk,0,none⟩ (.int .i64 dv.c)).setCell ⟨Bk,1,none⟩ (.int .i64 dv.s)).setCell ⟨Bk,2,none⟩ (.int .i64 dv.r)).setCell ⟨Bk,3,none⟩ (.string (ak dv.p))).setCell ⟨Bk,4,none⟩ (.int .u64 dv.d)).setCell ⟨Bk,5,none⟩ (.slice ao2 n2 c2)).setCell ⟨Bk,6,none⟩ (.int .i64 dv.m):=⟨_,rfl⟩;rw [← hw3];have HVw:Hid (fg w3 Bk dv (.slice ao2 n2 c2)):=by rw [hw3];exact aD HV2.out rfl _ _ _ _ _ _ _
    have hK3:aa [Bk] w2 w3:=by rw [hw3];exact az (aa.refl _ _) (by simp) _ _ _ _ _ _ _
    clear hw3 r0 r1 r2 r3 r4 r5 r6 fr0 fr1 fr2 fr3 fr4 fr5 fr6;have hbk:=HBk.out;have hbx:w.heap.size+1 < W1.heap.size:=HV1.out.lt;have HQw:Hid (nY w3 w.heap.size x):=hK3.at HQ2.out (by simp;omega);have HZw:Hid (fg w3 (w.heap.size+1) (cq 0) (.slice none 0 0)):=hK3.at HZ2.out (by simp;omega);have HOw:=ah (fp (HO2.out.mono HWd.out) HV2.out hK3);obtain ⟨F3,hL3,hF3,hs3,hu3⟩:=HT2.out.box HV2.out hbk (Nat.le_trans HSZ.out HK1.out.size) hK3;have cD:=fun W (hk:aa [] w3 W)=>De (hL3.kept hk) x.r.s x.r.q dv (.slice ao2 n2 c2) ((HOw.out.kept hk).mono (Nat.zero_le _)) HOk.out;unfold gA at cD;have HL3:=ah hL3;have HF3:=ah hF3;have HS3:=ah hs3;have HU3:=ah hu3;clear hL3 hF3 hs3 hu3 hK3 hbk hbx;refine wp_region_held_drew (S:=fun w'=>Ah b w.heap.size p m.a x w'∧w'.rangeAt Bk 0 (py dv (.slice ao2 n2 c2))) (by kernel_rfl) ⟨(HL3.out.kept (aa.refl [] _).drew).dq (HQw.out.kept (aa.refl [] _).drew),ja (HVw.out.kept (aa.refl [] _).drew)⟩ (fun hHeld=>?_);refine aU [0,1,2,3,4,5,6,7] (by rfl) (by kernel_rfl) (fun _ _ _ _ _ h=>h) hHeld ?_
    iterate 8
     refine yk ?_ rfl (Or.inl ⟨by rfl,?_⟩) ?_;rotate_left
     ·intro w9 hSw;obtain ⟨hq,_⟩:=hSw;obtain ⟨m0,m4,m5,q0,q1,q2,q3,q4,q5,q6,q7,q8,q9,q10,_⟩:=hq;go_simp;(try with_reducible rfl)
     try simp only [sT,Act.put]
    refine aT ?_;simp only [au,sT];refine wpAnyH_take (i:=8) (v:=gA dv (.slice ao2 n2 c2)) rfl (by kernel_rfl) (by kernel_rfl) (by kernel_rfl) (fun _ _ _ h=>h) (yieldsIf_load_mid (by rfl) _ _ rfl Bk 0 rfl (py dv (.slice ao2 n2 c2)) _ (fun w9 hSw=>hSw.2) Tryz.underlying39 rfl kj) hHeld ?_;(try simp only [sT,Act.put]);refine aH 9 (by kernel_rfl) rfl (fun K0 hK0=>?_);go_simp;refine (cD _ (aa.refl [] _).drew).mono ?_;rintro _ w5 ⟨rfl,HT5,HK5⟩;obtain ⟨F5,hL5,hF5,hs5⟩:=id HT5.out;have HQ5:=ah ((HQw.out.kept (aa.refl [] _).drew).frd hF5);have HV5:=ah ((HVw.out.kept (aa.refl [] _).drew).frd hF5);have HZ5:=ah ((HZw.out.kept (aa.refl [] _).drew).frd hF5);(go_wp2_with fail);refine hK0.out _ _ ⟨hL5.dq HQ5.out,ja HV5.out⟩ (fun hHeld=>?_);clear hK0 K0;(try simp only [sT,Act.put]);refine wpAnyH_done (by kernel_rfl) ?_ _;clear hHeld hL5 hF5 hs5 cD;obtain ⟨r0,r1,r2,r3,r4,r5,r6⟩:=HZ5.out.cells;have fr0:=aj HZ5.out 0;have fr1:=aj HZ5.out 1;have fr2:=aj HZ5.out 2;have fr3:=aj HZ5.out 3;have fr4:=aj HZ5.out 4;have fr5:=aj HZ5.out 5;have fr6:=aj HZ5.out 6;obtain ⟨s0,s1,s2,s3,s4,s5,s6⟩:=HV5.out.cells;(go_wp2_with fail);refine bodyPost_ret (bj (by rfl) _ (by rfl) (aD HZ5.out rfl _ _ _ _ _ _ _) rfl) rfl ?_;rw [HVW.out,HMW.out];refine bH HSZ.out HK1.out ?_ (HK5.out _ _ _ (HOw.out.kept (aa.refl [] _).drew)) HZ5.out (az (aa.refl _ _) (by simp) _ _ _ _ _ _ _);exact sQ HF3.out HS3.out (fun j hj=>⟨HU3.out j hj,aq (il HOw.out hj).2.choose_spec⟩) (cj.lift (aa.refl [] _).drew HT5.out)
end Go.Proofs.YtgpnlidnbldiiaaGreat
