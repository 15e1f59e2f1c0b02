/-
  What a machine's requests do: those whose regions draw their order.
-/
import Derived.Test.YtgpnlidnbldiiaaGreatQ2r
import Derived.Test.YtgpnlidnbldiiaaGreatQ18r
set_option maxHeartbeats 8000000
set_option maxRecDepth 100000
set_option linter.unusedSimpArgs false
namespace Go.Proofs.YtgpnlidnbldiiaaGreat
open Go.RowKit
variable {w0 w : World} {F D : List Nat} {b : Nat} {p : Pl} {al : Int} {sz : Nat} {m : Ma}
theorem ay.size {w0 w:World}{F D:List Nat}{b:Nat}{p:Pl}{al:Int}{sz:Nat}{m:Ma}(h:ay w0 w F D b p al sz m):w0.heap.size≤w.heap.size:=h.keeps.size
def Cx (w0 w:World) (F D:List Nat) (b:Nat) (p:Pl) (al:Int) (sz:Nat) (v:Vt) (m:Ma) (e:Ending) (w':World):Prop :=
 ∃ ao n c,e=.returned (.agg #[.int .i64 v.c,.int .i64 v.s,.int .i64 v.r,.string (ak v.p),.int .u64 v.d,.slice ao n c,.int .i64 v.m])∧Hid (cw w.heap.size w' (.slice ao n c) v.k)∧Hid (dI w0 w F D b p al sz m (.slice ao n c) w')
theorem Dy (h:ay w0 w F D b p al sz m) (q:List UInt8) (hq:q.length≤1000000000):Calls Tryz.prog 116 #[.pointer (some ⟨p.g,0,none⟩),.string (ak q)] w fun e w'=>Cx w0 w F D b p al sz (pW (bK m.g q)) m e w':=by
 obtain ⟨S,vt,X,h1,_⟩:=id h;obtain ⟨v,pp,t,mb,K,hG,_⟩:=h1.g;exact (xO hG q hq).mono fun e w' ⟨he,hk⟩=>⟨none,0,0,he,cw.nil _ _,(db.same h hk).u0⟩
theorem D3 (h:ay w0 w F D b p al sz m) (hl:m.g.cs.length≤10000) (f n:Int) (hf:f < 2 ^ 63) (hn:n < 2 ^ 63):Calls Tryz.prog 117 #[.pointer (some ⟨p.g,0,none⟩),.int .i64 f,.int .i64 n] w fun e w'=>Cx w0 w F D b p al sz (if f < 1∨n < 1 then cq 5 else ⟨11,0,0,[],0,gk m.g.cs f n,0⟩) m e w':=by
 obtain ⟨S,vt,X,h1,_⟩:=id h;obtain ⟨v,pp,t,mb,K,hG,_⟩:=h1.g;by_cases hb:f < 1∨n < 1
 ·rw [if_pos hb];exact (Ak hG f n hb).mono fun e w' ⟨he,hk⟩=>⟨none,0,0,he,cw.nil _ _,(db.same h hk).u0⟩
 ·rw [if_neg hb];refine (Cl hG h.w.g.wf hl f n (by omega) (by omega) hf hn).mono fun e w' ⟨v',K',he,h2,h3,h4,hk⟩=>?_;have ho:cw w.heap.size w' v' (gk m.g.cs f n):=⟨K',h3,h4,h2⟩;obtain ⟨ao,n2,c,rfl⟩:=ho.ko.one;exact ⟨ao,n2,c,he,ho,dI.same h hk ho⟩
theorem Ds (h:ay w0 w F D b p al sz m) (hl:m.g.cs.length≤10000) (x:Rm) (hx:dE w x):Calls Tryz.prog 137 #[.pointer (some ⟨p.g,0,none⟩),.int .i64 x.r.b,.string (ak x.r.f),.slice x.mo x.m x.mc] w fun e w'=>Cx w0 w F D b p al sz (pW (bi m.g x.r.b x.r.f x.r.c)) ⟨m.a,bB m.g x.r.b x.r.f x.r.c,m.s,m.e⟩ e w':=by
 obtain ⟨S,vt,X,h1,rfl,h3,h4,h5,h6⟩:=h;obtain ⟨⟨hs,hn,_⟩,hm⟩:=hx;have hl4:=hm.2.2.2.1;exact (nM h1.g h6.g.wf hl x.r.b x.r.f (by have:=hm.2.1;omega) x.mo x.m x.mc x.r.c hs hn (by have:=hs.1;omega) (fun y hy=>by have:=hm.2.2.2.2 y hy;omega)).mono fun e w' ⟨he,hL⟩=>⟨none,0,0,he,cw.nil _ _,(Df h1 h3 h4 h5 h6 hL (.land _ _ _ h6.g)).u0⟩
theorem Dc (h:ay w0 w F D b p al sz m) (n:List UInt8) (hn:n.length≤300) (id:Int):Calls Tryz.prog 122 #[.pointer (some ⟨p.t,0,none⟩),.string (ak n),.int .i64 id] w fun e w'=>e=.returned (.int .i64 (eF n id m.s))∧Hid (db w0 w F D b p al sz ⟨m.a,m.g,cd sz n id m.s,m.e⟩ w'):=by
 obtain ⟨S,vt,X,h1,rfl,h3,h4,h5,h6⟩:=h;have hz:=h6.z1;exact (wb h1.t h6.sl (by omega) n (by omega) id).mono fun e w' ⟨he,hL⟩=>⟨he,BV h1 h3 h4 h5 h6 hL (gY h6.sl h1.t.pos) (rm h6.so (by omega))⟩
theorem Aw (h:ay w0 w F D b p al sz m) (hl:m.e.length≤1000) (q:Int) (add:Bool):Calls Tryz.prog 184 #[.pointer (some ⟨p.e,0,none⟩),.int .i64 m.a,.int .i64 q,.bool add] w fun e w'=>e=.returned (.int .i64 (fW al m.e m.a q add))∧Hid (db w0 w F D b p al sz ⟨m.a,m.g,m.s,jn al m.e m.a q add⟩ w'):=by
 have hsz:=h.keeps.size;obtain ⟨S,vt,X,h1,rfl,h3,h4,h5,h6⟩:=h;exact (pR _ w p.e al m.e h1.e h6.e h6.l0 h6.l1 (by omega) hsz m.a q add).mono fun e w' ⟨he,hE,hT⟩=>⟨he,BW h1 h3 h4 h5 h6 hE hT (tP ⟨h6.l0,h6.l1⟩ h6.e _ _ _)⟩
theorem tf (h:ay w0 w F D b p al sz m) (x:Rm) (hx:dE w x):Calls Tryz.prog 75 #[.pointer (some ⟨b,0,none⟩),eh x] w fun e w'=>fF w0 w F D b p al sz (pW (bK m.g x.r.p)) m e w':=by
 have hsz:=h.size;have hk:=ax w x;have HK1:=ah hk;have HQ1:=ah (aF w x).1;have HV1:=ah (aF w x).2;have HL1:=ah (h.kept hk);have cC:=fun W (hk:aa [] (aX w x) W)=>Dy ((h.kept (ax w x)).kept hk) x.r.p (by have:=hx.2.2.2.1;omega);obtain ⟨vv,hvv⟩:∃ vv:Vt,vv=pW (bK m.g x.r.p):=⟨_,rfl⟩;rw [← hvv] at cC ⊢;clear hvv;obtain ⟨W1,hW1⟩:∃ W1,W1=aX w x:=⟨_,rfl⟩;rw [← hW1] at HK1 HQ1 HV1 HL1 cC;unfold aX at hW1;unfold eh;have HSZ:=ah hsz;clear h hk hsz hx;go_enter Tryz.func75,Tryz.ntmps75;go_upto_region 1 with fail
 rw [← hW1];clear hW1;refine wp_region_held_drew (S:=ui b w.heap.size p al sz m.a x) (by kernel_rfl) ((HL1.out.kept (aa.refl [] _).drew).mq (HQ1.out.kept (aa.refl [] _).drew)) (fun hHeld=>?_);refine aU [0,1,2,3,4,5] (by rfl) (by kernel_rfl) (fun _ _ _ _ _ h=>h) hHeld ?_
 iterate 6
  refine yk ?_ rfl (Or.inl ⟨by rfl,?_⟩) ?_;rotate_left
  ·intro w9 hSw;obtain ⟨m0,m1,m2,m3,m4,m5,q0,q1,q2,q3,q4,q5,q6,q7,q8,q9,q10,_⟩:=hSw;go_simp;(try with_reducible rfl)
  try simp only [sT,Act.put]
 refine aT ?_;simp only [au,sT];refine aH 6 (by kernel_rfl) rfl (fun K0 hK0=>?_);go_simp;refine (cC _ (aa.refl [] _).drew).mono ?_;rintro _ w2 ⟨ao,n,c,rfl,HO2,HS2⟩;obtain ⟨F2,hL2,hF2,hs2,_⟩:=id HS2.out;have HQ2:=ah ((HQ1.out.kept (aa.refl [] _).drew).fr hF2);have HV2:=ah ((HV1.out.kept (aa.refl [] _).drew).fr hF2);have hS2:=hL2.mq HQ2.out;have hSt:∀ w3,Hid (fg w3 (w.heap.size+1) (vv) (.slice ao n c))→Hid (aa [w.heap.size+1] w2 w3)→ui b w.heap.size p al sz m.a x w3:=fun w3 _ k3=>(hL2.box HV2.out k3.out (by have:=HSZ.out;omega)).mq (k3.out.at HQ2.out (by simp));clear hL2 hF2 hs2;go_wp2_with fail
 refine hK0.out _ _ hS2 (fun hHeld=>?_);clear hK0 K0;try simp only [sT,Act.put]
 refine aH 7 (by kernel_rfl) rfl (fun K0 hK0=>?_);refine aY (vv) (.slice ao n c) ⟨_,_,_,rfl⟩ rfl rfl HV2.out fun w3 HV3 HK3=>?_;refine hK0.out _ _ (hSt w3 HV3 HK3) (fun hHeld=>?_);clear hK0 K0;try simp only [sT,Act.put]
 refine wpAnyH_done (by kernel_rfl) ?_ _;clear hHeld;go_wp2_with fail
 refine bodyPost_ret (bj (by rfl) _ (by rfl) HV3.out rfl) rfl ?_;exact du HSZ.out (HK1.out.trans (aa.refl [] W1).drew (by simp)) HS2.out HO2.out HV2.out HK3.out
theorem xP (h:ay w0 w F D b p al sz m) (hl:m.g.cs.length≤10000) (x:Rm) (hx:dE w x):Calls Tryz.prog 76 #[.pointer (some ⟨b,0,none⟩),eh x] w fun e w'=>fF w0 w F D b p al sz (if x.r.fr < 1∨x.r.mn < 1 then cq 5 else ⟨11,0,0,[],0,gk m.g.cs x.r.fr x.r.mn,0⟩) m e w':=by
 have hsz:=h.size;have hk:=ax w x;have HK1:=ah hk;have HQ1:=ah (aF w x).1;have HV1:=ah (aF w x).2;have HL1:=ah (h.kept hk);have cC:=fun W (hk:aa [] (aX w x) W)=>D3 ((h.kept (ax w x)).kept hk) hl x.r.fr x.r.mn (by have:=hx.1.2.2.2.1;omega) (by have:=hx.1.2.2.2.2;omega);obtain ⟨vv,hvv⟩:∃ vv:Vt,vv=if x.r.fr < 1∨x.r.mn < 1 then cq 5 else ⟨11,0,0,[],0,gk m.g.cs x.r.fr x.r.mn,0⟩:=⟨_,rfl⟩
 rw [← hvv] at cC ⊢;clear hvv;obtain ⟨W1,hW1⟩:∃ W1,W1=aX w x:=⟨_,rfl⟩;rw [← hW1] at HK1 HQ1 HV1 HL1 cC;unfold aX at hW1;unfold eh;have HSZ:=ah hsz;clear h hk hsz hx hl;go_enter Tryz.func76,Tryz.ntmps76;go_upto_region 1 with fail
 rw [← hW1];clear hW1;refine wp_region_held_drew (S:=ui b w.heap.size p al sz m.a x) (by kernel_rfl) ((HL1.out.kept (aa.refl [] _).drew).mq (HQ1.out.kept (aa.refl [] _).drew)) (fun hHeld=>?_);refine aU [0,1,2,3,4,5,6,7] (by rfl) (by kernel_rfl) (fun _ _ _ _ _ h=>h) hHeld ?_
 iterate 8
  refine yk ?_ rfl (Or.inl ⟨by rfl,?_⟩) ?_;rotate_left
  ·intro w9 hSw;obtain ⟨m0,m1,m2,m3,m4,m5,q0,q1,q2,q3,q4,q5,q6,q7,q8,q9,q10,_⟩:=hSw;go_simp;(try with_reducible rfl)
  try simp only [sT,Act.put]
 refine aT ?_;simp only [au,sT];refine aH 8 (by kernel_rfl) rfl (fun K0 hK0=>?_);go_simp;refine (cC _ (aa.refl [] _).drew).mono ?_;rintro _ w2 ⟨ao,n,c,rfl,HO2,HS2⟩;obtain ⟨F2,hL2,hF2,hs2,_⟩:=id HS2.out;have HQ2:=ah ((HQ1.out.kept (aa.refl [] _).drew).fr hF2);have HV2:=ah ((HV1.out.kept (aa.refl [] _).drew).fr hF2);have hS2:=hL2.mq HQ2.out;have hSt:∀ w3,Hid (fg w3 (w.heap.size+1) (vv) (.slice ao n c))→Hid (aa [w.heap.size+1] w2 w3)→ui b w.heap.size p al sz m.a x w3:=fun w3 _ k3=>(hL2.box HV2.out k3.out (by have:=HSZ.out;omega)).mq (k3.out.at HQ2.out (by simp));clear hL2 hF2 hs2;go_wp2_with fail
 refine hK0.out _ _ hS2 (fun hHeld=>?_);clear hK0 K0;try simp only [sT,Act.put]
 refine aH 9 (by kernel_rfl) rfl (fun K0 hK0=>?_);refine aY (vv) (.slice ao n c) ⟨_,_,_,rfl⟩ rfl rfl HV2.out fun w3 HV3 HK3=>?_;refine hK0.out _ _ (hSt w3 HV3 HK3) (fun hHeld=>?_);clear hK0 K0;try simp only [sT,Act.put]
 refine wpAnyH_done (by kernel_rfl) ?_ _;clear hHeld;go_wp2_with fail
 refine bodyPost_ret (bj (by rfl) _ (by rfl) HV3.out rfl) rfl ?_;exact du HSZ.out (HK1.out.trans (aa.refl [] W1).drew (by simp)) HS2.out HO2.out HV2.out HK3.out
theorem tL (h:ay w0 w F D b p al sz m) (hl:m.g.cs.length≤10000) (x:Rm) (hx:dE w x):Calls Tryz.prog 154 #[.pointer (some ⟨b,0,none⟩),eh x] w fun e w'=>fF w0 w F D b p al sz (pW (bi m.g x.r.b x.r.f x.r.c)) ⟨m.a,bB m.g x.r.b x.r.f x.r.c,m.s,m.e⟩ e w':=by
 have hsz:=h.size;have hk:=ax w x;have HK1:=ah hk;have HQ1:=ah (aF w x).1;have HV1:=ah (aF w x).2;have HL1:=ah (h.kept hk);have cC:=fun W (hk:aa [] (aX w x) W)=>Ds ((h.kept (ax w x)).kept hk) hl x ((hx.kept (ax w x)).kept hk);obtain ⟨vv,hvv⟩:∃ vv:Vt,vv=pW (bi m.g x.r.b x.r.f x.r.c):=⟨_,rfl⟩;rw [← hvv] at cC ⊢;clear hvv;obtain ⟨W1,hW1⟩:∃ W1,W1=aX w x:=⟨_,rfl⟩;rw [← hW1] at HK1 HQ1 HV1 HL1 cC;unfold aX at hW1;unfold eh;have HSZ:=ah hsz;clear h hk hsz hx hl;go_enter Tryz.func154,Tryz.ntmps154;go_upto_region 1 with fail
 rw [← hW1];clear hW1;refine wp_region_held_drew (S:=ui b w.heap.size p al sz m.a x) (by kernel_rfl) ((HL1.out.kept (aa.refl [] _).drew).mq (HQ1.out.kept (aa.refl [] _).drew)) (fun hHeld=>?_);refine aU [0,1,2,3,4,5,6,7,8,9] (by rfl) (by kernel_rfl) (fun _ _ _ _ _ h=>h) hHeld ?_
 iterate 10
  refine yk ?_ rfl (Or.inl ⟨by rfl,?_⟩) ?_;rotate_left
  ·intro w9 hSw;obtain ⟨m0,m1,m2,m3,m4,m5,q0,q1,q2,q3,q4,q5,q6,q7,q8,q9,q10,_⟩:=hSw;go_simp;(try with_reducible rfl)
  try simp only [sT,Act.put]
 refine aT ?_;simp only [au,sT];refine aH 10 (by kernel_rfl) rfl (fun K0 hK0=>?_);go_simp;refine (cC _ (aa.refl [] _).drew).mono ?_;rintro _ w2 ⟨ao,n,c,rfl,HO2,HS2⟩;obtain ⟨F2,hL2,hF2,hs2,_⟩:=id HS2.out;have HQ2:=ah ((HQ1.out.kept (aa.refl [] _).drew).fr hF2);have HV2:=ah ((HV1.out.kept (aa.refl [] _).drew).fr hF2);have hS2:=hL2.mq HQ2.out;have hSt:∀ w3,Hid (fg w3 (w.heap.size+1) (vv) (.slice ao n c))→Hid (aa [w.heap.size+1] w2 w3)→ui b w.heap.size p al sz m.a x w3:=fun w3 _ k3=>(hL2.box HV2.out k3.out (by have:=HSZ.out;omega)).mq (k3.out.at HQ2.out (by simp));clear hL2 hF2 hs2;go_wp2_with fail
 refine hK0.out _ _ hS2 (fun hHeld=>?_);clear hK0 K0;try simp only [sT,Act.put]
 refine aH 11 (by kernel_rfl) rfl (fun K0 hK0=>?_);refine aY (vv) (.slice ao n c) ⟨_,_,_,rfl⟩ rfl rfl HV2.out fun w3 HV3 HK3=>?_;refine hK0.out _ _ (hSt w3 HV3 HK3) (fun hHeld=>?_);clear hK0 K0;try simp only [sT,Act.put]
 refine wpAnyH_done (by kernel_rfl) ?_ _;clear hHeld;go_wp2_with fail
 refine bodyPost_ret (bj (by rfl) _ (by rfl) HV3.out rfl) rfl ?_;exact du HSZ.out (HK1.out.trans (aa.refl [] W1).drew (by simp)) HS2.out HO2.out HV2.out HK3.out
theorem uc (h:ay w0 w F D b p al sz m) (ha:m.a < 1099511627776) (x:Rm) (hx:dE w x):Calls Tryz.prog 82 #[.pointer (some ⟨b,0,none⟩),eh x] w fun e w'=>fF w0 w F D b p al sz (if bu false x.r.n=true then ⟨1,eF x.r.n (m.a+1) m.s,0,[],0,[],0⟩ else cq 5) ⟨m.a,m.g,if bu false x.r.n=true then cd sz x.r.n (m.a+1) m.s else m.s,m.e⟩ e w':=by
 have hsz:=h.size;have hk:=ax w x;have HK1:=ah hk;have HQ1:=ah (aF w x).1;have HV1:=ah (aF w x).2;have HL1:=ah (h.kept hk);have hwr:IntKind.i64.wrap (m.a+1)=m.a+1:=IntWalk.i64_in _ (by have:=h.w.a0;omega);have cC:=fun W (hk:aa [] (aX w x) W)=>Dc ((h.kept (ax w x)).kept hk) x.r.n hx.2.1 (m.a+1);have cN:=oR x.r.n (aX w x) (by have:=hx.2.1;omega);have c1:=HQ1.out.cells.q1;obtain ⟨W1,hW1⟩:∃ W1,W1=aX w x:=⟨_,rfl⟩;rw [← hW1] at HK1 HQ1 HV1 HL1 cC cN c1;unfold aX at hW1;unfold eh;have HSZ:=ah hsz;clear h hk hsz hx ha;cases hw:bu false x.r.n with
 | false =>
  rw [hw] at cN;go_enter Tryz.func82,Tryz.ntmps82;go_upto_region 1 with fail
  rw [← hW1];clear hW1;(go_wp2_with fail);refine cN.mono ?_;rintro _ _ ⟨rfl,rfl⟩;have r0:=ag (k:=0) HV1.out rfl;have fr0:=aj HV1.out 0;have r1:=ag (k:=1) HV1.out rfl;have fr1:=aj HV1.out 1;have r2:=ag (k:=2) HV1.out rfl;have fr2:=aj HV1.out 2;have r3:=ag (k:=3) HV1.out rfl;have fr3:=aj HV1.out 3;have r4:=ag (k:=4) HV1.out rfl;have fr4:=aj HV1.out 4;have r5:=ag (k:=5) HV1.out rfl;have fr5:=aj HV1.out 5;have r6:=ag (k:=6) HV1.out rfl;have fr6:=aj HV1.out 6;(go_wp2_with fail);refine bodyPost_ret (bj (by rfl) _ (by rfl) (aD HV1.out rfl _ _ _ _ _ _ _) rfl) rfl ?_;exact du HSZ.out HK1.out (db.same HL1.out (aa.refl _ _)).u0 (cw.nil _ _) HV1.out (az (aa.refl _ _) (by simp) _ _ _ _ _ _ _)
 | true =>
  rw [hw] at cN;rw [if_pos rfl,if_pos rfl];go_enter Tryz.func82,Tryz.ntmps82;go_upto_region 1 with fail
  rw [← hW1];clear hW1;go_upto_region 3 with (go_at_call 121;refine cN.mono ?_;rintro _ _ ⟨rfl,rfl⟩)
  refine wp_region_held_drew (S:=ui b w.heap.size p al sz m.a x) (by kernel_rfl) ((HL1.out.kept (aa.refl [] _).drew).mq (HQ1.out.kept (aa.refl [] _).drew)) (fun hHeld=>?_);refine aU [0,1,2,3,4,5,6,7,8,9,10] (by rfl) (by kernel_rfl) (fun _ _ _ _ _ h=>h) hHeld ?_
  iterate 11
   refine yk ?_ rfl (Or.inl ⟨by rfl,?_⟩) ?_;rotate_left
   ·intro w9 hSw;obtain ⟨m0,m1,m2,m3,m4,m5,q0,q1,q2,q3,q4,q5,q6,q7,q8,q9,q10,_⟩:=hSw;go_simp;(try with_reducible rfl)
   try simp only [sT,Act.put]
  refine aT ?_;simp only [au,sT];refine aH 11 (by kernel_rfl) rfl (fun K0 hK0=>?_);go_simp;refine (cC _ (aa.refl [] _).drew).mono ?_;rintro _ w2 ⟨rfl,HS2⟩;obtain ⟨F2,hL2,hF2,hs2⟩:=id HS2.out;have HQ2:=ah ((HQ1.out.kept (aa.refl [] _).drew).fr hF2);have HV2:=ah ((HV1.out.kept (aa.refl [] _).drew).fr hF2);have hS2:=hL2.mq HQ2.out;have hSt:∀ w3,Hid (fg w3 (w.heap.size+1) ⟨1,eF x.r.n (m.a+1) m.s,0,[],0,[],0⟩ (.slice none 0 0))→Hid (aa [w.heap.size+1] w2 w3)→ui b w.heap.size p al sz m.a x w3:=fun w3 _ k3=>(hL2.box HV2.out k3.out (by have:=HSZ.out;omega)).mq (k3.out.at HQ2.out (by simp));clear hL2 hF2 hs2;(go_wp2_with fail);refine hK0.out _ _ hS2 (fun hHeld=>?_);clear hK0 K0;(try simp only [sT,Act.put]);refine aU [12] (by rfl) (by kernel_rfl) (fun _ _ _ _ _ h=>h) hHeld ?_
  iterate 1
   refine yk ?_ rfl (Or.inl ⟨by rfl,?_⟩) ?_;rotate_left
   ·intro w9 hSw;obtain ⟨m0,m1,m2,m3,m4,m5,q0,q1,q2,q3,q4,q5,q6,q7,q8,q9,q10,_⟩:=hSw;go_simp;(try with_reducible rfl)
   try simp only [sT,Act.put]
  refine aT ?_;simp only [au,sT];refine aH 13 (by kernel_rfl) rfl (fun K0 hK0=>?_);refine aY ⟨1,eF x.r.n (m.a+1) m.s,0,[],0,[],0⟩ (.slice none 0 0) ⟨_,_,_,rfl⟩ rfl rfl HV2.out fun w3 HV3 HK3=>?_;refine hK0.out _ _ (hSt w3 HV3 HK3) (fun hHeld=>?_);clear hK0 K0;(try simp only [sT,Act.put]);refine wpAnyH_done (by kernel_rfl) ?_ _;clear hHeld;(go_wp2_with fail);refine bodyPost_ret (bj (by rfl) _ (by rfl) HV3.out rfl) rfl ?_;exact du HSZ.out (HK1.out.trans (aa.refl [] _).drew (by simp)) HS2.out.u0 (cw.nil _ _) HV2.out HK3.out
theorem ke (h:ay w0 w F D b p al sz m) (hl:m.e.length≤1000) (x:Rm) (add:Bool) (dn:Int):Calls Tryz.prog 173 #[.pointer (some ⟨b,0,none⟩),eh x,.bool add,.int .i64 dn] w fun e w'=>fF w0 w F D b p al sz (if fW al m.e m.a x.r.mb add=0 then ⟨dn,0,0,[],0,[],x.r.mb⟩ else ⟨14,0,0,[],0,[],x.r.mb⟩) ⟨m.a,m.g,m.s,jn al m.e m.a x.r.mb add⟩ e w':=by
 have hsz:=h.size;have hk:=ax w x;have HK1:=ah hk;have HQ1:=ah (aF w x).1;have HV1:=ah (aF w x).2;have HL1:=ah (h.kept hk);have cC:=fun W (hk:aa [] (aX w x) W)=>Aw ((h.kept (ax w x)).kept hk) hl x.r.mb add;obtain ⟨vv,hvv⟩:∃ vv:Vt,vv=if fW al m.e m.a x.r.mb add=0 then ⟨dn,0,0,[],0,[],x.r.mb⟩ else ⟨14,0,0,[],0,[],x.r.mb⟩:=⟨_,rfl⟩
 rw [← hvv];have HVV:=ah hvv;clear hvv;obtain ⟨W1,hW1⟩:∃ W1,W1=aX w x:=⟨_,rfl⟩;rw [← hW1] at HK1 HQ1 HV1 HL1 cC;unfold aX at hW1;unfold eh;have HSZ:=ah hsz;clear h hk hsz hl;go_enter Tryz.func173,Tryz.ntmps173;go_upto_region 1 with fail
 rw [← hW1];clear hW1;refine wp_region_held_drew (S:=ui b w.heap.size p al sz m.a x) (by kernel_rfl) ((HL1.out.kept (aa.refl [] _).drew).mq (HQ1.out.kept (aa.refl [] _).drew)) (fun hHeld=>?_);refine aU [0,1,2,3,4,5,6,7,8,9,10] (by rfl) (by kernel_rfl) (fun _ _ _ _ _ h=>h) hHeld ?_
 iterate 11
  refine yk ?_ rfl (Or.inl ⟨by rfl,?_⟩) ?_;rotate_left
  ·intro w9 hSw;obtain ⟨m0,m1,m2,m3,m4,m5,q0,q1,q2,q3,q4,q5,q6,q7,q8,q9,q10,_⟩:=hSw;go_simp;(try with_reducible rfl)
  try simp only [sT,Act.put]
 refine aT ?_;simp only [au,sT];refine aH 11 (by kernel_rfl) rfl (fun K0 hK0=>?_);go_simp;refine (cC _ (aa.refl [] _).drew).mono ?_;rintro _ w2 ⟨rfl,HS2⟩;obtain ⟨F2,hL2,hF2,hs2⟩:=id HS2.out;have HQ2:=ah ((HQ1.out.kept (aa.refl [] _).drew).fr hF2);have HV2:=ah ((HV1.out.kept (aa.refl [] _).drew).fr hF2);have hS2:=hL2.mq HQ2.out;clear hL2 hF2 hs2;go_wp2_with fail
 refine hK0.out _ _ hS2 (fun hHeld=>?_);clear hK0 K0;try simp only [sT,Act.put]
 refine aU [12] (by rfl) (by kernel_rfl) (fun _ _ _ _ _ h=>h) hHeld ?_
 iterate 1
  refine yk ?_ rfl (Or.inl ⟨by rfl,?_⟩) ?_;rotate_left
  ·intro w9 hSw;obtain ⟨m0,m1,m2,m3,m4,m5,q0,q1,q2,q3,q4,q5,q6,q7,q8,q9,q10,_⟩:=hSw;go_simp;(try with_reducible rfl)
  try simp only [sT,Act.put]
 refine aT ?_;simp only [au,sT];refine wpAnyH_done (by kernel_rfl) ?_ _;clear hHeld;have c10:=hS2.q10;have r0:=ag (k:=0) HV2.out rfl;have fr0:=aj HV2.out 0;have r1:=ag (k:=1) HV2.out rfl;have fr1:=aj HV2.out 1;have r2:=ag (k:=2) HV2.out rfl;have fr2:=aj HV2.out 2;have r3:=ag (k:=3) HV2.out rfl;have fr3:=aj HV2.out 3;have r4:=ag (k:=4) HV2.out rfl;have fr4:=aj HV2.out 4;have r5:=ag (k:=5) HV2.out rfl;have fr5:=aj HV2.out 5;have r6:=ag (k:=6) HV2.out rfl;have fr6:=aj HV2.out 6;by_cases hz:fW al m.e m.a x.r.mb add=0
 ·have HVW:Hid (vv=⟨dn,0,0,[],0,[],x.r.mb⟩):=HVV.out.trans (if_pos hz);rw [hz];clear hz;(go_wp2_with fail);refine bodyPost_ret (bj (by rfl) _ (by rfl) (aD HV2.out rfl _ _ _ _ _ _ _) rfl) rfl ?_;rw [HVW.out];exact du HSZ.out (HK1.out.trans (aa.refl [] _).drew (by simp)) HS2.out.u0 (cw.nil _ _) HV2.out (az (aa.refl _ _) (by simp) _ _ _ _ _ _ _)
 ·have HVW:Hid (vv=⟨14,0,0,[],0,[],x.r.mb⟩):=HVV.out.trans (if_neg hz);(go_wp2_with fail);refine bodyPost_ret (bj (by rfl) _ (by rfl) (aD HV2.out rfl _ _ _ _ _ _ _) rfl) rfl ?_;rw [HVW.out];exact du HSZ.out (HK1.out.trans (aa.refl [] _).drew (by simp)) HS2.out.u0 (cw.nil _ _) HV2.out (az (aa.refl _ _) (by simp) _ _ _ _ _ _ _)
theorem wO (h:ay w0 w F D b p al sz m) (hl:m.e.length≤1000) (x:Rm):Calls Tryz.prog 155 #[.pointer (some ⟨b,0,none⟩),eh x] w fun e w'=>fF w0 w F D b p al sz (if fW al m.e m.a x.r.mb true=0 then ⟨12,0,0,[],0,[],x.r.mb⟩ else ⟨14,0,0,[],0,[],x.r.mb⟩) ⟨m.a,m.g,m.s,jn al m.e m.a x.r.mb true⟩ e w':=by
 have hsz:=h.size;have hk:=ax w x;have HK1:=ah hk;have HQ1:=ah (aF w x).1;have HV1:=ah (aF w x).2;have HL1:=ah (h.kept hk);obtain ⟨q0,q1,q2,q3,q4,q5,q6,q7,q8,q9,q10⟩:=HQ1.out.cells;have cC:=ke (h.kept (ax w x)) hl x true 12;obtain ⟨vv,hvv⟩:∃ vv:Vt,vv=if fW al m.e m.a x.r.mb true=0 then ⟨12,0,0,[],0,[],x.r.mb⟩ else ⟨14,0,0,[],0,[],x.r.mb⟩:=⟨_,rfl⟩
 rw [← hvv] at cC ⊢;clear hvv;unfold eh at cC;obtain ⟨W1,hW1⟩:∃ W1,W1=aX w x:=⟨_,rfl⟩;rw [← hW1] at HK1 HQ1 HV1 HL1 cC q0 q1 q2 q3 q4 q5 q6 q7 q8 q9 q10;unfold aX at hW1;unfold eh;have HSZ:=ah hsz;clear h hk hsz hl;go_enter Tryz.func155,Tryz.ntmps155;go_upto_region 1 with fail
 rw [← hW1];clear hW1;go_wp2_with fail
 refine cC.mono ?_;rintro _ w2 ⟨ao,n,c,rfl,hO2,hS2⟩;have HO2:=ah hO2;have HS2:=ah hS2;obtain ⟨F2,hL2,hF2,hs2,_⟩:=hS2;have HV2:=ah (HV1.out.fr hF2);unfold gA;clear hO2 hL2 hF2 hs2 q0 q1 q2 q3 q4 q5 q6 q7 q8 q9 q10 cC;have r0:=ag (k:=0) HV2.out rfl;have fr0:=aj HV2.out 0;have r1:=ag (k:=1) HV2.out rfl;have fr1:=aj HV2.out 1;have r2:=ag (k:=2) HV2.out rfl;have fr2:=aj HV2.out 2;have r3:=ag (k:=3) HV2.out rfl;have fr3:=aj HV2.out 3;have r4:=ag (k:=4) HV2.out rfl;have fr4:=aj HV2.out 4;have r5:=ag (k:=5) HV2.out rfl;have fr5:=aj HV2.out 5;have r6:=ag (k:=6) HV2.out rfl;have fr6:=aj HV2.out 6;go_wp2_with fail
 refine bodyPost_ret (bj (by rfl) _ (by rfl) (aD HV2.out rfl _ _ _ _ _ _ _) rfl) rfl ?_;exact du HSZ.out HK1.out HS2.out HO2.out HV2.out (az (aa.refl _ _) (by simp) _ _ _ _ _ _ _)
theorem tB (h:ay w0 w F D b p al sz m) (hl:m.e.length≤1000) (x:Rm):Calls Tryz.prog 156 #[.pointer (some ⟨b,0,none⟩),eh x] w fun e w'=>fF w0 w F D b p al sz (if fW al m.e m.a x.r.mb false=0 then ⟨13,0,0,[],0,[],x.r.mb⟩ else ⟨14,0,0,[],0,[],x.r.mb⟩) ⟨m.a,m.g,m.s,jn al m.e m.a x.r.mb false⟩ e w':=by
 have hsz:=h.size;have hk:=ax w x;have HK1:=ah hk;have HQ1:=ah (aF w x).1;have HV1:=ah (aF w x).2;have HL1:=ah (h.kept hk);obtain ⟨q0,q1,q2,q3,q4,q5,q6,q7,q8,q9,q10⟩:=HQ1.out.cells;have cC:=ke (h.kept (ax w x)) hl x false 13;obtain ⟨vv,hvv⟩:∃ vv:Vt,vv=if fW al m.e m.a x.r.mb false=0 then ⟨13,0,0,[],0,[],x.r.mb⟩ else ⟨14,0,0,[],0,[],x.r.mb⟩:=⟨_,rfl⟩
 rw [← hvv] at cC ⊢;clear hvv;unfold eh at cC;obtain ⟨W1,hW1⟩:∃ W1,W1=aX w x:=⟨_,rfl⟩;rw [← hW1] at HK1 HQ1 HV1 HL1 cC q0 q1 q2 q3 q4 q5 q6 q7 q8 q9 q10;unfold aX at hW1;unfold eh;have HSZ:=ah hsz;clear h hk hsz hl;go_enter Tryz.func156,Tryz.ntmps156;go_upto_region 1 with fail
 rw [← hW1];clear hW1;go_wp2_with fail
 refine cC.mono ?_;rintro _ w2 ⟨ao,n,c,rfl,hO2,hS2⟩;have HO2:=ah hO2;have HS2:=ah hS2;obtain ⟨F2,hL2,hF2,hs2,_⟩:=hS2;have HV2:=ah (HV1.out.fr hF2);unfold gA;clear hO2 hL2 hF2 hs2 q0 q1 q2 q3 q4 q5 q6 q7 q8 q9 q10 cC;have r0:=ag (k:=0) HV2.out rfl;have fr0:=aj HV2.out 0;have r1:=ag (k:=1) HV2.out rfl;have fr1:=aj HV2.out 1;have r2:=ag (k:=2) HV2.out rfl;have fr2:=aj HV2.out 2;have r3:=ag (k:=3) HV2.out rfl;have fr3:=aj HV2.out 3;have r4:=ag (k:=4) HV2.out rfl;have fr4:=aj HV2.out 4;have r5:=ag (k:=5) HV2.out rfl;have fr5:=aj HV2.out 5;have r6:=ag (k:=6) HV2.out rfl;have fr6:=aj HV2.out 6;go_wp2_with fail
 refine bodyPost_ret (bj (by rfl) _ (by rfl) (aD HV2.out rfl _ _ _ _ _ _ _) rfl) rfl ?_;exact du HSZ.out HK1.out HS2.out HO2.out HV2.out (az (aa.refl _ _) (by simp) _ _ _ _ _ _ _)
end Go.Proofs.YtgpnlidnbldiiaaGreat
