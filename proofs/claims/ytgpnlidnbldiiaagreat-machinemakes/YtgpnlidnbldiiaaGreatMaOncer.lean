/-
  once: a session's request, unless the session has done it.
-/
import Derived.Test.YtgpnlidnbldiiaaGreatQ2r
import Derived.Test.YtgpnlidnbldiiaaGreatMaDeed2r
import Derived.Deep.CutRange
set_option maxRecDepth 100000
namespace Go.Proofs.YtgpnlidnbldiiaaGreat
open Go.RowKit
variable {w0 w : World} {F D : List Nat} {b : Nat} {p : Pl} {al : Int} {sz : Nat} {m : Ma}
def BG (w w':World):Prop:=∀ B u k,cw B w u k→cw B w' u k
theorem BG.typed {S:List Nat}{Ts:List TypeId}{w w':World}(k:aa S w w') (hT:aJ w S Ts) (h1:137 ∉ Ts) (h2:60 ∉ Ts):BG w w':=fun _ _ _ h=>h.keep k hT h1 h2
theorem DN (h:ay w0 w F D b p al sz m) (id seq:Int):Calls Tryz.prog 123 #[.pointer (some ⟨p.t,0,none⟩),.int .i64 id,.int .i64 seq] w fun e w'=>∃ ao n c,e=.returned (.tuple #[.agg #[.int .i64 (aZ id seq m.s).1.c,.int .i64 (aZ id seq m.s).1.s,.int .i64 (aZ id seq m.s).1.r,.string (ak (aZ id seq m.s).1.p),.int .u64 (aZ id seq m.s).1.d,.slice ao n c,.int .i64 (aZ id seq m.s).1.m],.bool (aZ id seq m.s).2])∧Hid (cw w.heap.size w' (.slice ao n c) (aZ id seq m.s).1.k)∧Hid (dI w0 w F D b p al sz ⟨m.a,m.g,ct id m.s,m.e⟩ (.slice ao n c) w')∧Hid (∀ x,dE w x→dE w' x):=by
 obtain ⟨S,vt,X,h1,rfl,h3,h4,h5,h6⟩:=h;have hz:=h6.z1;have hs:=h6.sl;refine (Ab h1.t (by omega) h6.so id seq).mono fun e w' ⟨u,he,hO,hL⟩=>?_;obtain ⟨ao,n,c,rfl⟩:=hO.ko.one;obtain ⟨v',X',t1,t2,t3⟩:=hL;obtain ⟨k1,k2,k3⟩:=Af h1 h3 h4 h5 h6 t1 t2 t3 (by rw [gv];exact hs) (vx h6.so)
 have hR:∀ x,dE w x→dE w' x:=fun x hx=>by
  obtain ⟨a0,n0,c0,e0⟩:=h1.t.row.one;have hb:=h1.t.at_;rw [e0] at hb;exact ⟨⟨As hx.1.1 t2 hb,hx.1.2⟩,hx.2⟩
 refine ⟨ao,n,c,he,hO,⟨_,k1,k2,k3,fun j hj hm=>?_⟩,hR⟩;obtain ⟨hj1,cur,hj2⟩:=il hO hj;rcases List.mem_cons.1 hm with rfl | hm
 ·have:=aq h1.at_;omega
 ·rcases List.mem_append.1 hm with hm | hm
  ·have:=h1.g.lt j hm;omega
  ·obtain ⟨cur',t,hh,ht⟩:=t1.typed hm;rw [hj2] at hh;cases hh
   rcases ht with ht | ht <;> simp at ht
theorem CV (h:ay w0 w F D b p al sz m) (id seq:Int) (d:Vt) (u:Value) (hu:nU w u d.k) (hd:vh d):Calls Tryz.prog 125 #[.pointer (some ⟨p.t,0,none⟩),.int .i64 id,.int .i64 seq,gA d u] w fun e w'=>e=.returned (.bool (dz id seq m.s).isSome)∧Hid (db w0 w F D b p al sz ⟨m.a,m.g,bZ id seq d m.s,m.e⟩ w')∧Hid (BG w w'):=by
 obtain ⟨S,vt,X,h1,rfl,h3,h4,h5,h6⟩:=h;have hz:=h6.z1;have hs:=h6.sl
 exact (xK h1.t (by omega) id seq d u hu hd (fun k hk=>⟨fun hm=>by have:=h1.g.lt k hm;omega,fun hm=>by have:=h5 k hm;omega⟩)).mono fun e w' ⟨he,hL⟩=>⟨he,BV h1 h3 h4 h5 h6 hL (by rw [ie];exact hs) (st h6.so hd),(by
  obtain ⟨v',X',t1,t2,t3⟩:=hL;exact BG.typed t2 (dw h1.t.at_) (by decide) (by decide))⟩
def lD (k:Int):Nat:=if k=2 then 154 else if k=6 then 155 else if k=7 then 156 else me k
theorem tR (k:Int) (args:Array Value) (w:World):(callFunc (lD k) args).run Tryz.prog w=.ok (.enter (lD k) args) w:=by
 unfold lD me;split
 ·rfl
 ·split
  ·rfl
  ·split
   ·rfl
   ·split
    ·rfl
    ·split
     ·rfl
     ·split <;> rfl
theorem CQ (h:ay w0 w F D b p al sz m) (hl:m.g.cs.length≤10000) (x:Rm) (hx:dE w x):Calls Tryz.prog (me x.r.k) #[.pointer (some ⟨b,0,none⟩),eh x] w fun e w'=>fF w0 w F D b p al sz (iq m.g x.r) m e w':=by
 unfold me iq;by_cases h3:x.r.k=3
 ·rw [if_pos h3,if_pos h3];exact sX h x
 ·rw [if_neg h3,if_neg h3];by_cases h4:x.r.k=4
  ·rw [if_pos h4,if_pos h4];exact tf h x hx
  ·rw [if_neg h4,if_neg h4];by_cases h5:x.r.k=5
   ·rw [if_pos h5,if_pos h5];exact xP h hl x hx
   ·rw [if_neg h5,if_neg h5];exact yU h x
theorem CL (h:ay w0 w F D b p al sz m) (hl:m.g.cs.length≤10000) (he:m.e.length≤1000) (x:Rm) (hx:dE w x):Calls Tryz.prog (lD x.r.k) #[.pointer (some ⟨b,0,none⟩),eh x] w fun e w'=>fF w0 w F D b p al sz (jI al m x.r) ⟨m.a,doG m x.r,m.s,nV al m x.r⟩ e w':=by
 unfold lD jI doG nV;by_cases h2:x.r.k=2
 ·rw [if_pos h2,if_pos h2,if_pos h2,if_neg (by omega)];exact tL h hl x hx
 ·rw [if_neg h2,if_neg h2,if_neg h2];by_cases h6:x.r.k=6
  ·have e1:x.r.k=6∨x.r.k=7:=.inl h6;simp only [if_pos e1,if_pos h6,decide_eq_true h6];exact wO h he x
  ·rw [if_neg h6];by_cases h7:x.r.k=7
   ·have e1:x.r.k=6∨x.r.k=7:=.inr h7;simp only [if_pos e1,if_pos h7,if_neg h6,decide_eq_false h6];exact tB h he x
   ·rw [if_neg h7,if_neg (by omega),if_neg (by omega)];exact CQ h hl x hx
theorem Cp {a w w':World}{x:Rm}(h0:dE a x) (h:dE w x) {b:Nat}(hb:a.heap.size≤b) (k:aa [b] w w'):dE w' x:=by
 refine ⟨⟨⟨h.1.1.1,h.1.1.2.1,h.1.1.2.2.1,fun i hi=>?_⟩,h.1.2⟩,h.2⟩;obtain ⟨g,o,e,h1⟩:=h.1.1.2.2.2 i hi;obtain ⟨g',o',e',h2⟩:=h0.1.1.2.2.2 i hi;rw [e] at e';cases e'
 refine ⟨g,o,e,h1.kept k fun hm=>?_⟩;rw [List.mem_singleton] at hm;have:=World.block_lt_of_cell? a _ h2.c0
 simp at this
 omega
theorem px {w0 a b' c:World}{F D:List Nat}{b:Nat}{p:Pl}{al:Int}{sz:Nat}{m':Ma}{u:Value}{F1:List Nat}(h2:jT w0.heap.size F a b') (h3:∀ k∈F1,k∈F∨a.heap.size≤k) (hu:∀ j,u.ownBlock=some j→j ∉ F1∧j < b'.heap.size) (k:db w0 b' F1 D b p al sz m' c):dI w0 a F D b p al sz m' u c:=by
 obtain ⟨F',k1,k2,k3⟩:=k;refine ⟨F',k1,h2.trans k2 h3,fun i hi=>?_,fun j hj hm=>?_⟩
 ·rcases k3 i hi with h | h
  ·exact h3 i h
  ·exact .inr (Nat.le_trans h2.size h)
 ·rcases k3 j hm with h | h
  ·exact (hu j hj).1 h
  ·have:=(hu j hj).2;omega
def Cb (w0 w W1:World) (F D:List Nat) (b:Nat) (p:Pl) (al:Int) (sz:Nat) (m:Ma) (x:Rm) (s5 s6:Value) (wx:World):Prop :=
 ∃ (Bk:Nat) (ao:Option Addr) (n c:Nat),s5=.pointer (some ⟨Bk,0,none⟩)∧s6=.bool (aZ x.r.s x.r.q m.s).2∧Hid (W1.heap.size≤Bk)∧Hid (fg wx Bk (aZ x.r.s x.r.q m.s).1 (.slice ao n c))∧Hid (cw W1.heap.size wx (.slice ao n c) (aZ x.r.s x.r.q m.s).1.k)∧Hid (dI w0 W1 F D b p al sz ⟨m.a,m.g,ct x.r.s m.s,m.e⟩ (.slice ao n c) wx)∧Hid (nY wx w.heap.size x)∧Hid (fg wx (w.heap.size+1) (cq 0) (.slice none 0 0))∧Hid (dE wx x)
def B1 (w0 w W2:World) (F D:List Nat) (b:Nat) (p:Pl) (al:Int) (sz:Nat) (v:Vt) (m:Ma) (x:Rm) (s7:Value) (wx:World):Prop :=
 ∃ (Bk:Nat) (ao:Option Addr) (n c:Nat),s7=.pointer (some ⟨Bk,0,none⟩)∧Hid (W2.heap.size≤Bk)∧Hid (fg wx Bk v (.slice ao n c))∧Hid (cw W2.heap.size wx (.slice ao n c) v.k)∧Hid (dI w0 W2 F D b p al sz m (.slice ao n c) wx)∧Hid (nY wx w.heap.size x)∧Hid (fg wx (w.heap.size+1) (cq 0) (.slice none 0 0))
set_option linter.unusedSimpArgs false in
set_option maxHeartbeats 16000000 in
theorem xS (h:ay w0 w F D b p al sz m) (hl:m.g.cs.length≤10000) (he:m.e.length≤1000) (x:Rm) (hx:dE w x):Calls Tryz.prog 83 #[.pointer (some ⟨b,0,none⟩),eh x] w fun e w'=>fF w0 w F D b p al sz (if (aZ x.r.s x.r.q m.s).2=true then (aZ x.r.s x.r.q m.s).1 else jI al m x.r) (if (aZ x.r.s x.r.q m.s).2=true then ⟨m.a,m.g,ct x.r.s m.s,m.e⟩ else ⟨m.a,doG m x.r,bZ x.r.s x.r.q (jI al m x.r) (ct x.r.s m.s),nV al m x.r⟩) e w':=by
 have hsz:=h.size;have hk:=ax w x;have HK1:=ah hk;have HQ1:=ah (aF w x).1;have HV1:=ah (aF w x).2;have HL1:=ah (h.kept hk);have HX1:=ah (hx.kept hk);have HOk:=ah (sZ (al:=al) h.w.g.wf x.r);have cA:=fun W (hk:aa [] (aX w x) W)=>DN ((h.kept (ax w x)).kept hk) x.r.s x.r.q;obtain ⟨vv,hvv⟩:∃ vv:Vt,vv=if (aZ x.r.s x.r.q m.s).2=true then (aZ x.r.s x.r.q m.s).1 else jI al m x.r:=⟨_,rfl⟩
 obtain ⟨mm,hmm⟩:∃ mm:Ma,mm=if (aZ x.r.s x.r.q m.s).2=true then ⟨m.a,m.g,ct x.r.s m.s,m.e⟩ else ⟨m.a,doG m x.r,bZ x.r.s x.r.q (jI al m x.r) (ct x.r.s m.s),nV al m x.r⟩:=⟨_,rfl⟩
 rw [← hvv,← hmm];have HVV:=ah hvv;have HMM:=ah hmm;clear hvv hmm;have HAR:Hid (∀ W1 s5 s6 wx,Cb w0 w W1 F D b p al sz m x s5 s6 wx→Cb w0 w W1 F D b p al sz m x s5 s6 wx):=fun _ _ _ _ h=>h;generalize hav:(aZ x.r.s x.r.q m.s).1=av at *;generalize hab:(aZ x.r.s x.r.q m.s).2=ab at *;have HAV:=ah hav;have HAB:=ah hab;clear hav hab HAR;obtain ⟨W1,hW1⟩:∃ W1,W1=aX w x:=⟨_,rfl⟩;rw [← hW1] at HK1 HQ1 HV1 HL1 HX1 cA;unfold aX at hW1;unfold eh;have HSZ:=ah hsz;have HGl:=ah hl;have HEl:=ah he;clear h hk hsz hx hl he;go_enter Tryz.func83,Tryz.ntmps83;go_upto_region 1 with fail
 rw [← hW1];clear hW1;go_cut [5,6] from 8 to 19 (fun s5 s6 wx=>Cb w0 w W1 F D b p al sz m x s5 s6 wx)
 case first =>
  refine wp_region_held_drew (S:=ui b w.heap.size p al sz m.a x) (by kernel_rfl) ((HL1.out.kept (aa.refl [] _).drew).mq (HQ1.out.kept (aa.refl [] _).drew)) (fun hHeld=>?_);refine aU [0,1,2,3,4,5,6,7] (by rfl) (by kernel_rfl) (fun _ _ _ _ _ h=>h) hHeld ?_
  iterate 8
   refine yk ?_ rfl (Or.inl ⟨by rfl,?_⟩) ?_;rotate_left
   ·intro w9 hSw;obtain ⟨m0,m1,m2,m3,m4,m5,q0,q1,q2,q3,q4,q5,q6,q7,q8,q9,q10,_⟩:=hSw;go_simp;(try with_reducible rfl)
   try simp only [sT,Act.put]
  refine aT ?_;simp only [au,sT];refine wpAnyH_ready (rs:=[8,12]) (by kernel_rfl) (by simp) (AllReadyH.cons rfl (fun K0 hK0=>?_) (AllReadyH.cons rfl (fun K0 hK0=>?_) AllReadyH.nil))
  ·go_simp;refine (cA _ (aa.refl [] _).drew).mono ?_;rintro _ w2 ⟨ao,n,c,rfl,HO2,HS2,HR2⟩;obtain ⟨F2,hL2,hF2,hs2,hu2⟩:=id HS2.out;have HQ2:=ah ((HQ1.out.kept (aa.refl [] _).drew).fr hF2);have HV2:=ah ((HV1.out.kept (aa.refl [] _).drew).fr hF2);have HL2:=ah hL2;have hz2:=hF2.size;(go_wp2_with fail);refine hK0.out _ _ (hL2.mq HQ2.out) (fun hHeld=>?_);clear hK0 K0;(try simp only [sT,Act.put]);refine aU [9,10,11] (by rfl) (by kernel_rfl) (fun _ _ _ _ _ h=>h) hHeld ?_
   iterate 3
    refine yk ?_ rfl (Or.inl ⟨by rfl,?_⟩) ?_;rotate_left
    ·intro w9 hSw;obtain ⟨m0,m1,m2,m3,m4,m5,q0,q1,q2,q3,q4,q5,q6,q7,q8,q9,q10,_⟩:=hSw;go_simp;(try with_reducible rfl)
    try simp only [sT,Act.put]
   refine aT ?_;simp only [au,sT];refine aH 12 (by kernel_rfl) rfl (fun K0 hK0=>?_);go_simp;have hKa:=(aa.refl [] w2).alloc (.cells #[.int .i64 0,.int .i64 0,.int .i64 0,.string ⟨#[]⟩,.int .u64 0,.slice none 0 0,.int .i64 0] 39);have HVa:Hid (fg (w2.alloc (.cells #[.int .i64 0,.int .i64 0,.int .i64 0,.string ⟨#[]⟩,.int .u64 0,.slice none 0 0,.int .i64 0] 39)) w2.heap.size (cq 0) (.slice none 0 0)):=heap_alloc_new w2 _;refine hK0.out _ _ ((hL2.kept hKa).mq (HQ2.out.kept hKa)) (fun hHeld=>?_);clear hK0 K0;(try simp only [sT,Act.put]);refine aH 13 (by kernel_rfl) rfl (fun K0 hK0=>?_);refine aY av (.slice ao n c) ⟨_,_,_,rfl⟩ rfl rfl HVa.out fun w3 HV3 HK3=>?_;have hK3:=HK3.out;have hbx:w.heap.size+1 < w2.heap.size:=HV2.out.lt;have hL3:=(hL2.kept hKa).box HVa.out hK3 (by have:=HSZ.out;omega);have HQ3:=ah (hK3.at (HQ2.out.kept hKa) (by simp;omega));have HV3':=ah (hK3.at (HV2.out.kept hKa) (by simp;omega));refine hK0.out _ _ (hL3.mq HQ3.out) (fun hHeld=>?_);clear hK0 K0;(try simp only [sT,Act.put]);refine aU [14] (by rfl) (by kernel_rfl) (fun _ _ _ _ _ h=>h) hHeld ?_
   iterate 1
    refine yk ?_ rfl (Or.inl ⟨by rfl,?_⟩) ?_;rotate_left
    ·intro w9 hSw;obtain ⟨m0,m1,m2,m3,m4,m5,q0,q1,q2,q3,q4,q5,q6,q7,q8,q9,q10,_⟩:=hSw;go_simp;(try with_reducible rfl)
    try simp only [sT,Act.put]
   refine aT ?_;simp only [au,sT];refine wpAnyH_done (by kernel_rfl) ?_ _;clear hHeld;(go_wp2_with fail);go_meet
   exact ⟨w2.heap.size,ao,n,c,rfl,by rw [HAB.out],by show _≤_;simpa using hz2,by rw [HAV.out];exact HV3,by rw [HAV.out];exact fp (HO2.out.kept hKa) HVa.out hK3,((HS2.out.lift (aa.refl [] W1).drew).more hKa).box HVa.out hz2 (Nat.le_trans HSZ.out HK1.out.size) hK3,HQ3,HV3',(HR2.out x (HX1.out.kept (aa.refl [] _).drew)).kept (hKa.trans hK3 (by simp))⟩
  ·go_simp;have hKa:=(aa.refl [] W1.drew).alloc (.cells #[.int .i64 0,.int .i64 0,.int .i64 0,.string ⟨#[]⟩,.int .u64 0,.slice none 0 0,.int .i64 0] 39);have HVa:Hid (fg (W1.drew.alloc (.cells #[.int .i64 0,.int .i64 0,.int .i64 0,.string ⟨#[]⟩,.int .u64 0,.slice none 0 0,.int .i64 0] 39)) W1.heap.size (cq 0) (.slice none 0 0)):=heap_alloc_new W1.drew _;have hK1a:aa [] W1 (W1.drew.alloc (.cells #[.int .i64 0,.int .i64 0,.int .i64 0,.string ⟨#[]⟩,.int .u64 0,.slice none 0 0,.int .i64 0] 39)):=(aa.refl [] W1).drew.alloc _;refine hK0.out _ _ ((HL1.out.kept hK1a).mq (HQ1.out.kept hK1a)) (fun hHeld=>?_);clear hK0 K0;(try simp only [sT,Act.put]);refine aH 8 (by kernel_rfl) rfl (fun K0 hK0=>?_);go_simp;refine (cA _ ((aa.refl [] _).alloc _).drew).mono ?_;rintro _ w2 ⟨ao,n,c,rfl,HO2,HS2,HR2⟩;obtain ⟨F2,hL2,hF2,hs2,hu2⟩:=id HS2.out;have hKw:aa [] W1 (W1.alloc (.cells #[.int .i64 0,.int .i64 0,.int .i64 0,.string ⟨#[]⟩,.int .u64 0,.slice none 0 0,.int .i64 0] 39)).drew:=((aa.refl [] W1).alloc _).drew;have HVc:Hid (fg (W1.alloc (.cells #[.int .i64 0,.int .i64 0,.int .i64 0,.string ⟨#[]⟩,.int .u64 0,.slice none 0 0,.int .i64 0] 39)) W1.heap.size (cq 0) (.slice none 0 0)):=heap_alloc_new W1 _;have HQ2:=ah ((HQ1.out.kept hKw).fr hF2);have HV2:=ah ((HV1.out.kept hKw).fr hF2);have HVb:=ah ((HVc.out.kept (aa.refl [] _).drew).fr hF2);(go_wp2_with fail);refine hK0.out _ _ (hL2.mq HQ2.out) (fun hHeld=>?_);clear hK0 K0;(try simp only [sT,Act.put]);refine aU [9,10,11] (by rfl) (by kernel_rfl) (fun _ _ _ _ _ h=>h) hHeld ?_
   iterate 3
    refine yk ?_ rfl (Or.inl ⟨by rfl,?_⟩) ?_;rotate_left
    ·intro w9 hSw;obtain ⟨m0,m1,m2,m3,m4,m5,q0,q1,q2,q3,q4,q5,q6,q7,q8,q9,q10,_⟩:=hSw;go_simp;(try with_reducible rfl)
    try simp only [sT,Act.put]
   refine aT ?_;simp only [au,sT];refine aH 13 (by kernel_rfl) rfl (fun K0 hK0=>?_);refine aY av (.slice ao n c) ⟨_,_,_,rfl⟩ rfl rfl HVb.out fun w3 HV3 HK3=>?_;have hK3:=HK3.out;have hbx:w.heap.size+1 < W1.heap.size:=HV1.out.lt;have hL3:=hL2.box HVb.out hK3 (by have:=HSZ.out;omega);have HQ3:=ah (hK3.at HQ2.out (by simp;omega));have HV3':=ah (hK3.at HV2.out (by simp;omega));refine hK0.out _ _ (hL3.mq HQ3.out) (fun hHeld=>?_);clear hK0 K0;(try simp only [sT,Act.put]);refine aU [14] (by rfl) (by kernel_rfl) (fun _ _ _ _ _ h=>h) hHeld ?_
   iterate 1
    refine yk ?_ rfl (Or.inl ⟨by rfl,?_⟩) ?_;rotate_left
    ·intro w9 hSw;obtain ⟨m0,m1,m2,m3,m4,m5,q0,q1,q2,q3,q4,q5,q6,q7,q8,q9,q10,_⟩:=hSw;go_simp;(try with_reducible rfl)
    try simp only [sT,Act.put]
   refine aT ?_;simp only [au,sT];refine wpAnyH_done (by kernel_rfl) ?_ _;clear hHeld;(go_wp2_with fail);go_meet
   exact ⟨W1.heap.size,ao,n,c,rfl,by rw [HAB.out],Nat.le_refl _,by rw [HAV.out];exact HV3,by rw [HAV.out];exact fp (HO2.out.mono hKw.size) HVb.out hK3,(HS2.out.lift hKw).box HVb.out (Nat.le_refl _) (Nat.le_trans HSZ.out HK1.out.size) hK3,HQ3,HV3',Cp HX1.out (HR2.out x (HX1.out.kept hKw)) (Nat.le_refl _) hK3⟩
 case rest =>
  obtain ⟨Bk,ao,n,c,rfl,rfl,HBk,HVB,HOB,HSB,HQB,HZB,HXB⟩:=hcut;rw [HAV.out] at HVB HOB;rw [HAB.out];cases ab with
  | true =>
    have HVW:Hid (vv=av):=HVV.out;have HMW:Hid (mm=⟨m.a,m.g,ct x.r.s m.s,m.e⟩):=HMM.out;clear cA;obtain ⟨r0,r1,r2,r3,r4,r5,r6⟩:=HZB.out.cells;have fr0:=aj HZB.out 0;have fr1:=aj HZB.out 1;have fr2:=aj HZB.out 2;have fr3:=aj HZB.out 3;have fr4:=aj HZB.out 4;have fr5:=aj HZB.out 5;have fr6:=aj HZB.out 6;obtain ⟨s0,s1,s2,s3,s4,s5,s6⟩:=HVB.out.cells;(go_wp2_with fail);refine bodyPost_ret (bj (by rfl) _ (by rfl) (aD HZB.out rfl _ _ _ _ _ _ _) rfl) rfl ?_;rw [HVW.out,HMW.out];exact du HSZ.out HK1.out HSB.out HOB.out HZB.out (az (aa.refl _ _) (by simp) _ _ _ _ _ _ _)
  | false =>
    have HVW:Hid (vv=jI al m x.r):=HVV.out;have HMW:Hid (mm=⟨m.a,doG m x.r,bZ x.r.s x.r.q (jI al m x.r) (ct x.r.s m.s),nV al m x.r⟩):=HMM.out;obtain ⟨F2,hL2,hF2,hs2,_⟩:=HSB.out;have HL2:=ah hL2;have HF2:=ah hF2;have HS2:=ah hs2;have hsz2:=hF2.size;have HX2:Hid (∀ W,aa [] wc W→dE W x):=fun W hk=>HXB.out.kept hk;have cW:=fun W (hk:aa [] wc W)=>CL (hL2.kept hk) HGl.out HEl.out x (HX2.out W hk);rw [show jI al ⟨m.a,m.g,ct x.r.s m.s,m.e⟩ x.r=jI al m x.r from rfl,show doG ⟨m.a,m.g,ct x.r.s m.s,m.e⟩ x.r=doG m x.r from rfl,show nV al ⟨m.a,m.g,ct x.r.s m.s,m.e⟩ x.r=nV al m x.r from rfl] at cW;have cO:=fun W=>rR W x.r.k;have hen:=tR x.r.k;obtain ⟨f,hf⟩:∃ f,f=lD x.r.k:=⟨_,rfl⟩;unfold lD at hf;rw [← hf] at cO;rw [show lD x.r.k=f from hf.symm] at cW hen;clear hf;unfold Cz at cO;generalize jI al m x.r=dv at *;clear hL2 hF2 hs2 cA;have HWd:=ah hsz2;clear hsz2;go_upto_region 4 with fail
    go_cut [7] from 22 to 27 (fun s7 wx=>B1 w0 w wc F2 D b p al sz dv ⟨m.a,doG m x.r,ct x.r.s m.s,nV al m x.r⟩ x s7 wx)
    case first =>
     refine wp_region_held_drew (S:=ui b w.heap.size p al sz m.a x) (by kernel_rfl) ((HL2.out.kept (aa.refl [] _).drew).mq (HQB.out.kept (aa.refl [] _).drew)) (fun hHeld=>?_);refine aU [0,1,3] (by rfl) (by kernel_rfl) (fun _ _ _ _ _ h=>h) hHeld ?_
     iterate 3
      refine yk ?_ rfl (Or.inl ⟨by rfl,?_⟩) ?_;rotate_left
      ·intro w9 hSw;obtain ⟨m0,m1,m2,m3,m4,m5,q0,q1,q2,q3,q4,q5,q6,q7,q8,q9,q10,_⟩:=hSw;go_simp;(try with_reducible rfl)
      try simp only [sT,Act.put]
     refine aT ?_;simp only [au,sT];refine tk 4 (eh x) rfl (by kernel_rfl) (fun _ _ _ h=>h) (yieldsIf_load_mid (by rfl) _ _ rfl w.heap.size 0 rfl (oH x) _ (fun w9 hSw=>hSw.rg) Tryz.underlying43 rfl jY) hHeld ?_;(try simp only [sT,Act.put]);refine wpAnyH_ready (rs:=[2,6]) (by kernel_rfl) (by simp) (AllReadyH.cons rfl (fun K0 hK0=>?_) (AllReadyH.cons rfl (fun K0 hK0=>?_) AllReadyH.nil))
     ·go_simp;refine (cO _).mono ?_;rintro _ _ ⟨rfl,rfl⟩;(go_wp2_with fail);refine hK0.out _ _ ((HL2.out.kept (aa.refl [] _).drew).mq (HQB.out.kept (aa.refl [] _).drew)) (fun hHeld=>?_);clear hK0 K0;(try simp only [sT,Act.put]);refine wpAnyH_ready (rs:=[5,6]) (by kernel_rfl) (by simp) (AllReadyH.cons rfl (fun K0 hK0=>?_) (AllReadyH.cons rfl (fun K0 hK0=>?_) AllReadyH.nil))
      ·go_simp;refine (cW _ (aa.refl [] _).drew).mono ?_;rintro _ w2 ⟨ao2,n2,c2,rfl,hO2,hS2⟩;have hkp:aa [] wc wc.drew:=(aa.refl [] _).drew;have HO2:=ah hO2;have HT2:=ah hS2;obtain ⟨F3,hL3,hF3,hs3,hu3⟩:=hS2;have HQ2:=ah ((HQB.out.kept hkp).fr hF3);have HZ2:=ah ((HZB.out.kept hkp).fr hF3);have hz2:=hF3.size;have hkz:=hkp.size;(go_wp2_with fail);refine hK0.out _ _ (hL3.mq HQ2.out) (fun hHeld=>?_);clear hK0 K0;(try simp only [sT,Act.put]);refine aH 6 (by kernel_rfl) rfl (fun K0 hK0=>?_);go_simp;have hKa:=(aa.refl [] w2).alloc (.cells #[.int .i64 0,.int .i64 0,.int .i64 0,.string ⟨#[]⟩,.int .u64 0,.slice none 0 0,.int .i64 0] 39);have HVa:Hid (fg (w2.alloc (.cells #[.int .i64 0,.int .i64 0,.int .i64 0,.string ⟨#[]⟩,.int .u64 0,.slice none 0 0,.int .i64 0] 39)) w2.heap.size (cq 0) (.slice none 0 0)):=heap_alloc_new w2 _;refine hK0.out _ _ ((hL3.kept hKa).mq (HQ2.out.kept hKa)) (fun hHeld=>?_);clear hK0 K0;(try simp only [sT,Act.put]);refine aH 7 (by kernel_rfl) rfl (fun K0 hK0=>?_);refine aY dv (.slice ao2 n2 c2) ⟨_,_,_,rfl⟩ rfl rfl HVa.out fun w3 HV3 HK3=>?_;have hK3:=HK3.out;have hbx:w.heap.size+1 < wc.heap.size:=HZB.out.lt;have hw2:wc.heap.size≤w2.heap.size:=Nat.le_trans hkz hz2;have hL4:=(hL3.kept hKa).box HVa.out hK3 (by have:=HSZ.out;omega);have HQ3:=ah (hK3.at (HQ2.out.kept hKa) (by simp;omega));have HZ3:=ah (hK3.at (HZ2.out.kept hKa) (by simp;omega));refine hK0.out _ _ (hL4.mq HQ3.out) (fun hHeld=>?_);clear hK0 K0;(try simp only [sT,Act.put]);refine wpAnyH_done (by kernel_rfl) ?_ _;clear hHeld;(go_wp2_with fail);go_meet
       exact ⟨w2.heap.size,ao2,n2,c2,rfl,hw2,HV3,fp ((HO2.out.mono hkz).kept hKa) HVa.out hK3,((HT2.out.lift hkp).more hKa).box HVa.out hw2 (Nat.le_trans (Nat.le_trans HSZ.out HK1.out.size) HWd.out) hK3,HQ3,HZ3⟩
      ·go_simp;have hKa:aa [] wc (wc.drew.alloc (.cells #[.int .i64 0,.int .i64 0,.int .i64 0,.string ⟨#[]⟩,.int .u64 0,.slice none 0 0,.int .i64 0] 39)):=(aa.refl [] wc).drew.alloc _;have HVc:Hid (fg (wc.alloc (.cells #[.int .i64 0,.int .i64 0,.int .i64 0,.string ⟨#[]⟩,.int .u64 0,.slice none 0 0,.int .i64 0] 39)) wc.heap.size (cq 0) (.slice none 0 0)):=heap_alloc_new wc _;refine hK0.out _ _ ((HL2.out.kept hKa).mq (HQB.out.kept hKa)) (fun hHeld=>?_);clear hK0 K0;(try simp only [sT,Act.put]);refine aH 5 (by kernel_rfl) rfl (fun K0 hK0=>?_);go_simp;refine (cW _ ((aa.refl [] _).alloc _).drew).mono ?_;rintro _ w2 ⟨ao2,n2,c2,rfl,hO2,hS2⟩;have hkp:aa [] wc (wc.alloc (.cells #[.int .i64 0,.int .i64 0,.int .i64 0,.string ⟨#[]⟩,.int .u64 0,.slice none 0 0,.int .i64 0] 39)).drew:=((aa.refl [] _).alloc _).drew;have HO2:=ah hO2;have HT2:=ah hS2;obtain ⟨F3,hL3,hF3,hs3,hu3⟩:=hS2;have HQ2:=ah ((HQB.out.kept hkp).fr hF3);have HZ2:=ah ((HZB.out.kept hkp).fr hF3);have hz2:=hF3.size;have hkz:=hkp.size;have HVb:=ah ((HVc.out.kept (aa.refl [] _).drew).fr hF3);(go_wp2_with fail);refine hK0.out _ _ (hL3.mq HQ2.out) (fun hHeld=>?_);clear hK0 K0;(try simp only [sT,Act.put]);refine aH 7 (by kernel_rfl) rfl (fun K0 hK0=>?_);refine aY dv (.slice ao2 n2 c2) ⟨_,_,_,rfl⟩ rfl rfl HVb.out fun w3 HV3 HK3=>?_;have hK3:=HK3.out;have hbx:w.heap.size+1 < wc.heap.size:=HZB.out.lt;have hL4:=hL3.box HVb.out hK3 (by have:=HSZ.out;omega);have HQ3:=ah (hK3.at HQ2.out (by simp;omega));have HZ3:=ah (hK3.at HZ2.out (by simp;omega));refine hK0.out _ _ (hL4.mq HQ3.out) (fun hHeld=>?_);clear hK0 K0;(try simp only [sT,Act.put]);refine wpAnyH_done (by kernel_rfl) ?_ _;clear hHeld;(go_wp2_with fail);go_meet
       exact ⟨wc.heap.size,ao2,n2,c2,rfl,Nat.le_refl _,HV3,fp (HO2.out.mono hkz) HVb.out hK3,(HT2.out.lift hkp).box HVb.out (Nat.le_refl _) (Nat.le_trans (Nat.le_trans HSZ.out HK1.out.size) HWd.out) hK3,HQ3,HZ3⟩
     ·go_simp;have hKa:aa [] wc (wc.drew.alloc (.cells #[.int .i64 0,.int .i64 0,.int .i64 0,.string ⟨#[]⟩,.int .u64 0,.slice none 0 0,.int .i64 0] 39)):=(aa.refl [] wc).drew.alloc _;have HVc:Hid (fg (wc.alloc (.cells #[.int .i64 0,.int .i64 0,.int .i64 0,.string ⟨#[]⟩,.int .u64 0,.slice none 0 0,.int .i64 0] 39)) wc.heap.size (cq 0) (.slice none 0 0)):=heap_alloc_new wc _;refine hK0.out _ _ ((HL2.out.kept hKa).mq (HQB.out.kept hKa)) (fun hHeld=>?_);clear hK0 K0;(try simp only [sT,Act.put]);refine aH 2 (by kernel_rfl) rfl (fun K0 hK0=>?_);go_simp;refine (cO _).mono ?_;rintro _ _ ⟨rfl,rfl⟩;(go_wp2_with fail);refine hK0.out _ _ ((HL2.out.kept ((aa.refl [] _).alloc _).drew).mq (HQB.out.kept ((aa.refl [] _).alloc _).drew)) (fun hHeld=>?_);clear hK0 K0;(try simp only [sT,Act.put]);refine aH 5 (by kernel_rfl) rfl (fun K0 hK0=>?_);go_simp;refine (cW _ ((aa.refl [] _).alloc _).drew).mono ?_;rintro _ w2 ⟨ao2,n2,c2,rfl,hO2,hS2⟩;have hkp:aa [] wc (wc.alloc (.cells #[.int .i64 0,.int .i64 0,.int .i64 0,.string ⟨#[]⟩,.int .u64 0,.slice none 0 0,.int .i64 0] 39)).drew:=((aa.refl [] _).alloc _).drew;have HO2:=ah hO2;have HT2:=ah hS2;obtain ⟨F3,hL3,hF3,hs3,hu3⟩:=hS2;have HQ2:=ah ((HQB.out.kept hkp).fr hF3);have HZ2:=ah ((HZB.out.kept hkp).fr hF3);have hz2:=hF3.size;have hkz:=hkp.size;have HVb:=ah ((HVc.out.kept (aa.refl [] _).drew).fr hF3);(go_wp2_with fail);refine hK0.out _ _ (hL3.mq HQ2.out) (fun hHeld=>?_);clear hK0 K0;(try simp only [sT,Act.put]);refine aH 7 (by kernel_rfl) rfl (fun K0 hK0=>?_);refine aY dv (.slice ao2 n2 c2) ⟨_,_,_,rfl⟩ rfl rfl HVb.out fun w3 HV3 HK3=>?_;have hK3:=HK3.out;have hbx:w.heap.size+1 < wc.heap.size:=HZB.out.lt;have hL4:=hL3.box HVb.out hK3 (by have:=HSZ.out;omega);have HQ3:=ah (hK3.at HQ2.out (by simp;omega));have HZ3:=ah (hK3.at HZ2.out (by simp;omega));refine hK0.out _ _ (hL4.mq HQ3.out) (fun hHeld=>?_);clear hK0 K0;(try simp only [sT,Act.put]);refine wpAnyH_done (by kernel_rfl) ?_ _;clear hHeld;(go_wp2_with fail);go_meet
      exact ⟨wc.heap.size,ao2,n2,c2,rfl,Nat.le_refl _,HV3,fp (HO2.out.mono hkz) HVb.out hK3,(HT2.out.lift hkp).box HVb.out (Nat.le_refl _) (Nat.le_trans (Nat.le_trans HSZ.out HK1.out.size) HWd.out) hK3,HQ3,HZ3⟩
    case rest =>
     obtain ⟨Bw,ao2,n2,c2,rfl,HBw,HVw,HOw,HTw,HQw,HZw⟩:=hcut;obtain ⟨F3,hL3,hF3,hs3,hu3⟩:=HTw.out;have cD:=fun W (hk:aa [] wc W)=>CV (hL3.kept hk) x.r.s x.r.q dv (.slice ao2 n2 c2) (HOw.out.kept hk).ko HOk.out;unfold gA at cD;have HL3:=ah hL3;have HF3:=ah hF3;have HS3:=ah hs3;have HU3:=ah hu3;clear hL3 hF3 hs3 hu3 cW cO hen;go_upto_region 5 with fail
     refine wp_region_held_drew (S:=fun w'=>ui b w.heap.size p al sz m.a x w'∧w'.rangeAt Bw 0 (py dv (.slice ao2 n2 c2))) (by kernel_rfl) ⟨(HL3.out.kept (aa.refl [] _).drew).mq (HQw.out.kept (aa.refl [] _).drew),ja (HVw.out.kept (aa.refl [] _).drew)⟩ (fun hHeld=>?_);refine aU [0,1,2,3,4,5,6,7] (by rfl) (by kernel_rfl) (fun _ _ _ _ _ h=>h) hHeld ?_
     iterate 8
      refine yk ?_ rfl (Or.inl ⟨by rfl,?_⟩) ?_;rotate_left
      ·intro w9 hSw;obtain ⟨hq,_⟩:=hSw;obtain ⟨m0,m1,m2,m3,m4,m5,q0,q1,q2,q3,q4,q5,q6,q7,q8,q9,q10,_⟩:=hq;go_simp;(try with_reducible rfl)
      try simp only [sT,Act.put]
     refine aT ?_;simp only [au,sT];refine wpAnyH_take (i:=8) (v:=gA dv (.slice ao2 n2 c2)) rfl (by kernel_rfl) (by kernel_rfl) (by kernel_rfl) (fun _ _ _ h=>h) (yieldsIf_load_mid (by rfl) _ _ rfl Bw 0 rfl (py dv (.slice ao2 n2 c2)) _ (fun w9 hSw=>hSw.2) Tryz.underlying39 rfl kj) hHeld ?_;(try simp only [sT,Act.put]);refine aH 9 (by kernel_rfl) rfl (fun K0 hK0=>?_);go_simp;refine (cD _ (aa.refl [] _).drew).mono ?_;rintro _ w5 ⟨rfl,HT5,HK5⟩;obtain ⟨F5,hL5,hF5,hs5⟩:=id HT5.out;have HQ5:=ah ((HQw.out.kept (aa.refl [] _).drew).fr hF5);have HV5:=ah ((HVw.out.kept (aa.refl [] _).drew).fr hF5);have HZ5:=ah ((HZw.out.kept (aa.refl [] _).drew).fr hF5);(go_wp2_with fail);refine hK0.out _ _ ⟨hL5.mq HQ5.out,ja HV5.out⟩ (fun hHeld=>?_);clear hK0 K0;(try simp only [sT,Act.put]);refine wpAnyH_done (by kernel_rfl) ?_ _;clear hHeld hL5 hF5 hs5 cD;obtain ⟨r0,r1,r2,r3,r4,r5,r6⟩:=HZ5.out.cells;have fr0:=aj HZ5.out 0;have fr1:=aj HZ5.out 1;have fr2:=aj HZ5.out 2;have fr3:=aj HZ5.out 3;have fr4:=aj HZ5.out 4;have fr5:=aj HZ5.out 5;have fr6:=aj HZ5.out 6;obtain ⟨s0,s1,s2,s3,s4,s5,s6⟩:=HV5.out.cells;(go_wp2_with fail);refine bodyPost_ret (bj (by rfl) _ (by rfl) (aD HZ5.out rfl _ _ _ _ _ _ _) rfl) rfl ?_;rw [HVW.out,HMW.out];refine du HSZ.out HK1.out ?_ ((HK5.out _ _ _ (HOw.out.kept (aa.refl [] _).drew)).mono (HF2.out.size)) HZ5.out (az (aa.refl _ _) (by simp) _ _ _ _ _ _ _);exact px (HF2.out.trans (HF3.out) HS2.out) (fun k hk=>(HS3.out k hk).elim (HS2.out k) (fun e=>.inr (Nat.le_trans HF2.out.size e))) (fun j hj=>⟨HU3.out j hj,aq (il HOw.out hj).2.choose_spec⟩) (db.lift (aa.refl [] _).drew HT5.out)
end Go.Proofs.YtgpnlidnbldiiaaGreat
