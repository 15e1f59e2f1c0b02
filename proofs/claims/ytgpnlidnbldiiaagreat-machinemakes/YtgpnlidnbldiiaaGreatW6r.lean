/-
  Texts laid as one.
-/
import Derived.Test.YtgpnlidnbldiiaaGreatQ2r
import Derived.Test.YtgpnlidnbldiiaaGreatMtAskr
import Derived.Test.YtgpnlidnbldiiaaGreatMiMo4r
import Derived.Test.YtgpnlidnbldiiaaGreatEdChgr
import Derived.Test.YtgpnlidnbldiiaaGreatQ18r
/-
 The document's own table: mB.
-/
namespace Go.Proofs.YtgpnlidnbldiiaaGreat
open Go.RowKit
variable {P : Nat → Prop}
theorem bp.seven {B:Nat}{w4:World}{g n cap i:Nat}{X:List (Se × Value)}{x:Se}{um:Value}{seq:Int}(h:bp B w4 (.slice (some ⟨g,0,none⟩) n cap) X) (hi:i < X.length) (hx:X[i]=(⟨x.i,seq,x.n,x.v⟩,um)) (d:Vt) (a4:Option Addr) (n4 c4:Nat) :
 bp B ((((((((w4.setCell ⟨g,i*10+3,none⟩ (.int .i64 d.c)).setCell ⟨g,i*10+4,none⟩ (.int .i64 d.s)).setCell ⟨g,i*10+5,none⟩ (.int .i64 d.r)).setCell ⟨g,i*10+6,none⟩ (.string (ak d.p))).setCell ⟨g,i*10+7,none⟩ (.int .u64 d.d)).setCell ⟨g,i*10+8,none⟩ (.slice a4 n4 c4)).setCell ⟨g,i*10+9,none⟩ (.int .i64 d.m))) (.slice (some ⟨g,0,none⟩) n cap) (X.set i (dx seq d x,.slice a4 n4 c4)):=by
 have h1:=h.setk (i:=i) (by simpa using hi) (⟨x.i,seq,x.n,⟨d.c,x.v.s,x.v.r,x.v.p,x.v.d,x.v.k,x.v.m⟩⟩,um) 3 (by omega) (.int .i64 d.c) (by rw [hx];simp [dU]);have h2:=h1.setk (i:=i) (by simpa using hi) (⟨x.i,seq,x.n,⟨d.c,d.s,x.v.r,x.v.p,x.v.d,x.v.k,x.v.m⟩⟩,um) 4 (by omega) (.int .i64 d.s) (by rw [List.getElem_set_self];simp [dU]);rw [List.set_set] at h2;have h3:=h2.setk (i:=i) (by simpa using hi) (⟨x.i,seq,x.n,⟨d.c,d.s,d.r,x.v.p,x.v.d,x.v.k,x.v.m⟩⟩,um) 5 (by omega) (.int .i64 d.r) (by rw [List.getElem_set_self];simp [dU]);rw [List.set_set] at h3;have h4:=h3.setk (i:=i) (by simpa using hi) (⟨x.i,seq,x.n,⟨d.c,d.s,d.r,d.p,x.v.d,x.v.k,x.v.m⟩⟩,um) 6 (by omega) (.string (ak d.p)) (by rw [List.getElem_set_self];simp [dU]);rw [List.set_set] at h4;have h5:=h4.setk (i:=i) (by simpa using hi) (⟨x.i,seq,x.n,⟨d.c,d.s,d.r,d.p,d.d,x.v.k,x.v.m⟩⟩,um) 7 (by omega) (.int .u64 d.d) (by rw [List.getElem_set_self];simp [dU]);rw [List.set_set] at h5;have h6:=h5.setk (i:=i) (by simpa using hi) (⟨x.i,seq,x.n,⟨d.c,d.s,d.r,d.p,d.d,d.k,x.v.m⟩⟩,.slice a4 n4 c4) 8 (by omega) (.slice a4 n4 c4) (by rw [List.getElem_set_self];simp [dU]);rw [List.set_set] at h6;have h7:=h6.setk (i:=i) (by simpa using hi) (⟨x.i,seq,x.n,⟨d.c,d.s,d.r,d.p,d.d,d.k,d.m⟩⟩,.slice a4 n4 c4) 9 (by omega) (.int .i64 d.m) (by rw [List.getElem_set_self];simp [dU]);rw [List.set_set] at h7;exact h7
set_option linter.unusedSimpArgs false in
set_option maxHeartbeats 8000000 in
set_option maxRecDepth 100000 in
theorem uf {w:World}{b sz:Nat}{v:Value}{X:List (Se × Value)}{L:List Se}(h:eH P w b sz v X L) (hl:L.length≤100000) (id seq:Int) (d:Vt) (u:Value) (hu:∀ W,aa (aW b v) w W→nU W u d.k) (hd:vh d) (hP:∀ k,w.heap.size≤k→P k) :
 Calls Tryz.prog 91 #[.pointer (some ⟨b,0,none⟩),.int .i64 id,.int .i64 seq,gA d u] w fun e w'=>e=.returned (.bool (dz id seq L).isSome)∧Bv P w b sz v (bZ id seq d L) w':=by
 obtain ⟨ao,n,c,rfl⟩:=(hu w (aa.refl _ _)).one;have HHu:=ah hu;have HPf:=ah hP;clear hP;have hKz:aa [] w (w.alloc (.cells #[.int .i64 d.c,.int .i64 d.s,.int .i64 d.r,.string (ak d.p),.int .u64 d.d,.slice ao n c,.int .i64 d.m] 39)):=(aa.refl [] w).alloc _;have HKz:=ah hKz;have HZ:=ah (heap_alloc_new w (.cells #[.int .i64 d.c,.int .i64 d.s,.int .i64 d.r,.string (ak d.p),.int .u64 d.d,.slice ao n c,.int .i64 d.m] 39));have hT1:=h.kept hKz;have cI:=jQ hT1 hl id;obtain ⟨vao,vc,hve,hvc,hvm,_,hat⟩:=h.row.t.shape;subst hve;unfold maxLen at hvm;have HT:=ah h;have HLt:=ah h.lt;unfold gA;clear hu;cases hI:ir id L with
 | none =>
   have HD:Hid (dz id seq L=none):=by show _=_;unfold dz;rw [hI]
   have HL:Hid (bZ id seq d L=L):=by show _=_;unfold bZ;rw [HD.out]
   rw [hI] at cI;simp only [kI] at cI;clear hT1 h hat;go_enter Tryz.func91,Tryz.ntmps91;(go_wp2_with fail);refine cI.mono ?_;rintro _ w2 ⟨rfl,hK2⟩;have HK2:=ah (HKz.out.trans hK2 (by simp));clear hK2 cI hKz;(go_wp2_with fail);go_ret
   exact ⟨by rw [HD.out];rfl,_,X,by rw [HL.out];exact HT.out.kept HK2.out,HK2.out.mono (by simp),fun k hk=>.inl hk⟩
 | some i =>
   obtain ⟨hi,hid⟩:=eo hI;clear hid;have hiX:i < X.length:=by rw [h.len];exact hi
   obtain ⟨g,he,hx⟩:=hat i hiX;subst he;have hCk:=dm h.ses hiX hi;obtain ⟨mo,mm,mc,hm2⟩:=(h.own _ (List.getElem_mem hiX)).ko.one;have HXi:Hid (X[i]=(L[i],.slice mo mm mc)):=Prod.ext hCk hm2
   have hxc:∀ W,aa [] w W→jl W g (i*10) (L[i],.slice mo mm mc):=fun W hk=>by
    have h1:=hx.kept hk (by simp);rw [HXi.out] at h1;exact h1
   have HXc:=ah hxc;have HD0:Hid (dz id seq L=if L[i].q < seq then some i else none):=by show _=_;unfold dz;rw [hI];simp only [cy hi]
   have HL0:Hid (dz id seq L=some i→bZ id seq d L=L.set i (dx seq d L[i])):=fun e=>by unfold bZ;rw [e];simp only [cy hi]
   generalize L[i]=x at *;rw [hI] at cI;simp only [kI] at cI;have hii:(i:Int) < X.length:=by omega
   have hic:i≤vc:=by omega
   have hi0:¬ (i:Int) < 0:=by omega
   have HGb:Hid (¬ b=g):=fun e=>by
    obtain ⟨cur,hcur⟩:=ar h.row (k:=g) rfl;have:=h.at_
    rw [e,hcur] at this;cases this
   have HGz:Hid (¬ w.heap.size=g):=fun e=>by have:=HLt.out g (by simp [aW,Value.ownBlock]);omega
   clear hT1 h hx hCk hm2 hxc hat;by_cases hq:x.q < seq
   ·have HD:Hid (dz id seq L=some i):=by show _=_;rw [HD0.out,if_pos hq]
    have HL:=ah (HL0.out HD.out);have hq':¬ seq≤x.q:=by omega
    go_enter Tryz.func91,Tryz.ntmps91;(go_wp2_with fail);refine cI.mono ?_;rintro _ w2 ⟨rfl,hK2⟩;have HK2:=ah (HKz.out.trans hK2 (by simp));have HZ2:=ah (hK2.at HZ.out (by simp));have hT2:=HT.out.kept HK2.out;obtain ⟨c0,c1⟩:=hT2.cells;have h1:=(HXc.out w2 HK2.out).c1;obtain ⟨cur2,hcur2⟩:=ar hT2.row (k:=g) rfl;have fz1:=aj hcur2 (i*10+1);have HC2:=ah hcur2;obtain ⟨w3,hw3⟩:∃ w3,w3=w2.setCell ⟨g,i*10+1,none⟩ (.int .i64 seq):=⟨_,rfl⟩;have hK3:aa [g] w2 w3:=by rw [hw3];exact (aa.refl _ _).setCell (by simp) _
    have HR3:Hid (bp 0 w3 (.slice (some ⟨g,0,none⟩) X.length vc) (X.set i (⟨x.i,seq,x.n,x.v⟩,.slice mo mm mc))):=by
     show bp _ _ _ _;rw [hw3];exact hT2.row.setk hiX _ 1 (by omega) _ (by rw [HXi.out];simp [dU])
    have HK3:=ah hK3;have HT2:=ah hT2;clear hK2 cI hKz hcur2 hT2;go_upto_region 5 with fail
    rw [← hw3];have HAt3:=ah (hK3.at HT2.out.at_ (by simpa using HGb.out));have HZ3:=ah (hK3.at HZ2.out (by simpa using HGz.out));have t1:w3.cell? ⟨b,1,none⟩=some (.slice (some ⟨g,0,none⟩) X.length vc):=ag HAt3.out rfl;have z0:=ag (k:=0) HZ3.out rfl;have z1:=ag (k:=1) HZ3.out rfl;have z2:=ag (k:=2) HZ3.out rfl;have z3:=ag (k:=3) HZ3.out rfl;have z4:=ag (k:=4) HZ3.out rfl;have z5:=ag (k:=5) HZ3.out rfl;have z6:=ag (k:=6) HZ3.out rfl;have hTy3:aJ w2 [g] [155]:=dw HC2.out;have HOw3:Hid (∀ y∈X,io P w3 y.2 y.1.v.k):=fun y hy=>(HT2.out.own y hy).keep hK3 hTy3 (by decide) (by decide);have cV:=fun W (hk:aa [] w3 W)=>gp W d (.slice ao n c) (HHu.out W (((HK2.out.mono (by simp)).trans HK3.out (fun k hk=>.inl (by simp at hk;subst hk;simp [aW,Value.ownBlock]))).trans hk (by simp))) hd;unfold gA at cV;clear hw3 c0 c1 h1 fz1 hK3 hTy3;refine wp_region_held_drew (S:=fun w'=>w'.cell? ⟨b,1,none⟩=some (.slice (some ⟨g,0,none⟩) X.length vc)∧w'.cell? ⟨w.heap.size,0,none⟩=some (.int .i64 d.c)∧w'.cell? ⟨w.heap.size,1,none⟩=some (.int .i64 d.s)∧w'.cell? ⟨w.heap.size,2,none⟩=some (.int .i64 d.r)∧w'.cell? ⟨w.heap.size,3,none⟩=some (.string (ak d.p))∧w'.cell? ⟨w.heap.size,4,none⟩=some (.int .u64 d.d)∧w'.cell? ⟨w.heap.size,5,none⟩=some (.slice ao n c)∧w'.cell? ⟨w.heap.size,6,none⟩=some (.int .i64 d.m)) (by kernel_rfl) ⟨t1,z0,z1,z2,z3,z4,z5,z6⟩ (fun hHeld=>?_);refine aU [0,1,2,3,4,5] (by rfl) (by kernel_rfl) (fun _ _ _ _ _ h=>h) hHeld ?_
    iterate 6
     refine yk ?_ rfl (Or.inl ⟨by rfl,?_⟩) ?_;rotate_left
     ·intro w9 hSw;(try dsimp only at hSw);go_simp;(try with_reducible rfl)
     try simp only [sT,Act.put]
    refine aT ?_;simp only [au,sT];refine aH 6 (by kernel_rfl) rfl (fun K0 hK0=>?_);go_simp;refine (cV _ (aa.refl [] _).drew).mono ?_;rintro _ w4 ⟨u4,rfl,hO4,hK4⟩;replace hK4:=(aa.refl [] w3).drew.trans hK4 (by simp);obtain ⟨a4,n4,c4,rfl⟩:=hO4.ko.one;have HK4:=ah hK4;have HO4:=ah (hO4.toP (P:=P) (fun j hj=>HPf.out j (Nat.le_trans (Nat.le_trans HK2.out.size HK3.out.size) hj)));have HR4:=ah (aa.ownsRow (S:=[]) hK4 HR3.out (by simp):bp 0 w4 _ _);have hlenX:i < (X.set i (⟨x.i,seq,x.n,x.v⟩,.slice mo mm mc)).length:=by simpa using hiX
    have hs4:=(bp.t HR4.out).at (i:=i) hlenX;simp only [List.getElem_set_self] at hs4;obtain ⟨s0,s1,s2,s3,s4,s5,s6,s7,s8,s9⟩:=hs4;obtain ⟨cur4,hcur4⟩:=ar HR4.out (k:=g) rfl;have fz3:=aj hcur4 (i*10+3);have fz4:=aj hcur4 (i*10+4);have fz5:=aj hcur4 (i*10+5);have fz6:=aj hcur4 (i*10+6);have fz7:=aj hcur4 (i*10+7);have fz8:=aj hcur4 (i*10+8);have fz9:=aj hcur4 (i*10+9);have HC4:=ah hcur4;clear hO4 hcur4 hK4 hlenX;(go_wp2_with fail);refine hK0.out _ _ ⟨HK4.out.cell t1 (by simp),HK4.out.cell z0 (by simp),HK4.out.cell z1 (by simp),HK4.out.cell z2 (by simp),HK4.out.cell z3 (by simp),HK4.out.cell z4 (by simp),HK4.out.cell z5 (by simp),HK4.out.cell z6 (by simp)⟩ (fun hHeld=>?_);clear hK0 K0;(try simp only [sT,Act.put]);refine aU [7,8] (by rfl) (by kernel_rfl) (fun _ _ _ _ _ h=>h) hHeld ?_
    iterate 2
     refine yk ?_ rfl (Or.inl ⟨by rfl,?_⟩) ?_;rotate_left
     ·intro w9 hSw;(try dsimp only at hSw);go_simp;(try with_reducible rfl)
     try simp only [sT,Act.put]
    refine aT ?_;simp only [au,sT];refine aH 9 (by kernel_rfl) rfl (fun K0 hK0=>?_);go_simp;obtain ⟨w5,hw5⟩:∃ w5,w5=(((((((w4.setCell ⟨g,i*10+3,none⟩ (.int .i64 d.c)).setCell ⟨g,i*10+4,none⟩ (.int .i64 d.s)).setCell ⟨g,i*10+5,none⟩ (.int .i64 d.r)).setCell ⟨g,i*10+6,none⟩ (.string (ak d.p))).setCell ⟨g,i*10+7,none⟩ (.int .u64 d.d)).setCell ⟨g,i*10+8,none⟩ (.slice a4 n4 c4)).setCell ⟨g,i*10+9,none⟩ (.int .i64 d.m)):=⟨_,rfl⟩;rw [← hw5];have hK5:aa [g] w4 w5:=by rw [hw5];exact (((((((aa.refl [g] w4).setCell (by simp) _).setCell (by simp) _).setCell (by simp) _).setCell (by simp) _).setCell (by simp) _).setCell (by simp) _).setCell (by simp) _
    have HR5:Hid (bp 0 w5 (.slice (some ⟨g,0,none⟩) X.length vc) (X.set i (dx seq d x,.slice a4 n4 c4))):=by
     show bp _ _ _ _;rw [hw5];have h7:=bp.seven HR4.out (i:=i) (by simpa using hiX) (List.getElem_set_self _) d a4 n4 c4;rw [List.set_set] at h7;exact h7
    have hK45:aa [g] w3 w5:=(HK4.out.mono (by simp)).trans hK5 (by simp);refine hK0.out _ _ ⟨hK45.cell t1 (by simpa using HGb.out),hK45.cell z0 (by simpa using HGz.out),hK45.cell z1 (by simpa using HGz.out),hK45.cell z2 (by simpa using HGz.out),hK45.cell z3 (by simpa using HGz.out),hK45.cell z4 (by simpa using HGz.out),hK45.cell z5 (by simpa using HGz.out),hK45.cell z6 (by simpa using HGz.out)⟩ (fun hHeld=>?_);refine wpAnyH_done (by kernel_rfl) ?_ _
    have HEn:Hid (Bv P w b sz (.slice (some ⟨g,0,none⟩) X.length vc) (bZ id seq d L) w5):=by
     refine ⟨_,_,⟨hK45.at HAt3.out (by simpa using HGb.out),HR5.out,fun y hy=>?_,?_⟩,?_,fun k hk=>.inl hk⟩
     ·rcases List.mem_or_eq_of_mem_set hy with hy | hy
      ·exact ((HOw3.out y hy).kept HK4.out).keep hK5 (dw HC4.out) (by decide) (by decide)
      ·subst hy;exact HO4.out.keep hK5 (dw HC4.out) (by decide) (by decide)
     ·rw [HL.out,List.map_set,HT2.out.ses]
     ·exact ((HK2.out.mono (by simp)).trans (HK3.out.trans hK45 (by simp)) (fun k hk=>.inl (by simp at hk;subst hk;simp [aW,Value.ownBlock])))
    clear hK0 K0 hHeld hw5 hK5 hK45 s0 s1 s2 s3 s4 s5 s6 s7 s8 s9;(go_wp2_with fail);go_ret
    exact ⟨by rw [HD.out];rfl,HEn.out⟩
   ·have HD:Hid (dz id seq L=none):=by show _=_;rw [HD0.out,if_neg hq]
    have HL:Hid (bZ id seq d L=L):=by show _=_;unfold bZ;rw [HD.out]
    have hq':seq≤x.q:=by omega
    go_enter Tryz.func91,Tryz.ntmps91;(go_wp2_with fail);refine cI.mono ?_;rintro _ w2 ⟨rfl,hK2⟩;have HK2:=ah (HKz.out.trans hK2 (by simp));have hT2:=HT.out.kept HK2.out;obtain ⟨c0,c1⟩:=hT2.cells;have h1:=(HXc.out w2 HK2.out).c1;clear hK2 cI hT2 hKz;(go_wp2_with fail);go_ret
    exact ⟨by rw [HD.out];rfl,_,X,by rw [HL.out];exact HT.out.kept HK2.out,HK2.out.mono (by simp),fun k hk=>.inl hk⟩
end Go.Proofs.YtgpnlidnbldiiaaGreat
namespace Go.Proofs.YtgpnlidnbldiiaaGreat
open Go.RowKit
def Et (a:Int) (p:Pl):Value × Value × Value:=(.int .i64 a,.pointer (some ⟨p.t,0,none⟩),.pointer (some ⟨p.e,0,none⟩))
structure BY (w:World) (b:Nat) (p:Pl) (al:Int) (sz:Nat) (v vL vR:Value) (K:List (aV × Value)) (vt:Value) (X:List (Se × Value)) (B:Nat) (D:List Nat) (m:Ma):Prop where
 g:iw w b (Et m.a p) v vL vR K m.g
 nl:gQ m.g.ls vL
 t:eH (fun k=>k ∉ bf b v∧k ∉ D) w p.t sz vt X m.s
 e:jS B w p.e al m.e
def dy (b pt:Nat) (v vt:Value):List Nat:=bf b v++aW pt vt
def aM (w0 w:World) (M D:List Nat) (b:Nat) (p:Pl) (al:Int) (sz:Nat) (m:Ma):Prop :=
 ∃ v vL vR K vt X,BY w b p al sz v vL vR K vt X w0.heap.size D m∧M=dy b p.t v vt∧aa [] w0 w∧(∀ k∈M,w0.heap.size≤k)∧(∀ k∈D,k < w.heap.size)∧qx sz al m∧1≤sz
def iB (B:Nat) (M:List Nat) (w w':World):Prop :=
 ∃ U,aa U w w'∧aJ w U [84,137,96,155,94,134]∧∀ k∈U,k < w.heap.size→k∈M∨(B≤k∧∃ cur t mk,w.heap[k]?=some (.cells cur t mk)∧(t=94∨t=134))
theorem iB.kept {B:Nat}{M:List Nat}{w w':World}(h:aa [] w w'):iB B M w w':=⟨[],h,cm _ _,fun _ h=>by cases h⟩
theorem iB.size {B:Nat}{M:List Nat}{w w':World}(h:iB B M w w'):w.heap.size≤w'.heap.size:=by
 obtain ⟨U,h1,_⟩:=h;exact h1.size
theorem iB.trans {B:Nat}{M M1:List Nat}{a b c:World}(h:iB B M a b) (k:iB B M1 b c) (hF:∀ i∈M1,i∈M∨a.heap.size≤i):iB B M a c:=by
 obtain ⟨U,h1,h2,h3⟩:=h;obtain ⟨V,k1,k2,k3⟩:=k;refine ⟨U++V.filter fun i=>decide (i < a.heap.size),?_,?_,?_⟩
 ·refine (h1.mono (T:=U++V.filter fun i=>decide (i < a.heap.size)) (fun i hi=>.inl (by simp [hi]))).trans k1 fun i hi=>?_;by_cases hlt:i < a.heap.size
  ·exact .inl (by simp [hi,hlt])
  ·exact .inr (by omega)
 ·intro i hi cur t mk hh;by_cases hs:i∈U
  ·exact h2 i hs cur t mk hh
  ·rcases List.mem_append.1 hi with hi | hi
   ·exact absurd hi hs
   ·exact k2 i (List.mem_filter.1 hi).1 cur t mk (h1.at hh hs)
 ·intro i hi hlt;by_cases hs:i∈U
  ·exact h3 i hs hlt
  ·rcases List.mem_append.1 hi with hi | hi
   ·exact absurd hi hs
   ·rcases k3 i (List.mem_filter.1 hi).1 (Nat.lt_of_lt_of_le hlt h1.size) with hm | ⟨hB,cur,t,mk,hh,ht⟩
    ·rcases hF i hm with h | h
     ·exact .inl h
     ·omega
    ·exact .inr ⟨hB,cur,t,mk,by rw [← h1.block i hlt hs];exact hh,ht⟩
theorem iB.at {B:Nat}{M:List Nat}{w w':World}(h:iB B M w w') {k:Nat}{cur:Array Value}{t:TypeId}{mk:Nat × Nat}(hk:w.heap[k]?=some (.cells cur t mk)) (ht:t ∉ [84,137,96,155,94,134]):w'.heap[k]?=some (.cells cur t mk):=by
 obtain ⟨U,h1,h2,_⟩:=h;exact h1.typed h2 hk ht
theorem iB.row {B:Nat}{M:List Nat}{w w':World}(h:iB B M w w') {B' e size n:Nat}{v:Value}{xs:List Value}(hr:w.ownsRow B' e size v n xs) (ht:e ∉ [84,137,96,155,94,134]):w'.ownsRow B' e size v n xs:=by
 obtain ⟨U,h1,h2,_⟩:=h;exact ap h1 h2 hr ht
def cj (w0 w:World) (M D:List Nat) (b:Nat) (p:Pl) (al:Int) (sz:Nat) (m:Ma) (w':World):Prop :=
 ∃ M',aM w0 w' M' D b p al sz m∧iB w0.heap.size M w w'∧∀ k∈M',k∈M∨w.heap.size≤k
theorem eH.stay {P Q:Nat→Prop}{w w':World}{b sz:Nat}{v:Value}{X:List (Se × Value)}{L:List Se}(h:eH P w b sz v X L) {S:List Nat}{Ts:List TypeId}(k:aa S w w') (hS:∀ i∈aW b v,i ∉ S) (hT:aJ w S Ts) (h2:60 ∉ Ts) (hP:∀ j,P j→j < w.heap.size→j ∉ S∧Q j):eH Q w' b sz v X L :=
 ⟨k.at h.at_ (hS b (by simp [aW])),k.ownsRow h.row (fun i hi=>hS i (by simp [aW,hi])),fun x hx=>(h.own x hx).stay k hP hT h2,h.ses⟩
theorem jS.keep {B:Nat}{S:List Nat}{Ts:List TypeId}{w w':World}{p:Nat}{al:Int}{L:List Ep}(h:jS B w p al L) (k:aa S w w') (hT:aJ w S Ts) (h1:94 ∉ Ts) (h2:134 ∉ Ts) (h3:3 ∉ Ts):jS B w' p al L:=by
 obtain ⟨v,X,a,b,c,d,e⟩:=h;exact ⟨v,X,a,k.typed hT b h1,ap k hT c h2,fun x hx=>ap k hT (d x hx) h3,e⟩
theorem BY.lt {w:World}{b:Nat}{p:Pl}{al:Int}{sz:Nat}{v vL vR:Value}{K:List (aV × Value)}{vt:Value}{X:List (Se × Value)}{B:Nat}{D:List Nat}{m:Ma}(h:BY w b p al sz v vL vR K vt X B D m):∀ k∈dy b p.t v vt,k < w.heap.size:=by
 intro k hk;rcases List.mem_append.1 hk with hk | hk
 ·exact h.g.lt k hk
 ·exact h.t.lt k hk
theorem aM.lt {w0 w:World}{M D:List Nat}{b:Nat}{p:Pl}{al:Int}{sz:Nat}{m:Ma}(h:aM w0 w M D b p al sz m):∀ k∈M,k < w.heap.size:=by
 obtain ⟨v,vL,vR,K,vt,X,h1,rfl,_⟩:=h;exact h1.lt
theorem aM.keeps {w0 w:World}{M D:List Nat}{b:Nat}{p:Pl}{al:Int}{sz:Nat}{m:Ma}(h:aM w0 w M D b p al sz m):aa [] w0 w:=by
 obtain ⟨v,vL,vR,K,vt,X,h1,h2,h3,_⟩:=h;exact h3
theorem aM.w {w0 w:World}{M D:List Nat}{b:Nat}{p:Pl}{al:Int}{sz:Nat}{m:Ma}(h:aM w0 w M D b p al sz m):qx sz al m:=by
 obtain ⟨v,vL,vR,K,vt,X,h1,h2,h3,h4,h5,h6,h7⟩:=h;exact h6
theorem aM.kept {w0 w w':World}{M D:List Nat}{b:Nat}{p:Pl}{al:Int}{sz:Nat}{m:Ma}(h:aM w0 w M D b p al sz m) (k:aa [] w w'):aM w0 w' M D b p al sz m:=by
 obtain ⟨v,vL,vR,K,vt,X,h1,h2,h3,h4,h5,h6⟩:=h;exact ⟨v,vL,vR,K,vt,X,⟨h1.g.kept k,h1.nl,h1.t.kept k,h1.e.kept k⟩,h2,h3.trans k (by simp),h4,fun i hi=>Nat.lt_of_lt_of_le (h5 i hi) k.size,h6⟩
theorem aM.at {w0 w:World}{M D:List Nat}{b:Nat}{p:Pl}{al:Int}{sz:Nat}{m:Ma}(h:aM w0 w M D b p al sz m):∃ v vL vR,w.heap[b]?=some (.cells #[.int .i64 m.a,v,vL,vR,.pointer (some ⟨p.t,0,none⟩),.pointer (some ⟨p.e,0,none⟩)] 84 (0,0)):=by
 obtain ⟨v,vL,vR,K,vt,X,h1,_⟩:=h;exact ⟨v,vL,vR,h1.g.at_⟩
theorem cj.same {w0 w w':World}{M D:List Nat}{b:Nat}{p:Pl}{al:Int}{sz:Nat}{m:Ma}(h:aM w0 w M D b p al sz m) (k:aa [] w w'):cj w0 w M D b p al sz m w' :=
 ⟨M,h.kept k,iB.kept k,fun _ hi=>.inl hi⟩
theorem Cm {w0 w w':World}{b:Nat}{p:Pl}{al:Int}{sz:Nat}{v vL vR:Value}{K:List (aV × Value)}{vt:Value}{X:List (Se × Value)}{D:List Nat}{m:Ma}{g:Gr}(h:BY w b p al sz v vL vR K vt X w0.heap.size D m) (h3:aa [] w0 w) (h4:∀ k∈dy b p.t v vt,w0.heap.size≤k) (h5:∀ k∈D,k < w.heap.size) (h6:qx sz al m) (h7:1≤sz) (hL:pH w b (Et m.a p) (bf b v) g w') (hg:eO g):cj w0 w (dy b p.t v vt) D b p al sz ⟨m.a,g,m.s,m.e⟩ w':=by
 obtain ⟨S',⟨v',vL',vR',K',g1,g0,rfl⟩,g2,g3⟩:=hL;have hT:=h.g.typed
 have hF:∀ k∈dy b p.t v' vt,k∈dy b p.t v vt∨w.heap.size≤k:=fun k hk=>by
  rcases List.mem_append.1 hk with hk | hk
  ·rcases g3 k hk with h | h
   ·exact .inl (by simp [dy,h])
   ·exact .inr h
  ·exact .inl (by simp [dy,hk])
 refine ⟨dy b p.t v' vt,⟨v',vL',vR',K',vt,X,⟨g1,g0,?_,h.e.keep g2 hT (by decide) (by decide) (by decide)⟩,rfl,h3.trans g2 (fun i hi=>.inr (h4 i (by simp [dy,hi]))),fun k hk=>?_,fun k hk=>Nat.lt_of_lt_of_le (h5 k hk) g2.size,⟨h6.a0,h6.a1,hg,h6.sl,h6.so,h6.e,h6.z1,h6.l0,h6.l1⟩,h7⟩,⟨bf b v,g2,?_,fun k hk _=>.inl (by simp [dy,hk])⟩,hF⟩
 ·refine h.t.stay g2 (fun i hi hm=>?_) hT (by decide) (fun j hj hlt=>⟨hj.1,fun hm=>?_,hj.2⟩)
  ·have h8:=h.t.typed i hi;rcases List.mem_cons.1 hi with rfl | hi
   ·have:=hT _ hm _ _ _ h.t.at_
    simp at this
   ·obtain ⟨cur,hh⟩:=ar h.t.row (aw.1 hi);have:=hT _ hm _ _ _ hh
    simp at this
  ·rcases g3 j hm with h8 | h8
   ·exact hj.1 h8
   ·omega
 ·rcases hF k hk with h8 | h8
  ·exact h4 k h8
  ·exact Nat.le_trans h3.size h8
 ·intro k hk cur t mk hh;have:=hT k hk cur t mk hh
  simp at this
  rcases this with rfl | rfl <;> simp
theorem uL {w0 w w':World}{b:Nat}{p:Pl}{al:Int}{sz:Nat}{v vL vR:Value}{K:List (aV × Value)}{vt:Value}{X:List (Se × Value)}{D:List Nat}{m:Ma}{L:List Se}(h:BY w b p al sz v vL vR K vt X w0.heap.size D m) (h3:aa [] w0 w) (h4:∀ k∈dy b p.t v vt,w0.heap.size≤k) (h5:∀ k∈D,k < w.heap.size) (h6:qx sz al m) (h7:1≤sz) {v':Value}{X':List (Se × Value)}(g1:eH (fun k=>k ∉ bf b v∧k ∉ D) w' p.t sz v' X' L) (g2:aa (aW p.t vt) w w') (g3:∀ k,v'.ownBlock=some k→vt.ownBlock=some k∨w.heap.size≤k) (hl:L.length≤sz) (hok:∀ x∈L,jZ x):aM w0 w' (dy b p.t v v') D b p al sz ⟨m.a,m.g,L,m.e⟩∧iB w0.heap.size (dy b p.t v vt) w w'∧∀ k∈dy b p.t v v',k∈dy b p.t v vt∨w.heap.size≤k:=by
 have hT:=h.t.typed
 have hF:∀ k∈dy b p.t v v',k∈dy b p.t v vt∨w.heap.size≤k:=fun k hk=>by
  rcases List.mem_append.1 hk with hk | hk
  ·exact .inl (by simp [dy,hk])
  ·rcases List.mem_cons.1 hk with rfl | hk
   ·exact .inl (by simp [dy,aW])
   ·rcases g3 k (aw.1 hk) with e | e
    ·exact .inl (by simp [dy,aW,e])
    ·exact .inr e
 refine ⟨⟨v,vL,vR,K,v',X',⟨h.g.keep g2 (fun i hi hm=>?_) hT (by decide) (by decide) (by decide),h.nl,g1,h.e.keep g2 hT (by decide) (by decide) (by decide)⟩,rfl,h3.trans g2 (fun i hi=>.inr (h4 i (by simp [dy,hi]))),fun k hk=>?_,fun k hk=>Nat.lt_of_lt_of_le (h5 k hk) g2.size,⟨h6.a0,h6.a1,h6.g,hl,hok,h6.e,h6.z1,h6.l0,h6.l1⟩,h7⟩,⟨aW p.t vt,g2,?_,fun k hk _=>.inl (by simp [dy,hk])⟩,hF⟩
 ·rcases List.mem_cons.1 hm with rfl | hm
  ·have:=h.g.typed _ hi _ _ _ h.t.at_
   simp at this
  ·obtain ⟨cur,hh⟩:=ar h.t.row (aw.1 hm);have:=h.g.typed _ hi _ _ _ hh
   simp at this
 ·rcases hF k hk with h8 | h8
  ·exact h4 k h8
  ·exact Nat.le_trans h3.size h8
 ·intro k hk cur t mk hh;have:=hT k hk cur t mk hh
  simp at this
  rcases this with rfl | rfl <;> simp
theorem zR {w0 w w':World}{b:Nat}{p:Pl}{al:Int}{sz:Nat}{v vL vR:Value}{K:List (aV × Value)}{vt:Value}{X:List (Se × Value)}{D:List Nat}{m:Ma}{L:List Se}(h:BY w b p al sz v vL vR K vt X w0.heap.size D m) (h3:aa [] w0 w) (h4:∀ k∈dy b p.t v vt,w0.heap.size≤k) (h5:∀ k∈D,k < w.heap.size) (h6:qx sz al m) (h7:1≤sz) (hL:Bv (fun k=>k ∉ bf b v∧k ∉ D) w p.t sz vt L w') (hl:L.length≤sz) (hok:∀ x∈L,jZ x):cj w0 w (dy b p.t v vt) D b p al sz ⟨m.a,m.g,L,m.e⟩ w':=by
 obtain ⟨v',X',g1,g2,g3⟩:=hL;exact ⟨_,uL h h3 h4 h5 h6 h7 g1 g2 g3 hl hok⟩
theorem zc {w0 w w':World}{b:Nat}{p:Pl}{al:Int}{sz:Nat}{v vL vR:Value}{K:List (aV × Value)}{vt:Value}{X:List (Se × Value)}{D:List Nat}{m:Ma}{L:List Ep}(h:BY w b p al sz v vL vR K vt X w0.heap.size D m) (h3:aa [] w0 w) (h4:∀ k∈dy b p.t v vt,w0.heap.size≤k) (h5:∀ k∈D,k < w.heap.size) (h6:qx sz al m) (h7:1≤sz) (hE:jS w0.heap.size w' p.e al L) (hN:Tn w0.heap.size [94,134] w w') (hok:hH L):cj w0 w (dy b p.t v vt) D b p al sz ⟨m.a,m.g,m.s,L⟩ w':=by
 obtain ⟨U,g2,g3,hT,hC⟩:=id hN;refine ⟨dy b p.t v vt,⟨v,vL,vR,K,vt,X,⟨h.g.keep g2 (fun i hi hm=>?_) hT (by decide) (by decide) (by decide),h.nl,h.t.keep g2 (fun i hi hm=>?_) hT (by decide) (by decide),hE⟩,rfl,Tn.low h3 hN (Nat.le_refl _),h4,fun k hk=>Nat.lt_of_lt_of_le (h5 k hk) g2.size,⟨h6.a0,h6.a1,h6.g,h6.sl,h6.so,hok,h6.z1,h6.l0,h6.l1⟩,h7⟩,⟨U,g2,?_,fun k hk hlt=>?_⟩,fun k hk=>.inl hk⟩
 ·obtain ⟨cur,t,mk,hh⟩:=hC i hm (h.g.lt i hi);have h8:=hT i hm _ _ _ hh;have h9:=h.g.typed i hi _ _ _ hh;simp at h8 h9
  rcases h8 with rfl | rfl <;> simp at h9
 ·obtain ⟨cur,t,mk,hh⟩:=hC i hm (h.t.lt i hi);have h8:=hT i hm _ _ _ hh;have h9:=h.t.typed i hi _ _ _ hh;simp at h8 h9
  rcases h8 with rfl | rfl <;> simp at h9
 ·intro k hk cur t mk hh;have:=hT k hk cur t mk hh
  simp at this
  rcases this with rfl | rfl <;> simp
 ·obtain ⟨cur,t,mk,hh⟩:=hC k hk hlt;have h8:=hT k hk _ _ _ hh;simp at h8
  exact .inr ⟨g3 k hk,cur,t,mk,hh,h8⟩
theorem Ck {w0 w:World}{b:Nat}{p:Pl}{al:Int}{sz:Nat}{v vL vR:Value}{K:List (aV × Value)}{vt:Value}{X:List (Se × Value)}{D:List Nat}{m:Ma}{a:Int}(h:BY w b p al sz v vL vR K vt X w0.heap.size D m) (h3:aa [] w0 w) (h4:∀ k∈dy b p.t v vt,w0.heap.size≤k) (h5:∀ k∈D,k < w.heap.size) (h6:qx sz al m) (h7:1≤sz) (ha:0≤a∧a≤1099511627776):cj w0 w (dy b p.t v vt) D b p al sz ⟨a,m.g,m.s,m.e⟩ (w.setCell ⟨b,0,none⟩ (.int .i64 a)):=by
 have g2:aa [b] w (w.setCell ⟨b,0,none⟩ (.int .i64 a)):=(aa.refl _ _).setCell (by simp) _
 have hT:aJ w [b] [84]:=fun k hk cur t' mk hh=>by
  simp at hk;subst hk;rw [h.g.at_] at hh;cases hh;simp
 have hb:w0.heap.size≤b:=h4 b (by simp [dy,bf]);refine ⟨dy b p.t v vt,⟨v,vL,vR,K,vt,X,⟨⟨heap_setCell_same w b 0 _ _ _ h.g.at_,ap g2 hT h.g.row (by decide),fun y hy=>ap g2 hT (h.g.own y hy) (by decide),h.g.com,ap g2 hT h.g.lvs (by decide),ap g2 hT h.g.rfs (by decide)⟩,h.nl,h.t.keep g2 (fun i hi hm=>?_) hT (by decide) (by decide),h.e.keep g2 hT (by decide) (by decide) (by decide)⟩,rfl,h3.trans g2 (fun i hi=>.inr (by simp at hi;omega)),h4,fun k hk=>Nat.lt_of_lt_of_le (h5 k hk) g2.size,⟨ha.1,ha.2,h6.g,h6.sl,h6.so,h6.e,h6.z1,h6.l0,h6.l1⟩,h7⟩,⟨[b],g2,?_,fun k hk _=>.inl (by simp at hk;subst hk;simp [dy,bf])⟩,fun k hk=>.inl hk⟩
 ·rw [List.mem_singleton] at hm;rw [hm] at hi;have:=h.t.typed _ hi _ _ _ h.g.at_
  simp at this
 ·intro k hk cur t mk hh;have:=hT k hk cur t mk hh
  simp at this
  subst this;simp
end Go.Proofs.YtgpnlidnbldiiaaGreat
