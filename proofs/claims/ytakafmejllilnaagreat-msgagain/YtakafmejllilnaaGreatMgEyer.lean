/-
  The eye: fields are read into a message.
-/
import Derived.Test.YtakafmejllilnaaGreatW1r
import Derived.Test.YtakafmejllilnaaGreatF12r
import Derived.Test.YtakafmejllilnaaGreatW0r
import Derived.Test.YtakafmejllilnaaGreatF7r
import Derived.Deep.RegionHeld3
set_option maxHeartbeats 4000000
set_option maxRecDepth 100000
set_option linter.unusedSimpArgs false
namespace Go.Proofs.YtakafmejllilnaaGreat
open Go.RowKit
structure iC (B:Nat) (w:World) (y:Mm):Prop where
 x:aL B w (.slice y.x.mo y.x.m y.x.mc) y.x.r.c
 v:eC B w (.slice y.vo y.D.length y.vc) y.D
 vx:∀ z∈y.D,aL B w (.slice z.x.mo z.x.m z.x.mc) z.x.r.c
 i:Sl w y.io y.i.length y.ic y.i
 ib:∀ k∈bO y.io,B≤k
 o:bi y.i
 r:bJ B w (.slice y.uo y.un y.uc) y.r.k
theorem iC.low {S:List Nat}{w w':World}{B:Nat}{y:Mm}(h:iC B w y) (hk:ab S w w') (hS:∀ k∈S,k < B):iC B w' y:=by
 refine ⟨bk h.x hk hS,bk h.v hk hS,fun z hz=>bk (h.vx z hz) hk hS,Sl.kept hk h.i (fun k hk' hm=>by have:=h.ib k hk';have:=hS k hm;omega),h.ib,h.o,?_⟩;obtain ⟨K,h1,h2,h3⟩:=h.r;exact ⟨K,bk h1 hk hS,fun x hx=>bk (h2 x hx) hk hS,h3⟩
structure iI (p:Nat) (F:List Nat) (B b:Nat) (w:World) (s:List Int × Int) (y:Mm):Prop where
 bx:Bx w b 36 (aX y)
 em:iC B w y
 rd:Rd w p F s.1 s.2
 lb:s.1.length≤1000000000
 hf:∀ k∈F,k < B
 hp:p < B
 hb:b < B
 hn:b ∉ p :: F
 le:B≤w.heap.size
def nZ (p:Nat) (F:List Nat) (B b:Nat) (w:World) (s:List Int × Int) (y:Mm) (f:Fd) (e:Ending) (w':World):Prop :=
 e=.returned (.tuple #[])∧∃ y',iI p F B b w' (gw f y.ms s).2 y'∧ab (b :: p :: F) w w'∧((gw f y.ms s).2.2=0→s.2=0→y'.ms=(gw f y.ms s).1)∧y'.k=y.k∧(f=.B∨f=.S→y'.D=y.D∧y'.vo=y.vo∧y'.vc=y.vc∧y'.io=y.io)
theorem Rd.nl {w:World}{p:Nat}{F:List Nat}{l:List Int}{e:Int}(h:Rd w p F l e):bi l∧(e≠0→l=[]):=by
 obtain ⟨ao,c,h1,h2,h3,h4,h5,h6⟩:=h;exact ⟨h5,h6⟩
theorem eu {α:Type}{rd:gh α}{ok:α→Prop}{b:α→List Int}(h:eQ rd ok b) (s:List Int × Int) (ho:bi s.1) (hn:s.2≠0→s.1=[]):(rd s).2.1.length≤s.1.length:=by
 by_cases he:s.2=0
 ·have e:s=(s.1,0):=Prod.ext rfl he;by_cases h2:(rd s).2.2=0
  ·have h3:=h.bwd s.1 (rd s).1 (rd s).2.1 ho (by rw [← e];exact Prod.ext rfl (Prod.ext rfl h2));rw [h3.2];simp
  ·rw [e] at h2 ⊢;rw [h.nil _ h2];simp
 ·have e:s=([],s.2):=Prod.ext (hn he) rfl;rw [e,h.bad _ he];simp
theorem mg {α:Type}{rd:gh α}{ok:α→Prop}{b:α→List Int}(h:eQ rd ok b) (s:List Int × Int) (hn:s.2≠0→s.1=[]) (hz:(rd s).2.2=0):s.2=0:=by
 by_cases he:s.2=0
 ·exact he
 ·have e:s=([],s.2):=Prod.ext (hn he) rfl;rw [e,h.bad _ he] at hz;exact absurd hz he
theorem iI.left {p:Nat}{F:List Nat}{B b:Nat}{w:World}{s:List Int × Int}{y:Mm}(h:iI p F B b w s y) (f:Fd) (m:Ms):(gw f m s).2.1.length≤1000000000 :=
 Nat.le_trans (eu (l7 f m) s h.rd.nl.1 h.rd.nl.2) h.lb
theorem iI.kept {p:Nat}{F:List Nat}{B b:Nat}{w w':World}{s:List Int × Int}{y:Mm}(h:iI p F B b w s y) (k:ab [] w w'):iI p F B b w' s y :=
 ⟨h.bx.kept k (by simp),h.em.low k (by simp),Rd.kept k h.rd (by simp) (by simp),h.lb,h.hf,h.hp,h.hb,h.hn,Nat.le_trans h.le k.size⟩
theorem rk (p:Nat) (F:List Nat) (B b:Nat) (w:World) (s:List Int × Int) (y:Mm) (hA:iI p F B b w s y) :
 Calls Tryz.prog 168 #[.agg #[.pointer (some ⟨p,0,none⟩),.pointer (some ⟨b,0,none⟩)]] w (nZ p F B b w s y .B):=by
 have k0:=ct w 104 [.pointer (some ⟨p,0,none⟩),.pointer (some ⟨b,0,none⟩)];have k1:=k0.drew;have hP:=Bx.new w 104 [.pointer (some ⟨p,0,none⟩),.pointer (some ⟨b,0,none⟩)];have q0:=hP.cell 0 rfl;have q1:=hP.cell 1 rfl;have hA1:=hA.kept k1;have cN:=aa (cz _ p F s.1 s.2 hA1.rd);have HA1:=aa hA1;have HK1:=aa k1;have HpB:Hid (w.heap.size≠p):=by show _≠_;have:=hA.hp;have:=hA.le;omega
 have HBw:=aa hA.le;clear k0 k1 hP hA1 hA;go_enter Tryz.func168,Tryz.ntmps168;go_upto_region 1 with fail
 refine wp_region_held_drew (S:=fun w9=>w9.cell? ⟨w.heap.size,0,none⟩=some (.pointer (some ⟨p,0,none⟩))∧w9.cell? ⟨w.heap.size,1,none⟩=some (.pointer (some ⟨b,0,none⟩))) (by kernel_rfl) ⟨q0,q1⟩ (fun hHeld=>?_);refine ay [0,1,2,3] (by rfl) (by kernel_rfl) (fun _ _ _ _ _ h=>h) hHeld ?_
 iterate 4
  refine yk ?_ rfl (Or.inl ⟨by rfl,?_⟩) ?_;rotate_left
  ·intro w9 hSw;obtain ⟨m0,m1⟩:=hSw;go_simp;(try with_reducible rfl)
  try simp only [sT,Act.put]
 refine ax ?_;simp only [ai,sT];refine cd 4 (by kernel_rfl) rfl (fun K0 hK0=>?_);go_simp;refine cN.out.mono ?_;clear cN;rintro _ w2 ⟨rfl,hR2,hk2⟩;have HC:=aa (And.intro (hk2.cell q0 (by simp;exact HpB.out)) (hk2.cell q1 (by simp;exact HpB.out)));have hnb:b≠p:=fun h=>HA1.out.hn (by rw [h];exact List.mem_cons_self ..);have hB2:=HA1.out.bx.kept hk2 (by simpa using hnb);have e3:=hB2.cell 3 rfl;have f3:=hB2.froz 3;have HB2:=aa hB2;have HM2:=aa (HA1.out.em.low hk2 (by intro k hk;simp at hk;subst hk;exact HA1.out.hp));have HR2:=aa hR2;have HK2:=aa ((HK1.out.mono (by simp)).trans hk2 (S:=p :: F) (by simp));have HS2:=aa hk2.size;clear hR2 hk2 hnb hB2;go_wp2_with fail
 refine hK0.out _ _ HC.out (fun hHeld=>?_);clear hK0 K0;try simp only [sT,Act.put]
 refine ay [5,6] (by rfl) (by kernel_rfl) (fun _ _ _ _ _ h=>h) hHeld ?_
 iterate 2
  refine yk ?_ rfl (Or.inl ⟨by rfl,?_⟩) ?_;rotate_left
  ·intro w9 hSw;obtain ⟨m0,m1⟩:=hSw;go_simp;(try with_reducible rfl)
  try simp only [sT,Act.put]
 refine ax ?_;simp only [ai,sT];refine cd 7 (by kernel_rfl) rfl (fun K0 hK0=>?_);go_simp;have hB3:=HB2.out.set 3 (.int .i64 (an s.2 s.1).2.1);have hk3:ab [b] w2 (w2.setCell ⟨b,3,none⟩ (.int .i64 (an s.2 s.1).2.1)):=aj w2 b 3 _;have HC3:=aa (And.intro (hk3.cell HC.out.1 (by have:=HA1.out.hb;have:=HBw.out;simp;omega)) (hk3.cell HC.out.2 (by have:=HA1.out.hb;have:=HBw.out;simp;omega)))
 have H3:Hid (nZ p F B b w s y .B (.returned (.tuple #[])) (w2.setCell ⟨b,3,none⟩ (.int .i64 (an s.2 s.1).2.1))):=by
  refine ⟨rfl,{ y with b:=(an s.2 s.1).2.1 },⟨hB3,?_,?_,HA1.out.left .B y.ms,HA1.out.hf,HA1.out.hp,HA1.out.hb,HA1.out.hn,?_⟩,?_,?_,rfl,fun _=>⟨rfl,rfl,rfl,rfl⟩⟩
  ·have h:=HM2.out.low hk3 (by simpa using HA1.out.hb);exact ⟨h.x,h.v,h.vx,h.i,h.ib,h.o,h.r⟩
  ·exact Rd.kept hk3 HR2.out (fun h=>HA1.out.hn (by simp at h;rw [← h];exact List.mem_cons_self ..)) (fun k hk h=>HA1.out.hn (by simp at h;rw [← h];exact List.mem_cons_of_mem _ hk))
  ·have h1:=hk3.size;have h2:=HS2.out;have h3:=HA1.out.le;omega
  ·exact (HK2.out.mono (fun k hk=>.inl (List.mem_cons_of_mem _ hk))).trans hk3 (by simp)
  ·intro h1 h2;show (⟨_,_,_,_,_,_,_,_,_,_,_⟩:Ms)=_;rfl
 clear hB3 hk3;refine hK0.out _ _ HC3.out (fun hHeld=>?_);clear hK0 K0;refine wpAnyH_done (by kernel_rfl) ?_ _;clear hHeld;go_wp2_with fail
 go_returns
 exact H3.out
theorem rQ (p:Nat) (F:List Nat) (B b:Nat) (w:World) (s:List Int × Int) (y:Mm) (hA:iI p F B b w s y) :
 Calls Tryz.prog 171 #[.agg #[.pointer (some ⟨p,0,none⟩),.pointer (some ⟨b,0,none⟩)]] w (nZ p F B b w s y .S):=by
 have k0:=ct w 104 [.pointer (some ⟨p,0,none⟩),.pointer (some ⟨b,0,none⟩)];have k1:=k0.drew;have hP:=Bx.new w 104 [.pointer (some ⟨p,0,none⟩),.pointer (some ⟨b,0,none⟩)];have q0:=hP.cell 0 rfl;have q1:=hP.cell 1 rfl;have hA1:=hA.kept k1;have cN:=aa (cz _ p F s.1 s.2 hA1.rd);have HA1:=aa hA1;have HK1:=aa k1;have HpB:Hid (w.heap.size≠p):=by show _≠_;have:=hA.hp;have:=hA.le;omega
 have HBw:=aa hA.le;clear k0 k1 hP hA1 hA;go_enter Tryz.func171,Tryz.ntmps171;go_upto_region 1 with fail
 refine wp_region_held_drew (S:=fun w9=>w9.cell? ⟨w.heap.size,0,none⟩=some (.pointer (some ⟨p,0,none⟩))∧w9.cell? ⟨w.heap.size,1,none⟩=some (.pointer (some ⟨b,0,none⟩))) (by kernel_rfl) ⟨q0,q1⟩ (fun hHeld=>?_);refine ay [0,1,2,3] (by rfl) (by kernel_rfl) (fun _ _ _ _ _ h=>h) hHeld ?_
 iterate 4
  refine yk ?_ rfl (Or.inl ⟨by rfl,?_⟩) ?_;rotate_left
  ·intro w9 hSw;obtain ⟨m0,m1⟩:=hSw;go_simp;(try with_reducible rfl)
  try simp only [sT,Act.put]
 refine ax ?_;simp only [ai,sT];refine cd 4 (by kernel_rfl) rfl (fun K0 hK0=>?_);go_simp;refine cN.out.mono ?_;clear cN;rintro _ w2 ⟨rfl,hR2,hk2⟩;have HC:=aa (And.intro (hk2.cell q0 (by simp;exact HpB.out)) (hk2.cell q1 (by simp;exact HpB.out)));have hnb:b≠p:=fun h=>HA1.out.hn (by rw [h];exact List.mem_cons_self ..);have hB2:=HA1.out.bx.kept hk2 (by simpa using hnb);have e3:=hB2.cell 4 rfl;have f3:=hB2.froz 4;have HB2:=aa hB2;have HM2:=aa (HA1.out.em.low hk2 (by intro k hk;simp at hk;subst hk;exact HA1.out.hp));have HR2:=aa hR2;have HK2:=aa ((HK1.out.mono (by simp)).trans hk2 (S:=p :: F) (by simp));have HS2:=aa hk2.size;clear hR2 hk2 hnb hB2;go_wp2_with fail
 refine hK0.out _ _ HC.out (fun hHeld=>?_);clear hK0 K0;try simp only [sT,Act.put]
 refine ay [5,6] (by rfl) (by kernel_rfl) (fun _ _ _ _ _ h=>h) hHeld ?_
 iterate 2
  refine yk ?_ rfl (Or.inl ⟨by rfl,?_⟩) ?_;rotate_left
  ·intro w9 hSw;obtain ⟨m0,m1⟩:=hSw;go_simp;(try with_reducible rfl)
  try simp only [sT,Act.put]
 refine ax ?_;simp only [ai,sT];refine cd 7 (by kernel_rfl) rfl (fun K0 hK0=>?_);go_simp;have hB3:=HB2.out.set 4 (.int .i64 (an s.2 s.1).2.1);have hk3:ab [b] w2 (w2.setCell ⟨b,4,none⟩ (.int .i64 (an s.2 s.1).2.1)):=aj w2 b 4 _;have HC3:=aa (And.intro (hk3.cell HC.out.1 (by have:=HA1.out.hb;have:=HBw.out;simp;omega)) (hk3.cell HC.out.2 (by have:=HA1.out.hb;have:=HBw.out;simp;omega)))
 have H3:Hid (nZ p F B b w s y .S (.returned (.tuple #[])) (w2.setCell ⟨b,4,none⟩ (.int .i64 (an s.2 s.1).2.1))):=by
  refine ⟨rfl,{ y with s:=(an s.2 s.1).2.1 },⟨hB3,?_,?_,HA1.out.left .S y.ms,HA1.out.hf,HA1.out.hp,HA1.out.hb,HA1.out.hn,?_⟩,?_,?_,rfl,fun _=>⟨rfl,rfl,rfl,rfl⟩⟩
  ·have h:=HM2.out.low hk3 (by simpa using HA1.out.hb);exact ⟨h.x,h.v,h.vx,h.i,h.ib,h.o,h.r⟩
  ·exact Rd.kept hk3 HR2.out (fun h=>HA1.out.hn (by simp at h;rw [← h];exact List.mem_cons_self ..)) (fun k hk h=>HA1.out.hn (by simp at h;rw [← h];exact List.mem_cons_of_mem _ hk))
  ·have h1:=hk3.size;have h2:=HS2.out;have h3:=HA1.out.le;omega
  ·exact (HK2.out.mono (fun k hk=>.inl (List.mem_cons_of_mem _ hk))).trans hk3 (by simp)
  ·intro h1 h2;show (⟨_,_,_,_,_,_,_,_,_,_,_⟩:Ms)=_;rfl
 clear hB3 hk3;refine hK0.out _ _ HC3.out (fun hHeld=>?_);clear hK0 K0;refine wpAnyH_done (by kernel_rfl) ?_ _;clear hHeld;go_wp2_with fail
 go_returns
 exact H3.out
theorem r3 (p:Nat) (F:List Nat) (B b:Nat) (w:World) (s:List Int × Int) (y:Mm) (hA:iI p F B b w s y) :
 Calls Tryz.prog 172 #[.agg #[.pointer (some ⟨p,0,none⟩),.pointer (some ⟨b,0,none⟩)]] w (nZ p F B b w s y .T):=by
 have k0:=ct w 104 [.pointer (some ⟨p,0,none⟩),.pointer (some ⟨b,0,none⟩)];have k1:=k0.drew;have hP:=Bx.new w 104 [.pointer (some ⟨p,0,none⟩),.pointer (some ⟨b,0,none⟩)];have q0:=hP.cell 0 rfl;have q1:=hP.cell 1 rfl;have hA1:=hA.kept k1;have cN:=aa (cz _ p F s.1 s.2 hA1.rd);have HA1:=aa hA1;have HK1:=aa k1;have HpB:Hid (w.heap.size≠p):=by show _≠_;have:=hA.hp;have:=hA.le;omega
 have HBw:=aa hA.le;clear k0 k1 hP hA1 hA;go_enter Tryz.func172,Tryz.ntmps172;go_upto_region 1 with fail
 refine wp_region_held_drew (S:=fun w9=>w9.cell? ⟨w.heap.size,0,none⟩=some (.pointer (some ⟨p,0,none⟩))∧w9.cell? ⟨w.heap.size,1,none⟩=some (.pointer (some ⟨b,0,none⟩))) (by kernel_rfl) ⟨q0,q1⟩ (fun hHeld=>?_);refine ay [0,1,2,3] (by rfl) (by kernel_rfl) (fun _ _ _ _ _ h=>h) hHeld ?_
 iterate 4
  refine yk ?_ rfl (Or.inl ⟨by rfl,?_⟩) ?_;rotate_left
  ·intro w9 hSw;obtain ⟨m0,m1⟩:=hSw;go_simp;(try with_reducible rfl)
  try simp only [sT,Act.put]
 refine ax ?_;simp only [ai,sT];refine cd 4 (by kernel_rfl) rfl (fun K0 hK0=>?_);go_simp;refine cN.out.mono ?_;clear cN;rintro _ w2 ⟨rfl,hR2,hk2⟩;have HC:=aa (And.intro (hk2.cell q0 (by simp;exact HpB.out)) (hk2.cell q1 (by simp;exact HpB.out)));have hnb:b≠p:=fun h=>HA1.out.hn (by rw [h];exact List.mem_cons_self ..);have hB2:=HA1.out.bx.kept hk2 (by simpa using hnb);have e3:=hB2.cell 5 rfl;have f3:=hB2.froz 5;have HB2:=aa hB2;have HM2:=aa (HA1.out.em.low hk2 (by intro k hk;simp at hk;subst hk;exact HA1.out.hp));have HR2:=aa hR2;have HK2:=aa ((HK1.out.mono (by simp)).trans hk2 (S:=p :: F) (by simp));have HS2:=aa hk2.size;clear hR2 hk2 hnb hB2;go_wp2_with fail
 refine hK0.out _ _ HC.out (fun hHeld=>?_);clear hK0 K0;try simp only [sT,Act.put]
 refine ay [5,6] (by rfl) (by kernel_rfl) (fun _ _ _ _ _ h=>h) hHeld ?_
 iterate 2
  refine yk ?_ rfl (Or.inl ⟨by rfl,?_⟩) ?_;rotate_left
  ·intro w9 hSw;obtain ⟨m0,m1⟩:=hSw;go_simp;(try with_reducible rfl)
  try simp only [sT,Act.put]
 refine ax ?_;simp only [ai,sT];refine cd 7 (by kernel_rfl) rfl (fun K0 hK0=>?_);go_simp;have hB3:=HB2.out.set 5 (.int .i64 (an s.2 s.1).2.1);have hk3:ab [b] w2 (w2.setCell ⟨b,5,none⟩ (.int .i64 (an s.2 s.1).2.1)):=aj w2 b 5 _;have HC3:=aa (And.intro (hk3.cell HC.out.1 (by have:=HA1.out.hb;have:=HBw.out;simp;omega)) (hk3.cell HC.out.2 (by have:=HA1.out.hb;have:=HBw.out;simp;omega)))
 have H3:Hid (nZ p F B b w s y .T (.returned (.tuple #[])) (w2.setCell ⟨b,5,none⟩ (.int .i64 (an s.2 s.1).2.1))):=by
  refine ⟨rfl,{ y with m:=(an s.2 s.1).2.1 },⟨hB3,?_,?_,HA1.out.left .T y.ms,HA1.out.hf,HA1.out.hp,HA1.out.hb,HA1.out.hn,?_⟩,?_,?_,rfl,fun _=>⟨rfl,rfl,rfl,rfl⟩⟩
  ·have h:=HM2.out.low hk3 (by simpa using HA1.out.hb);exact ⟨h.x,h.v,h.vx,h.i,h.ib,h.o,h.r⟩
  ·exact Rd.kept hk3 HR2.out (fun h=>HA1.out.hn (by simp at h;rw [← h];exact List.mem_cons_self ..)) (fun k hk h=>HA1.out.hn (by simp at h;rw [← h];exact List.mem_cons_of_mem _ hk))
  ·have h1:=hk3.size;have h2:=HS2.out;have h3:=HA1.out.le;omega
  ·exact (HK2.out.mono (fun k hk=>.inl (List.mem_cons_of_mem _ hk))).trans hk3 (by simp)
  ·intro h1 h2;show (⟨_,_,_,_,_,_,_,_,_,_,_⟩:Ms)=_;rfl
 clear hB3 hk3;refine hK0.out _ _ HC3.out (fun hHeld=>?_);clear hK0 K0;refine wpAnyH_done (by kernel_rfl) ?_ _;clear hHeld;go_wp2_with fail
 go_returns
 exact H3.out
theorem rV (p:Nat) (F:List Nat) (B b:Nat) (w:World) (s:List Int × Int) (y:Mm) (hA:iI p F B b w s y) :
 Calls Tryz.prog 170 #[.agg #[.pointer (some ⟨p,0,none⟩),.pointer (some ⟨b,0,none⟩)]] w (nZ p F B b w s y .N):=by
 have k0:=ct w 104 [.pointer (some ⟨p,0,none⟩),.pointer (some ⟨b,0,none⟩)];have k1:=k0.drew;have hP:=Bx.new w 104 [.pointer (some ⟨p,0,none⟩),.pointer (some ⟨b,0,none⟩)];have q0:=hP.cell 0 rfl;have q1:=hP.cell 1 rfl;have hA1:=hA.kept k1;have cN:=aa (cz _ p F s.1 s.2 hA1.rd);have HA1:=aa hA1;have HK1:=aa k1;have HpB:Hid (w.heap.size≠p):=by show _≠_;have:=hA.hp;have:=hA.le;omega
 have HBw:=aa hA.le;clear k0 k1 hP hA1 hA;go_enter Tryz.func170,Tryz.ntmps170;go_upto_region 1 with fail
 refine wp_region_held_drew (S:=fun w9=>w9.cell? ⟨w.heap.size,0,none⟩=some (.pointer (some ⟨p,0,none⟩))∧w9.cell? ⟨w.heap.size,1,none⟩=some (.pointer (some ⟨b,0,none⟩))) (by kernel_rfl) ⟨q0,q1⟩ (fun hHeld=>?_);refine ay [0,1,2,3] (by rfl) (by kernel_rfl) (fun _ _ _ _ _ h=>h) hHeld ?_
 iterate 4
  refine yk ?_ rfl (Or.inl ⟨by rfl,?_⟩) ?_;rotate_left
  ·intro w9 hSw;obtain ⟨m0,m1⟩:=hSw;go_simp;(try with_reducible rfl)
  try simp only [sT,Act.put]
 refine ax ?_;simp only [ai,sT];refine cd 4 (by kernel_rfl) rfl (fun K0 hK0=>?_);go_simp;refine cN.out.mono ?_;clear cN;rintro _ w2 ⟨rfl,hR2,hk2⟩;have HC:=aa (And.intro (hk2.cell q0 (by simp;exact HpB.out)) (hk2.cell q1 (by simp;exact HpB.out)));have hnb:b≠p:=fun h=>HA1.out.hn (by rw [h];exact List.mem_cons_self ..);have hB2:=HA1.out.bx.kept hk2 (by simpa using hnb);have e3:=hB2.cell 19 rfl;have f3:=hB2.froz 19;have HB2:=aa hB2;have HM2:=aa (HA1.out.em.low hk2 (by intro k hk;simp at hk;subst hk;exact HA1.out.hp));have HR2:=aa hR2;have HK2:=aa ((HK1.out.mono (by simp)).trans hk2 (S:=p :: F) (by simp));have HS2:=aa hk2.size;clear hR2 hk2 hnb hB2;go_wp2_with fail
 refine hK0.out _ _ HC.out (fun hHeld=>?_);clear hK0 K0;try simp only [sT,Act.put]
 refine ay [5,6] (by rfl) (by kernel_rfl) (fun _ _ _ _ _ h=>h) hHeld ?_
 iterate 2
  refine yk ?_ rfl (Or.inl ⟨by rfl,?_⟩) ?_;rotate_left
  ·intro w9 hSw;obtain ⟨m0,m1⟩:=hSw;go_simp;(try with_reducible rfl)
  try simp only [sT,Act.put]
 refine ax ?_;simp only [ai,sT];refine cd 7 (by kernel_rfl) rfl (fun K0 hK0=>?_);go_simp;have hB3:=HB2.out.set 19 (.int .i64 (an s.2 s.1).2.1);have hk3:ab [b] w2 (w2.setCell ⟨b,19,none⟩ (.int .i64 (an s.2 s.1).2.1)):=aj w2 b 19 _;have HC3:=aa (And.intro (hk3.cell HC.out.1 (by have:=HA1.out.hb;have:=HBw.out;simp;omega)) (hk3.cell HC.out.2 (by have:=HA1.out.hb;have:=HBw.out;simp;omega)))
 have H3:Hid (nZ p F B b w s y .N (.returned (.tuple #[])) (w2.setCell ⟨b,19,none⟩ (.int .i64 (an s.2 s.1).2.1))):=by
  refine ⟨rfl,{ y with n:=(an s.2 s.1).2.1 },⟨hB3,?_,?_,HA1.out.left .N y.ms,HA1.out.hf,HA1.out.hp,HA1.out.hb,HA1.out.hn,?_⟩,?_,?_,rfl,fun _=>⟨rfl,rfl,rfl,rfl⟩⟩
  ·have h:=HM2.out.low hk3 (by simpa using HA1.out.hb);exact ⟨h.x,h.v,h.vx,h.i,h.ib,h.o,h.r⟩
  ·exact Rd.kept hk3 HR2.out (fun h=>HA1.out.hn (by simp at h;rw [← h];exact List.mem_cons_self ..)) (fun k hk h=>HA1.out.hn (by simp at h;rw [← h];exact List.mem_cons_of_mem _ hk))
  ·have h1:=hk3.size;have h2:=HS2.out;have h3:=HA1.out.le;omega
  ·exact (HK2.out.mono (fun k hk=>.inl (List.mem_cons_of_mem _ hk))).trans hk3 (by simp)
  ·intro h1 h2;show (⟨_,_,_,_,_,_,_,_,_,_,_⟩:Ms)=_;rfl
 clear hB3 hk3;refine hK0.out _ _ HC3.out (fun hHeld=>?_);clear hK0 K0;refine wpAnyH_done (by kernel_rfl) ?_ _;clear hHeld;go_wp2_with fail
 go_returns
 exact H3.out
theorem fh {ops:Array Oper}{o:Oper}{a:Act}{w:World}{K:Act→World→Prop}{Q:Exit→Act→World→Prop}{E:Prop}(hg:o.guard=none) (h:Oper.wp Tryz.prog o a w K Q) :
 if Region.wanted o (yielded ops a.tmps)=true then Oper.wp Tryz.prog o a w K Q else E:=by
 have hw:Region.wanted o (yielded ops a.tmps)=true:=by simp [Region.wanted,hg]
 rw [if_pos hw];exact h
theorem im {ops:Array Oper}{a:Act}{w:World}{K:Act→World→Prop}{Q:Exit→Act→World→Prop}{E:Prop}{d:Option Tmp}{x y:Operand}{T ty T0:TypeId}{ps:String}{af:Array Edge}
 {b o:Nat}{pre old post ds:List Value}(hc:Bx w b T0 (pre++(old++post))) (ho:o=pre.length) (hl:old.length=ds.length) (h1:∀ v∈ds,v.oneCell'=true) (hT:aq Tryz.prog T ds.length)
 (hx:a.eval x=.pointer (some ⟨b,o,none⟩)) (hy:a.eval y=.agg ds.toArray) (h:∀ w',Hid (Bx w' b T0 (pre++(ds++post)))→Hid (ab [b] w w')→K (a.put d undef) w') :
 if Region.wanted (⟨d,.store T x y,ty,ps,af,none⟩:Oper) (yielded ops a.tmps)=true then Oper.wp Tryz.prog ⟨d,.store T x y,ty,ps,af,none⟩ a w K Q else E:=by
 subst ho;obtain ⟨D,hu,hd,hi⟩:=hT;exact fh rfl (wp_store_mid _ x y rfl b pre.length ds.toArray hx hy (by rw [List.size_toArray,← hl];exact hc.thereM) (by rw [List.size_toArray];exact hi) (all_oneCell_toArray h1) (h _ (aa (hc.mid hl)) (dm (by simp) _ _ (ab.refl _ _))))
theorem ey {p:Nat}{F:List Nat}{B b:Nat}{w w2 w3:World}{s s':List Int × Int}{y y':Mm}(hA:iI p F B b w s y) (hB:Bx w3 b 36 (aX y')) (hM:iC B w2 y') (hR:Rd w2 p F s'.1 s'.2) (hl:s'.1.length≤1000000000) (hk2:ab (p :: F) w w2) (hk3:ab [b] w2 w3):iI p F B b w3 s' y'∧ab (b :: p :: F) w w3:=by
 refine ⟨⟨hB,hM.low hk3 (by simpa using hA.hb),?_,hl,hA.hf,hA.hp,hA.hb,hA.hn,?_⟩,(hk2.mono (fun k hk=>.inl (List.mem_cons_of_mem _ hk))).trans hk3 (by simp)⟩
 ·exact Rd.kept hk3 hR (fun h=>hA.hn (by simp at h;rw [← h];exact List.mem_cons_self ..)) (fun k hk h=>hA.hn (by simp at h;rw [← h];exact List.mem_cons_of_mem _ hk))
 ·have h1:=hk3.size;have h2:=hk2.size;have h3:=hA.le;omega
theorem kJ {e most:Int}{l:List Int}(ho:bi l):bi (av e most l).2.1:=by
 unfold av;split
 ·exact (jx ho).1
 ·exact bq
theorem qP (p:Nat) (F:List Nat) (B b:Nat) (w:World) (s:List Int × Int) (y:Mm) (hA:iI p F B b w s y) :
 Calls Tryz.prog 169 #[.agg #[.pointer (some ⟨p,0,none⟩),.pointer (some ⟨b,0,none⟩)]] w (nZ p F B b w s y .I):=by
 have k0:=ct w 104 [.pointer (some ⟨p,0,none⟩),.pointer (some ⟨b,0,none⟩)];have k1:=k0.drew;have hP:=Bx.new w 104 [.pointer (some ⟨p,0,none⟩),.pointer (some ⟨b,0,none⟩)];have q0:=hP.cell 0 rfl;have q1:=hP.cell 1 rfl;have hA1:=hA.kept k1;have cN:=aa (oL _ p F s.1 s.2 524288 hA1.rd (by have:=hA.lb;omega));have HA:=aa hA;have HA1:=aa hA1;have HK1:=aa k1;have HpB:Hid (w.heap.size≠p):=by show _≠_;have:=hA.hp;have:=hA.le;omega
 have HBw:=aa hA.le;clear k0 k1 hP hA1 hA;go_enter Tryz.func169,Tryz.ntmps169;go_upto_region 1 with fail
 refine wp_region_held_drew (S:=fun w9=>w9.cell? ⟨w.heap.size,0,none⟩=some (.pointer (some ⟨p,0,none⟩))∧w9.cell? ⟨w.heap.size,1,none⟩=some (.pointer (some ⟨b,0,none⟩))) (by kernel_rfl) ⟨q0,q1⟩ (fun hHeld=>?_);refine ay [0,1,2,3] (by rfl) (by kernel_rfl) (fun _ _ _ _ _ h=>h) hHeld ?_
 iterate 4
  refine yk ?_ rfl (Or.inl ⟨by rfl,?_⟩) ?_;rotate_left
  ·intro w9 hSw;obtain ⟨m0,m1⟩:=hSw;go_simp;(try with_reducible rfl)
  try simp only [sT,Act.put]
 refine ax ?_;simp only [ai,sT];refine cd 4 (by kernel_rfl) rfl (fun K0 hK0=>?_);go_simp;refine cN.out.mono ?_;clear cN;rintro _ w2 ⟨a2,n2,c2,rfl,hS2,hb2,hR2,hk2⟩;have HC:=aa (And.intro (hk2.cell q0 (by simp;exact HpB.out)) (hk2.cell q1 (by simp;exact HpB.out)));have hnb:b≠p:=fun h=>HA1.out.hn (by rw [h];exact List.mem_cons_self ..);have hB2:=HA1.out.bx.kept hk2 (by simpa using hnb);have e3:=hB2.cell 18 rfl;have f3:=hB2.froz 18;have hn2:=hS2.1;have HB2:=aa hB2;have hM0:=HA1.out.em.low hk2 (by intro k hk;simp at hk;subst hk;exact HA1.out.hp)
 have HM2:Hid (iC B w2 { y with io:=a2,ic:=c2,i:=(av s.2 524288 s.1).2.1 }) :=
  ⟨hM0.x,hM0.v,hM0.vx,by show Sl w2 a2 _ c2 _;rw [hn2];exact hS2,fun k hk=>by have h1:=(hb2 k hk).1;have h2:=HK1.out.size;have h3:=HBw.out;omega,kJ HA1.out.rd.nl.1,hM0.r⟩
 have HR2:=aa hR2;have HK2:=aa ((HK1.out.mono (by simp)).trans hk2 (S:=p :: F) (by simp));have HN2:=aa hn2;clear hR2 hk2 hnb hB2 hM0 hS2 hb2 hn2;go_wp2_with fail
 refine hK0.out _ _ HC.out (fun hHeld=>?_);clear hK0 K0;try simp only [sT,Act.put]
 refine ay [5,6] (by rfl) (by kernel_rfl) (fun _ _ _ _ _ h=>h) hHeld ?_
 iterate 2
  refine yk ?_ rfl (Or.inl ⟨by rfl,?_⟩) ?_;rotate_left
  ·intro w9 hSw;obtain ⟨m0,m1⟩:=hSw;go_simp;(try with_reducible rfl)
  try simp only [sT,Act.put]
 refine ax ?_;simp only [ai,sT];refine cd 7 (by kernel_rfl) rfl (fun K0 hK0=>?_);go_simp;have hB3:=HB2.out.set 18 (.slice a2 n2 c2);rw [← HN2.out] at hB3;have hk3:ab [b] w2 (w2.setCell ⟨b,18,none⟩ (.slice a2 n2 c2)):=aj w2 b 18 _;have HC3:=aa (And.intro (hk3.cell HC.out.1 (by have:=HA1.out.hb;have:=HBw.out;simp;omega)) (hk3.cell HC.out.2 (by have:=HA1.out.hb;have:=HBw.out;simp;omega)))
 have H3:Hid (nZ p F B b w s y .I (.returned (.tuple #[])) (w2.setCell ⟨b,18,none⟩ (.slice a2 n2 c2))):=by
  rw [← HN2.out] at hk3 ⊢;have h:=ey HA.out (y':={ y with io:=a2,ic:=c2,i:=(av s.2 524288 s.1).2.1 }) hB3 HM2.out HR2.out (HA1.out.left .I y.ms) HK2.out hk3;exact ⟨rfl,_,h.1,h.2,fun _ _=>rfl,rfl,fun h=>by rcases h with h | h <;> cases h⟩
 clear hB3 hk3;refine hK0.out _ _ HC3.out (fun hHeld=>?_);clear hK0 K0;refine wpAnyH_done (by kernel_rfl) ?_ _;clear hHeld;go_wp2_with fail
 go_returns
 exact H3.out
theorem oZ (s:List Int × Int) (h:(mA s).2.2=0):eH s=(mA s).1:=if_pos h
theorem rD (s:List Int × Int) (h:(qA s).2.2=0):fb s=(qA s).1:=if_pos h
theorem se (p:Nat) (F:List Nat) (B b:Nat) (w:World) (s:List Int × Int) (y:Mm) (hA:iI p F B b w s y) :
 Calls Tryz.prog 173 #[.agg #[.pointer (some ⟨p,0,none⟩),.pointer (some ⟨b,0,none⟩)]] w (nZ p F B b w s y .V):=by
 have k0:=ct w 104 [.pointer (some ⟨p,0,none⟩),.pointer (some ⟨b,0,none⟩)];have k1:=k0.drew;have hP:=Bx.new w 104 [.pointer (some ⟨p,0,none⟩),.pointer (some ⟨b,0,none⟩)];have q0:=hP.cell 0 rfl;have q1:=hP.cell 1 rfl;have hA1:=hA.kept k1;have hAt:∀ m,lS p F ((w.alloc (.cells #[.pointer (some ⟨p,0,none⟩),.pointer (some ⟨b,0,none⟩)] 104)).drew) (p :: F) s m:=fun m=>⟨rfl,hA1.rd,fun k hk=>by have:=hA1.hf k hk;have:=hA1.le;omega⟩;have cN:=aa (j8 p F _ _ s 0 (hAt _));have HA:=aa hA;have HA1:=aa hA1;have HK1:=aa k1
 have HpB:Hid (w.heap.size ∉ p :: F):=fun h=>by
  rcases List.mem_cons.1 h with h | h
  ·have:=hA.hp;have:=hA.le;omega
  ·have:=hA.hf _ h;have:=hA.le;omega
 have HBw:=aa hA.le;clear k0 k1 hP hA1 hA hAt;go_enter Tryz.func173,Tryz.ntmps173;go_upto_region 1 with fail
 refine wp_region_held_drew (S:=fun w9=>w9.cell? ⟨w.heap.size,0,none⟩=some (.pointer (some ⟨p,0,none⟩))∧w9.cell? ⟨w.heap.size,1,none⟩=some (.pointer (some ⟨b,0,none⟩))) (by kernel_rfl) ⟨q0,q1⟩ (fun hHeld=>?_);refine ay [0,1,2,3] (by rfl) (by kernel_rfl) (fun _ _ _ _ _ h=>h) hHeld ?_
 iterate 4
  refine yk ?_ rfl (Or.inl ⟨by rfl,?_⟩) ?_;rotate_left
  ·intro w9 hSw;obtain ⟨m0,m1⟩:=hSw;go_simp;(try with_reducible rfl)
  try simp only [sT,Act.put]
 refine ax ?_;simp only [ai,sT];refine cd 4 (by kernel_rfl) rfl (fun K0 hK0=>?_);go_simp;refine cN.out.mono ?_;clear cN;rintro _ w2 ⟨v2,rfl,hO2,O2,⟨rfl,hR2,_⟩,hk2,_,_⟩;obtain ⟨vo,vn,vc,rfl⟩:=dC hO2;have HC:=aa (And.intro (hk2.cell q0 HpB.out) (hk2.cell q1 HpB.out));have hB2:=HA1.out.bx.kept hk2 HA1.out.hn
 have hlow:∀ k∈p :: F,k < B:=fun k hk=>by
  rcases List.mem_cons.1 hk with h | h
  ·rw [h];exact HA1.out.hp
  ·exact HA1.out.hf k h
 have hM0:=HA1.out.em.low hk2 hlow;rw [iX] at hB2;have HB2:=aa hB2;have HM2:Hid (iC B w2 { y with x:=⟨eH s,vo,vn,vc⟩ }):=⟨hO2.mono (by have:=HK1.out.size;have:=HBw.out;omega),hM0.v,hM0.vx,hM0.i,hM0.ib,hM0.o,hM0.r⟩;have HR2:=aa hR2;have HK2:=aa ((HK1.out.mono (by simp)).trans hk2 (S:=p :: F) (fun k hk=>.inl hk))
 have HQ:Hid ((gw .V y.ms s).2.2=0→Mm.ms { y with x:=⟨eH s,vo,vn,vc⟩ }=(gw .V y.ms s).1):=fun h=>by
  show ({ y.ms with v:=eH s }:Ms)={ y.ms with v:=(mA s).1 };rw [oZ s h]
 have HO0:=aa (gR ⟨eH s,vo,vn,vc⟩);have HT0:Hid (aq Tryz.prog 29 (bp ⟨eH s,vo,vn,vc⟩).length):=ar;clear hO2 hR2 hk2 hB2 hM0 hlow;go_wp2_with fail
 refine hK0.out _ _ HC.out (fun hHeld=>?_);clear hK0 K0;try simp only [sT,Act.put]
 refine ay [5,6] (by rfl) (by kernel_rfl) (fun _ _ _ _ _ h=>h) hHeld ?_
 iterate 2
  refine yk ?_ rfl (Or.inl ⟨by rfl,?_⟩) ?_;rotate_left
  ·intro w9 hSw;obtain ⟨m0,m1⟩:=hSw;go_simp;(try with_reducible rfl)
  try simp only [sT,Act.put]
 refine ax ?_;simp only [ai,sT];refine cd 7 (by kernel_rfl) rfl (fun K0 hK0=>?_);refine im (o:=6) (ds:=bp ⟨eH s,vo,vn,vc⟩) HB2.out rfl rfl HO0.out HT0.out rfl rfl fun w3 HB3 HK3=>?_;have H3:=aa (ey HA.out (y':={ y with x:=⟨eH s,vo,vn,vc⟩ }) (by rw [iX];exact HB3.out) HM2.out HR2.out (HA1.out.left .V y.ms) HK2.out HK3.out);have HC3:=aa (And.intro (HK3.out.cell HC.out.1 (by have:=HA1.out.hb;have:=HBw.out;simp;omega)) (HK3.out.cell HC.out.2 (by have:=HA1.out.hb;have:=HBw.out;simp;omega)));refine hK0.out _ _ HC3.out (fun hHeld=>?_);clear hK0 K0;refine wpAnyH_done (by kernel_rfl) ?_ _;clear hHeld;go_wp2_with fail
 go_returns
 exact ⟨rfl,_,H3.out.1,H3.out.2,fun h _=>HQ.out h,rfl,fun h=>by rcases h with h | h <;> cases h⟩
theorem rB (p:Nat) (F:List Nat) (B b:Nat) (w:World) (s:List Int × Int) (y:Mm) (hA:iI p F B b w s y) :
 Calls Tryz.prog 174 #[.agg #[.pointer (some ⟨p,0,none⟩),.pointer (some ⟨b,0,none⟩)]] w (nZ p F B b w s y .R):=by
 have k0:=ct w 104 [.pointer (some ⟨p,0,none⟩),.pointer (some ⟨b,0,none⟩)];have k1:=k0.drew;have hP:=Bx.new w 104 [.pointer (some ⟨p,0,none⟩),.pointer (some ⟨b,0,none⟩)];have q0:=hP.cell 0 rfl;have q1:=hP.cell 1 rfl;have hA1:=hA.kept k1;have hAt:∀ m,lS p F ((w.alloc (.cells #[.pointer (some ⟨p,0,none⟩),.pointer (some ⟨b,0,none⟩)] 104)).drew) (p :: F) s m:=fun m=>⟨rfl,hA1.rd,fun k hk=>by have:=hA1.hf k hk;have:=hA1.le;omega⟩;have cN:=aa (ny p F _ _ s 0 (hAt _));have HA:=aa hA;have HA1:=aa hA1;have HK1:=aa k1
 have HpB:Hid (w.heap.size ∉ p :: F):=fun h=>by
  rcases List.mem_cons.1 h with h | h
  ·have:=hA.hp;have:=hA.le;omega
  ·have:=hA.hf _ h;have:=hA.le;omega
 have HBw:=aa hA.le;clear k0 k1 hP hA1 hA hAt;go_enter Tryz.func174,Tryz.ntmps174;go_upto_region 1 with fail
 refine wp_region_held_drew (S:=fun w9=>w9.cell? ⟨w.heap.size,0,none⟩=some (.pointer (some ⟨p,0,none⟩))∧w9.cell? ⟨w.heap.size,1,none⟩=some (.pointer (some ⟨b,0,none⟩))) (by kernel_rfl) ⟨q0,q1⟩ (fun hHeld=>?_);refine ay [0,1,2,3] (by rfl) (by kernel_rfl) (fun _ _ _ _ _ h=>h) hHeld ?_
 iterate 4
  refine yk ?_ rfl (Or.inl ⟨by rfl,?_⟩) ?_;rotate_left
  ·intro w9 hSw;obtain ⟨m0,m1⟩:=hSw;go_simp;(try with_reducible rfl)
  try simp only [sT,Act.put]
 refine ax ?_;simp only [ai,sT];refine cd 4 (by kernel_rfl) rfl (fun K0 hK0=>?_);go_simp;refine cN.out.mono ?_;clear cN;rintro _ w2 ⟨v2,rfl,hO2,O2,⟨rfl,hR2,_⟩,hk2,_,_⟩;obtain ⟨vo,vn,vc,rfl⟩:=fA hO2;have HC:=aa (And.intro (hk2.cell q0 HpB.out) (hk2.cell q1 HpB.out));have hB2:=HA1.out.bx.kept hk2 HA1.out.hn
 have hlow:∀ k∈p :: F,k < B:=fun k hk=>by
  rcases List.mem_cons.1 hk with h | h
  ·rw [h];exact HA1.out.hp
  ·exact HA1.out.hf k h
 have hM0:=HA1.out.em.low hk2 hlow;rw [i2] at hB2;have HB2:=aa hB2;have HM2:Hid (iC B w2 { y with r:=fb s,uo:=vo,un:=vn,uc:=vc }):=⟨hM0.x,hM0.v,hM0.vx,hM0.i,hM0.ib,hM0.o,hO2.mono (by have:=HK1.out.size;have:=HBw.out;omega)⟩;have HR2:=aa hR2;have HK2:=aa ((HK1.out.mono (by simp)).trans hk2 (S:=p :: F) (fun k hk=>.inl hk))
 have HQ:Hid ((gw .R y.ms s).2.2=0→Mm.ms { y with r:=fb s,uo:=vo,un:=vn,uc:=vc }=(gw .R y.ms s).1):=fun h=>by
  show ({ y.ms with r:=fb s }:Ms)={ y.ms with r:=(qA s).1 };rw [rD s h]
 have HO0:=aa (aQ (fb s) (.slice vo vn vc) rfl);have HT0:Hid (aq Tryz.prog 34 (au (fb s) (.slice vo vn vc)).length):=am;clear hO2 hR2 hk2 hB2 hM0 hlow;go_wp2_with fail
 refine hK0.out _ _ HC.out (fun hHeld=>?_);clear hK0 K0;try simp only [sT,Act.put]
 refine ay [5,6] (by rfl) (by kernel_rfl) (fun _ _ _ _ _ h=>h) hHeld ?_
 iterate 2
  refine yk ?_ rfl (Or.inl ⟨by rfl,?_⟩) ?_;rotate_left
  ·intro w9 hSw;obtain ⟨m0,m1⟩:=hSw;go_simp;(try with_reducible rfl)
  try simp only [sT,Act.put]
 refine ax ?_;simp only [ai,sT];refine cd 7 (by kernel_rfl) rfl (fun K0 hK0=>?_);refine im (o:=20) (ds:=au (fb s) (.slice vo vn vc)) HB2.out rfl rfl HO0.out HT0.out rfl rfl fun w3 HB3 HK3=>?_;have H3:=aa (ey HA.out (y':={ y with r:=fb s,uo:=vo,un:=vn,uc:=vc }) (by rw [i2];exact HB3.out) HM2.out HR2.out (HA1.out.left .R y.ms) HK2.out HK3.out);have HC3:=aa (And.intro (HK3.out.cell HC.out.1 (by have:=HA1.out.hb;have:=HBw.out;simp;omega)) (HK3.out.cell HC.out.2 (by have:=HA1.out.hb;have:=HBw.out;simp;omega)));refine hK0.out _ _ HC3.out (fun hHeld=>?_);clear hK0 K0;refine wpAnyH_done (by kernel_rfl) ?_ _;clear hHeld;go_wp2_with fail
 go_returns
 exact ⟨rfl,_,H3.out.1,H3.out.2,fun h _=>HQ.out h,rfl,fun h=>by rcases h with h | h <;> cases h⟩
end Go.Proofs.YtakafmejllilnaaGreat
