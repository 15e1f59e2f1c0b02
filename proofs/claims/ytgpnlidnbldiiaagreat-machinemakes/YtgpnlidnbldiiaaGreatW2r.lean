/-
  Texts laid as one.
-/
import Derived.Test.YtgpnlidnbldiiaaGreatQ2r
import Derived.Test.YtgpnlidnbldiiaaGreatW1r
import Derived.Test.YtgpnlidnbldiiaaGreatMdLookr
import Derived.Test.YtgpnlidnbldiiaaGreatW3r
import Derived.Test.YtgpnlidnbldiiaaGreatMtLdr
import Derived.Test.YtgpnlidnbldiiaaGreatW10r
import Derived.Test.YtgpnlidnbldiiaaGreatW4r
import Derived.Test.YtgpnlidnbldiiaaGreatM20r
import Derived.Test.YtgpnlidnbldiiaaGreatW11r
import Derived.Test.YtgpnlidnbldiiaaGreatEdLoadr
import Derived.Test.YtgpnlidnbldiiaaGreatGrMoLr
set_option maxHeartbeats 32000000
set_option maxRecDepth 100000
set_option linter.unusedSimpArgs false
/-
 MachineApplies: the walk.
-/
namespace Go.Proofs.YtgpnlidnbldiiaaGreat
open Go.RowKit
noncomputable def kr (al:Int) (sz:Nat) (m:Ma) (D:List Rm):Ma:=D.foldl (fun m x=>lH al sz m x.r) m
theorem om {al:Int}{sz:Nat}{m:Ma}{D:List Rm}{i:Nat}(h:i < D.length):kr al sz m (D.take (i+1))=lH al sz (kr al sz m (D.take i)) D[i].r:=by
 unfold kr;rw [List.take_succ_eq_append_getElem h,List.foldl_append];rfl
structure BA (n:Nat) (m:Ma):Prop where
 a:m.a=n
 g:m.g.cs.length≤n
 e:m.e.length≤n+1
theorem uT (l:List Int):BA 0 (jj l):=⟨rfl,Nat.le_refl _,Nat.le_refl _⟩
theorem BA.step {n:Nat}{m:Ma}(h:BA n m) (hn:n < 1000) (al:Int) (sz:Nat) (r:Rq):BA (n+1) (lH al sz m r):=by
 have ha:=h.a;have hlt:m.a < 1099511627776:=by omega
 have h1:=(AL (al:=al) (sz:=sz) (m:=m) r).1;have h2:=Di (al:=al) (sz:=sz) (m:=m) r;have h3:=h.g;have h4:=h.e;exact ⟨by rw [DW hlt,ha];simp,by omega,by omega⟩
theorem vi (al:Int) (sz:Nat):∀ (D:List Rm) {m:Ma}{n:Nat},BA n m→n+D.length≤1000→BA (n+D.length) (kr al sz m D)
 | [],_,_,h,_=>h
 | x :: D,m,n,h,hn=>by
   have h1:=vi al sz D (h.step (by simp at hn;omega) al sz x.r) (by simp at hn;omega);rw [show n+(x :: D).length=n+1+D.length by simp;omega];exact h1
theorem kA {al:Int}{sz:Nat}{m:Ma}{n:Nat}(h:BA n m) {D:List Rm}{i:Nat}(hi:i≤D.length) (hn:n+D.length≤1000):BA (n+i) (kr al sz m (D.take i)):=by
 have h1:=vi al sz (D.take i) h (by simp;omega);rw [List.length_take,Nat.min_eq_left hi] at h1;exact h1
theorem t8 {w:World}{b o:Nat}{x:Rm}(h:qE w b o x):w.rangeAt b o (oH x):=by
 obtain ⟨c0,c1,c2,c3,c4,c5,c6,c7,c8,c9,c10⟩:=h;intro j y hj;match j,hj with
 | 0,hj=>cases hj;exact c0
 | 1,hj=>cases hj;exact c1
 | 2,hj=>cases hj;exact c2
 | 3,hj=>cases hj;exact c3
 | 4,hj=>cases hj;exact c4
 | 5,hj=>cases hj;exact c5
 | 6,hj=>cases hj;exact c6
 | 7,hj=>cases hj;exact c7
 | 8,hj=>cases hj;exact c8
 | 9,hj=>cases hj;exact c9
 | 10,hj=>cases hj;exact c10
 | j+11,hj=>simp [oH] at hj
def EO (W:World) (z:Pp) (al:Int) (sz:Nat) (m:Ma) (D:List Rm) (iv:Value) (wr:World):Prop:=∃ i:Nat,iv=.int .i64 (i:Int)∧i≤D.length∧Hid (qy W wr z al sz (kr al sz m (D.take i)) (kr al sz m (D.take i)) (.slice none 0 0))
theorem j9 {w:World}{cs:Array Value}{t:TypeId}{B e size n:Nat}{v:Value}{xs:List Value}(h:(w.alloc (.cells cs t)).ownsRow B e size v n xs) (ht:t≠e):w.ownsRow B e size v n xs:=by
 obtain ⟨h1,h2⟩:=h;refine ⟨h1,h2.imp id ?_⟩;rintro ⟨g,cap,cur,hv,hg,hh,r⟩;refine ⟨g,cap,cur,hv,hg,?_,r⟩;have hlt:=aq hh;rw [World.size_alloc] at hlt;by_cases hg2:g < w.heap.size
 ·rw [Below.heap_alloc _ _ _ hg2] at hh;exact hh
 ·obtain rfl:g=w.heap.size:=by omega
  rw [heap_alloc_new] at hh;cases hh
  exact absurd rfl ht
theorem vl.bare {w:World}{v0 v1 v2:Value}{M:List Nat}{G:Gr}(h:vl (w.alloc (.cells #[v0,v1,v2] 82)) w.heap.size M G):∃ K,bk 0 w v0 K∧gK 0 w K∧K.map Prod.fst=G.cs∧cf 0 w v1 G.ls∧fI 0 w v2 G.rs∧gQ G.ls v1∧M=bf w.heap.size v0:=by
 obtain ⟨v,vL,vR,K,hG,hn,rfl⟩:=h;have hat:=hG.at_;rw [heap_alloc_new] at hat;cases hat
 exact ⟨K,j9 hG.row (by decide),fun x hx=>j9 (hG.own x hx) (by decide),hG.com,j9 hG.lvs (by decide),j9 hG.rfs (by decide),hn,rfl⟩
theorem xL {W w2 w3:World}{F M:List Nat}{b c:Nat}{p q:Pl}{m:Ma}{cs:Array Value}{t:TypeId}(h1:ay W w2 F [] b p 2 3 m) (h2:aM (w2.alloc (.cells cs t)) w3 M F c q 2 3 m):qy W w3 ⟨b,p,c,q⟩ 2 3 m m (.slice none 0 0) :=
 Bn (h1.kept ((aa.refl _ _).alloc _)) h2
def yy (D:List Nat) (al sz:Int) (w:World) (r:Except Int Ma) (e:Ending) (w':World):Prop :=
 (∃ n,r=.error n∧e=.returned (.tuple #[.pointer none,.int .i64 n])∧aa [] w w') ∨
 ∃ m,r=.ok m∧∃ (b:Nat) (p:Pl) (M:List Nat),e=.returned (.tuple #[.pointer (some ⟨b,0,none⟩),.int .i64 0])∧aM w w' M D b p al sz.toNat m
theorem tC {w w1 w2 w3 w4:World}{D:List Nat}(hD:∀ k∈D,k < w.heap.size) {al a:Int}{sz pe pt:Nat}{L:List Ep}{S:List Se}{G:Gr}(h0:1≤al) (h1:al≤8) (ha0:0≤a) (ha1:a≤1099511627776) (hok:hH (dZ L a)) (hre:eO G) (hK1:aa [] w w1) {vt:Value}{X:List (Se × Value)}(hT:eH (fun k=>w1.heap.size≤k) w2 pt sz vt X S) (hK2:aa [] w1 w2) (hTv:∀ k∈aW pt vt,w1.heap.size≤k) (hs0:1≤sz) (hs1:sz≤16) (hsl:S.length≤sz) (hso:∀ x∈S,jZ x)
 {v0 v1 v2:Value}{K:List (aV × Value)}(hK3:aa [] w2 w3) (hr:bk 0 w3 v0 K) (ho:gK 0 w3 K) (hc:K.map Prod.fst=G.cs) (hls:cf 0 w3 v1 G.ls) (hrs:fI 0 w3 v2 G.rs) (hn:gQ G.ls v1) (hv:∀ k,v0.ownBlock=some k→w2.heap.size≤k) (hE:jS w.heap.size w4 pe al (dZ L a)) (hN:Tn w.heap.size [94,134] w3 w4) :
 ∃ M,aM w (w4.alloc (.cells #[.int .i64 a,v0,v1,v2,.pointer (some ⟨pt,0,none⟩),.pointer (some ⟨pe,0,none⟩)] 84)) M D w4.heap.size ⟨pe,pt,0⟩ al sz ⟨a,G,S,dZ L a⟩:=by
 have hK5:aa [] w4 (w4.alloc (.cells #[.int .i64 a,v0,v1,v2,.pointer (some ⟨pt,0,none⟩),.pointer (some ⟨pe,0,none⟩)] 84)):=(aa.refl _ _).alloc _;have z1:=hK1.size;have z2:=hK2.size;have z3:=hK3.size;have z4:=hN.size;have k3:aa [] w w3:=(hK1.trans hK2 (by simp)).trans hK3 (by simp);have k4:aa [] w w4:=Tn.low k3 hN (Nat.le_refl _);have hT3:=hT.kept hK3;refine ⟨dy w4.heap.size pt v0 vt,v0,v1,v2,K,vt,X,⟨⟨heap_alloc_new w4 _,hK5.ownsRow (hN.row hr (by decide)) (by simp),fun x hx=>hK5.ownsRow (hN.row (ho x hx) (by decide)) (by simp),hc,hK5.ownsRow (hN.row hls (by decide)) (by simp),hK5.ownsRow (hN.row hrs (by decide)) (by simp)⟩,hn,?_,hE.kept hK5⟩,rfl,k4.trans hK5 (by simp),fun k hk=>?_,fun k hk=>(by have:=hD k hk;rw [World.size_alloc];omega),⟨ha0,ha1,hre,hsl,hso,hok,hs1,h0,h1⟩,hs0⟩
 ·refine ⟨hK5.at (hN.at hT3.at_ (by decide)) (by simp),hK5.ownsRow (hN.row hT3.row (by decide)) (by simp),fun x hx=>?_,hT3.ses⟩;have hko0:=hT.own x hx;have hko:io (fun k=>w1.heap.size≤k∧k < w2.heap.size) w2 x.2 x.1.v.k:=⟨hko0.1,fun j hj=>⟨hko0.2 j hj,nD hko0 hj⟩⟩;obtain ⟨U,u1,u2,u3,u4⟩:=id hN;refine ((hko.kept hK3).stay2 (Q:=fun k=>k ∉ bf w4.heap.size v0∧k ∉ D) u1 (fun j cur hj hh=>⟨fun hm=>?_,fun hm=>?_,fun hm=>?_⟩) u3 (by decide)).kept hK5
  ·have:=u3 j hm _ _ _ hh
   simp at this
  ·rcases List.mem_cons.1 hm with rfl | hm
   ·omega
   ·have:=hv j (aw.1 hm);omega
  ·have:=hD j hm;omega
 ·rcases List.mem_append.1 hk with hk | hk
  ·rcases List.mem_cons.1 hk with rfl | hk
   ·omega
   ·have:=hv k (aw.1 hk);omega
  ·have:=hTv k hk;omega
theorem uC (w:World) (D:List Nat) (hD:∀ k∈D,k < w.heap.size) (al sz a:Int) (ao:Option Addr) (n c:Nat) (X:List (Ep × Value)) (hS:qB w ao n c X) (hn:n≤1000) (ao2:Option Addr) (n2 c2:Nat) (Y:List (Se × Value)) (hS2:vo w ao2 n2 c2 Y) (hok:∀ x∈Y.map Prod.fst,jZ x) (ao3:Option Addr) (n3 c3:Nat) (K:List (aV × Value)) (hS3:iC w ao3 n3 c3 K) (hn3:n3≤10000) (hsm:∀ x∈K,mg x.1) :
 Calls Tryz.prog 24 #[.int .i64 al,.int .i64 sz,.int .i64 a,.slice ao n c,.slice ao2 n2 c2,.slice ao3 n3 c3] w fun e w'=>yy D al sz w (lV al sz a (X.map Prod.fst) (Y.map Prod.fst) (K.map Prod.fst)) e w':=by
 have HD:=ah hD;have cE:=sR w al ao n c X _ hS rfl hn;have cT:=fun W (k:aa [] w W)=>sC W sz ao2 n2 c2 Y _ (hS2.kept k) rfl hok;have cG:=fun W (k:aa [] w W)=>tu W ao3 n3 c3 K (hS3.kept k) hn3 hsm;have HXl:Hid ((X.map Prod.fst).length≤1000):=by show _;rw [List.length_map,hS.1];exact hn
 have HOk:=ah hok;generalize X.map Prod.fst=L at *;generalize Y.map Prod.fst=S at *;generalize K.map Prod.fst=cs at *;obtain ⟨r,hr⟩:∃ r,r=lV al sz a L S cs:=⟨_,rfl⟩;rw [← hr];have HR:=ah hr;clear hS hS2 hS3 hn hok hn3 hsm hD hr;go_enter Tryz.func24,Tryz.ntmps24;go_wp2_with fail
 refine cE.mono ?_;rintro _ w1 (⟨hal,hL,pe,rfl,hE,hK1⟩ | ⟨hal,rfl,hK1⟩ | ⟨hal,hL,rfl,hK1⟩);rotate_left
 ·have HK1:=ah hK1;clear hK1 cE;(go_wp2_with fail);go_ret2
  exact .inl ⟨_,by rw [HR.out];unfold lV;rw [if_pos hal],rfl,HK1.out⟩
 ·have HK1:=ah hK1;clear hK1 cE;(go_wp2_with fail);go_ret2
  exact .inl ⟨_,by rw [HR.out];unfold lV;rw [if_neg (fun h=>h hal),if_pos hL],rfl,HK1.out⟩
 have cT1:=cT w1 hK1;have HE:=ah hE;have HK1:=ah hK1;have HL:=ah hL;have HAl:=ah hal;clear hE hK1 cE cT hL hal;go_wp2_with fail
 refine cT1.mono ?_;clear cT1;rintro _ w2 (⟨zn,pt,vt,X',rfl,hz,hSl,hLd,rfl,hT,hKT,hTv⟩ | ⟨hsz,rfl,hK2⟩ | ⟨hsz,hSl,rfl,hK2⟩);rotate_left
 ·have HK2:=ah (HK1.out.trans hK2 (by simp));clear hK2;(go_wp2_with fail);go_ret2
  exact .inl ⟨_,by rw [HR.out];unfold lV;rw [if_neg (fun h=>h HAl.out),if_neg (fun h=>h HL.out),if_pos hsz],rfl,HK2.out⟩
 ·have HK2:=ah (HK1.out.trans hK2 (by simp));clear hK2;(go_wp2_with fail);go_ret2
  exact .inl ⟨_,by rw [HR.out];unfold lV;rw [if_neg (fun h=>h HAl.out),if_neg (fun h=>h HL.out),if_neg (fun h=>h hsz),if_pos hSl],rfl,HK2.out⟩
 have HK2:=ah (HK1.out.trans hKT (by simp))
 have HRs:Hid (r=match bQ ba cs with | none=>.error 4 | some G=>if a < 0∨1099511627776 < a then .error 4 else .ok ⟨a,G,S,dZ L a⟩):=by
  show r=_;rw [HR.out];unfold lV;rw [if_neg (fun h=>h HAl.out),if_neg (fun h=>h HL.out),if_neg (fun h=>h hz),if_neg (fun h=>h ⟨by omega,hLd⟩)];rfl
 have HT:=ah hT;have HTv:=ah hTv;have HSl:=ah hSl;have HZ:=ah hz;have HKT:=ah hKT;have cG1:=cG w2 HK2.out;clear cG hT hKT hSl hLd hTv hz;go_wp2_with fail
 refine cG1.mono ?_;clear cG1;intro e3 w3 hL3;cases hG0:bQ ba cs with
 | none =>
   rw [hG0] at hL3;obtain ⟨rfl,hK3⟩:=hL3;have HK3:=ah (HK2.out.trans hK3 (by simp));have HR4:Hid (r=.error 4):=by show r=_;rw [HRs.out,hG0]
   clear hK3 hG0;(go_wp2_with fail);go_ret2
   exact .inl ⟨_,HR4.out,rfl,HK3.out.alloc _⟩
 | some G =>
   rw [hG0] at hL3;obtain ⟨a0,m0,c0,a1,m1,c1,a2,m2,c4,rfl,⟨M0,hM⟩,hK3,hv⟩:=hL3;have HRe:=ah (mV .void hG0);have HK3:=ah (HK2.out.trans hK3 (by simp));obtain ⟨K5,b1,b2,b3,b4,b5,b6,_⟩:=hM.bare;have hKW:aa [] w3 (w3.alloc (.cells #[.slice a0 m0 c0,.slice a1 m1 c1,.slice a2 m2 c4] 82)):=(aa.refl _ _).alloc _;obtain ⟨W3,hW3⟩:∃ W3,W3=w3.alloc (.cells #[.slice a0 m0 c0,.slice a1 m1 c1,.slice a2 m2 c4] 82):=⟨_,rfl⟩;have hat:W3.heap[w3.heap.size]?=some (.cells #[.slice a0 m0 c0,.slice a1 m1 c1,.slice a2 m2 c4] 82 (0,0)):=by rw [hW3];exact heap_alloc_new w3 _
   have HAt:=ah hat;clear hat;rw [← hW3] at hKW;replace hK3:=hK3.trans hKW (by simp);replace HK3:=ah (HK3.out.trans hKW (by simp));replace b1:bk 0 W3 _ K5:=hKW.ownsRow b1 (by simp);replace b2:gK 0 W3 K5:=fun x hx=>hKW.ownsRow (b2 x hx) (by simp);replace b4:cf 0 W3 _ G.ls:=hKW.ownsRow b4 (by simp);replace b5:fI 0 W3 _ G.rs:=hKW.ownsRow b5 (by simp);have HKg:=ah hK3;have HB:=ah (And.intro b1 (And.intro b2 (And.intro b3 (And.intro b4 (And.intro b5 (And.intro b6 hv))))));clear b1 b2 b3 b4 b5 b6 hv hM;by_cases ha:a < 0∨1099511627776 < a
   ·have HR4:Hid (r=.error 4):=by show r=_;rw [HRs.out,hG0];exact if_pos ha
    clear hG0 hK3 HRs HR;rw [hW3] at HK3;clear hW3;rcases ha with ha | ha
    ·(go_wp2_with fail);go_ret2
     exact .inl ⟨_,HR4.out,rfl,HK3.out⟩
    ·have ha':¬ a < 0:=by omega
     (go_wp2_with fail);go_ret2
     exact .inl ⟨_,HR4.out,rfl,HK3.out⟩
   ·have HR4:Hid (r=.ok ⟨a,G,S,dZ L a⟩):=by show r=_;rw [HRs.out,hG0];exact if_neg ha
    have ha0:¬ a < 0:=by omega
    have ha1:¬ 1099511627776 < a:=by omega
    have cC:=oy w.heap.size W3 pe al L (HE.out.kept (HKT.out.trans hK3 (by simp))) HL.out HXl.out HK3.out.size a;clear hG0 hK3 HRs HR ha;(go_wp2_with fail);rw [← hW3];clear hW3;refine cC.mono ?_;rintro _ w4 ⟨⟨v4,rfl⟩,hE4,hN4⟩;obtain ⟨M,hF⟩:=tC HD.out HAl.out.1 HAl.out.2 (by omega) (by omega) (kl HL.out a) HRe.out HK1.out HT.out HKT.out HTv.out (by have:=HZ.out;omega) (by have:=HZ.out;omega) HSl.out HOk.out HKg.out HB.out.1 HB.out.2.1 HB.out.2.2.1 HB.out.2.2.2.1 HB.out.2.2.2.2.1 HB.out.2.2.2.2.2.1 HB.out.2.2.2.2.2.2 hE4 hN4;have HF:=ah hF;have hat4:=hN4.at HAt.out (by decide);have q0:=ag (k:=0) hat4 rfl;have q1:=ag (k:=1) hat4 rfl;have q2:=ag (k:=2) hat4 rfl;clear hF hE4 hN4 cC hat4;(go_wp2_with fail);go_ret2
    exact .inr ⟨_,HR4.out,_,_,M,rfl,HF.out⟩
def k6 (N:Nat) (w:World):World:={ w with heap:=w.heap.extract 0 N }
theorem ci {N:Nat}{w:World}(h:N≤w.heap.size):(k6 N w).heap.size=N:=by
 show (w.heap.extract 0 N).size=N;rw [Array.size_extract];omega
theorem i8 {N k:Nat}{w:World}(h:k < N):(k6 N w).heap[k]?=w.heap[k]?:=by
 show (w.heap.extract 0 N)[k]?=_;rw [Array.getElem?_extract];by_cases hk:k < w.heap.size
 ·rw [if_pos (by omega),Nat.zero_add]
 ·rw [if_neg (by omega),Array.getElem?_eq_none (by omega)]
theorem gO {N:Nat}{w:World}(h:N≤w.heap.size):aa [] (k6 N w) w :=
 ⟨rfl,rfl,rfl,by rw [ci h];exact h,fun k hk _=>(i8 (by rw [ci h] at hk;exact hk)).symm⟩
theorem aa.cutR {S:List Nat}{N:Nat}{a w:World}(k:aa S a w) (h0:a.heap.size≤N) (h:N≤w.heap.size):aa S a (k6 N w) :=
 ⟨k.os,k.tape,k.output,by rw [ci h];exact h0,fun i hi hS=>by rw [i8 (by omega)];exact k.block i hi hS⟩
theorem aa.cut {S:List Nat}{N:Nat}{w w':World}(k:aa S w w') (h:N≤w.heap.size):aa (S.filter fun i=>decide (i < N)) (k6 N w) (k6 N w') :=
 ⟨k.os,k.tape,k.output,by rw [ci h,ci (Nat.le_trans h k.size)];exact Nat.le_refl _,fun i hi hS=>by
  rw [ci h] at hi;rw [i8 hi,i8 hi];exact k.block i (by omega) (fun hm=>hS (List.mem_filter.2 ⟨hm,by simpa using hi⟩))⟩
theorem ay.base {w0 w1 w:World}{F D:List Nat}{b:Nat}{p:Pl}{al:Int}{sz:Nat}{m:Ma}(h:ay w0 w F D b p al sz m) (k:aa [] w1 w) (hz:w1.heap.size=w0.heap.size):ay w1 w F D b p al sz m:=by
 obtain ⟨S,vt,X,h1,h2,h3,h4,h5,h6⟩:=h;exact ⟨S,vt,X,by rw [hz];exact h1,h2,k,by rw [hz];exact h4,h5,h6⟩
theorem iB.cut {B N:Nat}{M:List Nat}{w w':World}(fr:iB B M w w') (h:N≤w.heap.size):iB B (M.filter fun i=>decide (i < N)) (k6 N w) (k6 N w'):=by
 obtain ⟨U,g2,hT,g3⟩:=fr;refine ⟨_,g2.cut h,fun k hk cur t mk hh=>?_,fun k hk hlt=>?_⟩
 ·obtain ⟨h1,h2⟩:=List.mem_filter.1 hk;rw [i8 (by simpa using h2)] at hh;exact hT k h1 cur t mk hh
 ·obtain ⟨h1,h2⟩:=List.mem_filter.1 hk;have h2':k < N:=by simpa using h2
  rcases g3 k h1 (by omega) with h5 | ⟨h5,cur,t,mk,hh,ht⟩
  ·exact .inl (List.mem_filter.2 ⟨h5,h2⟩)
  ·exact .inr ⟨h5,cur,t,mk,by rw [i8 h2'];exact hh,ht⟩
theorem ay.frd2 {w0 w1 w w':World}{F M M':List Nat}{b:Nat}{p:Pl}{al:Int}{sz:Nat}{m:Ma}{B:Nat}(h:ay w0 w F M b p al sz m) (fr:iB B M w w') (k0:aa [] w1 w') (hz:w1.heap.size=w0.heap.size) (dis:∀ k∈F,k ∉ M) (hM:∀ k∈M',k∈M∨w.heap.size≤k) (hlt:∀ k∈M',k < w'.heap.size):ay w1 w' F M' b p al sz m:=by
 obtain ⟨S,vt,X,h1,rfl,h3,h4,h5,h6⟩:=h;rw [← hz] at h1 h4;obtain ⟨U,g2,hT,g3⟩:=fr
 have hO:∀ i∈dD b p.t S vt,i ∉ U:=fun i hi hm=>by
  rcases g3 i hm (h1.lt i hi) with h | ⟨_,cur,t,mk,hh,ht⟩
  ·exact dis i hi h
  ·rcases List.mem_cons.1 hi with rfl | hi
   ·rw [h1.at_] at hh;cases hh
    rcases ht with ht | ht <;> simp at ht
   ·rcases List.mem_append.1 hi with hi | hi
    ·have:=h1.g.typed i hi _ _ _ hh
     rcases ht with rfl | rfl <;> simp at this
    ·obtain ⟨cur',t',hh',ht'⟩:=h1.t.typed hi;rw [hh'] at hh;cases hh
     rcases ht with rfl | rfl <;> simp at ht'
 refine ⟨S,vt,X,⟨g2.at h1.at_ (hO _ (by simp [dD])),h1.g.keep g2 (fun i hi=>hO i (by simp [dD,hi])) hT (by decide) (by decide) (by decide),?_,h1.e.keep g2 hT (by decide) (by decide)⟩,rfl,k0,h4,hlt,h6⟩;refine ⟨g2.at h1.t.at_ (hO _ (by simp [dD,aW])),h1.t.pos,h1.t.row.keep g2 (fun i hi=>hO i (by simp [dD,aW,hi])),fun x hx=>(h1.t.own x hx).stay2 g2 (fun j cur hj hh=>⟨fun hm=>?_,hj.1,fun hm=>?_⟩) hT (by decide),h1.t.ses⟩
 ·rcases g3 j hm (aq hh) with h | ⟨_,cur',t,mk,hh',ht⟩
  ·exact hj.2 h
  ·rw [hh] at hh';cases hh'
   rcases ht with ht | ht <;> simp at ht
 ·rcases hM j hm with h | h
  ·exact hj.2 h
  ·have:=aq hh;omega
def sx (w0:World) (N:Nat) (w:World) (bm:Nat) (pm:Pl) (z:Pp) (mm m md:Ma) (u:Value):Prop :=
 ∃ Fm F M,w0.heap.size≤N∧N≤w.heap.size∧ay w0 (k6 N w) Fm (M.filter fun i=>decide (i < N)) bm pm 2 3 mm∧ay (k6 N w) w F M z.b z.p 2 3 m∧aM w0 w M F z.c z.q 2 3 md∧(∀ k∈Fm,k ∉ M)∧(∀ k∈F,k ∉ M)∧∀ j,u.ownBlock=some j→j ∉ F∧j ∉ M
variable {w0 w : World} {N : Nat} {bm : Nat} {pm : Pl} {z : Pp} {mm m md : Ma} {u : Value}
theorem sx.keeps (h:sx w0 N w bm pm z mm m md u):aa [] w0 w:=by
 obtain ⟨Fm,F,M,h0,h1,h2,h3,h4,_⟩:=h;exact h4.keeps
theorem sx.kept {w':World}(h:sx w0 N w bm pm z mm m md u) (k:aa [] w w'):sx w0 N w' bm pm z mm m md u:=by
 obtain ⟨Fm,F,M,h0,h1,h2,h3,h4,h5⟩:=h;have hz:=k.size;have hc:aa [] (k6 N w) (k6 N w'):=k.cut h1;exact ⟨Fm,F,M,h0,by omega,h2.kept hc,(h3.kept k).base (gO (by omega)) (by rw [ci h1,ci (by omega)]),h4.kept k,h5⟩
theorem sx.none (h:sx w0 N w bm pm z mm m md u):sx w0 N w bm pm z mm m md (.slice none 0 0):=by
 obtain ⟨Fm,F,M,h0,h1,h2,h3,h4,h5,h6,_⟩:=h;exact ⟨Fm,F,M,h0,h1,h2,h3,h4,h5,h6,fun j hj=>by cases hj⟩
theorem sx.aside (h:sx w0 N w bm pm z mm m md u):∃ F D,ay w0 w F D bm pm 2 3 mm:=by
 obtain ⟨Fm,F,M,h0,h1,h2,_⟩:=h;exact ⟨_,_,h2.kept (gO h1)⟩
def Dr (w0:World) (N:Nat) (w:World) (bm:Nat) (pm:Pl) (z:Pp) (mm m md:Ma) (u:Value) (v:Vt) (e:Ending) (w':World):Prop :=
 ∃ ao n c,e=.returned (.agg #[.int .i64 v.c,.int .i64 v.s,.int .i64 v.r,.string (ak v.p),.int .u64 v.d,.slice ao n c,.int .i64 v.m])∧Hid (cw w.heap.size w' (.slice ao n c) v.k)∧Hid (sx w0 N w' bm pm z mm m md (.slice ao n c))∧Hid (∀ B k,cw B w u k→cw B w' u k)
theorem wU (h:sx w0 N w bm pm z mm m md u) (hl:m.g.cs.length≤10000) (he:m.e.length≤999) (x:Rm) (hx:dE w0 x):Calls Tryz.prog 13 #[.pointer (some ⟨z.b,0,none⟩),eh x] w fun e w'=>Dr w0 N w bm pm z mm (lH 2 3 m x.r) md u (qH 2 m x.r) e w':=by
 have hk0:=h.keeps;obtain ⟨Fm,F,M,h0,h1,h2,h3,h4,h5,h6,h7⟩:=h;refine (fY h3 hl (by omega) x (hx.kept hk0)).mono fun e w' hd=>?_;obtain ⟨ao,n,c,he,hO,F',k1,k2,k3,k4⟩:=hd;have hz:=k1.keeps.size;have hN:=ci h1;have hz':N≤w'.heap.size:=by rw [hN] at hz;exact hz
 refine ⟨ao,n,c,he,hO,⟨Fm,F',M,h0,hz',h2.kept (k1.keeps.cutR (by omega) hz'),k1.base (gO hz') (by rw [ci hz',hN]),h4.frp k2 (h2.keeps.trans k1.keeps (by simp)) h6 k3 k1.lt,h5,fun k hk=>?_,fun j hj=>⟨k4 j hj,fun hm=>?_⟩⟩,fun B k hk=>hk.frU k2 fun j hj=>(h7 j hj).1⟩
 ·rcases k3 k hk with h | h
  ·exact h6 k h
  ·intro hm;have:=h4.lt k hm;omega
 ·have:=(il hO hj).1;have:=h4.lt j hm;omega
theorem tg (h:sx w0 N w bm pm z mm m md u) (hl:md.g.cs.length≤10000) (he:md.e.length≤999) (x:Rm) (hx:dE w0 x):Calls Tryz.prog 14 #[.pointer (some ⟨z.c,0,none⟩),eh x] w fun e w'=>Dr w0 N w bm pm z mm m (lH 2 3 md x.r) u (qH 2 md x.r) e w':=by
 obtain ⟨Fm,F,M,h0,h1,h2,h3,h4,h5,h6,h7⟩:=h;refine (ly h4 hl he x hx).mono fun e w' hd=>?_;obtain ⟨ao,n,c,he,hO,M',k1,k2,k3,k4⟩:=hd;have hz:w.heap.size≤w'.heap.size:=by obtain ⟨U,g,_⟩:=k2;exact g.size
 have hz':N≤w'.heap.size:=by omega
 have hN:=ci h1;refine ⟨ao,n,c,he,hO,⟨Fm,F,M',h0,hz',h2.frd (k2.cut h1) (k1.keeps.cutR h0 hz') (fun k hk hm=>h5 k hk (List.mem_filter.1 hm).1) (fun k hk=>?_) (fun k hk=>?_),h3.frd2 k2 (gO hz') (by rw [ci hz',hN]) h6 k3 k1.lt,k1,fun k hk hm=>?_,fun k hk hm=>?_,fun j hj=>⟨fun hm=>?_,k4 j hj⟩⟩,fun B k hk=>hk.frV k2 fun j hj=>(h7 j hj).2⟩
 ·obtain ⟨i1,i2⟩:=List.mem_filter.1 hk;have i3:k < N:=by simpa using i2
  rcases k3 k i1 with h | h
  ·exact .inl (List.mem_filter.2 ⟨h,i2⟩)
  ·omega
 ·obtain ⟨i1,i2⟩:=List.mem_filter.1 hk;rw [ci hz'];simpa using i2
 ·rcases k3 k hm with h | h
  ·exact h5 k hk h
  ·have:=h2.lt k hk;omega
 ·rcases k3 k hm with h | h
  ·exact h6 k hk h
  ·have:=h3.lt k hk;omega
 ·have:=(il hO hj).1;have:=h3.lt j hm;omega
theorem oE (h:sx w0 N w bm pm z mm m m u) (hl:m.g.cs.length≤10000) (hel:m.e.length≤1000):Calls Tryz.prog 15 #[.pointer (some ⟨z.b,0,none⟩),.pointer (some ⟨z.c,0,none⟩)] w fun e w'=>e=.returned (.bool true)∧Hid (aa [] w w'):=by
 obtain ⟨Fm,F,M,h0,h1,h2,h3,h4,_⟩:=h;exact (nh h3 h4 hl hel).mono fun e w' h=>h
theorem At {w5 w6:World}{Fm F M:List Nat}{b:Nat}{p:Pl}(h1:ay w0 w5 Fm M bm pm 2 3 mm) (h2:aM w0 w5 M Fm z.c z.q 2 3 md) (h3:∀ k∈Fm,k ∉ M) (h4:ay w5 w6 F M b p 2 3 m) (hF:∀ k∈F,w5.heap.size≤k):sx w0 w5.heap.size w6 bm pm ⟨b,p,z.c,z.q⟩ mm m md (.slice none 0 0):=by
 have hk:=h4.keeps;have hz:=hk.size;have hc:aa [] w5 (k6 w5.heap.size w6):=hk.cutR (Nat.le_refl _) hz;have hN:=ci hz;refine ⟨Fm,F,M,h1.keeps.size,hz,h1.dis hc (fun i hi=>.inl (List.mem_filter.1 hi).1) (fun i hi=>?_),h4.base (gO hz) hN,h2.dis hk (fun i hi=>.inr (hF i hi)) h4.lt,h3,fun k hk hm=>?_,fun j hj=>by cases hj⟩
 ·rw [hN];simpa using (List.mem_filter.1 hi).2
 ·have:=hF k hk;have:=h2.lt k hm;omega
theorem AS {m:Ma}(h:vK 3 m):lV 2 3 m.a m.e m.s m.g.cs=.ok m:=by
 unfold lV;rw [if_neg (by omega),if_neg (fun hn=>hn h.e),if_neg (by omega),if_neg (fun hn=>hn ⟨by have:=h.sl;omega,h.s⟩),h.g.load];show (if m.a < 0∨1099511627776 < m.a then _ else _)=_;rw [if_neg (by have:=h.a0;have:=h.a1;omega),h.ec]
end Go.Proofs.YtgpnlidnbldiiaaGreat
namespace Go.Proofs.YtgpnlidnbldiiaaGreat
open Go.RowKit
def BD (w:World) (ao:Option Addr) (n c:Nat) (L:List Ep):Prop:=∃ X,qB w ao n c X∧X.map Prod.fst=L∧n≤1000
def BZ (w:World) (ao:Option Addr) (n c:Nat) (L:List Se):Prop:=∃ X,vo w ao n c X∧X.map Prod.fst=L
def C6 (w:World) (ao:Option Addr) (n c:Nat) (L:List aV):Prop:=∃ K,iC w ao n c K∧K.map Prod.fst=L∧n≤10000
theorem BD.kept {w w':World}{ao:Option Addr}{n c:Nat}{L:List Ep}(h:BD w ao n c L) (k:aa [] w w'):BD w' ao n c L:=by
 obtain ⟨X,h1,h2⟩:=h;exact ⟨X,h1.kept k,h2⟩
theorem BZ.kept {w w':World}{ao:Option Addr}{n c:Nat}{L:List Se}(h:BZ w ao n c L) (k:aa [] w w'):BZ w' ao n c L:=by
 obtain ⟨X,h1,h2⟩:=h;exact ⟨X,h1.kept k,h2⟩
variable {w0 w : World} {F D : List Nat} {b : Nat} {p : Pl} {al : Int} {sz : Nat} {m : Ma}
theorem Cq (h:ay w0 w F D b p al sz m) (he:m.e.length≤1000):Calls Tryz.prog 21 #[.pointer (some ⟨b,0,none⟩)] w fun e w'=>∃ ao n c,e=.returned (.slice ao n c)∧Hid (BD w' ao n c m.e)∧Hid (aa [] w w'):=by
 refine (jV h he).mono fun e w' hd=>?_;obtain ⟨v,X,rfl,hr,ho,hx,hk⟩:=hd;obtain ⟨ao,c,rfl,hs⟩:=hr.sl ho;exact ⟨ao,_,c,rfl,⟨X,hs,hx,by have:=congrArg List.length hx;rw [List.length_map] at this;omega⟩,hk⟩
theorem Ci (h:ay w0 w F D b p al sz m):Calls Tryz.prog 22 #[.pointer (some ⟨b,0,none⟩)] w fun e w'=>∃ ao n c,e=.returned (.slice ao n c)∧Hid (BZ w' ao n c m.s)∧Hid (aa [] w w'):=by
 refine (iE h).mono fun e w' hd=>?_;obtain ⟨v,X,rfl,hr,ho,hx,hk⟩:=hd;obtain ⟨ao,c,rfl,hs⟩:=hr.t.sl fun x hx=>(ho x hx).ko;exact ⟨ao,_,c,rfl,⟨X,hs,hx⟩,hk⟩
theorem Cu (h:ay w0 w F D b p al sz m) (hl:m.g.cs.length≤10000):Calls Tryz.prog 23 #[.pointer (some ⟨b,0,none⟩)] w fun e w'=>∃ ao n c,e=.returned (.slice ao n c)∧Hid (C6 w' ao n c m.g.cs)∧Hid (aa [] w w'):=by
 refine (ju h hl).mono fun e w' hd=>?_;obtain ⟨v,K,rfl,hx,hr,ho,hk⟩:=hd;obtain ⟨ao,c,rfl,hs,_⟩:=hr.sl ho;exact ⟨ao,_,c,rfl,⟨K,hs,hx,by have:=congrArg List.length hx;rw [List.length_map] at this;omega⟩,hk⟩
theorem oJ {G:Gr}(h:Wf G) {c:aV}(hc:c∈G.cs):mg c:=by
 obtain ⟨h1,h2,h3,_⟩:=h.com c hc;exact ⟨by omega,by have:=h1.2.1;omega,fun y hy=>by have:=h2 y hy;omega⟩
theorem uU {w:World}{D:List Nat}(hD:∀ k∈D,k < w.heap.size) {m:Ma}{zs:Nat}{al0:Int}(hw:qx zs al0 m) (al sz a:Int) {ao bo co:Option Addr}{n c n2 c2 n3 c3:Nat}(hE:BD w ao n c m.e) (hS:BZ w bo n2 c2 m.s) (hK:C6 w co n3 c3 m.g.cs) :
 Calls Tryz.prog 17 #[.int .i64 al,.int .i64 sz,.int .i64 a,.slice ao n c,.slice bo n2 c2,.slice co n3 c3] w fun e w'=>BR D al sz w (lV al sz a m.e m.s m.g.cs) e w':=by
 obtain ⟨X,e1,e2,e3⟩:=hE;obtain ⟨Y,s1,s2⟩:=hS;obtain ⟨K,k1,k2,k3⟩:=hK;have:=vT w D hD al sz a ao n c X e1 e3 bo n2 c2 Y s1 (by rw [s2];exact hw.so) co n3 c3 K k1 k3 (fun x hx=>oJ hw.g.wf (by rw [← k2];exact List.mem_map_of_mem hx))
 rw [e2,s2,k2] at this;exact this
theorem yB {w:World}{D:List Nat}(hD:∀ k∈D,k < w.heap.size) {m:Ma}{zs:Nat}{al0:Int}(hw:qx zs al0 m) (al sz a:Int) {ao bo co:Option Addr}{n c n2 c2 n3 c3:Nat}(hE:BD w ao n c m.e) (hS:BZ w bo n2 c2 m.s) (hK:C6 w co n3 c3 m.g.cs) :
 Calls Tryz.prog 24 #[.int .i64 al,.int .i64 sz,.int .i64 a,.slice ao n c,.slice bo n2 c2,.slice co n3 c3] w fun e w'=>yy D al sz w (lV al sz a m.e m.s m.g.cs) e w':=by
 obtain ⟨X,e1,e2,e3⟩:=hE;obtain ⟨Y,s1,s2⟩:=hS;obtain ⟨K,k1,k2,k3⟩:=hK;have:=uC w D hD al sz a ao n c X e1 e3 bo n2 c2 Y s1 (by rw [s2];exact hw.so) co n3 c3 K k1 k3 (fun x hx=>oJ hw.g.wf (by rw [← k2];exact List.mem_map_of_mem hx))
 rw [e2,s2,k2] at this;exact this
theorem yF {al sz a:Int}{L:List Ep}{S:List Se}{cs:List aV}{m':Ma}(h:lV al sz a L S cs=.ok m'):m'.g.cs=cs∧m'.e.length≤L.length:=by
 unfold lV at h;split at h
 ·cases h
 ·split at h
  ·cases h
  ·split at h
   ·cases h
   ·split at h
    ·cases h
    ·cases hg:bQ ba cs with
     | none=>rw [hg] at h;cases h
     | some G =>
       rw [hg] at h;have h':(if a < 0∨1099511627776 < a then (.error 4:Except Int Ma) else .ok ⟨a,G,S,dZ L a⟩)=.ok m':=h;split at h'
       ·cases h'
       ·cases h'
        refine ⟨?_,?_⟩
        ·have:=(mQ lQ hg).2
         simpa [ba] using this
        ·show (L.drop _).length≤_;rw [List.length_drop];omega
end Go.Proofs.YtgpnlidnbldiiaaGreat
