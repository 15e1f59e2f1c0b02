/-
  Texts laid as one.
-/
import Derived.Test.YtgpnlidnbldiiaaGreatW6r
import Derived.Test.YtgpnlidnbldiiaaGreatQ18r
import Derived.Test.YtgpnlidnbldiiaaGreatQ2r
import Derived.Test.YtgpnlidnbldiiaaGreatM12r
set_option maxHeartbeats 8000000
set_option maxRecDepth 100000
set_option linter.unusedSimpArgs false
/-
 What the functions of the document's machine share.
-/
namespace Go.Proofs.YtgpnlidnbldiiaaGreat
open Go.RowKit
theorem nY.frd {B:Nat}{M:List Nat}{w w':World}{b:Nat}{x:Rm}(h:nY w b x) (k:iB B M w w'):nY w' b x:=k.at h (by decide)
theorem fg.frd {B:Nat}{M:List Nat}{w w':World}{b:Nat}{v:Vt}{u:Value}(h:fg w b v u) (k:iB B M w w'):fg w' b v u:=k.at h (by decide)
structure Ah (b bx:Nat) (p:Pl) (a:Int) (x:Rm) (w:World):Prop where
 m0:w.cell? ⟨b,0,none⟩=some (.int .i64 a)
 m4:w.cell? ⟨b,4,none⟩=some (.pointer (some ⟨p.t,0,none⟩))
 m5:w.cell? ⟨b,5,none⟩=some (.pointer (some ⟨p.e,0,none⟩))
 q0:w.cell? ⟨bx,0,none⟩=some (.int .i64 x.r.k)
 q1:w.cell? ⟨bx,1,none⟩=some (.string (ak x.r.n))
 q2:w.cell? ⟨bx,2,none⟩=some (.int .i64 x.r.s)
 q3:w.cell? ⟨bx,3,none⟩=some (.int .i64 x.r.q)
 q4:w.cell? ⟨bx,4,none⟩=some (.int .i64 x.r.b)
 q5:w.cell? ⟨bx,5,none⟩=some (.string (ak x.r.f))
 q6:w.cell? ⟨bx,6,none⟩=some (.slice x.mo x.m x.mc)
 q7:w.cell? ⟨bx,7,none⟩=some (.string (ak x.r.p))
 q8:w.cell? ⟨bx,8,none⟩=some (.int .i64 x.r.fr)
 q9:w.cell? ⟨bx,9,none⟩=some (.int .i64 x.r.mn)
 q10:w.cell? ⟨bx,10,none⟩=some (.int .i64 x.r.mb)
 rg:w.rangeAt bx 0 (oH x)
structure AJ (w:World) (b:Nat) (p:Pl) (a:Int) (aC aL aR:Option Addr) (nC cC nL cL nR cR:Nat):Prop where
 m0:w.cell? ⟨b,0,none⟩=some (.int .i64 a)
 m1:w.cell? ⟨b,1,none⟩=some (.slice aC nC cC)
 m2:w.cell? ⟨b,2,none⟩=some (.slice aL nL cL)
 m3:w.cell? ⟨b,3,none⟩=some (.slice aR nR cR)
 m4:w.cell? ⟨b,4,none⟩=some (.pointer (some ⟨p.t,0,none⟩))
 m5:w.cell? ⟨b,5,none⟩=some (.pointer (some ⟨p.e,0,none⟩))
theorem AJ.kept {w w':World}{b:Nat}{p:Pl}{a:Int}{aC aL aR:Option Addr}{nC cC nL cL nR cR:Nat}(h:AJ w b p a aC aL aR nC cC nL cL nR cR) (k:aa [] w w'):AJ w' b p a aC aL aR nC cC nL cL nR cR :=
 ⟨k.cell h.m0 (by simp),k.cell h.m1 (by simp),k.cell h.m2 (by simp),k.cell h.m3 (by simp),k.cell h.m4 (by simp),k.cell h.m5 (by simp)⟩
theorem aM.dq {w0 w:World}{M D:List Nat}{b:Nat}{p:Pl}{al:Int}{sz:Nat}{m:Ma}(h:aM w0 w M D b p al sz m) {bx:Nat}{x:Rm}(hq:nY w bx x):Ah b bx p m.a x w:=by
 obtain ⟨v,vL,vR,hat⟩:=h.at;obtain ⟨q0,q1,q2,q3,q4,q5,q6,q7,q8,q9,q10⟩:=hq.cells;exact ⟨ag (k:=0) hat rfl,ag (k:=4) hat rfl,ag (k:=5) hat rfl,q0,q1,q2,q3,q4,q5,q6,q7,q8,q9,q10,ld hq⟩
structure CA (w:World) (g:Gr) (aC aL aR:Option Addr) (nC cC nL cL nR cR:Nat) (K:List (aV × Value)):Prop where
 c:iC w aC nC cC K
 com:K.map Prod.fst=g.cs
 n:nC=g.cs.length
 l:cf 0 w (.slice aL nL cL) g.ls
 r:fI 0 w (.slice aR nR cR) g.rs
theorem aM.open {w0 w:World}{M D:List Nat}{b:Nat}{p:Pl}{al:Int}{sz:Nat}{m:Ma}(h:aM w0 w M D b p al sz m):∃ aC aL aR nC cC nL cL nR cR K,AJ w b p m.a aC aL aR nC cC nL cL nR cR∧CA w m.g aC aL aR nC cC nL cL nR cR K:=by
 obtain ⟨v,vL,vR,K,vt,X,h1,_⟩:=h;obtain ⟨aC,cC,rfl,hS,_⟩:=h1.g.row.sl h1.g.own;obtain ⟨aL,cL,rfl,_⟩:=h1.g.lvs.sl;obtain ⟨aR,cR,rfl,_⟩:=h1.g.rfs.at;have hat:=h1.g.at_;refine ⟨aC,aL,aR,_,cC,_,cL,_,cR,K,⟨ag (k:=0) hat rfl,ag (k:=1) hat rfl,ag (k:=2) hat rfl,ag (k:=3) hat rfl,ag (k:=4) hat rfl,ag (k:=5) hat rfl⟩,⟨hS,h1.g.com,?_,h1.g.lvs,h1.g.rfs⟩⟩;rw [← h1.g.com,List.length_map]
theorem aM.box {w0 w w':World}{M D:List Nat}{b:Nat}{p:Pl}{al:Int}{sz:Nat}{m:Ma}(h:aM w0 w M D b p al sz m) {Bk:Nat}{cur:Array Value}{mk:Nat × Nat}(hB:w.heap[Bk]?=some (.cells cur 39 mk)) (k:aa [Bk] w w') (hlt:w0.heap.size≤Bk):aM w0 w' M D b p al sz m:=by
 obtain ⟨v,vL,vR,K,vt,X,h1,h2,h3,h4,h5,h6⟩:=h
 have hT:aJ w [Bk] [39]:=fun i hi cur' t' mk' hh=>by
  rw [List.mem_singleton] at hi;subst hi;rw [hB] at hh;cases hh;simp
 refine ⟨v,vL,vR,K,vt,X,⟨h1.g.keep k (fun i hi hm=>?_) hT (by decide) (by decide) (by decide),h1.nl,h1.t.keep k (fun i hi hm=>?_) hT (by decide) (by decide),h1.e.keep k hT (by decide) (by decide) (by decide)⟩,h2,h3.trans k (fun i hi=>.inr (by simp at hi;omega)),h4,fun i hi=>Nat.lt_of_lt_of_le (h5 i hi) k.size,h6⟩
 ·rw [List.mem_singleton] at hm;subst hm;have:=h1.g.typed i hi _ _ _ hB
  simp at this
 ·rw [List.mem_singleton] at hm;subst hm;have:=h1.t.typed i hi _ _ _ hB
  simp at this
theorem cj.trans {w0 a b' c:World}{F D:List Nat}{b:Nat}{p:Pl}{al:Int}{sz:Nat}{m':Ma}{F1:List Nat}(h2:iB w0.heap.size F a b') (h3:∀ k∈F1,k∈F∨a.heap.size≤k) (k:cj w0 b' F1 D b p al sz m' c):cj w0 a F D b p al sz m' c:=by
 obtain ⟨F',k1,k2,k3⟩:=k;refine ⟨F',k1,h2.trans k2 h3,fun i hi=>?_⟩;rcases k3 i hi with h | h
 ·exact h3 i h
 ·exact .inr (Nat.le_trans h2.size h)
theorem iB.box {B:Nat}{F:List Nat}{w w2 w3:World}(h:iB B F w w2) {Bk:Nat}(hlt:w.heap.size≤Bk) (k:aa [Bk] w2 w3):iB B F w w3:=by
 obtain ⟨U,h1,h2,h3⟩:=h;exact ⟨U,h1.trans k (fun i hi=>.inr (by simp at hi;omega)),h2,h3⟩
theorem cj.lift {w0 w w1 w2:World}{F D:List Nat}{b:Nat}{p:Pl}{al:Int}{sz:Nat}{m:Ma}(k:aa [] w w1) (h:cj w0 w1 F D b p al sz m w2):cj w0 w F D b p al sz m w2 :=
 cj.trans (F1:=F) (iB.kept k) (fun _ hi=>.inl hi) h
def dK (w0 w:World) (F D:List Nat) (b:Nat) (p:Pl) (al:Int) (sz:Nat) (m:Ma) (u:Value) (w':World):Prop :=
 ∃ F',aM w0 w' F' D b p al sz m∧iB w0.heap.size F w w'∧(∀ k∈F',k∈F∨w.heap.size≤k)∧∀ j,u.ownBlock=some j→j ∉ F'
theorem cj.u0 {w0 w w2:World}{F D:List Nat}{b:Nat}{p:Pl}{al:Int}{sz:Nat}{m:Ma}(h:cj w0 w F D b p al sz m w2):dK w0 w F D b p al sz m (.slice none 0 0) w2:=by
 obtain ⟨F',h1,h2,h3⟩:=h;exact ⟨F',h1,h2,h3,fun j hj=>by cases hj⟩
theorem dK.same {w0 w w':World}{F D:List Nat}{b:Nat}{p:Pl}{al:Int}{sz:Nat}{m:Ma}{u:Value}{k:List aV}(h:aM w0 w F D b p al sz m) (hk:aa [] w w') (hu:cw w.heap.size w' u k):dK w0 w F D b p al sz m u w' :=
 ⟨F,h.kept hk,iB.kept hk,fun _ hi=>.inl hi,fun j hj hm=>by have:=(il hu hj).1;have:=h.lt j hm;omega⟩
theorem dK.box {w0 w w2 w3:World}{F D:List Nat}{b:Nat}{p:Pl}{al:Int}{sz:Nat}{m:Ma}{u:Value}(h:dK w0 w F D b p al sz m u w2) {Bk:Nat}{cur:Array Value}{mk:Nat × Nat}(hB:w2.heap[Bk]?=some (.cells cur 39 mk)) (hlt:w.heap.size≤Bk) (h0:w0.heap.size≤w.heap.size) (k:aa [Bk] w2 w3):dK w0 w F D b p al sz m u w3:=by
 obtain ⟨F',h1,h2,h3,h4⟩:=h;exact ⟨F',h1.box hB k (by omega),h2.box hlt k,h3,h4⟩
theorem dK.trans {w0 a b' c:World}{F D:List Nat}{b:Nat}{p:Pl}{al:Int}{sz:Nat}{m':Ma}{u:Value}{F1:List Nat}(h2:iB w0.heap.size F a b') (h3:∀ k∈F1,k∈F∨a.heap.size≤k) (k:dK w0 b' F1 D b p al sz m' u c):dK w0 a F D b p al sz m' u c:=by
 obtain ⟨F',k1,k2,k3,k4⟩:=k;refine ⟨F',k1,h2.trans k2 h3,fun i hi=>?_,k4⟩;rcases k3 i hi with h | h
 ·exact h3 i h
 ·exact .inr (Nat.le_trans h2.size h)
theorem dK.lift {w0 w w1 w2:World}{F D:List Nat}{b:Nat}{p:Pl}{al:Int}{sz:Nat}{m:Ma}{u:Value}(k:aa [] w w1) (h:dK w0 w1 F D b p al sz m u w2):dK w0 w F D b p al sz m u w2 :=
 dK.trans (F1:=F) (iB.kept k) (fun _ hi=>.inl hi) h
theorem dK.more {w0 w w1 w2:World}{F D:List Nat}{b:Nat}{p:Pl}{al:Int}{sz:Nat}{m:Ma}{u:Value}(h:dK w0 w F D b p al sz m u w1) (k:aa [] w1 w2):dK w0 w F D b p al sz m u w2:=by
 obtain ⟨F',h1,h2,h3,h4⟩:=h;exact ⟨F',h1.kept k,h2.trans (iB.kept (M:=[]) k) (fun i hi=>by cases hi),h3,h4⟩
def gP (w0 w:World) (F D:List Nat) (b:Nat) (p:Pl) (al:Int) (sz:Nat) (v:Vt) (m:Ma) (e:Ending) (w':World):Prop :=
 ∃ ao n c,e=.returned (gA v (.slice ao n c))∧cw w.heap.size w' (.slice ao n c) v.k∧dK w0 w F D b p al sz m (.slice ao n c) w'
theorem bH {w0 w w1 w2 w3:World}{F D:List Nat}{b:Nat}{p:Pl}{al:Int}{sz:Nat}{v v':Vt}{m:Ma}{ao:Option Addr}{n c:Nat}{u':Value}(h0:w0.heap.size≤w.heap.size) (hK:aa [] w w1) (hS:dK w0 w1 F D b p al sz m (.slice ao n c) w2) (hO:cw w1.heap.size w2 (.slice ao n c) v.k) (hV:fg w2 (w.heap.size+1) v' u') (k:aa [w.heap.size+1] w2 w3):gP w0 w F D b p al sz v m (.returned (gA v (.slice ao n c))) w3 :=
 ⟨ao,n,c,rfl,fp (hO.mono hK.size) hV k,(hS.lift hK).box hV (Nat.le_succ _) h0 k⟩
variable {w0 w : World} {M D : List Nat} {b : Nat} {p : Pl} {al : Int} {sz : Nat} {m : Ma} {aC aL aR : Option Addr} {nC cC nL cL nR cR : Nat} {K : List (aV × Value)}
theorem aM.size {w0 w:World}{M D:List Nat}{b:Nat}{p:Pl}{al:Int}{sz:Nat}{m:Ma}(h:aM w0 w M D b p al sz m):w0.heap.size≤w.heap.size:=h.keeps.size
def BT (w:World) (v:Vt) (e:Ending) (w':World):Prop :=
 ∃ ao n c,e=.returned (.agg #[.int .i64 v.c,.int .i64 v.s,.int .i64 v.r,.string (ak v.p),.int .u64 v.d,.slice ao n c,.int .i64 v.m])∧Hid (cw w.heap.size w' (.slice ao n c) v.k)∧Hid (aa [] w w')
theorem CA.kept {w w':World}{g:Gr}(h:CA w g aC aL aR nC cC nL cL nR cR K) (k:aa [] w w'):CA w' g aC aL aR nC cC nL cL nR cR K :=
 ⟨h.c.kept k,h.com,h.n,k.ownsRow h.l (by simp),k.ownsRow h.r (by simp)⟩
theorem CS {g:Gr}(hG:CA w g aC aL aR nC cC nL cL nR cR K) (hW:Wf g) (q:List UInt8) (hq:q.length≤1000000):Calls Tryz.prog 38 #[.agg #[.slice aC nC cC,.slice aL nL cL,.slice aR nR cR],.string (ak q)] w fun e w'=>BT w (pW (bK g q)) e w' :=
 (uu w aC aL aR nC cC nL cL nR cR hG.l.slice hW q hq).mono fun _ _ ⟨he,hk⟩=>⟨none,0,0,he,cw.nil _ _,hk⟩
theorem DT {g:Gr}(hG:CA w g aC aL aR nC cC nL cL nR cR K) (hW:Wf g) (hl:g.cs.length≤10000) (f n:Int) (hf:f < 2 ^ 63):Calls Tryz.prog 39 #[.agg #[.slice aC nC cC,.slice aL nL cL,.slice aR nR cR],.int .i64 f,.int .i64 n] w fun e w'=>BT w (if f < 1∨n < 1 then cq 5 else ⟨11,0,0,[],0,gk g.cs f n,0⟩) e w':=by
 by_cases hb:f < 1∨n < 1
 ·rw [if_pos hb];exact (yP w aC aL aR nC cC nL cL nR cR f n hb).mono fun e w' ⟨he,hk⟩=>⟨none,0,0,he,cw.nil _ _,hk⟩
 ·rw [if_neg hb];refine (Av w aC aL aR nC cC nL cL nR cR hG.c hG.com hW hl f n (by omega) (by omega) hf).mono fun e w' ⟨v',K',he,h2,h3,h4,hk⟩=>?_;have ho:cw w.heap.size w' v' (gk g.cs f n):=⟨K',h3,h4,h2⟩;obtain ⟨ao,n2,c,rfl⟩:=ho.ko.one;exact ⟨ao,n2,c,he,ho,hk⟩
structure Da (b bx:Nat) (p:Pl) (a:Int) (aC aL aR:Option Addr) (nC cC nL cL nR cR:Nat) (x:Rm) (w:World):Prop where
 m0:w.cell? ⟨b,0,none⟩=some (.int .i64 a)
 m1:w.cell? ⟨b,1,none⟩=some (.slice aC nC cC)
 m2:w.cell? ⟨b,2,none⟩=some (.slice aL nL cL)
 m3:w.cell? ⟨b,3,none⟩=some (.slice aR nR cR)
 m4:w.cell? ⟨b,4,none⟩=some (.pointer (some ⟨p.t,0,none⟩))
 m5:w.cell? ⟨b,5,none⟩=some (.pointer (some ⟨p.e,0,none⟩))
 q0:w.cell? ⟨bx,0,none⟩=some (.int .i64 x.r.k)
 q1:w.cell? ⟨bx,1,none⟩=some (.string (ak x.r.n))
 q2:w.cell? ⟨bx,2,none⟩=some (.int .i64 x.r.s)
 q3:w.cell? ⟨bx,3,none⟩=some (.int .i64 x.r.q)
 q4:w.cell? ⟨bx,4,none⟩=some (.int .i64 x.r.b)
 q5:w.cell? ⟨bx,5,none⟩=some (.string (ak x.r.f))
 q6:w.cell? ⟨bx,6,none⟩=some (.slice x.mo x.m x.mc)
 q7:w.cell? ⟨bx,7,none⟩=some (.string (ak x.r.p))
 q8:w.cell? ⟨bx,8,none⟩=some (.int .i64 x.r.fr)
 q9:w.cell? ⟨bx,9,none⟩=some (.int .i64 x.r.mn)
 q10:w.cell? ⟨bx,10,none⟩=some (.int .i64 x.r.mb)
 rg:w.rangeAt bx 0 (oH x)
theorem AJ.dg {w:World}{bx:Nat}{x:Rm}{a:Int}(h:AJ w b p a aC aL aR nC cC nL cL nR cR) (hq:nY w bx x):Da b bx p a aC aL aR nC cC nL cL nR cR x w:=by
 obtain ⟨m0,m1,m2,m3,m4,m5⟩:=h;obtain ⟨q0,q1,q2,q3,q4,q5,q6,q7,q8,q9,q10⟩:=hq.cells;exact ⟨m0,m1,m2,m3,m4,m5,q0,q1,q2,q3,q4,q5,q6,q7,q8,q9,q10,ld hq⟩
theorem AJ.keep1 {w w':World}{a:Int}{B:Nat}(h:AJ w b p a aC aL aR nC cC nL cL nR cR) (k:aa [B] w w') (hne:b≠B):AJ w' b p a aC aL aR nC cC nL cL nR cR :=
 ⟨k.cell h.m0 (by simpa using hne),k.cell h.m1 (by simpa using hne),k.cell h.m2 (by simpa using hne),k.cell h.m3 (by simpa using hne),k.cell h.m4 (by simpa using hne),k.cell h.m5 (by simpa using hne)⟩
theorem uo (h:aM w0 w M D b p al sz m) (hl:m.g.cs.length≤10000) (x:Rm) (hx:dE w x):Calls Tryz.prog 12 #[.pointer (some ⟨b,0,none⟩),eh x] w fun e w'=>gP w0 w M D b p al sz (iq m.g x.r) m e w':=by
 have hsz:=h.size;obtain ⟨v0,vL0,vR0,hat0⟩:=h.at;have hbl:=aq hat0;obtain ⟨aC,aL,aR,nC,cC,nL,cL,nR,cR,K,hC,hG⟩:=h.open;have hk:=ax w x;have HK1:=ah hk;have HQ1:=ah (aF w x).1;have HV1:=ah (aF w x).2;have HL1:=ah (h.kept hk);have HC1:=ah (hC.kept hk);have hnC:=hG.n;have cRd:=fun W (hk:aa [] (aX w x) W)=>CS ((hG.kept (ax w x)).kept hk) h.w.g.wf x.r.p (by have:=hx.2.2.2.1;omega);have cLg:=fun W (hk:aa [] (aX w x) W)=>DT ((hG.kept (ax w x)).kept hk) h.w.g.wf hl x.r.fr x.r.mn (by have:=hx.1.2.2.2.1;omega);obtain ⟨W1,hW1⟩:∃ W1,W1=aX w x:=⟨_,rfl⟩;rw [← hW1] at HK1 HQ1 HV1 HL1 HC1 cRd cLg;unfold aX at hW1;unfold eh;have HSZ:=ah hsz;have HBL:=ah hbl;obtain ⟨q0,q1,q2,q3,q4,q5,q6,q7,q8,q9,q10⟩:=HQ1.out.cells;clear h hk hsz hat0 hC hG hx hl hbl q1 q2 q3 q4 q5 q6 q7 q8 q9 q10;by_cases h3:x.r.k=3
 ·rw [h3] at q0;rw [show iq m.g x.r=⟨8,0,nC,[],0,[],0⟩ by rw [hnC];exact if_pos h3];obtain ⟨m0,m1,m2,m3,m4,m5⟩:=HC1.out;clear cRd cLg hnC h3;go_enter Tryz.func12,Tryz.ntmps12;go_upto_region 1 with fail
  rw [← hW1];clear hW1;have r0:=ag (k:=0) HV1.out rfl;have fr0:=aj HV1.out 0;have r1:=ag (k:=1) HV1.out rfl;have fr1:=aj HV1.out 1;have r2:=ag (k:=2) HV1.out rfl;have fr2:=aj HV1.out 2;have r3:=ag (k:=3) HV1.out rfl;have fr3:=aj HV1.out 3;have r4:=ag (k:=4) HV1.out rfl;have fr4:=aj HV1.out 4;have r5:=ag (k:=5) HV1.out rfl;have fr5:=aj HV1.out 5;have r6:=ag (k:=6) HV1.out rfl;have fr6:=aj HV1.out 6;(go_wp2_with fail);refine bodyPost_ret (bj (by rfl) _ (by rfl) (aD HV1.out rfl _ _ _ _ _ _ _) rfl) rfl ?_;exact bH HSZ.out HK1.out (cj.same HL1.out (aa.refl _ _)).u0 (cw.nil _ _) HV1.out (az (aa.refl _ _) (by simp) _ _ _ _ _ _ _)
 ·by_cases h4:x.r.k=4
  ·rw [h4] at q0;rw [show iq m.g x.r=pW (bK m.g x.r.p) from (if_neg h3).trans (if_pos h4)];clear cLg hnC h3 h4;obtain ⟨vv,hvv⟩:∃ vv:Vt,vv=pW (bK m.g x.r.p):=⟨_,rfl⟩;rw [← hvv] at cRd ⊢;clear hvv;go_enter Tryz.func12,Tryz.ntmps12;go_upto_region 1 with fail
   rw [← hW1];clear hW1;go_upto_region 5 with fail
   clear q0;refine wp_region_held_drew (S:=Da b w.heap.size p m.a aC aL aR nC cC nL cL nR cR x) (by kernel_rfl) ((HC1.out.kept (aa.refl [] _).drew).dg (HQ1.out.kept (aa.refl [] _).drew)) (fun hHeld=>?_);refine aU [0,1,2,3,4,5] (by rfl) (by kernel_rfl) (fun _ _ _ _ _ h=>h) hHeld ?_
   iterate 6
    refine yk ?_ rfl (Or.inl ⟨by rfl,?_⟩) ?_;rotate_left
    ·intro w9 hSw;obtain ⟨m0,m1,m2,m3,m4,m5,q0,q1,q2,q3,q4,q5,q6,q7,q8,q9,q10,_⟩:=hSw;go_simp;(try with_reducible rfl)
    try simp only [sT,Act.put]
   refine aT ?_;simp only [au,sT];refine aH 6 (by kernel_rfl) rfl (fun K0 hK0=>?_);go_simp;refine (cRd _ (aa.refl [] _).drew).mono ?_;rintro _ w2 ⟨ao,n,c,rfl,HO2,HK2⟩;have hK2:=(aa.refl [] W1).drew.trans HK2.out (by simp);have HQ2:=ah (HQ1.out.kept hK2);have HV2:=ah (HV1.out.kept hK2);have HC2:=ah (HC1.out.kept hK2);have HKB:=ah hK2;have hS2:=HC2.out.dg HQ2.out;have hSt:∀ w3,Hid (fg w3 (w.heap.size+1) vv (.slice ao n c))→Hid (aa [w.heap.size+1] w2 w3)→Da b w.heap.size p m.a aC aL aR nC cC nL cL nR cR x w3:=fun w3 _ k3=>(HC2.out.keep1 k3.out (by have:=HBL.out;omega)).dg (k3.out.at HQ2.out (by simp));clear hK2;(go_wp2_with fail);refine hK0.out _ _ hS2 (fun hHeld=>?_);clear hK0 K0;(try simp only [sT,Act.put]);refine aH 7 (by kernel_rfl) rfl (fun K0 hK0=>?_);refine aY vv (.slice ao n c) ⟨_,_,_,rfl⟩ rfl rfl HV2.out fun w3 HV3 HK3=>?_;refine hK0.out _ _ (hSt w3 HV3 HK3) (fun hHeld=>?_);clear hK0 K0;(try simp only [sT,Act.put]);refine wpAnyH_done (by kernel_rfl) ?_ _;clear hHeld;(go_wp2_with fail);refine bodyPost_ret (bj (by rfl) _ (by rfl) HV3.out rfl) rfl ?_;exact bH HSZ.out HK1.out (dK.same HL1.out HKB.out HO2.out) HO2.out HV2.out HK3.out
  ·by_cases h5:x.r.k=5
   ·rw [h5] at q0;rw [show iq m.g x.r=if x.r.fr < 1∨x.r.mn < 1 then cq 5 else ⟨11,0,0,[],0,gk m.g.cs x.r.fr x.r.mn,0⟩ from (if_neg h3).trans ((if_neg h4).trans (if_pos h5))];clear cRd hnC h3 h4 h5;obtain ⟨vv,hvv⟩:∃ vv:Vt,vv=if x.r.fr < 1∨x.r.mn < 1 then cq 5 else ⟨11,0,0,[],0,gk m.g.cs x.r.fr x.r.mn,0⟩:=⟨_,rfl⟩
    rw [← hvv] at cLg ⊢;clear hvv;go_enter Tryz.func12,Tryz.ntmps12;go_upto_region 1 with fail
    rw [← hW1];clear hW1;go_upto_region 7 with fail
    clear q0;refine wp_region_held_drew (S:=Da b w.heap.size p m.a aC aL aR nC cC nL cL nR cR x) (by kernel_rfl) ((HC1.out.kept (aa.refl [] _).drew).dg (HQ1.out.kept (aa.refl [] _).drew)) (fun hHeld=>?_);refine aU [0,1,2,3,4,5,6,7] (by rfl) (by kernel_rfl) (fun _ _ _ _ _ h=>h) hHeld ?_
    iterate 8
     refine yk ?_ rfl (Or.inl ⟨by rfl,?_⟩) ?_;rotate_left
     ·intro w9 hSw;obtain ⟨m0,m1,m2,m3,m4,m5,q0,q1,q2,q3,q4,q5,q6,q7,q8,q9,q10,_⟩:=hSw;go_simp;(try with_reducible rfl)
     try simp only [sT,Act.put]
    refine aT ?_;simp only [au,sT];refine aH 8 (by kernel_rfl) rfl (fun K0 hK0=>?_);go_simp;refine (cLg _ (aa.refl [] _).drew).mono ?_;rintro _ w2 ⟨ao,n,c,rfl,HO2,HK2⟩;have hK2:=(aa.refl [] W1).drew.trans HK2.out (by simp);have HQ2:=ah (HQ1.out.kept hK2);have HV2:=ah (HV1.out.kept hK2);have HC2:=ah (HC1.out.kept hK2);have HKB:=ah hK2;have hS2:=HC2.out.dg HQ2.out;have hSt:∀ w3,Hid (fg w3 (w.heap.size+1) vv (.slice ao n c))→Hid (aa [w.heap.size+1] w2 w3)→Da b w.heap.size p m.a aC aL aR nC cC nL cL nR cR x w3:=fun w3 _ k3=>(HC2.out.keep1 k3.out (by have:=HBL.out;omega)).dg (k3.out.at HQ2.out (by simp));clear hK2;(go_wp2_with fail);refine hK0.out _ _ hS2 (fun hHeld=>?_);clear hK0 K0;(try simp only [sT,Act.put]);refine aH 9 (by kernel_rfl) rfl (fun K0 hK0=>?_);refine aY vv (.slice ao n c) ⟨_,_,_,rfl⟩ rfl rfl HV2.out fun w3 HV3 HK3=>?_;refine hK0.out _ _ (hSt w3 HV3 HK3) (fun hHeld=>?_);clear hK0 K0;(try simp only [sT,Act.put]);refine wpAnyH_done (by kernel_rfl) ?_ _;clear hHeld;(go_wp2_with fail);refine bodyPost_ret (bj (by rfl) _ (by rfl) HV3.out rfl) rfl ?_;exact bH HSZ.out HK1.out (dK.same HL1.out HKB.out HO2.out) HO2.out HV2.out HK3.out
   ·rw [show iq m.g x.r=cq 5 from (if_neg h3).trans ((if_neg h4).trans (if_neg h5))];clear cRd cLg hnC;go_enter Tryz.func12,Tryz.ntmps12;go_upto_region 1 with fail
    rw [← hW1];clear hW1;have r0:=ag (k:=0) HV1.out rfl;have fr0:=aj HV1.out 0;have r1:=ag (k:=1) HV1.out rfl;have fr1:=aj HV1.out 1;have r2:=ag (k:=2) HV1.out rfl;have fr2:=aj HV1.out 2;have r3:=ag (k:=3) HV1.out rfl;have fr3:=aj HV1.out 3;have r4:=ag (k:=4) HV1.out rfl;have fr4:=aj HV1.out 4;have r5:=ag (k:=5) HV1.out rfl;have fr5:=aj HV1.out 5;have r6:=ag (k:=6) HV1.out rfl;have fr6:=aj HV1.out 6;(go_wp2_with fail);refine bodyPost_ret (bj (by rfl) _ (by rfl) (aD HV1.out rfl _ _ _ _ _ _ _) rfl) rfl ?_;exact bH HSZ.out HK1.out (cj.same HL1.out (aa.refl _ _)).u0 (cw.nil _ _) HV1.out (az (aa.refl _ _) (by simp) _ _ _ _ _ _ _)
end Go.Proofs.YtgpnlidnbldiiaaGreat
namespace Go.Proofs.YtgpnlidnbldiiaaGreat
open Go.RowKit
variable {w0 w : World} {M D : List Nat} {b : Nat} {p : Pl} {al : Int} {sz : Nat} {m : Ma}
def D9 (w0 w:World) (M D:List Nat) (b:Nat) (p:Pl) (al:Int) (sz:Nat) (v:Vt) (m:Ma) (e:Ending) (w':World):Prop :=
 e=.returned (.agg #[.int .i64 v.c,.int .i64 v.s,.int .i64 v.r,.string (ak v.p),.int .u64 v.d,.slice none 0 0,.int .i64 v.m])∧Hid (v.k=[])∧Hid (cj w0 w M D b p al sz m w')
theorem Dz (h:aM w0 w M D b p al sz m) (hl:m.g.cs.length≤10000) (x:Rm) (hx:dE w x):Calls Tryz.prog 110 #[.pointer (some ⟨b,1,none⟩),.int .i64 x.r.b,.string (ak x.r.f),.slice x.mo x.m x.mc] w fun e w'=>D9 w0 w M D b p al sz (pW (bi m.g x.r.b x.r.f x.r.c)) ⟨m.a,bB m.g x.r.b x.r.f x.r.c,m.s,m.e⟩ e w':=by
 obtain ⟨v,vL,vR,K,vt,X,h1,rfl,h3,h4,h5,h6,h7⟩:=h;obtain ⟨⟨hs,hn,_⟩,hm⟩:=hx;have hl4:=hm.2.2.2.1;exact (se h1.g h1.nl h6.g.wf hl x.r.b x.r.f (by have:=hm.2.1;omega) x.mo x.m x.mc x.r.c hs (by have:=hs.1;omega) (fun y hy=>by have:=hm.2.2.2.2 y hy;omega)).mono fun e w' ⟨he,hL⟩=>⟨he,rfl,Cm h1 h3 h4 h5 h6 h7 hL (.land _ _ _ h6.g)⟩
theorem vC (h:aM w0 w M D b p al sz m) (hl:m.e.length≤1000) (q:Int) (add:Bool):Calls Tryz.prog 130 #[.pointer (some ⟨p.e,0,none⟩),.int .i64 m.a,.int .i64 q,.bool add] w fun e w'=>e=.returned (.int .i64 (fW al m.e m.a q add))∧Hid (cj w0 w M D b p al sz ⟨m.a,m.g,m.s,jn al m.e m.a q add⟩ w'):=by
 have hsz:=h.size;obtain ⟨v,vL,vR,K,vt,X,h1,rfl,h3,h4,h5,h6,h7⟩:=h;exact (pG _ w p.e al m.e h1.e h6.e h6.l0 h6.l1 (by omega) hsz m.a q add).mono fun e w' ⟨he,hE,hT⟩=>⟨he,zc h1 h3 h4 h5 h6 h7 hE hT (tP ⟨h6.l0,h6.l1⟩ h6.e _ _ _)⟩
theorem ru (h:aM w0 w M D b p al sz m) (hl:m.g.cs.length≤10000) (x:Rm) (hx:dE w x) (h2:x.r.k=2):Calls Tryz.prog 90 #[.pointer (some ⟨b,0,none⟩),eh x] w fun e w'=>gP w0 w M D b p al sz (pW (bi m.g x.r.b x.r.f x.r.c)) ⟨m.a,bB m.g x.r.b x.r.f x.r.c,m.s,m.e⟩ e w':=by
 have hsz:=h.size;have hk:=ax w x;have HK1:=ah hk;have HQ1:=ah (aF w x).1;have HV1:=ah (aF w x).2;have HL1:=ah (h.kept hk);have cC:=fun W (hk:aa [] (aX w x) W)=>Dz ((h.kept (ax w x)).kept hk) hl x ((hx.kept (ax w x)).kept hk);obtain ⟨vv,hvv⟩:∃ vv:Vt,vv=pW (bi m.g x.r.b x.r.f x.r.c):=⟨_,rfl⟩;rw [← hvv] at cC ⊢;clear hvv;obtain ⟨W1,hW1⟩:∃ W1,W1=aX w x:=⟨_,rfl⟩;rw [← hW1] at HK1 HQ1 HV1 HL1 cC;unfold aX at hW1;unfold eh;have HSZ:=ah hsz;obtain ⟨q0,q1,q2,q3,q4,q5,q6,q7,q8,q9,q10⟩:=HQ1.out.cells;clear h hk hsz hx hl q1 q2 q3 q4 q5 q6 q7 q8 q9 q10;rw [h2] at q0;clear h2;go_enter Tryz.func90,Tryz.ntmps90;go_upto_region 1 with fail
 rw [← hW1];clear hW1;go_upto_region 3 with fail
 clear q0;refine wp_region_held_drew (S:=Ah b w.heap.size p m.a x) (by kernel_rfl) ((HL1.out.kept (aa.refl [] _).drew).dq (HQ1.out.kept (aa.refl [] _).drew)) (fun hHeld=>?_);refine aU [0,1,2,3,4,5,6,7,8] (by rfl) (by kernel_rfl) (fun _ _ _ _ _ h=>h) hHeld ?_
 iterate 9
  refine yk ?_ rfl (Or.inl ⟨by rfl,?_⟩) ?_;rotate_left
  ·intro w9 hSw;obtain ⟨m0,m4,m5,q0,q1,q2,q3,q4,q5,q6,q7,q8,q9,q10,_⟩:=hSw;go_simp;(try with_reducible rfl)
  try simp only [sT,Act.put]
 refine aT ?_;simp only [au,sT];refine aH 9 (by kernel_rfl) rfl (fun K0 hK0=>?_);go_simp;refine (cC _ (aa.refl [] _).drew).mono ?_;rintro _ w2 ⟨rfl,HE2,HS2⟩;obtain ⟨F2,hL2,hF2,hs2⟩:=id HS2.out;have HQ2:=ah ((HQ1.out.kept (aa.refl [] _).drew).frd hF2);have HV2:=ah ((HV1.out.kept (aa.refl [] _).drew).frd hF2);have hS2:=hL2.dq HQ2.out;have hSt:∀ w3,Hid (fg w3 (w.heap.size+1) vv (.slice none 0 0))→Hid (aa [w.heap.size+1] w2 w3)→Ah b w.heap.size p m.a x w3:=fun w3 _ k3=>(hL2.box HV2.out k3.out (by have:=HSZ.out;omega)).dq (k3.out.at HQ2.out (by simp));clear hL2 hF2 hs2;go_wp2_with fail
 refine hK0.out _ _ hS2 (fun hHeld=>?_);clear hK0 K0;try simp only [sT,Act.put]
 refine aH 10 (by kernel_rfl) rfl (fun K0 hK0=>?_);refine aY vv (.slice none 0 0) ⟨_,_,_,rfl⟩ rfl rfl HV2.out fun w3 HV3 HK3=>?_;refine hK0.out _ _ (hSt w3 HV3 HK3) (fun hHeld=>?_);clear hK0 K0;try simp only [sT,Act.put]
 refine wpAnyH_done (by kernel_rfl) ?_ _;clear hHeld;go_wp2_with fail
 refine bodyPost_ret (bj (by rfl) _ (by rfl) HV3.out rfl) rfl ?_;exact bH HSZ.out (HK1.out.trans (aa.refl [] _).drew (by simp)) HS2.out.u0 (by rw [HE2.out];exact cw.nil _ _) HV2.out HK3.out
theorem t9 (h:aM w0 w M D b p al sz m) (hl:m.e.length≤1000) (x:Rm) (h2:x.r.k=6):Calls Tryz.prog 90 #[.pointer (some ⟨b,0,none⟩),eh x] w fun e w'=>gP w0 w M D b p al sz (if fW al m.e m.a x.r.mb true=0 then ⟨12,0,0,[],0,[],x.r.mb⟩ else ⟨14,0,0,[],0,[],x.r.mb⟩) ⟨m.a,m.g,m.s,jn al m.e m.a x.r.mb true⟩ e w':=by
 have hsz:=h.size;have hk:=ax w x;have HK1:=ah hk;have HQ1:=ah (aF w x).1;have HV1:=ah (aF w x).2;have HL1:=ah (h.kept hk);have cC:=fun W (hk:aa [] (aX w x) W)=>vC ((h.kept (ax w x)).kept hk) hl x.r.mb true;obtain ⟨vv,hvv⟩:∃ vv:Vt,vv=if fW al m.e m.a x.r.mb true=0 then ⟨12,0,0,[],0,[],x.r.mb⟩ else ⟨14,0,0,[],0,[],x.r.mb⟩:=⟨_,rfl⟩
 rw [← hvv];have HVV:=ah hvv;clear hvv;obtain ⟨W1,hW1⟩:∃ W1,W1=aX w x:=⟨_,rfl⟩;rw [← hW1] at HK1 HQ1 HV1 HL1 cC;unfold aX at hW1;unfold eh;have HSZ:=ah hsz;obtain ⟨q0,q1,q2,q3,q4,q5,q6,q7,q8,q9,q10⟩:=HQ1.out.cells;clear h hk hsz hl q1 q2 q3 q4 q5 q6 q7 q8 q9 q10;rw [h2] at q0;have HK6:=ah h2;clear h2;go_enter Tryz.func90,Tryz.ntmps90;go_upto_region 1 with fail
 rw [← hW1];clear hW1;go_upto_region 6 with fail
 clear q0;refine wp_region_held_drew (S:=Ah b w.heap.size p m.a x) (by kernel_rfl) ((HL1.out.kept (aa.refl [] _).drew).dq (HQ1.out.kept (aa.refl [] _).drew)) (fun hHeld=>?_);refine aU [0,1,2,3,4,5,6,7,8,9,10,11,12] (by rfl) (by kernel_rfl) (fun _ _ _ _ _ h=>h) hHeld ?_
 iterate 13
  refine yk ?_ rfl (Or.inl ⟨by rfl,?_⟩) ?_;rotate_left
  ·intro w9 hSw;obtain ⟨m0,m4,m5,q0,q1,q2,q3,q4,q5,q6,q7,q8,q9,q10,_⟩:=hSw;rw [HK6.out] at q0;go_simp;(try with_reducible rfl)
  try simp only [sT,Act.put]
 refine aT ?_;simp only [au,sT];refine aH 13 (by kernel_rfl) rfl (fun K0 hK0=>?_);go_simp;refine (cC _ (aa.refl [] _).drew).mono ?_;rintro _ w2 ⟨rfl,HS2⟩;obtain ⟨F2,hL2,hF2,hs2⟩:=id HS2.out;have HQ2:=ah ((HQ1.out.kept (aa.refl [] _).drew).frd hF2);have HV2:=ah ((HV1.out.kept (aa.refl [] _).drew).frd hF2);have hS2:=hL2.dq HQ2.out;clear hL2 hF2 hs2;go_wp2_with fail
 refine hK0.out _ _ hS2 (fun hHeld=>?_);clear hK0 K0;try simp only [sT,Act.put]
 refine aU [14] (by rfl) (by kernel_rfl) (fun _ _ _ _ _ h=>h) hHeld ?_
 iterate 1
  refine yk ?_ rfl (Or.inl ⟨by rfl,?_⟩) ?_;rotate_left
  ·intro w9 hSw;obtain ⟨m0,m4,m5,q0,q1,q2,q3,q4,q5,q6,q7,q8,q9,q10,_⟩:=hSw;go_simp;(try with_reducible rfl)
  try simp only [sT,Act.put]
 refine aT ?_;simp only [au,sT];refine wpAnyH_done (by kernel_rfl) ?_ _;clear hHeld;have c10:=hS2.q10;have c0:=hS2.q0;rw [HK6.out] at c0;clear hS2;have r0:=ag (k:=0) HV2.out rfl;have fr0:=aj HV2.out 0;have r1:=ag (k:=1) HV2.out rfl;have fr1:=aj HV2.out 1;have r2:=ag (k:=2) HV2.out rfl;have fr2:=aj HV2.out 2;have r3:=ag (k:=3) HV2.out rfl;have fr3:=aj HV2.out 3;have r4:=ag (k:=4) HV2.out rfl;have fr4:=aj HV2.out 4;have r5:=ag (k:=5) HV2.out rfl;have fr5:=aj HV2.out 5;have r6:=ag (k:=6) HV2.out rfl;have fr6:=aj HV2.out 6;by_cases hz:fW al m.e m.a x.r.mb true=0
 ·have HVW:Hid (vv=⟨12,0,0,[],0,[],x.r.mb⟩):=HVV.out.trans (if_pos hz);rw [hz];clear hz;(go_wp2_with fail);refine bodyPost_ret (bj (by rfl) _ (by rfl) (aD HV2.out rfl _ _ _ _ _ _ _) rfl) rfl ?_;rw [HVW.out];exact bH HSZ.out (HK1.out.trans (aa.refl [] _).drew (by simp)) HS2.out.u0 (cw.nil _ _) HV2.out (az (aa.refl _ _) (by simp) _ _ _ _ _ _ _)
 ·have HVW:Hid (vv=⟨14,0,0,[],0,[],x.r.mb⟩):=HVV.out.trans (if_neg hz);(go_wp2_with fail);refine bodyPost_ret (bj (by rfl) _ (by rfl) (aD HV2.out rfl _ _ _ _ _ _ _) rfl) rfl ?_;rw [HVW.out];exact bH HSZ.out (HK1.out.trans (aa.refl [] _).drew (by simp)) HS2.out.u0 (cw.nil _ _) HV2.out (az (aa.refl _ _) (by simp) _ _ _ _ _ _ _)
theorem qA (h:aM w0 w M D b p al sz m) (hl:m.e.length≤1000) (x:Rm) (h2:x.r.k=7):Calls Tryz.prog 90 #[.pointer (some ⟨b,0,none⟩),eh x] w fun e w'=>gP w0 w M D b p al sz (if fW al m.e m.a x.r.mb false=0 then ⟨13,0,0,[],0,[],x.r.mb⟩ else ⟨14,0,0,[],0,[],x.r.mb⟩) ⟨m.a,m.g,m.s,jn al m.e m.a x.r.mb false⟩ e w':=by
 have hsz:=h.size;have hk:=ax w x;have HK1:=ah hk;have HQ1:=ah (aF w x).1;have HV1:=ah (aF w x).2;have HL1:=ah (h.kept hk);have cC:=fun W (hk:aa [] (aX w x) W)=>vC ((h.kept (ax w x)).kept hk) hl x.r.mb false;obtain ⟨vv,hvv⟩:∃ vv:Vt,vv=if fW al m.e m.a x.r.mb false=0 then ⟨13,0,0,[],0,[],x.r.mb⟩ else ⟨14,0,0,[],0,[],x.r.mb⟩:=⟨_,rfl⟩
 rw [← hvv];have HVV:=ah hvv;clear hvv;obtain ⟨W1,hW1⟩:∃ W1,W1=aX w x:=⟨_,rfl⟩;rw [← hW1] at HK1 HQ1 HV1 HL1 cC;unfold aX at hW1;unfold eh;have HSZ:=ah hsz;obtain ⟨q0,q1,q2,q3,q4,q5,q6,q7,q8,q9,q10⟩:=HQ1.out.cells;clear h hk hsz hl q1 q2 q3 q4 q5 q6 q7 q8 q9 q10;rw [h2] at q0;have HK6:=ah h2;clear h2;go_enter Tryz.func90,Tryz.ntmps90;go_upto_region 1 with fail
 rw [← hW1];clear hW1;go_upto_region 6 with fail
 clear q0;refine wp_region_held_drew (S:=Ah b w.heap.size p m.a x) (by kernel_rfl) ((HL1.out.kept (aa.refl [] _).drew).dq (HQ1.out.kept (aa.refl [] _).drew)) (fun hHeld=>?_);refine aU [0,1,2,3,4,5,6,7,8,9,10,11,12] (by rfl) (by kernel_rfl) (fun _ _ _ _ _ h=>h) hHeld ?_
 iterate 13
  refine yk ?_ rfl (Or.inl ⟨by rfl,?_⟩) ?_;rotate_left
  ·intro w9 hSw;obtain ⟨m0,m4,m5,q0,q1,q2,q3,q4,q5,q6,q7,q8,q9,q10,_⟩:=hSw;rw [HK6.out] at q0;go_simp;(try with_reducible rfl)
  try simp only [sT,Act.put]
 refine aT ?_;simp only [au,sT];refine aH 13 (by kernel_rfl) rfl (fun K0 hK0=>?_);go_simp;refine (cC _ (aa.refl [] _).drew).mono ?_;rintro _ w2 ⟨rfl,HS2⟩;obtain ⟨F2,hL2,hF2,hs2⟩:=id HS2.out;have HQ2:=ah ((HQ1.out.kept (aa.refl [] _).drew).frd hF2);have HV2:=ah ((HV1.out.kept (aa.refl [] _).drew).frd hF2);have hS2:=hL2.dq HQ2.out;clear hL2 hF2 hs2;go_wp2_with fail
 refine hK0.out _ _ hS2 (fun hHeld=>?_);clear hK0 K0;try simp only [sT,Act.put]
 refine aU [14] (by rfl) (by kernel_rfl) (fun _ _ _ _ _ h=>h) hHeld ?_
 iterate 1
  refine yk ?_ rfl (Or.inl ⟨by rfl,?_⟩) ?_;rotate_left
  ·intro w9 hSw;obtain ⟨m0,m4,m5,q0,q1,q2,q3,q4,q5,q6,q7,q8,q9,q10,_⟩:=hSw;go_simp;(try with_reducible rfl)
  try simp only [sT,Act.put]
 refine aT ?_;simp only [au,sT];refine wpAnyH_done (by kernel_rfl) ?_ _;clear hHeld;have c10:=hS2.q10;have c0:=hS2.q0;rw [HK6.out] at c0;clear hS2;have r0:=ag (k:=0) HV2.out rfl;have fr0:=aj HV2.out 0;have r1:=ag (k:=1) HV2.out rfl;have fr1:=aj HV2.out 1;have r2:=ag (k:=2) HV2.out rfl;have fr2:=aj HV2.out 2;have r3:=ag (k:=3) HV2.out rfl;have fr3:=aj HV2.out 3;have r4:=ag (k:=4) HV2.out rfl;have fr4:=aj HV2.out 4;have r5:=ag (k:=5) HV2.out rfl;have fr5:=aj HV2.out 5;have r6:=ag (k:=6) HV2.out rfl;have fr6:=aj HV2.out 6;by_cases hz:fW al m.e m.a x.r.mb false=0
 ·have HVW:Hid (vv=⟨13,0,0,[],0,[],x.r.mb⟩):=HVV.out.trans (if_pos hz);rw [hz];clear hz;(go_wp2_with fail);refine bodyPost_ret (bj (by rfl) _ (by rfl) (aD HV2.out rfl _ _ _ _ _ _ _) rfl) rfl ?_;rw [HVW.out];exact bH HSZ.out (HK1.out.trans (aa.refl [] _).drew (by simp)) HS2.out.u0 (cw.nil _ _) HV2.out (az (aa.refl _ _) (by simp) _ _ _ _ _ _ _)
 ·have HVW:Hid (vv=⟨14,0,0,[],0,[],x.r.mb⟩):=HVV.out.trans (if_neg hz);(go_wp2_with fail);refine bodyPost_ret (bj (by rfl) _ (by rfl) (aD HV2.out rfl _ _ _ _ _ _ _) rfl) rfl ?_;rw [HVW.out];exact bH HSZ.out (HK1.out.trans (aa.refl [] _).drew (by simp)) HS2.out.u0 (cw.nil _ _) HV2.out (az (aa.refl _ _) (by simp) _ _ _ _ _ _ _)
theorem sm (h:aM w0 w M D b p al sz m) (hl:m.g.cs.length≤10000) (x:Rm) (hx:dE w x) (h2:x.r.k≠2) (h6:x.r.k≠6) (h7:x.r.k≠7):Calls Tryz.prog 90 #[.pointer (some ⟨b,0,none⟩),eh x] w fun e w'=>gP w0 w M D b p al sz (iq m.g x.r) m e w':=by
 have hsz:=h.size;have hk:=ax w x;have HK1:=ah hk;have HQ1:=ah (aF w x).1;have HV1:=ah (aF w x).2;have HL1:=ah (h.kept hk);have cC:=uo (h.kept (ax w x)) hl x (hx.kept (ax w x));obtain ⟨vv,hvv⟩:∃ vv:Vt,vv=iq m.g x.r:=⟨_,rfl⟩;rw [← hvv] at cC ⊢;clear hvv;unfold eh at cC;obtain ⟨W1,hW1⟩:∃ W1,W1=aX w x:=⟨_,rfl⟩;rw [← hW1] at HK1 HQ1 HV1 HL1 cC;unfold aX at hW1;unfold eh;have HSZ:=ah hsz;obtain ⟨q0,q1,q2,q3,q4,q5,q6,q7,q8,q9,q10⟩:=HQ1.out.cells;clear h hk hsz hx hl;go_enter Tryz.func90,Tryz.ntmps90;go_upto_region 1 with fail
 rw [← hW1];clear hW1;go_wp2_with fail
 refine cC.mono ?_;rintro _ w2 ⟨ao,n,c,rfl,hO2,hS2⟩;have HO2:=ah hO2;have HS2:=ah hS2;obtain ⟨F2,hL2,hF2,hs2,_⟩:=hS2;have HV2:=ah (HV1.out.frd hF2);unfold gA;clear hO2 hL2 hF2 hs2 q0 q1 q2 q3 q4 q5 q6 q7 q8 q9 q10 cC;have r0:=ag (k:=0) HV2.out rfl;have fr0:=aj HV2.out 0;have r1:=ag (k:=1) HV2.out rfl;have fr1:=aj HV2.out 1;have r2:=ag (k:=2) HV2.out rfl;have fr2:=aj HV2.out 2;have r3:=ag (k:=3) HV2.out rfl;have fr3:=aj HV2.out 3;have r4:=ag (k:=4) HV2.out rfl;have fr4:=aj HV2.out 4;have r5:=ag (k:=5) HV2.out rfl;have fr5:=aj HV2.out 5;have r6:=ag (k:=6) HV2.out rfl;have fr6:=aj HV2.out 6;go_wp2_with fail
 refine bodyPost_ret (bj (by rfl) _ (by rfl) (aD HV2.out rfl _ _ _ _ _ _ _) rfl) rfl ?_;exact bH HSZ.out HK1.out HS2.out HO2.out HV2.out (az (aa.refl _ _) (by simp) _ _ _ _ _ _ _)
theorem A2 (h:aM w0 w M D b p al sz m) (hl:m.g.cs.length≤10000) (he:m.e.length≤1000) (x:Rm) (hx:dE w x):Calls Tryz.prog 90 #[.pointer (some ⟨b,0,none⟩),eh x] w fun e w'=>gP w0 w M D b p al sz (jI al m x.r) ⟨m.a,doG m x.r,m.s,nV al m x.r⟩ e w':=by
 unfold jI doG nV;by_cases h2:x.r.k=2
 ·rw [if_pos h2,if_pos h2,if_neg (by omega)];exact ru h hl x hx h2
 ·rw [if_neg h2,if_neg h2];by_cases h6:x.r.k=6
  ·have e1:x.r.k=6∨x.r.k=7:=.inl h6;simp only [if_pos e1,if_pos h6,decide_eq_true h6];exact t9 h he x h6
  ·by_cases h7:x.r.k=7
   ·have e1:x.r.k=6∨x.r.k=7:=.inr h7;simp only [if_pos e1,if_neg h6,decide_eq_false h6];exact qA h he x h7
   ·rw [if_neg (by omega),if_neg (by omega)];exact sm h hl x hx h2 h6 h7
end Go.Proofs.YtgpnlidnbldiiaaGreat
