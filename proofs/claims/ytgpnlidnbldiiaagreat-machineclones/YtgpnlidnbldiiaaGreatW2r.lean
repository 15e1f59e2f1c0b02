/-
  Texts of this claim that are laid as one: MdOps, MdDeed.
-/
import Derived.Test.YtgpnlidnbldiiaaGreatMdMemr
import Derived.Test.YtgpnlidnbldiiaaGreatQ18r
import Derived.Test.YtgpnlidnbldiiaaGreatQ2r
import Derived.Test.YtgpnlidnbldiiaaGreatM12r
/-
 What the functions of the document's machine share.
-/
namespace Go.Proofs.YtgpnlidnbldiiaaGreat
open Go.RowKit
theorem RqB.frd {B:Nat}{M:List Nat}{w w':World}{b:Nat}{x:Rm}(h:RqB w b x) (k:FrD B M w w'):RqB w' b x:=k.at h (by decide)
theorem VdB.frd {B:Nat}{M:List Nat}{w w':World}{b:Nat}{v:Vt}{u:Value}(h:VdB w b v u) (k:FrD B M w w'):VdB w' b v u:=k.at h (by decide)
structure DqS (b bx:Nat) (p:Pl) (a:Int) (x:Rm) (w:World):Prop where
 m0:w.cell? ⟨b,0,none⟩=some (.int .i64 a)
 m4:w.cell? ⟨b,4,none⟩=some (.pointer (some ⟨p.t,0,none⟩))
 m5:w.cell? ⟨b,5,none⟩=some (.pointer (some ⟨p.e,0,none⟩))
 q0:w.cell? ⟨bx,0,none⟩=some (.int .i64 x.r.k)
 q1:w.cell? ⟨bx,1,none⟩=some (.string (str x.r.n))
 q2:w.cell? ⟨bx,2,none⟩=some (.int .i64 x.r.s)
 q3:w.cell? ⟨bx,3,none⟩=some (.int .i64 x.r.q)
 q4:w.cell? ⟨bx,4,none⟩=some (.int .i64 x.r.b)
 q5:w.cell? ⟨bx,5,none⟩=some (.string (str x.r.f))
 q6:w.cell? ⟨bx,6,none⟩=some (.slice x.mo x.m x.mc)
 q7:w.cell? ⟨bx,7,none⟩=some (.string (str x.r.p))
 q8:w.cell? ⟨bx,8,none⟩=some (.int .i64 x.r.fr)
 q9:w.cell? ⟨bx,9,none⟩=some (.int .i64 x.r.mn)
 q10:w.cell? ⟨bx,10,none⟩=some (.int .i64 x.r.mb)
 rg:w.rangeAt bx 0 (rqC x)
structure MdC (w:World) (b:Nat) (p:Pl) (a:Int) (aC aL aR:Option Addr) (nC cC nL cL nR cR:Nat):Prop where
 m0:w.cell? ⟨b,0,none⟩=some (.int .i64 a)
 m1:w.cell? ⟨b,1,none⟩=some (.slice aC nC cC)
 m2:w.cell? ⟨b,2,none⟩=some (.slice aL nL cL)
 m3:w.cell? ⟨b,3,none⟩=some (.slice aR nR cR)
 m4:w.cell? ⟨b,4,none⟩=some (.pointer (some ⟨p.t,0,none⟩))
 m5:w.cell? ⟨b,5,none⟩=some (.pointer (some ⟨p.e,0,none⟩))
theorem MdC.kept {w w':World}{b:Nat}{p:Pl}{a:Int}{aC aL aR:Option Addr}{nC cC nL cL nR cR:Nat}(h:MdC w b p a aC aL aR nC cC nL cL nR cR) (k:Kept [] w w'):MdC w' b p a aC aL aR nC cC nL cL nR cR :=
 ⟨k.cell h.m0 (by simp),k.cell h.m1 (by simp),k.cell h.m2 (by simp),k.cell h.m3 (by simp),k.cell h.m4 (by simp),k.cell h.m5 (by simp)⟩
theorem LiveD.dq {w0 w:World}{M D:List Nat}{b:Nat}{p:Pl}{al:Int}{sz:Nat}{m:Ma}(h:LiveD w0 w M D b p al sz m) {bx:Nat}{x:Rm}(hq:RqB w bx x):DqS b bx p m.a x w:=by
 obtain ⟨v,vL,vR,hat⟩:=h.at
 obtain ⟨q0,q1,q2,q3,q4,q5,q6,q7,q8,q9,q10⟩:=hq.cells
 exact ⟨cell_inC (k:=0) hat rfl,cell_inC (k:=4) hat rfl,cell_inC (k:=5) hat rfl,q0,q1,q2,q3,q4,q5,q6,q7,q8,q9,q10,rqB_range hq⟩
structure GrO (w:World) (g:Gr) (aC aL aR:Option Addr) (nC cC nL cL nR cR:Nat) (K:List (Com × Value)):Prop where
 c:SlK w aC nC cC K
 com:K.map Prod.fst=g.cs
 n:nC=g.cs.length
 l:OwnL 0 w (.slice aL nL cL) g.ls
 r:OwnM 0 w (.slice aR nR cR) g.rs
theorem LiveD.open {w0 w:World}{M D:List Nat}{b:Nat}{p:Pl}{al:Int}{sz:Nat}{m:Ma}(h:LiveD w0 w M D b p al sz m):∃ aC aL aR nC cC nL cL nR cR K,MdC w b p m.a aC aL aR nC cC nL cL nR cR∧GrO w m.g aC aL aR nC cC nL cL nR cR K:=by
 obtain ⟨v,vL,vR,K,vt,X,h1,_⟩:=h
 obtain ⟨aC,cC,rfl,hS,_⟩:=h1.g.row.sl h1.g.own
 obtain ⟨aL,cL,rfl,_⟩:=h1.g.lvs.sl
 obtain ⟨aR,cR,rfl,_⟩:=h1.g.rfs.at
 have hat:=h1.g.at_
 refine ⟨aC,aL,aR,_,cC,_,cL,_,cR,K,⟨cell_inC (k:=0) hat rfl,cell_inC (k:=1) hat rfl,cell_inC (k:=2) hat rfl,cell_inC (k:=3) hat rfl,cell_inC (k:=4) hat rfl,cell_inC (k:=5) hat rfl⟩,⟨hS,h1.g.com,?_,h1.g.lvs,h1.g.rfs⟩⟩
 rw [← h1.g.com,List.length_map]
theorem LiveD.box {w0 w w':World}{M D:List Nat}{b:Nat}{p:Pl}{al:Int}{sz:Nat}{m:Ma}(h:LiveD w0 w M D b p al sz m) {Bk:Nat}{cur:Array Value}{mk:Nat × Nat}(hB:w.heap[Bk]?=some (.cells cur 39 mk)) (k:Kept [Bk] w w') (hlt:w0.heap.size≤Bk):LiveD w0 w' M D b p al sz m:=by
 obtain ⟨v,vL,vR,K,vt,X,h1,h2,h3,h4,h5,h6⟩:=h
 have hT:Typed w [Bk] [39]:=fun i hi cur' t' mk' hh=>by
  rw [List.mem_singleton] at hi
  subst hi
  rw [hB] at hh;cases hh;simp
 refine ⟨v,vL,vR,K,vt,X,⟨h1.g.keep k (fun i hi hm=>?_) hT (by decide) (by decide) (by decide),h1.nl,h1.t.keep k (fun i hi hm=>?_) hT (by decide) (by decide),h1.e.keep k hT (by decide) (by decide) (by decide)⟩,h2,h3.trans k (fun i hi=>.inr (by simp at hi;omega)),h4,fun i hi=>Nat.lt_of_lt_of_le (h5 i hi) k.size,h6⟩
 ·rw [List.mem_singleton] at hm
  subst hm
  have:=h1.g.typed i hi _ _ _ hB
  simp at this
 ·rw [List.mem_singleton] at hm
  subst hm
  have:=h1.t.typed i hi _ _ _ hB
  simp at this
theorem StepD.trans {w0 a b' c:World}{F D:List Nat}{b:Nat}{p:Pl}{al:Int}{sz:Nat}{m':Ma}{F1:List Nat}(h2:FrD w0.heap.size F a b') (h3:∀ k∈F1,k∈F∨a.heap.size≤k) (k:StepD w0 b' F1 D b p al sz m' c):StepD w0 a F D b p al sz m' c:=by
 obtain ⟨F',k1,k2,k3⟩:=k
 refine ⟨F',k1,h2.trans k2 h3,fun i hi=>?_⟩
 rcases k3 i hi with h | h
 ·exact h3 i h
 ·exact .inr (Nat.le_trans h2.size h)
theorem FrD.box {B:Nat}{F:List Nat}{w w2 w3:World}(h:FrD B F w w2) {Bk:Nat}(hlt:w.heap.size≤Bk) (k:Kept [Bk] w2 w3):FrD B F w w3:=by
 obtain ⟨U,h1,h2,h3⟩:=h
 exact ⟨U,h1.trans k (fun i hi=>.inr (by simp at hi;omega)),h2,h3⟩
theorem StepD.lift {w0 w w1 w2:World}{F D:List Nat}{b:Nat}{p:Pl}{al:Int}{sz:Nat}{m:Ma}(k:Kept [] w w1) (h:StepD w0 w1 F D b p al sz m w2):StepD w0 w F D b p al sz m w2 :=
 StepD.trans (F1:=F) (FrD.kept k) (fun _ hi=>.inl hi) h
def StepV (w0 w:World) (F D:List Nat) (b:Nat) (p:Pl) (al:Int) (sz:Nat) (m:Ma) (u:Value) (w':World):Prop :=
 ∃ F',LiveD w0 w' F' D b p al sz m∧FrD w0.heap.size F w w'∧(∀ k∈F',k∈F∨w.heap.size≤k)∧∀ j,u.ownBlock=some j→j ∉ F'
theorem StepD.u0 {w0 w w2:World}{F D:List Nat}{b:Nat}{p:Pl}{al:Int}{sz:Nat}{m:Ma}(h:StepD w0 w F D b p al sz m w2):StepV w0 w F D b p al sz m (.slice none 0 0) w2:=by
 obtain ⟨F',h1,h2,h3⟩:=h;exact ⟨F',h1,h2,h3,fun j hj=>by cases hj⟩
theorem StepV.same {w0 w w':World}{F D:List Nat}{b:Nat}{p:Pl}{al:Int}{sz:Nat}{m:Ma}{u:Value}{k:List Com}(h:LiveD w0 w F D b p al sz m) (hk:Kept [] w w') (hu:KoO w.heap.size w' u k):StepV w0 w F D b p al sz m u w' :=
 ⟨F,h.kept hk,FrD.kept hk,fun _ hi=>.inl hi,fun j hj hm=>by have:=(ko_ge hu hj).1;have:=h.lt j hm;omega⟩
theorem StepV.box {w0 w w2 w3:World}{F D:List Nat}{b:Nat}{p:Pl}{al:Int}{sz:Nat}{m:Ma}{u:Value}(h:StepV w0 w F D b p al sz m u w2) {Bk:Nat}{cur:Array Value}{mk:Nat × Nat}(hB:w2.heap[Bk]?=some (.cells cur 39 mk)) (hlt:w.heap.size≤Bk) (h0:w0.heap.size≤w.heap.size) (k:Kept [Bk] w2 w3):StepV w0 w F D b p al sz m u w3:=by
 obtain ⟨F',h1,h2,h3,h4⟩:=h
 exact ⟨F',h1.box hB k (by omega),h2.box hlt k,h3,h4⟩
theorem StepV.trans {w0 a b' c:World}{F D:List Nat}{b:Nat}{p:Pl}{al:Int}{sz:Nat}{m':Ma}{u:Value}{F1:List Nat}(h2:FrD w0.heap.size F a b') (h3:∀ k∈F1,k∈F∨a.heap.size≤k) (k:StepV w0 b' F1 D b p al sz m' u c):StepV w0 a F D b p al sz m' u c:=by
 obtain ⟨F',k1,k2,k3,k4⟩:=k
 refine ⟨F',k1,h2.trans k2 h3,fun i hi=>?_,k4⟩
 rcases k3 i hi with h | h
 ·exact h3 i h
 ·exact .inr (Nat.le_trans h2.size h)
theorem StepV.lift {w0 w w1 w2:World}{F D:List Nat}{b:Nat}{p:Pl}{al:Int}{sz:Nat}{m:Ma}{u:Value}(k:Kept [] w w1) (h:StepV w0 w1 F D b p al sz m u w2):StepV w0 w F D b p al sz m u w2 :=
 StepV.trans (F1:=F) (FrD.kept k) (fun _ hi=>.inl hi) h
theorem StepV.more {w0 w w1 w2:World}{F D:List Nat}{b:Nat}{p:Pl}{al:Int}{sz:Nat}{m:Ma}{u:Value}(h:StepV w0 w F D b p al sz m u w1) (k:Kept [] w1 w2):StepV w0 w F D b p al sz m u w2:=by
 obtain ⟨F',h1,h2,h3,h4⟩:=h
 exact ⟨F',h1.kept k,h2.trans (FrD.kept (M:=[]) k) (fun i hi=>by cases hi),h3,h4⟩
def DeedD (w0 w:World) (F D:List Nat) (b:Nat) (p:Pl) (al:Int) (sz:Nat) (v:Vt) (m:Ma) (e:Ending) (w':World):Prop :=
 ∃ ao n c,e=.returned (vtV v (.slice ao n c))∧KoO w.heap.size w' (.slice ao n c) v.k∧StepV w0 w F D b p al sz m (.slice ao n c) w'
theorem deedD_end {w0 w w1 w2 w3:World}{F D:List Nat}{b:Nat}{p:Pl}{al:Int}{sz:Nat}{v v':Vt}{m:Ma}{ao:Option Addr}{n c:Nat}{u':Value}(h0:w0.heap.size≤w.heap.size) (hK:Kept [] w w1) (hS:StepV w0 w1 F D b p al sz m (.slice ao n c) w2) (hO:KoO w1.heap.size w2 (.slice ao n c) v.k) (hV:VdB w2 (w.heap.size+1) v' u') (k:Kept [w.heap.size+1] w2 w3):DeedD w0 w F D b p al sz v m (.returned (vtV v (.slice ao n c))) w3 :=
 ⟨ao,n,c,rfl,ko_box (hO.mono hK.size) hV k,(hS.lift hK).box hV (Nat.le_succ _) h0 k⟩
variable {w0 w : World} {M D : List Nat} {b : Nat} {p : Pl} {al : Int} {sz : Nat} {m : Ma} {aC aL aR : Option Addr} {nC cC nL cL nR cR : Nat} {K : List (Com × Value)}
theorem LiveD.size {w0 w:World}{M D:List Nat}{b:Nat}{p:Pl}{al:Int}{sz:Nat}{m:Ma}(h:LiveD w0 w M D b p al sz m):w0.heap.size≤w.heap.size:=h.keeps.size
def LookD (w:World) (v:Vt) (e:Ending) (w':World):Prop :=
 ∃ ao n c,e=.returned (.agg #[.int .i64 v.c,.int .i64 v.s,.int .i64 v.r,.string (str v.p),.int .u64 v.d,.slice ao n c,.int .i64 v.m])∧Hid (KoO w.heap.size w' (.slice ao n c) v.k)∧Hid (Kept [] w w')
theorem GrO.kept {w w':World}{g:Gr}(h:GrO w g aC aL aR nC cC nL cL nR cR K) (k:Kept [] w w'):GrO w' g aC aL aR nC cC nL cL nR cR K :=
 ⟨h.c.kept k,h.com,h.n,k.ownsRow h.l (by simp),k.ownsRow h.r (by simp)⟩
theorem readD {g:Gr}(hG:GrO w g aC aL aR nC cC nL cL nR cR K) (hW:Wf g) (q:List UInt8) (hq:q.length≤1000000):Calls Tryz.prog 38 #[.agg #[.slice aC nC cC,.slice aL nL cL,.slice aR nR cR],.string (str q)] w fun e w'=>LookD w (vdT (readV g q)) e w' :=
 (mread_call w aC aL aR nC cC nL cL nR cR hG.l.slice hW q hq).mono fun _ _ ⟨he,hk⟩=>⟨none,0,0,he,KoO.nil _ _,hk⟩
theorem logD {g:Gr}(hG:GrO w g aC aL aR nC cC nL cL nR cR K) (hW:Wf g) (hl:g.cs.length≤10000) (f n:Int) (hf:f < 2 ^ 63):Calls Tryz.prog 39 #[.agg #[.slice aC nC cC,.slice aL nL cL,.slice aR nR cR],.int .i64 f,.int .i64 n] w fun e w'=>LookD w (if f < 1∨n < 1 then vtC 5 else ⟨11,0,0,[],0,logL g.cs f n,0⟩) e w':=by
 by_cases hb:f < 1∨n < 1
 ·rw [if_pos hb]
  exact (mlog_bad w aC aL aR nC cC nL cL nR cR f n hb).mono fun e w' ⟨he,hk⟩=>⟨none,0,0,he,KoO.nil _ _,hk⟩
 ·rw [if_neg hb]
  refine (mlog_ok w aC aL aR nC cC nL cL nR cR hG.c hG.com hW hl f n (by omega) (by omega) hf).mono fun e w' ⟨v',K',he,h2,h3,h4,hk⟩=>?_
  have ho:KoO w.heap.size w' v' (logL g.cs f n):=⟨K',h3,h4,h2⟩
  obtain ⟨ao,n2,c,rfl⟩:=ho.ko.one
  exact ⟨ao,n2,c,he,ho,hk⟩
structure DgS (b bx:Nat) (p:Pl) (a:Int) (aC aL aR:Option Addr) (nC cC nL cL nR cR:Nat) (x:Rm) (w:World):Prop where
 m0:w.cell? ⟨b,0,none⟩=some (.int .i64 a)
 m1:w.cell? ⟨b,1,none⟩=some (.slice aC nC cC)
 m2:w.cell? ⟨b,2,none⟩=some (.slice aL nL cL)
 m3:w.cell? ⟨b,3,none⟩=some (.slice aR nR cR)
 m4:w.cell? ⟨b,4,none⟩=some (.pointer (some ⟨p.t,0,none⟩))
 m5:w.cell? ⟨b,5,none⟩=some (.pointer (some ⟨p.e,0,none⟩))
 q0:w.cell? ⟨bx,0,none⟩=some (.int .i64 x.r.k)
 q1:w.cell? ⟨bx,1,none⟩=some (.string (str x.r.n))
 q2:w.cell? ⟨bx,2,none⟩=some (.int .i64 x.r.s)
 q3:w.cell? ⟨bx,3,none⟩=some (.int .i64 x.r.q)
 q4:w.cell? ⟨bx,4,none⟩=some (.int .i64 x.r.b)
 q5:w.cell? ⟨bx,5,none⟩=some (.string (str x.r.f))
 q6:w.cell? ⟨bx,6,none⟩=some (.slice x.mo x.m x.mc)
 q7:w.cell? ⟨bx,7,none⟩=some (.string (str x.r.p))
 q8:w.cell? ⟨bx,8,none⟩=some (.int .i64 x.r.fr)
 q9:w.cell? ⟨bx,9,none⟩=some (.int .i64 x.r.mn)
 q10:w.cell? ⟨bx,10,none⟩=some (.int .i64 x.r.mb)
 rg:w.rangeAt bx 0 (rqC x)
theorem MdC.dg {w:World}{bx:Nat}{x:Rm}{a:Int}(h:MdC w b p a aC aL aR nC cC nL cL nR cR) (hq:RqB w bx x):DgS b bx p a aC aL aR nC cC nL cL nR cR x w:=by
 obtain ⟨m0,m1,m2,m3,m4,m5⟩:=h
 obtain ⟨q0,q1,q2,q3,q4,q5,q6,q7,q8,q9,q10⟩:=hq.cells
 exact ⟨m0,m1,m2,m3,m4,m5,q0,q1,q2,q3,q4,q5,q6,q7,q8,q9,q10,rqB_range hq⟩
theorem MdC.keep1 {w w':World}{a:Int}{B:Nat}(h:MdC w b p a aC aL aR nC cC nL cL nR cR) (k:Kept [B] w w') (hne:b≠B):MdC w' b p a aC aL aR nC cC nL cL nR cR :=
 ⟨k.cell h.m0 (by simpa using hne),k.cell h.m1 (by simpa using hne),k.cell h.m2 (by simpa using hne),k.cell h.m3 (by simpa using hne),k.cell h.m4 (by simpa using hne),k.cell h.m5 (by simpa using hne)⟩
set_option linter.unusedSimpArgs false in
set_option maxHeartbeats 1000000 in
set_option maxRecDepth 100000 in
theorem dpeek_call (h:LiveD w0 w M D b p al sz m) (hl:m.g.cs.length≤10000) (x:Rm) (hx:RqOk w x):Calls Tryz.prog 12 #[.pointer (some ⟨b,0,none⟩),rqV x] w fun e w'=>DeedD w0 w M D b p al sz (peekT m.g x.r) m e w':=by
 have hsz:=h.size
 obtain ⟨v0,vL0,vR0,hat0⟩:=h.at
 have hbl:=lt_of_at hat0
 obtain ⟨aC,aL,aR,nC,cC,nL,cL,nR,cR,K,hC,hG⟩:=h.open
 have hk:=wDeed_kept w x
 have HK1:=hide hk
 have HQ1:=hide (wDeed_rv w x).1
 have HV1:=hide (wDeed_rv w x).2
 have HL1:=hide (h.kept hk)
 have HC1:=hide (hC.kept hk)
 have hnC:=hG.n
 have cRd:=fun W (hk:Kept [] (wDeed w x) W)=>readD ((hG.kept (wDeed_kept w x)).kept hk) h.w.g.wf x.r.p (by have:=hx.2.2.2.1;omega)
 have cLg:=fun W (hk:Kept [] (wDeed w x) W)=>logD ((hG.kept (wDeed_kept w x)).kept hk) h.w.g.wf hl x.r.fr x.r.mn (by have:=hx.1.2.2.2.1;omega)
 obtain ⟨W1,hW1⟩:∃ W1,W1=wDeed w x:=⟨_,rfl⟩
 rw [← hW1] at HK1 HQ1 HV1 HL1 HC1 cRd cLg
 unfold wDeed at hW1
 unfold rqV
 have HSZ:=hide hsz
 have HBL:=hide hbl
 obtain ⟨q0,q1,q2,q3,q4,q5,q6,q7,q8,q9,q10⟩:=HQ1.out.cells
 clear h hk hsz hat0 hC hG hx hl hbl q1 q2 q3 q4 q5 q6 q7 q8 q9 q10
 by_cases h3:x.r.k=3
 ·rw [h3] at q0
  rw [show peekT m.g x.r=⟨8,0,nC,[],0,[],0⟩ by rw [hnC];exact if_pos h3]
  obtain ⟨m0,m1,m2,m3,m4,m5⟩:=HC1.out
  clear cRd cLg hnC h3
  go_enter Tryz.func12,Tryz.ntmps12
  go_upto_region 1 with fail
  rw [← hW1]
  clear hW1
  have r0:=cell_inC (k:=0) HV1.out rfl
  have fr0:=froz3 HV1.out 0
  have r1:=cell_inC (k:=1) HV1.out rfl
  have fr1:=froz3 HV1.out 1
  have r2:=cell_inC (k:=2) HV1.out rfl
  have fr2:=froz3 HV1.out 2
  have r3:=cell_inC (k:=3) HV1.out rfl
  have fr3:=froz3 HV1.out 3
  have r4:=cell_inC (k:=4) HV1.out rfl
  have fr4:=froz3 HV1.out 4
  have r5:=cell_inC (k:=5) HV1.out rfl
  have fr5:=froz3 HV1.out 5
  have r6:=cell_inC (k:=6) HV1.out rfl
  have fr6:=froz3 HV1.out 6
  go_wp2_with fail
  refine bodyPost_ret (vt_res (by rfl) _ (by rfl) (setA7_at HV1.out rfl _ _ _ _ _ _ _) rfl) rfl ?_
  exact deedD_end HSZ.out HK1.out (StepD.same HL1.out (Kept.refl _ _)).u0 (KoO.nil _ _) HV1.out (setA7_kept (Kept.refl _ _) (by simp) _ _ _ _ _ _ _)
 ·by_cases h4:x.r.k=4
  ·rw [h4] at q0
   rw [show peekT m.g x.r=vdT (readV m.g x.r.p) from (if_neg h3).trans (if_pos h4)]
   clear cLg hnC h3 h4
   obtain ⟨vv,hvv⟩:∃ vv:Vt,vv=vdT (readV m.g x.r.p):=⟨_,rfl⟩
   rw [← hvv] at cRd ⊢
   clear hvv
   go_enter Tryz.func12,Tryz.ntmps12
   go_upto_region 1 with fail
   rw [← hW1]
   clear hW1
   go_upto_region 5 with fail
   clear q0
   refine wp_region_held_drew (S:=DgS b w.heap.size p m.a aC aL aR nC cC nL cL nR cR x) (by kernel_rfl) ((HC1.out.kept (Kept.refl [] _).drew).dg (HQ1.out.kept (Kept.refl [] _).drew)) (fun hHeld=>?_)
   refine tks [0,1,2,3,4,5] (by rfl) (by kernel_rfl) (fun _ _ _ _ _ h=>h) hHeld ?_
   iterate 6
    refine yk ?_ rfl (Or.inl ⟨by rfl,?_⟩) ?_
    rotate_left
    ·intro w9 hSw;obtain ⟨m0,m1,m2,m3,m4,m5,q0,q1,q2,q3,q4,q5,q6,q7,q8,q9,q10,_⟩:=hSw;go_simp;(try with_reducible rfl)
    try simp only [sT,Act.put]
   refine yk0 ?_
   simp only [setK,sT]
   refine rd1 6 (by kernel_rfl) rfl (fun K0 hK0=>?_)
   go_simp
   refine (cRd _ (Kept.refl [] _).drew).mono ?_
   rintro _ w2 ⟨ao,n,c,rfl,HO2,HK2⟩
   have hK2:=(Kept.refl [] W1).drew.trans HK2.out (by simp)
   have HQ2:=hide (HQ1.out.kept hK2)
   have HV2:=hide (HV1.out.kept hK2)
   have HC2:=hide (HC1.out.kept hK2)
   have HKB:=hide hK2
   have hS2:=HC2.out.dg HQ2.out
   have hSt:∀ w3,Hid (VdB w3 (w.heap.size+1) vv (.slice ao n c))→Hid (Kept [w.heap.size+1] w2 w3)→DgS b w.heap.size p m.a aC aL aR nC cC nL cL nR cR x w3:=fun w3 _ k3=>(HC2.out.keep1 k3.out (by have:=HBL.out;omega)).dg (k3.out.at HQ2.out (by simp))
   clear hK2
   go_wp2_with fail
   refine hK0.out _ _ hS2 (fun hHeld=>?_)
   clear hK0 K0
   try simp only [sT,Act.put]
   refine rd1 7 (by kernel_rfl) rfl (fun K0 hK0=>?_)
   refine step_storeV vv (.slice ao n c) ⟨_,_,_,rfl⟩ rfl rfl HV2.out fun w3 HV3 HK3=>?_
   refine hK0.out _ _ (hSt w3 HV3 HK3) (fun hHeld=>?_)
   clear hK0 K0
   try simp only [sT,Act.put]
   refine wpAnyH_done (by kernel_rfl) ?_ _
   clear hHeld
   go_wp2_with fail
   refine bodyPost_ret (vt_res (by rfl) _ (by rfl) HV3.out rfl) rfl ?_
   exact deedD_end HSZ.out HK1.out (StepV.same HL1.out HKB.out HO2.out) HO2.out HV2.out HK3.out
  ·by_cases h5:x.r.k=5
   ·rw [h5] at q0
    rw [show peekT m.g x.r=if x.r.fr < 1∨x.r.mn < 1 then vtC 5 else ⟨11,0,0,[],0,logL m.g.cs x.r.fr x.r.mn,0⟩ from (if_neg h3).trans ((if_neg h4).trans (if_pos h5))]
    clear cRd hnC h3 h4 h5
    obtain ⟨vv,hvv⟩:∃ vv:Vt,vv=if x.r.fr < 1∨x.r.mn < 1 then vtC 5 else ⟨11,0,0,[],0,logL m.g.cs x.r.fr x.r.mn,0⟩:=⟨_,rfl⟩
    rw [← hvv] at cLg ⊢
    clear hvv
    go_enter Tryz.func12,Tryz.ntmps12
    go_upto_region 1 with fail
    rw [← hW1]
    clear hW1
    go_upto_region 7 with fail
    clear q0
    refine wp_region_held_drew (S:=DgS b w.heap.size p m.a aC aL aR nC cC nL cL nR cR x) (by kernel_rfl) ((HC1.out.kept (Kept.refl [] _).drew).dg (HQ1.out.kept (Kept.refl [] _).drew)) (fun hHeld=>?_)
    refine tks [0,1,2,3,4,5,6,7] (by rfl) (by kernel_rfl) (fun _ _ _ _ _ h=>h) hHeld ?_
    iterate 8
     refine yk ?_ rfl (Or.inl ⟨by rfl,?_⟩) ?_
     rotate_left
     ·intro w9 hSw;obtain ⟨m0,m1,m2,m3,m4,m5,q0,q1,q2,q3,q4,q5,q6,q7,q8,q9,q10,_⟩:=hSw;go_simp;(try with_reducible rfl)
     try simp only [sT,Act.put]
    refine yk0 ?_
    simp only [setK,sT]
    refine rd1 8 (by kernel_rfl) rfl (fun K0 hK0=>?_)
    go_simp
    refine (cLg _ (Kept.refl [] _).drew).mono ?_
    rintro _ w2 ⟨ao,n,c,rfl,HO2,HK2⟩
    have hK2:=(Kept.refl [] W1).drew.trans HK2.out (by simp)
    have HQ2:=hide (HQ1.out.kept hK2)
    have HV2:=hide (HV1.out.kept hK2)
    have HC2:=hide (HC1.out.kept hK2)
    have HKB:=hide hK2
    have hS2:=HC2.out.dg HQ2.out
    have hSt:∀ w3,Hid (VdB w3 (w.heap.size+1) vv (.slice ao n c))→Hid (Kept [w.heap.size+1] w2 w3)→DgS b w.heap.size p m.a aC aL aR nC cC nL cL nR cR x w3:=fun w3 _ k3=>(HC2.out.keep1 k3.out (by have:=HBL.out;omega)).dg (k3.out.at HQ2.out (by simp))
    clear hK2
    go_wp2_with fail
    refine hK0.out _ _ hS2 (fun hHeld=>?_)
    clear hK0 K0
    try simp only [sT,Act.put]
    refine rd1 9 (by kernel_rfl) rfl (fun K0 hK0=>?_)
    refine step_storeV vv (.slice ao n c) ⟨_,_,_,rfl⟩ rfl rfl HV2.out fun w3 HV3 HK3=>?_
    refine hK0.out _ _ (hSt w3 HV3 HK3) (fun hHeld=>?_)
    clear hK0 K0
    try simp only [sT,Act.put]
    refine wpAnyH_done (by kernel_rfl) ?_ _
    clear hHeld
    go_wp2_with fail
    refine bodyPost_ret (vt_res (by rfl) _ (by rfl) HV3.out rfl) rfl ?_
    exact deedD_end HSZ.out HK1.out (StepV.same HL1.out HKB.out HO2.out) HO2.out HV2.out HK3.out
   ·rw [show peekT m.g x.r=vtC 5 from (if_neg h3).trans ((if_neg h4).trans (if_neg h5))]
    clear cRd cLg hnC
    go_enter Tryz.func12,Tryz.ntmps12
    go_upto_region 1 with fail
    rw [← hW1]
    clear hW1
    have r0:=cell_inC (k:=0) HV1.out rfl
    have fr0:=froz3 HV1.out 0
    have r1:=cell_inC (k:=1) HV1.out rfl
    have fr1:=froz3 HV1.out 1
    have r2:=cell_inC (k:=2) HV1.out rfl
    have fr2:=froz3 HV1.out 2
    have r3:=cell_inC (k:=3) HV1.out rfl
    have fr3:=froz3 HV1.out 3
    have r4:=cell_inC (k:=4) HV1.out rfl
    have fr4:=froz3 HV1.out 4
    have r5:=cell_inC (k:=5) HV1.out rfl
    have fr5:=froz3 HV1.out 5
    have r6:=cell_inC (k:=6) HV1.out rfl
    have fr6:=froz3 HV1.out 6
    go_wp2_with fail
    refine bodyPost_ret (vt_res (by rfl) _ (by rfl) (setA7_at HV1.out rfl _ _ _ _ _ _ _) rfl) rfl ?_
    exact deedD_end HSZ.out HK1.out (StepD.same HL1.out (Kept.refl _ _)).u0 (KoO.nil _ _) HV1.out (setA7_kept (Kept.refl _ _) (by simp) _ _ _ _ _ _ _)
end Go.Proofs.YtgpnlidnbldiiaaGreat
