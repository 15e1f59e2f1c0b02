/-
  The document's machine in memory, and what its steps turn.
-/
import Derived.Test.YtgpnlidnbldiiaaGreatMiMo4r
import Derived.Test.YtgpnlidnbldiiaaGreatMtDoner
import Derived.Test.YtgpnlidnbldiiaaGreatEdChgr
import Derived.Test.YtgpnlidnbldiiaaGreatQ18r
namespace Go.Proofs.YtgpnlidnbldiiaaGreat
open Go.RowKit
def xmV (a:Int) (p:Pl):Value × Value × Value:=(.int .i64 a,.pointer (some ⟨p.t,0,none⟩),.pointer (some ⟨p.e,0,none⟩))
structure MdA (w:World) (b:Nat) (p:Pl) (al:Int) (sz:Nat) (v vL vR:Value) (K:List (Com × Value)) (vt:Value) (X:List (Se × Value)) (B:Nat) (D:List Nat) (m:Ma):Prop where
 g:MAI w b (xmV m.a p) v vL vR K m.g
 nl:NilV m.g.ls vL
 t:MtA (fun k=>k ∉ ownM b v∧k ∉ D) w p.t sz vt X m.s
 e:EdA B w p.e al m.e
def ownD (b pt:Nat) (v vt:Value):List Nat:=ownM b v++ownT pt vt
def LiveD (w0 w:World) (M D:List Nat) (b:Nat) (p:Pl) (al:Int) (sz:Nat) (m:Ma):Prop :=
 ∃ v vL vR K vt X,MdA w b p al sz v vL vR K vt X w0.heap.size D m∧M=ownD b p.t v vt∧Kept [] w0 w∧(∀ k∈M,w0.heap.size≤k)∧(∀ k∈D,k < w.heap.size)∧MaW sz al m∧1≤sz
def FrD (B:Nat) (M:List Nat) (w w':World):Prop :=
 ∃ U,Kept U w w'∧Typed w U [84,137,96,155,94,134]∧∀ k∈U,k < w.heap.size→k∈M∨(B≤k∧∃ cur t mk,w.heap[k]?=some (.cells cur t mk)∧(t=94∨t=134))
theorem FrD.kept {B:Nat}{M:List Nat}{w w':World}(h:Kept [] w w'):FrD B M w w':=⟨[],h,typed_nil _ _,fun _ h=>by cases h⟩
theorem FrD.size {B:Nat}{M:List Nat}{w w':World}(h:FrD B M w w'):w.heap.size≤w'.heap.size:=by
 obtain ⟨U,h1,_⟩:=h;exact h1.size
theorem FrD.trans {B:Nat}{M M1:List Nat}{a b c:World}(h:FrD B M a b) (k:FrD B M1 b c) (hF:∀ i∈M1,i∈M∨a.heap.size≤i):FrD B M a c:=by
 obtain ⟨U,h1,h2,h3⟩:=h
 obtain ⟨V,k1,k2,k3⟩:=k
 refine ⟨U++V.filter fun i=>decide (i < a.heap.size),?_,?_,?_⟩
 ·refine (h1.mono (T:=U++V.filter fun i=>decide (i < a.heap.size)) (fun i hi=>.inl (by simp [hi]))).trans k1 fun i hi=>?_
  by_cases hlt:i < a.heap.size
  ·exact .inl (by simp [hi,hlt])
  ·exact .inr (by omega)
 ·intro i hi cur t mk hh
  by_cases hs:i∈U
  ·exact h2 i hs cur t mk hh
  ·rcases List.mem_append.1 hi with hi | hi
   ·exact absurd hi hs
   ·exact k2 i (List.mem_filter.1 hi).1 cur t mk (h1.at hh hs)
 ·intro i hi hlt
  by_cases hs:i∈U
  ·exact h3 i hs hlt
  ·rcases List.mem_append.1 hi with hi | hi
   ·exact absurd hi hs
   ·rcases k3 i (List.mem_filter.1 hi).1 (Nat.lt_of_lt_of_le hlt h1.size) with hm | ⟨hB,cur,t,mk,hh,ht⟩
    ·rcases hF i hm with h | h
     ·exact .inl h
     ·omega
    ·exact .inr ⟨hB,cur,t,mk,by rw [← h1.block i hlt hs];exact hh,ht⟩
theorem FrD.at {B:Nat}{M:List Nat}{w w':World}(h:FrD B M w w') {k:Nat}{cur:Array Value}{t:TypeId}{mk:Nat × Nat}(hk:w.heap[k]?=some (.cells cur t mk)) (ht:t ∉ [84,137,96,155,94,134]):w'.heap[k]?=some (.cells cur t mk):=by
 obtain ⟨U,h1,h2,_⟩:=h
 exact h1.typed h2 hk ht
theorem FrD.row {B:Nat}{M:List Nat}{w w':World}(h:FrD B M w w') {B' e size n:Nat}{v:Value}{xs:List Value}(hr:w.ownsRow B' e size v n xs) (ht:e ∉ [84,137,96,155,94,134]):w'.ownsRow B' e size v n xs:=by
 obtain ⟨U,h1,h2,_⟩:=h
 exact row_typed h1 h2 hr ht
def StepD (w0 w:World) (M D:List Nat) (b:Nat) (p:Pl) (al:Int) (sz:Nat) (m:Ma) (w':World):Prop :=
 ∃ M',LiveD w0 w' M' D b p al sz m∧FrD w0.heap.size M w w'∧∀ k∈M',k∈M∨w.heap.size≤k
theorem MtA.stay {P Q:Nat→Prop}{w w':World}{b sz:Nat}{v:Value}{X:List (Se × Value)}{L:List Se}(h:MtA P w b sz v X L) {S:List Nat}{Ts:List TypeId}(k:Kept S w w') (hS:∀ i∈ownT b v,i ∉ S) (hT:Typed w S Ts) (h2:60 ∉ Ts) (hP:∀ j,P j→j < w.heap.size→j ∉ S∧Q j):MtA Q w' b sz v X L :=
 ⟨k.at h.at_ (hS b (by simp [ownT])),k.ownsRow h.row (fun i hi=>hS i (by simp [ownT,hi])),fun x hx=>(h.own x hx).stay k hP hT h2,h.ses⟩
theorem EdA.keep {B:Nat}{S:List Nat}{Ts:List TypeId}{w w':World}{p:Nat}{al:Int}{L:List Ep}(h:EdA B w p al L) (k:Kept S w w') (hT:Typed w S Ts) (h1:94 ∉ Ts) (h2:134 ∉ Ts) (h3:3 ∉ Ts):EdA B w' p al L:=by
 obtain ⟨v,X,a,b,c,d,e⟩:=h
 exact ⟨v,X,a,k.typed hT b h1,row_typed k hT c h2,fun x hx=>row_typed k hT (d x hx) h3,e⟩
theorem MdA.lt {w:World}{b:Nat}{p:Pl}{al:Int}{sz:Nat}{v vL vR:Value}{K:List (Com × Value)}{vt:Value}{X:List (Se × Value)}{B:Nat}{D:List Nat}{m:Ma}(h:MdA w b p al sz v vL vR K vt X B D m):∀ k∈ownD b p.t v vt,k < w.heap.size:=by
 intro k hk
 rcases List.mem_append.1 hk with hk | hk
 ·exact h.g.lt k hk
 ·exact h.t.lt k hk
theorem LiveD.lt {w0 w:World}{M D:List Nat}{b:Nat}{p:Pl}{al:Int}{sz:Nat}{m:Ma}(h:LiveD w0 w M D b p al sz m):∀ k∈M,k < w.heap.size:=by
 obtain ⟨v,vL,vR,K,vt,X,h1,rfl,_⟩:=h
 exact h1.lt
theorem LiveD.keeps {w0 w:World}{M D:List Nat}{b:Nat}{p:Pl}{al:Int}{sz:Nat}{m:Ma}(h:LiveD w0 w M D b p al sz m):Kept [] w0 w:=by
 obtain ⟨v,vL,vR,K,vt,X,h1,h2,h3,_⟩:=h
 exact h3
theorem LiveD.w {w0 w:World}{M D:List Nat}{b:Nat}{p:Pl}{al:Int}{sz:Nat}{m:Ma}(h:LiveD w0 w M D b p al sz m):MaW sz al m:=by
 obtain ⟨v,vL,vR,K,vt,X,h1,h2,h3,h4,h5,h6,h7⟩:=h
 exact h6
theorem LiveD.kept {w0 w w':World}{M D:List Nat}{b:Nat}{p:Pl}{al:Int}{sz:Nat}{m:Ma}(h:LiveD w0 w M D b p al sz m) (k:Kept [] w w'):LiveD w0 w' M D b p al sz m:=by
 obtain ⟨v,vL,vR,K,vt,X,h1,h2,h3,h4,h5,h6⟩:=h
 exact ⟨v,vL,vR,K,vt,X,⟨h1.g.kept k,h1.nl,h1.t.kept k,h1.e.kept k⟩,h2,h3.trans k (by simp),h4,fun i hi=>Nat.lt_of_lt_of_le (h5 i hi) k.size,h6⟩
theorem LiveD.at {w0 w:World}{M D:List Nat}{b:Nat}{p:Pl}{al:Int}{sz:Nat}{m:Ma}(h:LiveD w0 w M D b p al sz m):∃ v vL vR,w.heap[b]?=some (.cells #[.int .i64 m.a,v,vL,vR,.pointer (some ⟨p.t,0,none⟩),.pointer (some ⟨p.e,0,none⟩)] 84 (0,0)):=by
 obtain ⟨v,vL,vR,K,vt,X,h1,_⟩:=h
 exact ⟨v,vL,vR,h1.g.at_⟩
theorem StepD.same {w0 w w':World}{M D:List Nat}{b:Nat}{p:Pl}{al:Int}{sz:Nat}{m:Ma}(h:LiveD w0 w M D b p al sz m) (k:Kept [] w w'):StepD w0 w M D b p al sz m w' :=
 ⟨M,h.kept k,FrD.kept k,fun _ hi=>.inl hi⟩
theorem stepGd {w0 w w':World}{b:Nat}{p:Pl}{al:Int}{sz:Nat}{v vL vR:Value}{K:List (Com × Value)}{vt:Value}{X:List (Se × Value)}{D:List Nat}{m:Ma}{g:Gr}(h:MdA w b p al sz v vL vR K vt X w0.heap.size D m) (h3:Kept [] w0 w) (h4:∀ k∈ownD b p.t v vt,w0.heap.size≤k) (h5:∀ k∈D,k < w.heap.size) (h6:MaW sz al m) (h7:1≤sz) (hL:MLandI w b (xmV m.a p) (ownM b v) g w') (hg:Reach g):StepD w0 w (ownD b p.t v vt) D b p al sz ⟨m.a,g,m.s,m.e⟩ w':=by
 obtain ⟨S',⟨v',vL',vR',K',g1,g0,rfl⟩,g2,g3⟩:=hL
 have hT:=h.g.typed
 have hF:∀ k∈ownD b p.t v' vt,k∈ownD b p.t v vt∨w.heap.size≤k:=fun k hk=>by
  rcases List.mem_append.1 hk with hk | hk
  ·rcases g3 k hk with h | h
   ·exact .inl (by simp [ownD,h])
   ·exact .inr h
  ·exact .inl (by simp [ownD,hk])
 refine ⟨ownD b p.t v' vt,⟨v',vL',vR',K',vt,X,⟨g1,g0,?_,h.e.keep g2 hT (by decide) (by decide) (by decide)⟩,rfl,h3.trans g2 (fun i hi=>.inr (h4 i (by simp [ownD,hi]))),fun k hk=>?_,fun k hk=>Nat.lt_of_lt_of_le (h5 k hk) g2.size,⟨h6.a0,h6.a1,hg,h6.sl,h6.so,h6.e,h6.z1,h6.l0,h6.l1⟩,h7⟩,⟨ownM b v,g2,?_,fun k hk _=>.inl (by simp [ownD,hk])⟩,hF⟩
 ·refine h.t.stay g2 (fun i hi hm=>?_) hT (by decide) (fun j hj hlt=>⟨hj.1,fun hm=>?_,hj.2⟩)
  ·have h8:=h.t.typed i hi
   rcases List.mem_cons.1 hi with rfl | hi
   ·have:=hT _ hm _ _ _ h.t.at_
    simp at this
   ·obtain ⟨cur,hh⟩:=row_block h.t.row (mem_own.1 hi)
    have:=hT _ hm _ _ _ hh
    simp at this
  ·rcases g3 j hm with h8 | h8
   ·exact hj.1 h8
   ·omega
 ·rcases hF k hk with h8 | h8
  ·exact h4 k h8
  ·exact Nat.le_trans h3.size h8
 ·intro k hk cur t mk hh
  have:=hT k hk cur t mk hh
  simp at this
  rcases this with rfl | rfl <;> simp
theorem stepTd1 {w0 w w':World}{b:Nat}{p:Pl}{al:Int}{sz:Nat}{v vL vR:Value}{K:List (Com × Value)}{vt:Value}{X:List (Se × Value)}{D:List Nat}{m:Ma}{L:List Se}(h:MdA w b p al sz v vL vR K vt X w0.heap.size D m) (h3:Kept [] w0 w) (h4:∀ k∈ownD b p.t v vt,w0.heap.size≤k) (h5:∀ k∈D,k < w.heap.size) (h6:MaW sz al m) (h7:1≤sz) {v':Value}{X':List (Se × Value)}(g1:MtA (fun k=>k ∉ ownM b v∧k ∉ D) w' p.t sz v' X' L) (g2:Kept (ownT p.t vt) w w') (g3:∀ k,v'.ownBlock=some k→vt.ownBlock=some k∨w.heap.size≤k) (hl:L.length≤sz) (hok:∀ x∈L,okS x):LiveD w0 w' (ownD b p.t v v') D b p al sz ⟨m.a,m.g,L,m.e⟩∧FrD w0.heap.size (ownD b p.t v vt) w w'∧∀ k∈ownD b p.t v v',k∈ownD b p.t v vt∨w.heap.size≤k:=by
 have hT:=h.t.typed
 have hF:∀ k∈ownD b p.t v v',k∈ownD b p.t v vt∨w.heap.size≤k:=fun k hk=>by
  rcases List.mem_append.1 hk with hk | hk
  ·exact .inl (by simp [ownD,hk])
  ·rcases List.mem_cons.1 hk with rfl | hk
   ·exact .inl (by simp [ownD,ownT])
   ·rcases g3 k (mem_own.1 hk) with e | e
    ·exact .inl (by simp [ownD,ownT,e])
    ·exact .inr e
 refine ⟨⟨v,vL,vR,K,v',X',⟨h.g.keep g2 (fun i hi hm=>?_) hT (by decide) (by decide) (by decide),h.nl,g1,h.e.keep g2 hT (by decide) (by decide) (by decide)⟩,rfl,h3.trans g2 (fun i hi=>.inr (h4 i (by simp [ownD,hi]))),fun k hk=>?_,fun k hk=>Nat.lt_of_lt_of_le (h5 k hk) g2.size,⟨h6.a0,h6.a1,h6.g,hl,hok,h6.e,h6.z1,h6.l0,h6.l1⟩,h7⟩,⟨ownT p.t vt,g2,?_,fun k hk _=>.inl (by simp [ownD,hk])⟩,hF⟩
 ·rcases List.mem_cons.1 hm with rfl | hm
  ·have:=h.g.typed _ hi _ _ _ h.t.at_
   simp at this
  ·obtain ⟨cur,hh⟩:=row_block h.t.row (mem_own.1 hm)
   have:=h.g.typed _ hi _ _ _ hh
   simp at this
 ·rcases hF k hk with h8 | h8
  ·exact h4 k h8
  ·exact Nat.le_trans h3.size h8
 ·intro k hk cur t mk hh
  have:=hT k hk cur t mk hh
  simp at this
  rcases this with rfl | rfl <;> simp
theorem stepTd {w0 w w':World}{b:Nat}{p:Pl}{al:Int}{sz:Nat}{v vL vR:Value}{K:List (Com × Value)}{vt:Value}{X:List (Se × Value)}{D:List Nat}{m:Ma}{L:List Se}(h:MdA w b p al sz v vL vR K vt X w0.heap.size D m) (h3:Kept [] w0 w) (h4:∀ k∈ownD b p.t v vt,w0.heap.size≤k) (h5:∀ k∈D,k < w.heap.size) (h6:MaW sz al m) (h7:1≤sz) (hL:MtP (fun k=>k ∉ ownM b v∧k ∉ D) w p.t sz vt L w') (hl:L.length≤sz) (hok:∀ x∈L,okS x):StepD w0 w (ownD b p.t v vt) D b p al sz ⟨m.a,m.g,L,m.e⟩ w':=by
 obtain ⟨v',X',g1,g2,g3⟩:=hL
 exact ⟨_,stepTd1 h h3 h4 h5 h6 h7 g1 g2 g3 hl hok⟩
theorem stepEd {w0 w w':World}{b:Nat}{p:Pl}{al:Int}{sz:Nat}{v vL vR:Value}{K:List (Com × Value)}{vt:Value}{X:List (Se × Value)}{D:List Nat}{m:Ma}{L:List Ep}(h:MdA w b p al sz v vL vR K vt X w0.heap.size D m) (h3:Kept [] w0 w) (h4:∀ k∈ownD b p.t v vt,w0.heap.size≤k) (h5:∀ k∈D,k < w.heap.size) (h6:MaW sz al m) (h7:1≤sz) (hE:EdA w0.heap.size w' p.e al L) (hN:Tn w0.heap.size [94,134] w w') (hok:OkL L):StepD w0 w (ownD b p.t v vt) D b p al sz ⟨m.a,m.g,m.s,L⟩ w':=by
 obtain ⟨U,g2,g3,hT,hC⟩:=id hN
 refine ⟨ownD b p.t v vt,⟨v,vL,vR,K,vt,X,⟨h.g.keep g2 (fun i hi hm=>?_) hT (by decide) (by decide) (by decide),h.nl,h.t.keep g2 (fun i hi hm=>?_) hT (by decide) (by decide),hE⟩,rfl,Tn.low h3 hN (Nat.le_refl _),h4,fun k hk=>Nat.lt_of_lt_of_le (h5 k hk) g2.size,⟨h6.a0,h6.a1,h6.g,h6.sl,h6.so,hok,h6.z1,h6.l0,h6.l1⟩,h7⟩,⟨U,g2,?_,fun k hk hlt=>?_⟩,fun k hk=>.inl hk⟩
 ·obtain ⟨cur,t,mk,hh⟩:=hC i hm (h.g.lt i hi)
  have h8:=hT i hm _ _ _ hh
  have h9:=h.g.typed i hi _ _ _ hh
  simp at h8 h9
  rcases h8 with rfl | rfl <;> simp at h9
 ·obtain ⟨cur,t,mk,hh⟩:=hC i hm (h.t.lt i hi)
  have h8:=hT i hm _ _ _ hh
  have h9:=h.t.typed i hi _ _ _ hh
  simp at h8 h9
  rcases h8 with rfl | rfl <;> simp at h9
 ·intro k hk cur t mk hh
  have:=hT k hk cur t mk hh
  simp at this
  rcases this with rfl | rfl <;> simp
 ·obtain ⟨cur,t,mk,hh⟩:=hC k hk hlt
  have h8:=hT k hk _ _ _ hh
  simp at h8
  exact .inr ⟨g3 k hk,cur,t,mk,hh,h8⟩
theorem stepAd {w0 w:World}{b:Nat}{p:Pl}{al:Int}{sz:Nat}{v vL vR:Value}{K:List (Com × Value)}{vt:Value}{X:List (Se × Value)}{D:List Nat}{m:Ma}{a:Int}(h:MdA w b p al sz v vL vR K vt X w0.heap.size D m) (h3:Kept [] w0 w) (h4:∀ k∈ownD b p.t v vt,w0.heap.size≤k) (h5:∀ k∈D,k < w.heap.size) (h6:MaW sz al m) (h7:1≤sz) (ha:0≤a∧a≤1099511627776):StepD w0 w (ownD b p.t v vt) D b p al sz ⟨a,m.g,m.s,m.e⟩ (w.setCell ⟨b,0,none⟩ (.int .i64 a)):=by
 have g2:Kept [b] w (w.setCell ⟨b,0,none⟩ (.int .i64 a)):=(Kept.refl _ _).setCell (by simp) _
 have hT:Typed w [b] [84]:=fun k hk cur t' mk hh=>by
  simp at hk;subst hk;rw [h.g.at_] at hh;cases hh;simp
 have hb:w0.heap.size≤b:=h4 b (by simp [ownD,ownM])
 refine ⟨ownD b p.t v vt,⟨v,vL,vR,K,vt,X,⟨⟨heap_setCell_same w b 0 _ _ _ h.g.at_,row_typed g2 hT h.g.row (by decide),fun y hy=>row_typed g2 hT (h.g.own y hy) (by decide),h.g.com,row_typed g2 hT h.g.lvs (by decide),row_typed g2 hT h.g.rfs (by decide)⟩,h.nl,h.t.keep g2 (fun i hi hm=>?_) hT (by decide) (by decide),h.e.keep g2 hT (by decide) (by decide) (by decide)⟩,rfl,h3.trans g2 (fun i hi=>.inr (by simp at hi;omega)),h4,fun k hk=>Nat.lt_of_lt_of_le (h5 k hk) g2.size,⟨ha.1,ha.2,h6.g,h6.sl,h6.so,h6.e,h6.z1,h6.l0,h6.l1⟩,h7⟩,⟨[b],g2,?_,fun k hk _=>.inl (by simp at hk;subst hk;simp [ownD,ownM])⟩,fun k hk=>.inl hk⟩
 ·rw [List.mem_singleton] at hm
  rw [hm] at hi
  have:=h.t.typed _ hi _ _ _ h.g.at_
  simp at this
 ·intro k hk cur t mk hh
  have:=hT k hk cur t mk hh
  simp at this
  subst this;simp
end Go.Proofs.YtgpnlidnbldiiaaGreat
