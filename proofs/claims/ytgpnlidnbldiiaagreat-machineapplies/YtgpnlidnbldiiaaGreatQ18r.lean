/-
  Texts of this claim that are laid as one: MaReq, MaMem, MaOps, MaDeed.
-/
import Derived.Test.YtgpnlidnbldiiaaGreatQ1r
import Derived.Test.YtgpnlidnbldiiaaGreatQ3r
import Derived.Test.YtgpnlidnbldiiaaGreatQ12r
import Derived.Test.YtgpnlidnbldiiaaGreatQ2r
import Derived.Test.YtgpnlidnbldiiaaGreatQ10r
import Derived.Test.YtgpnlidnbldiiaaGreatQ14r
import Derived.Test.YtgpnlidnbldiiaaGreatQ16r
import Derived.Test.YtgpnlidnbldiiaaGreatQ15r
import Derived.Deep.MidRow
import Derived.Test.YtgpnlidnbldiiaaGreatQ11r
import Derived.Test.YtgpnlidnbldiiaaGreatQ5r
set_option maxHeartbeats 4000000
/-
 Requests in memory.
-/
namespace Go.Proofs.YtgpnlidnbldiiaaGreat
open Go.RowKit
def SmR (r:Rq):Prop:=r.n.length≤300∧r.f.length≤300∧r.p.length≤300∧r.c.length≤40∧∀ y∈r.c,y.p.length≤300
def RqOk (w:World) (x:Rm):Prop:=RqIn w x∧SmR x.r
theorem RqOk.kept {a w:World}{x:Rm}(h:RqOk a x) (k:Kept [] a w):RqOk w x:=⟨h.1.kept k,h.2⟩
structure Cg where
 mo:Option Addr
 m:Nat
 mc:Nat
 l:List Int
 al:Int
 sz:Int
 kp:Int
 bt:Int
 tm:Int
 ls:Int
 nu:Int
 de:Int
def cgC (x:Cg):List Value:=[.slice x.mo x.m x.mc,.int .i64 x.al,.int .i64 x.sz,.int .i64 x.kp,.int .i64 x.bt,.int .i64 x.tm,.int .i64 x.ls,.int .i64 x.nu,.int .i64 x.de]
def cgV (x:Cg):Value:=.agg #[.slice x.mo x.m x.mc,.int .i64 x.al,.int .i64 x.sz,.int .i64 x.kp,.int .i64 x.bt,.int .i64 x.tm,.int .i64 x.ls,.int .i64 x.nu,.int .i64 x.de]
structure Pl where
 e:Nat
 t:Nat
 g:Nat
structure McA (w:World) (b:Nat) (p:Pl) (al:Int) (sz:Nat) (S:List Nat) (vt:Value) (X:List (Se × Value)) (B:Nat) (D:List Nat) (m:Ma):Prop where
 at_:w.heap[b]?=some (.cells #[.int .i64 al,.int .i64 (sz:Int),.int .i64 m.a,.pointer (some ⟨p.e,0,none⟩),.pointer (some ⟨p.t,0,none⟩),.pointer (some ⟨p.g,0,none⟩)] 70 (0,0))
 g:GAt w p.g S m.g
 t:TbA (fun k=>k ∉ S∧k ∉ D) w p.t sz vt X m.s
 e:EpA B w p.e al m.e
structure MaW (sz:Nat) (al:Int) (m:Ma):Prop where
 a0:0≤m.a
 a1:m.a≤1099511627776
 g:Reach m.g
 sl:m.s.length≤sz
 so:∀ x∈m.s,okS x
 e:OkL m.e
 z1:sz≤16
 l0:1≤al
 l1:al≤8
def ownF (b pt:Nat) (S:List Nat) (vt:Value):List Nat:=b :: (S++ownT pt vt)
def LiveM (w0 w:World) (F D:List Nat) (b:Nat) (p:Pl) (al:Int) (sz:Nat) (m:Ma):Prop :=
 ∃ S vt X,McA w b p al sz S vt X w0.heap.size D m∧F=ownF b p.t S vt∧Kept [] w0 w∧(∀ k∈b :: p.t :: S,w0.heap.size≤k)∧(∀ k∈D,k < w.heap.size)∧MaW sz al m
def FrP (B:Nat) (F:List Nat) (w w':World):Prop :=
 ∃ U,Kept U w w'∧Typed w U [70,131,137,126,124,121]∧∀ k∈U,k < w.heap.size→k∈F∨(B≤k∧∃ cur t mk,w.heap[k]?=some (.cells cur t mk)∧(t=124∨t=121))
theorem FrP.kept {B:Nat}{F:List Nat}{w w':World}(h:Kept [] w w'):FrP B F w w':=⟨[],h,typed_nil _ _,fun _ h=>by cases h⟩
theorem FrP.size {B:Nat}{F:List Nat}{w w':World}(h:FrP B F w w'):w.heap.size≤w'.heap.size:=by
 obtain ⟨U,h1,_⟩:=h;exact h1.size
theorem FrP.trans {B:Nat}{F F1:List Nat}{a b c:World}(h:FrP B F a b) (k:FrP B F1 b c) (hF:∀ i∈F1,i∈F∨a.heap.size≤i):FrP B F a c:=by
 obtain ⟨U,h1,h2,h3⟩:=h
 obtain ⟨V,k1,k2,k3⟩:=k
 refine ⟨U++V.filter fun i=>decide (i < a.heap.size),?_,?_,?_⟩
 ·refine (h1.mono (T:=U++V.filter fun i=>decide (i < a.heap.size)) (fun i hi=>.inl (by simp [hi]))).trans k1 fun i hi=>?_
  by_cases hlt:i < a.heap.size
  ·exact .inl (by simp [hi,hlt])
  ·exact .inr (by omega)
 ·intro i hi cur t mk hh
  by_cases hs:i∈U
  ·exact h2 i hs cur t mk hh
  ·rcases List.mem_append.1 hi with hi | hi
   ·exact absurd hi hs
   ·exact k2 i (List.mem_filter.1 hi).1 cur t mk (h1.at hh hs)
 ·intro i hi hlt
  by_cases hs:i∈U
  ·exact h3 i hs hlt
  ·rcases List.mem_append.1 hi with hi | hi
   ·exact absurd hi hs
   ·rcases k3 i (List.mem_filter.1 hi).1 (Nat.lt_of_lt_of_le hlt h1.size) with hm | ⟨hB,cur,t,mk,hh,ht⟩
    ·rcases hF i hm with h | h
     ·exact .inl h
     ·omega
    ·exact .inr ⟨hB,cur,t,mk,by rw [← h1.block i hlt hs];exact hh,ht⟩
theorem FrP.at {B:Nat}{F:List Nat}{w w':World}(h:FrP B F w w') {k:Nat}{cur:Array Value}{t:TypeId}{mk:Nat × Nat}(hk:w.heap[k]?=some (.cells cur t mk)) (ht:t ∉ [70,131,137,126,124,121]):w'.heap[k]?=some (.cells cur t mk):=by
 obtain ⟨U,h1,h2,_⟩:=h
 exact h1.typed h2 hk ht
theorem FrP.row {B:Nat}{F:List Nat}{w w':World}(h:FrP B F w w') {B' e size n:Nat}{v:Value}{xs:List Value}(hr:w.ownsRow B' e size v n xs) (ht:e ∉ [70,131,137,126,124,121]):w'.ownsRow B' e size v n xs:=by
 obtain ⟨U,h1,h2,_⟩:=h
 exact row_typed h1 h2 hr ht
def StepM (w0 w:World) (F D:List Nat) (b:Nat) (p:Pl) (al:Int) (sz:Nat) (m:Ma) (w':World):Prop :=
 ∃ F',LiveM w0 w' F' D b p al sz m∧FrP w0.heap.size F w w'∧∀ k∈F',k∈F∨w.heap.size≤k
theorem StepM.trans {w0 a b' c:World}{F D:List Nat}{b:Nat}{p:Pl}{al:Int}{sz:Nat}{m':Ma}{F1:List Nat}(h2:FrP w0.heap.size F a b') (h3:∀ k∈F1,k∈F∨a.heap.size≤k) (k:StepM w0 b' F1 D b p al sz m' c):StepM w0 a F D b p al sz m' c:=by
 obtain ⟨F',k1,k2,k3⟩:=k
 refine ⟨F',k1,h2.trans k2 h3,fun i hi=>?_⟩
 rcases k3 i hi with h | h
 ·exact h3 i h
 ·exact .inr (Nat.le_trans h2.size h)
theorem ko_block {w:World}{u:Value}{k:List Com}{P:Nat→Prop}(h:KoP P w u k) {j:Nat}(hj:u.ownBlock=some j):j < w.heap.size:=by
 obtain ⟨⟨K,hr,_⟩,_⟩:=h
 obtain ⟨cur,hh⟩:=row_block hr hj
 exact lt_of_at hh
theorem KoP.stay {P Q:Nat→Prop}{S:List Nat}{Ts:List TypeId}{w w':World}{u:Value}{k:List Com}(h:KoP P w u k) (hk:Kept S w w') (hS:∀ j,P j→j < w.heap.size→j ∉ S∧Q j) (hT:Typed w S Ts) (h2:60 ∉ Ts):KoP Q w' u k:=by
 have hb:=fun j (hj:u.ownBlock=some j)=>hS j (h.2 j hj) (ko_block h hj)
 obtain ⟨⟨K,hr,ho,he⟩,_⟩:=h
 exact ⟨⟨K,hk.ownsRow hr fun j hj=>(hb j hj).1,fun x hx=>row_typed hk hT (ho x hx) h2,he⟩,fun j hj=>(hb j hj).2⟩
theorem TbA.stay {P Q:Nat→Prop}{w w':World}{b sz:Nat}{v:Value}{X:List (Se × Value)}{L:List Se}(h:TbA P w b sz v X L) {S:List Nat}{Ts:List TypeId}(k:Kept S w w') (hS:∀ i∈ownT b v,i ∉ S) (hT:Typed w S Ts) (h2:60 ∉ Ts) (hP:∀ j,P j→j < w.heap.size→j ∉ S∧Q j):TbA Q w' b sz v X L :=
 ⟨k.at h.at_ (hS b (by simp [ownT])),h.pos,h.row.keep k (fun i hi=>hS i (by simp [ownT,hi])),fun x hx=>(h.own x hx).stay k hP hT h2,h.ses⟩
theorem EpA.keep {B:Nat}{S:List Nat}{Ts:List TypeId}{w w':World}{p:Nat}{al:Int}{L:List Ep}(h:EpA B w p al L) (k:Kept S w w') (hT:Typed w S Ts) (h1:124 ∉ Ts) (h2:121 ∉ Ts):EpA B w' p al L:=by
 obtain ⟨v,a,b,c⟩:=h
 exact ⟨v,a,k.typed hT b h1,row_typed k hT c h2⟩
theorem TbA.typed {P:Nat→Prop}{w:World}{b sz:Nat}{v:Value}{X:List (Se × Value)}{L:List Se}(h:TbA P w b sz v X L) {k:Nat}(hk:k∈ownT b v):∃ cur t,w.heap[k]?=some (.cells cur t (0,0))∧(t=126∨t=155):=by
 rcases List.mem_cons.1 hk with rfl | hk
 ·exact ⟨_,_,h.at_,.inl rfl⟩
 ·obtain ⟨cur,hh⟩:=h.row.block (mem_own.1 hk)
  exact ⟨_,_,hh,.inr rfl⟩
theorem McA.lt {w:World}{b:Nat}{al:Int}{sz:Nat}{p:Pl}{S:List Nat}{vt:Value}{X:List (Se × Value)}{B:Nat}{D:List Nat}{m:Ma}(h:McA w b p al sz S vt X B D m):∀ k∈ownF b p.t S vt,k < w.heap.size:=by
 intro k hk
 rcases List.mem_cons.1 hk with rfl | hk
 ·exact lt_of_at h.at_
 ·rcases List.mem_append.1 hk with hk | hk
  ·exact h.g.lt k hk
  ·exact h.t.lt k hk
theorem LiveM.lt {w0 w:World}{F D:List Nat}{b:Nat}{p:Pl}{al:Int}{sz:Nat}{m:Ma}(h:LiveM w0 w F D b p al sz m):∀ k∈F,k < w.heap.size:=by
 obtain ⟨S,vt,X,h1,rfl,_⟩:=h
 exact h1.lt
theorem LiveM.keeps {w0 w:World}{F D:List Nat}{b:Nat}{p:Pl}{al:Int}{sz:Nat}{m:Ma}(h:LiveM w0 w F D b p al sz m):Kept [] w0 w:=by
 obtain ⟨S,vt,X,h1,h2,h3,_⟩:=h
 exact h3
theorem LiveM.w {w0 w:World}{F D:List Nat}{b:Nat}{p:Pl}{al:Int}{sz:Nat}{m:Ma}(h:LiveM w0 w F D b p al sz m):MaW sz al m:=by
 obtain ⟨S,vt,X,h1,h2,h3,h4,h5,h6⟩:=h
 exact h6
theorem McA.kept {w w':World}{b:Nat}{al:Int}{sz:Nat}{p:Pl}{S:List Nat}{vt:Value}{X:List (Se × Value)}{B:Nat}{D:List Nat}{m:Ma}(h:McA w b p al sz S vt X B D m) (k:Kept [] w w'):McA w' b p al sz S vt X B D m :=
 ⟨k.at h.at_ (by simp),h.g.kept k,h.t.kept k,h.e.kept k⟩
theorem LiveM.kept {w0 w w':World}{F D:List Nat}{b:Nat}{p:Pl}{al:Int}{sz:Nat}{m:Ma}(h:LiveM w0 w F D b p al sz m) (k:Kept [] w w'):LiveM w0 w' F D b p al sz m:=by
 obtain ⟨S,vt,X,h1,h2,h3,h4,h5,h6⟩:=h
 exact ⟨S,vt,X,h1.kept k,h2,h3.trans k (by simp),h4,fun i hi=>Nat.lt_of_lt_of_le (h5 i hi) k.size,h6⟩
theorem StepM.same {w0 w w':World}{F D:List Nat}{b:Nat}{p:Pl}{al:Int}{sz:Nat}{m:Ma}(h:LiveM w0 w F D b p al sz m) (k:Kept [] w w'):StepM w0 w F D b p al sz m w' :=
 ⟨F,h.kept k,FrP.kept k,fun _ hi=>.inl hi⟩
theorem stepG {w0 w w':World}{b:Nat}{al:Int}{sz:Nat}{p:Pl}{S:List Nat}{vt:Value}{X:List (Se × Value)}{D:List Nat}{m:Ma}{g:Gr}(h:McA w b p al sz S vt X w0.heap.size D m) (h3:Kept [] w0 w) (h4:∀ k∈b :: p.t :: S,w0.heap.size≤k) (h5:∀ k∈D,k < w.heap.size) (h6:MaW sz al m) (hL:LandP w p.g S g w') (hg:Reach g):StepM w0 w (ownF b p.t S vt) D b p al sz ⟨m.a,g,m.s,m.e⟩ w':=by
 obtain ⟨S',g1,g2,g3⟩:=hL
 have hT:=h.g.typed
 have hS:∀ k∈S,w0.heap.size≤k:=fun k hk=>h4 k (by simp [hk])
 have hF:∀ k∈ownF b p.t S' vt,k∈ownF b p.t S vt∨w.heap.size≤k:=fun k hk=>by
  rcases List.mem_cons.1 hk with rfl | hk
  ·exact .inl (by simp [ownF])
  ·rcases List.mem_append.1 hk with hk | hk
   ·rcases g3 k hk with h | h
    ·exact .inl (by simp [ownF,h])
    ·exact .inr h
   ·exact .inl (by simp [ownF,hk])
 refine ⟨ownF b p.t S' vt,⟨S',vt,X,⟨g2.typed hT h.at_ (by decide),g1,?_,h.e.keep g2 hT (by decide) (by decide)⟩,rfl,h3.trans g2 (fun i hi=>.inr (hS i hi)),fun k hk=>?_,fun k hk=>Nat.lt_of_lt_of_le (h5 k hk) g2.size,⟨h6.a0,h6.a1,hg,h6.sl,h6.so,h6.e,h6.z1,h6.l0,h6.l1⟩⟩,⟨S,g2,?_,fun k hk _=>.inl (by simp [ownF,hk])⟩,hF⟩
 ·refine h.t.stay g2 (fun i hi hm=>?_) hT (by decide) (fun j hj hlt=>⟨hj.1,fun hm=>?_,hj.2⟩)
  ·obtain ⟨cur,t,hh,ht⟩:=h.t.typed hi
   have:=hT i hm _ _ _ hh
   rcases ht with rfl | rfl <;> simp at this
  ·rcases g3 j hm with h7 | h7
   ·exact hj.1 h7
   ·omega
 ·rcases List.mem_cons.1 hk with rfl | hk
  ·exact h4 k (by simp)
  ·rcases List.mem_cons.1 hk with rfl | hk
   ·exact h4 _ (by simp)
   ·rcases g3 k hk with h7 | h7
    ·exact h4 k (by simp [h7])
    ·exact Nat.le_trans h3.size h7
 ·intro k hk cur t mk hh
  have:=hT k hk cur t mk hh
  simp at this
  rcases this with rfl | rfl <;> simp
theorem stepT1 {w0 w w':World}{b:Nat}{al:Int}{sz:Nat}{p:Pl}{S:List Nat}{vt:Value}{X:List (Se × Value)}{D:List Nat}{m:Ma}{L:List Se}(h:McA w b p al sz S vt X w0.heap.size D m) (h3:Kept [] w0 w) (h4:∀ k∈b :: p.t :: S,w0.heap.size≤k) (h5:∀ k∈D,k < w.heap.size) (h6:MaW sz al m) {v':Value}{X':List (Se × Value)}(g1:TbA (fun k=>k ∉ S∧k ∉ D) w' p.t sz v' X' L) (g2:Kept [p.t] w w') (g3:∀ k,v'.ownBlock=some k→vt.ownBlock=some k∨w.heap.size≤k) (hl:L.length≤sz) (hok:∀ x∈L,okS x):LiveM w0 w' (ownF b p.t S v') D b p al sz ⟨m.a,m.g,L,m.e⟩∧FrP w0.heap.size (ownF b p.t S vt) w w'∧∀ k∈ownF b p.t S v',k∈ownF b p.t S vt∨w.heap.size≤k:=by
 have hT:=typed1 h.t.at_
 have hpt:w0.heap.size≤p.t:=h4 p.t (by simp)
 have hF:∀ k∈ownF b p.t S v',k∈ownF b p.t S vt∨w.heap.size≤k:=fun k hk=>by
  rcases List.mem_cons.1 hk with rfl | hk
  ·exact .inl (by simp [ownF])
  ·rcases List.mem_append.1 hk with hk | hk
   ·exact .inl (by simp [ownF,hk])
   ·rcases List.mem_cons.1 hk with rfl | hk
    ·exact .inl (by simp [ownF,ownT])
    ·rcases g3 k (mem_own.1 hk) with e | e
     ·exact .inl (by simp [ownF,ownT,e])
     ·exact .inr e
 refine ⟨⟨S,v',X',⟨g2.typed hT h.at_ (by decide),h.g.keep g2 (fun i hi hm=>?_) hT (by decide) (by decide) (by decide),g1,h.e.keep g2 hT (by decide) (by decide)⟩,rfl,h3.trans g2 (fun i hi=>.inr (by simp at hi;omega)),h4,fun k hk=>Nat.lt_of_lt_of_le (h5 k hk) g2.size,⟨h6.a0,h6.a1,h6.g,hl,hok,h6.e,h6.z1,h6.l0,h6.l1⟩⟩,⟨[p.t],g2,?_,fun k hk _=>.inl (by simp at hk;subst hk;simp [ownF,ownT])⟩,hF⟩
 ·rw [List.mem_singleton] at hm
  rw [hm] at hi
  have:=h.g.typed _ hi _ _ _ h.t.at_
  simp at this
 ·intro k hk cur t mk hh
  have:=hT k hk cur t mk hh
  simp at this
  subst this;simp
theorem stepT {w0 w w':World}{b:Nat}{al:Int}{sz:Nat}{p:Pl}{S:List Nat}{vt:Value}{X:List (Se × Value)}{D:List Nat}{m:Ma}{L:List Se}(h:McA w b p al sz S vt X w0.heap.size D m) (h3:Kept [] w0 w) (h4:∀ k∈b :: p.t :: S,w0.heap.size≤k) (h5:∀ k∈D,k < w.heap.size) (h6:MaW sz al m) (hL:TbP (fun k=>k ∉ S∧k ∉ D) w p.t sz vt L w') (hl:L.length≤sz) (hok:∀ x∈L,okS x):StepM w0 w (ownF b p.t S vt) D b p al sz ⟨m.a,m.g,L,m.e⟩ w':=by
 obtain ⟨v',X',g1,g2,g3⟩:=hL
 exact ⟨_,stepT1 h h3 h4 h5 h6 g1 g2 g3 hl hok⟩
theorem stepE {w0 w w':World}{b:Nat}{al:Int}{sz:Nat}{p:Pl}{S:List Nat}{vt:Value}{X:List (Se × Value)}{D:List Nat}{m:Ma}{L:List Ep}(h:McA w b p al sz S vt X w0.heap.size D m) (h3:Kept [] w0 w) (h4:∀ k∈b :: p.t :: S,w0.heap.size≤k) (h5:∀ k∈D,k < w.heap.size) (h6:MaW sz al m) (hE:EpA w0.heap.size w' p.e al L) (hN:Tn w0.heap.size [124,121] w w') (hok:OkL L):StepM w0 w (ownF b p.t S vt) D b p al sz ⟨m.a,m.g,m.s,L⟩ w':=by
 obtain ⟨U,g2,g3,hT,hC⟩:=id hN
 refine ⟨ownF b p.t S vt,⟨S,vt,X,⟨g2.typed hT h.at_ (by decide),h.g.keep g2 (fun i hi hm=>?_) hT (by decide) (by decide) (by decide),h.t.keep g2 (fun i hi hm=>?_) hT (by decide) (by decide),hE⟩,rfl,Tn.low h3 hN (Nat.le_refl _),h4,fun k hk=>Nat.lt_of_lt_of_le (h5 k hk) g2.size,⟨h6.a0,h6.a1,h6.g,h6.sl,h6.so,hok,h6.z1,h6.l0,h6.l1⟩⟩,⟨U,g2,?_,fun k hk hlt=>?_⟩,fun k hk=>.inl hk⟩
 ·obtain ⟨cur,t,mk,hh⟩:=hC i hm (h.g.lt i hi)
  have h7:=hT i hm _ _ _ hh
  have h8:=h.g.typed i hi _ _ _ hh
  simp at h7 h8
  rcases h7 with rfl | rfl <;> simp at h8
 ·obtain ⟨cur,t,hh,ht⟩:=h.t.typed hi
  have h7:=hT i hm _ _ _ hh
  rcases ht with rfl | rfl <;> simp at h7
 ·intro k hk cur t mk hh
  have:=hT k hk cur t mk hh
  simp at this
  rcases this with rfl | rfl <;> simp
 ·obtain ⟨cur,t,mk,hh⟩:=hC k hk hlt
  have h7:=hT k hk _ _ _ hh
  simp at h7
  exact .inr ⟨g3 k hk,cur,t,mk,hh,h7⟩
theorem stepA {w0 w w':World}{b:Nat}{al:Int}{sz:Nat}{p:Pl}{S:List Nat}{vt:Value}{X:List (Se × Value)}{D:List Nat}{m:Ma}{a:Int}(h:McA w b p al sz S vt X w0.heap.size D m) (h3:Kept [] w0 w) (h4:∀ k∈b :: p.t :: S,w0.heap.size≤k) (h5:∀ k∈D,k < w.heap.size) (h6:MaW sz al m) (hk:w'=w.setCell ⟨b,2,none⟩ (.int .i64 a)) (ha:0≤a∧a≤1099511627776):StepM w0 w (ownF b p.t S vt) D b p al sz ⟨a,m.g,m.s,m.e⟩ w':=by
 subst hk
 have g2:Kept [b] w (w.setCell ⟨b,2,none⟩ (.int .i64 a)):=(Kept.refl _ _).setCell (by simp) _
 have hT:=typed1 h.at_
 have hb:w0.heap.size≤b:=h4 b (by simp)
 refine ⟨ownF b p.t S vt,⟨S,vt,X,⟨heap_setCell_same w b 2 _ _ _ h.at_,h.g.keep g2 (fun i hi hm=>?_) hT (by decide) (by decide) (by decide),h.t.keep g2 (fun i hi hm=>?_) hT (by decide) (by decide),h.e.keep g2 hT (by decide) (by decide)⟩,rfl,h3.trans g2 (fun i hi=>.inr (by simp at hi;omega)),h4,fun k hk=>Nat.lt_of_lt_of_le (h5 k hk) g2.size,⟨ha.1,ha.2,h6.g,h6.sl,h6.so,h6.e,h6.z1,h6.l0,h6.l1⟩⟩,⟨[b],g2,?_,fun k hk _=>.inl (by simp at hk;subst hk;simp [ownF])⟩,fun k hk=>.inl hk⟩
 ·simp at hm
  subst hm
  have:=h.g.typed i hi _ _ _ h.at_
  simp at this
 ·simp at hm
  subst hm
  obtain ⟨cur,t,hh,ht⟩:=h.t.typed hi
  rw [h.at_] at hh
  cases hh
  rcases ht with ht | ht <;> simp at ht
 ·intro k hk cur t mk hh
  have:=hT k hk cur t mk hh
  simp at this
  subst this;simp
theorem size_rq:(Tryz.prog.info? 43).map (·.size)=some 11:=by kernel_rfl
def vdL (v:Vt) (u:Value):List Value:=[.int .i64 v.c,.int .i64 v.s,.int .i64 v.r,.string (str v.p),.int .u64 v.d,u,.int .i64 v.m]
def RqB (w:World) (b:Nat) (x:Rm):Prop:=w.heap[b]?=some (.cells (rqC x).toArray 43 (0,0))
def VdB (w:World) (b:Nat) (v:Vt) (u:Value):Prop:=w.heap[b]?=some (.cells (vdL v u).toArray 39 (0,0))
theorem RqB.kept {w w':World}{b:Nat}{x:Rm}(h:RqB w b x) (k:Kept [] w w'):RqB w' b x:=k.at h (by simp)
theorem VdB.kept {w w':World}{b:Nat}{v:Vt}{u:Value}(h:VdB w b v u) (k:Kept [] w w'):VdB w' b v u:=k.at h (by simp)
theorem RqB.fr {B:Nat}{F:List Nat}{w w':World}{b:Nat}{x:Rm}(h:RqB w b x) (k:FrP B F w w'):RqB w' b x:=k.at h (by decide)
theorem VdB.fr {B:Nat}{F:List Nat}{w w':World}{b:Nat}{v:Vt}{u:Value}(h:VdB w b v u) (k:FrP B F w w'):VdB w' b v u:=k.at h (by decide)
theorem VdB.lt {w:World}{b:Nat}{v:Vt}{u:Value}(h:VdB w b v u):b < w.heap.size:=lt_of_at h
theorem vdB_range {w:World}{b:Nat}{v:Vt}{u:Value}(h:VdB w b v u):w.rangeAt b 0 (vdL v u):=fun j y hj=>by
 rw [Nat.zero_add];exact cell_inC h (by simpa using hj)
theorem rqB_range {w:World}{b:Nat}{x:Rm}(h:RqB w b x):w.rangeAt b 0 (rqC x):=fun j y hj=>by
 rw [Nat.zero_add];exact cell_inC h (by simpa using hj)
structure VdC (w:World) (b:Nat) (v:Vt) (u:Value):Prop where
 v0:w.cell? ⟨b,0,none⟩=some (.int .i64 v.c)
 v1:w.cell? ⟨b,1,none⟩=some (.int .i64 v.s)
 v2:w.cell? ⟨b,2,none⟩=some (.int .i64 v.r)
 v3:w.cell? ⟨b,3,none⟩=some (.string (str v.p))
 v4:w.cell? ⟨b,4,none⟩=some (.int .u64 v.d)
 v5:w.cell? ⟨b,5,none⟩=some u
 v6:w.cell? ⟨b,6,none⟩=some (.int .i64 v.m)
theorem VdB.cells {w:World}{b:Nat}{v:Vt}{u:Value}(h:VdB w b v u):VdC w b v u :=
 ⟨cell_inC (k:=0) h rfl,cell_inC (k:=1) h rfl,cell_inC (k:=2) h rfl,cell_inC (k:=3) h rfl,cell_inC (k:=4) h rfl,cell_inC (k:=5) h rfl,cell_inC (k:=6) h rfl⟩
structure RqC (w:World) (b:Nat) (x:Rm):Prop where
 q0:w.cell? ⟨b,0,none⟩=some (.int .i64 x.r.k)
 q1:w.cell? ⟨b,1,none⟩=some (.string (str x.r.n))
 q2:w.cell? ⟨b,2,none⟩=some (.int .i64 x.r.s)
 q3:w.cell? ⟨b,3,none⟩=some (.int .i64 x.r.q)
 q4:w.cell? ⟨b,4,none⟩=some (.int .i64 x.r.b)
 q5:w.cell? ⟨b,5,none⟩=some (.string (str x.r.f))
 q6:w.cell? ⟨b,6,none⟩=some (.slice x.mo x.m x.mc)
 q7:w.cell? ⟨b,7,none⟩=some (.string (str x.r.p))
 q8:w.cell? ⟨b,8,none⟩=some (.int .i64 x.r.fr)
 q9:w.cell? ⟨b,9,none⟩=some (.int .i64 x.r.mn)
 q10:w.cell? ⟨b,10,none⟩=some (.int .i64 x.r.mb)
theorem RqB.cells {w:World}{b:Nat}{x:Rm}(h:RqB w b x):RqC w b x :=
 ⟨cell_inC (k:=0) h rfl,cell_inC (k:=1) h rfl,cell_inC (k:=2) h rfl,cell_inC (k:=3) h rfl,cell_inC (k:=4) h rfl,cell_inC (k:=5) h rfl,cell_inC (k:=6) h rfl,cell_inC (k:=7) h rfl,cell_inC (k:=8) h rfl,cell_inC (k:=9) h rfl,cell_inC (k:=10) h rfl⟩
structure McC (w:World) (b:Nat) (p:Pl) (al:Int) (sz:Nat) (a:Int):Prop where
 m0:w.cell? ⟨b,0,none⟩=some (.int .i64 al)
 m1:w.cell? ⟨b,1,none⟩=some (.int .i64 (sz:Int))
 m2:w.cell? ⟨b,2,none⟩=some (.int .i64 a)
 m3:w.cell? ⟨b,3,none⟩=some (.pointer (some ⟨p.e,0,none⟩))
 m4:w.cell? ⟨b,4,none⟩=some (.pointer (some ⟨p.t,0,none⟩))
 m5:w.cell? ⟨b,5,none⟩=some (.pointer (some ⟨p.g,0,none⟩))
theorem LiveM.at {w0 w:World}{F D:List Nat}{b:Nat}{p:Pl}{al:Int}{sz:Nat}{m:Ma}(h:LiveM w0 w F D b p al sz m):w.heap[b]?=some (.cells #[.int .i64 al,.int .i64 (sz:Int),.int .i64 m.a,.pointer (some ⟨p.e,0,none⟩),.pointer (some ⟨p.t,0,none⟩),.pointer (some ⟨p.g,0,none⟩)] 70 (0,0)):=by
 obtain ⟨S,vt,X,h1,_⟩:=h;exact h1.at_
theorem LiveM.cells {w0 w:World}{F D:List Nat}{b:Nat}{p:Pl}{al:Int}{sz:Nat}{m:Ma}(h:LiveM w0 w F D b p al sz m):McC w b p al sz m.a :=
 ⟨cell_inC (k:=0) h.at rfl,cell_inC (k:=1) h.at rfl,cell_inC (k:=2) h.at rfl,cell_inC (k:=3) h.at rfl,cell_inC (k:=4) h.at rfl,cell_inC (k:=5) h.at rfl⟩
structure MqS (b bx:Nat) (p:Pl) (al:Int) (sz:Nat) (a:Int) (x:Rm) (w:World):Prop where
 m0:w.cell? ⟨b,0,none⟩=some (.int .i64 al)
 m1:w.cell? ⟨b,1,none⟩=some (.int .i64 (sz:Int))
 m2:w.cell? ⟨b,2,none⟩=some (.int .i64 a)
 m3:w.cell? ⟨b,3,none⟩=some (.pointer (some ⟨p.e,0,none⟩))
 m4:w.cell? ⟨b,4,none⟩=some (.pointer (some ⟨p.t,0,none⟩))
 m5:w.cell? ⟨b,5,none⟩=some (.pointer (some ⟨p.g,0,none⟩))
 q0:w.cell? ⟨bx,0,none⟩=some (.int .i64 x.r.k)
 q1:w.cell? ⟨bx,1,none⟩=some (.string (str x.r.n))
 q2:w.cell? ⟨bx,2,none⟩=some (.int .i64 x.r.s)
 q3:w.cell? ⟨bx,3,none⟩=some (.int .i64 x.r.q)
 q4:w.cell? ⟨bx,4,none⟩=some (.int .i64 x.r.b)
 q5:w.cell? ⟨bx,5,none⟩=some (.string (str x.r.f))
 q6:w.cell? ⟨bx,6,none⟩=some (.slice x.mo x.m x.mc)
 q7:w.cell? ⟨bx,7,none⟩=some (.string (str x.r.p))
 q8:w.cell? ⟨bx,8,none⟩=some (.int .i64 x.r.fr)
 q9:w.cell? ⟨bx,9,none⟩=some (.int .i64 x.r.mn)
 q10:w.cell? ⟨bx,10,none⟩=some (.int .i64 x.r.mb)
 rg:w.rangeAt bx 0 (rqC x)
theorem LiveM.mq {w0 w:World}{F D:List Nat}{b:Nat}{p:Pl}{al:Int}{sz:Nat}{m:Ma}(h:LiveM w0 w F D b p al sz m) {bx:Nat}{x:Rm}(hq:RqB w bx x):MqS b bx p al sz m.a x w:=by
 obtain ⟨m0,m1,m2,m3,m4,m5⟩:=h.cells
 obtain ⟨q0,q1,q2,q3,q4,q5,q6,q7,q8,q9,q10⟩:=hq.cells
 exact ⟨m0,m1,m2,m3,m4,m5,q0,q1,q2,q3,q4,q5,q6,q7,q8,q9,q10,rqB_range hq⟩
theorem LiveM.box {w0 w w':World}{F D:List Nat}{b:Nat}{p:Pl}{al:Int}{sz:Nat}{m:Ma}(h:LiveM w0 w F D b p al sz m) {Bk:Nat}{cur:Array Value}{mk:Nat × Nat}(hB:w.heap[Bk]?=some (.cells cur 39 mk)) (k:Kept [Bk] w w') (hlt:w0.heap.size≤Bk):LiveM w0 w' F D b p al sz m:=by
 obtain ⟨S,vt,X,h1,h2,h3,h4,h5,h6⟩:=h
 have hT:Typed w [Bk] [39]:=fun i hi cur' t' mk' hh=>by
  rw [List.mem_singleton] at hi
  subst hi
  rw [hB] at hh;cases hh;simp
 refine ⟨S,vt,X,⟨k.typed hT h1.at_ (by decide),h1.g.keep k (fun i hi hm=>?_) hT (by decide) (by decide) (by decide),h1.t.keep k (fun i hi hm=>?_) hT (by decide) (by decide),h1.e.keep k hT (by decide) (by decide)⟩,h2,h3.trans k (fun i hi=>.inr (by simp at hi;omega)),h4,fun i hi=>Nat.lt_of_lt_of_le (h5 i hi) k.size,h6⟩
 ·rw [List.mem_singleton] at hm
  subst hm
  have:=h1.g.typed i hi _ _ _ hB
  simp at this
 ·rw [List.mem_singleton] at hm
  subst hm
  obtain ⟨cur',t,hh,ht⟩:=h1.t.typed hi
  rw [hB] at hh
  cases hh
  rcases ht with ht | ht <;> simp at ht
theorem FrP.box {B:Nat}{F:List Nat}{w w2 w3:World}(h:FrP B F w w2) {Bk:Nat}(hlt:w.heap.size≤Bk) (k:Kept [Bk] w2 w3):FrP B F w w3:=by
 obtain ⟨U,h1,h2,h3⟩:=h
 exact ⟨U,h1.trans k (fun i hi=>.inr (by simp at hi;omega)),h2,h3⟩
theorem StepM.lift {w0 w w1 w2:World}{F D:List Nat}{b:Nat}{p:Pl}{al:Int}{sz:Nat}{m:Ma}(k:Kept [] w w1) (h:StepM w0 w1 F D b p al sz m w2):StepM w0 w F D b p al sz m w2 :=
 StepM.trans (F1:=F) (FrP.kept k) (fun _ hi=>.inl hi) h
def StepU (w0 w:World) (F D:List Nat) (b:Nat) (p:Pl) (al:Int) (sz:Nat) (m:Ma) (u:Value) (w':World):Prop :=
 ∃ F',LiveM w0 w' F' D b p al sz m∧FrP w0.heap.size F w w'∧(∀ k∈F',k∈F∨w.heap.size≤k)∧∀ j,u.ownBlock=some j→j ∉ F'
theorem StepM.u0 {w0 w w2:World}{F D:List Nat}{b:Nat}{p:Pl}{al:Int}{sz:Nat}{m:Ma}(h:StepM w0 w F D b p al sz m w2):StepU w0 w F D b p al sz m (.slice none 0 0) w2:=by
 obtain ⟨F',h1,h2,h3⟩:=h;exact ⟨F',h1,h2,h3,fun j hj=>by cases hj⟩
theorem ko_ge {B:Nat}{w:World}{u:Value}{k:List Com}(h:KoO B w u k) {j:Nat}(hj:u.ownBlock=some j):B≤j∧∃ cur,w.heap[j]?=some (.cells cur 137 (0,0)):=by
 obtain ⟨K,hr,_⟩:=h
 exact ⟨(World.ownsRow.lt hr j hj).1,row_block hr hj⟩
theorem StepU.same {w0 w w':World}{F D:List Nat}{b:Nat}{p:Pl}{al:Int}{sz:Nat}{m:Ma}{u:Value}{k:List Com}(h:LiveM w0 w F D b p al sz m) (hk:Kept [] w w') (hu:KoO w.heap.size w' u k):StepU w0 w F D b p al sz m u w' :=
 ⟨F,h.kept hk,FrP.kept hk,fun _ hi=>.inl hi,fun j hj hm=>by have:=(ko_ge hu hj).1;have:=h.lt j hm;omega⟩
theorem StepU.box {w0 w w2 w3:World}{F D:List Nat}{b:Nat}{p:Pl}{al:Int}{sz:Nat}{m:Ma}{u:Value}(h:StepU w0 w F D b p al sz m u w2) {Bk:Nat}{cur:Array Value}{mk:Nat × Nat}(hB:w2.heap[Bk]?=some (.cells cur 39 mk)) (hlt:w.heap.size≤Bk) (h0:w0.heap.size≤w.heap.size) (k:Kept [Bk] w2 w3):StepU w0 w F D b p al sz m u w3:=by
 obtain ⟨F',h1,h2,h3,h4⟩:=h
 exact ⟨F',h1.box hB k (by omega),h2.box hlt k,h3,h4⟩
theorem StepU.trans {w0 a b' c:World}{F D:List Nat}{b:Nat}{p:Pl}{al:Int}{sz:Nat}{m':Ma}{u:Value}{F1:List Nat}(h2:FrP w0.heap.size F a b') (h3:∀ k∈F1,k∈F∨a.heap.size≤k) (k:StepU w0 b' F1 D b p al sz m' u c):StepU w0 a F D b p al sz m' u c:=by
 obtain ⟨F',k1,k2,k3,k4⟩:=k
 refine ⟨F',k1,h2.trans k2 h3,fun i hi=>?_,k4⟩
 rcases k3 i hi with h | h
 ·exact h3 i h
 ·exact .inr (Nat.le_trans h2.size h)
theorem StepU.lift {w0 w w1 w2:World}{F D:List Nat}{b:Nat}{p:Pl}{al:Int}{sz:Nat}{m:Ma}{u:Value}(k:Kept [] w w1) (h:StepU w0 w1 F D b p al sz m u w2):StepU w0 w F D b p al sz m u w2 :=
 StepU.trans (F1:=F) (FrP.kept k) (fun _ hi=>.inl hi) h
theorem StepU.more {w0 w w1 w2:World}{F D:List Nat}{b:Nat}{p:Pl}{al:Int}{sz:Nat}{m:Ma}{u:Value}(h:StepU w0 w F D b p al sz m u w1) (k:Kept [] w1 w2):StepU w0 w F D b p al sz m u w2:=by
 obtain ⟨F',h1,h2,h3,h4⟩:=h
 exact ⟨F',h1.kept k,h2.trans (FrP.kept (F:=[]) k) (fun i hi=>by cases hi),h3,h4⟩
theorem slC_off {a w:World}{ao:Option Addr}{n c:Nat}{L:List Ch}(h:SlC a ao n c L) {b:Nat}(k:Kept [b] a w) {z:Int}{ao':Option Addr}{n' c':Nat}{t:TypeId}(hb:a.heap[b]?=some (.cells #[.int .i64 z,.slice ao' n' c'] t (0,0))):SlC w ao n c L:=by
 refine ⟨h.1,h.2.1,h.2.2.1,fun i hi=>?_⟩
 obtain ⟨g,o,e,h1⟩:=h.2.2.2 i hi
 refine ⟨g,o,e,h1.kept k fun hm=>?_⟩
 rw [List.mem_singleton] at hm
 subst hm
 have h2:=h1.c0
 simp only [World.cell?,hb] at h2
 match o+i*3,h2 with
 | 0,h2=>simp at h2
 | 1,h2=>simp at h2
 | q+2,h2=>simp at h2
def DeedP (w0 w:World) (F D:List Nat) (b:Nat) (p:Pl) (al:Int) (sz:Nat) (v:Vt) (m:Ma) (e:Ending) (w':World):Prop :=
 ∃ ao n c,e=.returned (vtV v (.slice ao n c))∧KoO w.heap.size w' (.slice ao n c) v.k∧StepU w0 w F D b p al sz m (.slice ao n c) w'
theorem ko_box {B:Nat}{w w':World}{u:Value}{k:List Com}(h:KoO B w u k) {Bk:Nat}{v:Vt}{u':Value}(hB:VdB w Bk v u') (hk:Kept [Bk] w w'):KoO B w' u k :=
 h.keep hk (typed1 hB) (by decide) (by decide)
theorem step_storeV {ops:Array Oper}{a:Act}{w:World}{K:Act→World→Prop}{Q:Exit→Act→World→Prop}{E:Prop}{d:Option Tmp}{x y:Operand}{ty:TypeId}{ps:String}{af:Array Edge}
 (v:Vt) (u:Value) (hu:∃ ao n c,u=.slice ao n c) {b:Nat}(hx:a.eval x=.pointer (some ⟨b,0,none⟩)) (hy:a.eval y=vtV v u) {v':Vt}{u':Value}(hc:VdB w b v' u') (h:∀ w',Hid (VdB w' b v u)→Hid (Kept [b] w w')→K (a.put d undef) w') :
 if Region.wanted (⟨d,.store 39 x y,ty,ps,af,none⟩:Oper) (yielded ops a.tmps)=true then Oper.wp Tryz.prog ⟨d,.store 39 x y,ty,ps,af,none⟩ a w K Q else E:=by
 obtain ⟨ao,n,c,rfl⟩:=hu
 refine step_plain rfl (wp_store_mid _ x y rfl b 0 (vdL v (.slice ao n c)).toArray hx hy ?_ size_vt (all_oneCell_toArray ?_) (h _ ?_ (setCells_kept (by simp) _ _ (Kept.refl _ _))))
 ·intro j hj
  have hj7:j < 7:=hj
  rw [Nat.zero_add]
  refine ⟨?_,froz3 hc j⟩
  have:(vdL v' u')[j]?.isSome=true:=by simp [vdL,hj7]
  obtain ⟨q,hq⟩:=Option.isSome_iff_exists.1 this
  rw [cell_inC (k:=j) hc (by simpa using hq)]
  rfl
 ·intro q hq
  simp [vdL] at hq
  rcases hq with rfl | rfl | rfl | rfl | rfl | rfl | rfl <;> rfl
 ·show VdB _ _ _ _
  exact setA7_at hc rfl _ _ _ _ _ _ _
theorem lay_rv (w:World) (x:Rm) (v:Vt) (u:Value):RqB ((w.alloc (.cells (rqC x).toArray 43)).alloc (.cells (vdL v u).toArray 39)) w.heap.size x∧VdB ((w.alloc (.cells (rqC x).toArray 43)).alloc (.cells (vdL v u).toArray 39)) (w.heap.size+1) v u:=by
 refine ⟨(Below.heap_alloc _ _ _ (by simp)).trans (heap_alloc_new w _),?_⟩
 have:=heap_alloc_new (w.alloc (.cells (rqC x).toArray 43)) (.cells (vdL v u).toArray 39)
 rw [World.size_alloc] at this
 exact this
def wDeed (w:World) (x:Rm):World:=(w.alloc (.cells #[.int .i64 x.r.k,.string (str x.r.n),.int .i64 x.r.s,.int .i64 x.r.q,.int .i64 x.r.b,.string (str x.r.f),.slice x.mo x.m x.mc,.string (str x.r.p),.int .i64 x.r.fr,.int .i64 x.r.mn,.int .i64 x.r.mb] 43)).alloc (.cells #[.int .i64 0,.int .i64 0,.int .i64 0,.string ⟨#[]⟩,.int .u64 0,.slice none 0 0,.int .i64 0] 39)
theorem wDeed_rv (w:World) (x:Rm):RqB (wDeed w x) w.heap.size x∧VdB (wDeed w x) (w.heap.size+1) (vtC 0) (.slice none 0 0):=lay_rv w x (vtC 0) (.slice none 0 0)
theorem wDeed_kept (w:World) (x:Rm):Kept [] w (wDeed w x):=((Kept.refl _ _).alloc _).alloc _
theorem deed_end {w0 w w1 w2 w3:World}{F D:List Nat}{b:Nat}{p:Pl}{al:Int}{sz:Nat}{v v':Vt}{m:Ma}{ao:Option Addr}{n c:Nat}{u':Value}(h0:w0.heap.size≤w.heap.size) (hK:Kept [] w w1) (hS:StepU w0 w1 F D b p al sz m (.slice ao n c) w2) (hO:KoO w1.heap.size w2 (.slice ao n c) v.k) (hV:VdB w2 (w.heap.size+1) v' u') (k:Kept [w.heap.size+1] w2 w3):DeedP w0 w F D b p al sz v m (.returned (vtV v (.slice ao n c))) w3 :=
 ⟨ao,n,c,rfl,ko_box (hO.mono hK.size) hV k,(hS.lift hK).box hV (Nat.le_succ _) h0 k⟩
variable {w0 w : World} {F D : List Nat} {b : Nat} {p : Pl} {al : Int} {sz : Nat} {m : Ma}
set_option maxRecDepth 100000 in
theorem madeM_call (h:LiveM w0 w F D b p al sz m):Calls Tryz.prog 35 #[.pointer (some ⟨b,0,none⟩)] w fun e w'=>e=.returned (.bool true)∧w'=w:=by
 obtain ⟨m0,m1,m2,m3,m4,m5⟩:=h.cells
 clear h
 go_enter Tryz.func35,Tryz.ntmps35
 go_wp2_with fail
 go_ret
 exact ⟨rfl,rfl⟩
set_option maxRecDepth 100000 in
theorem endedM_call (h:LiveM w0 w F D b p al sz m):Calls Tryz.prog 36 #[.pointer (some ⟨b,0,none⟩)] w fun e w'=>e=.returned (.bool (m.a==1099511627776))∧w'=w:=by
 obtain ⟨m0,m1,m2,m3,m4,m5⟩:=h.cells
 clear h
 go_enter Tryz.func36,Tryz.ntmps36
 go_wp2_with fail
 go_ret
 exact ⟨rfl,rfl⟩
set_option maxRecDepth 100000 in
theorem thereM_call (w:World) (b:Nat):Calls Tryz.prog 55 #[.pointer (some ⟨b,0,none⟩)] w fun e w'=>e=.returned (.pointer (some ⟨b,0,none⟩))∧w'=w:=by
 go_enter Tryz.func55,Tryz.ntmps55
 go_wp2_with fail
 go_ret
 exact ⟨rfl,rfl⟩
def fnV (f:Nat):Value:=.func (.func f) #[] #[]
set_option maxRecDepth 100000 in
theorem deedOf_call (w:World) (k:Int):Calls Tryz.prog 40 #[.int .i64 k] w fun e w'=>e=.returned (fnV (if k=0 then 81 else if k=1 then 82 else 83))∧w'=w:=by
 by_cases h0:k=0
 ·subst h0
  go_enter Tryz.func40,Tryz.ntmps40
  go_wp2_with fail
  go_ret
  exact ⟨rfl,rfl⟩
 ·rw [if_neg h0]
  by_cases h1:k=1
  ·subst h1
   go_enter Tryz.func40,Tryz.ntmps40
   go_wp2_with fail
   go_ret
   exact ⟨rfl,rfl⟩
  ·rw [if_neg h1]
   go_enter Tryz.func40,Tryz.ntmps40
   go_wp2_with fail
   go_ret
   exact ⟨rfl,rfl⟩
set_option maxRecDepth 100000 in
theorem nothing_call (h:LiveM w0 w F D b p al sz m) (x:Rm):Calls Tryz.prog 81 #[.pointer (some ⟨b,0,none⟩),rqV x] w fun e w'=>DeedP w0 w F D b p al sz (vtC 0) m e w':=by
 have HL:=hide h
 unfold rqV
 clear h
 go_enter Tryz.func81,Tryz.ntmps81
 go_wp2_with fail
 refine bodyPost_ret (vt_res (by rfl) _ (by rfl) (lay_rv w x (vtC 0) (.slice none 0 0)).2 rfl) rfl ?_
 exact ⟨none,0,0,rfl,KoO.nil _ _,(StepM.same HL.out (((Kept.refl _ _).alloc _).alloc _)).u0⟩
set_option maxRecDepth 100000 in
theorem bad_call (h:LiveM w0 w F D b p al sz m) (x:Rm):Calls Tryz.prog 77 #[.pointer (some ⟨b,0,none⟩),rqV x] w fun e w'=>DeedP w0 w F D b p al sz (vtC 5) m e w':=by
 have HL:=hide h
 unfold rqV
 clear h
 go_enter Tryz.func77,Tryz.ntmps77
 go_wp2_with fail
 refine bodyPost_ret (vt_res (by rfl) _ (by rfl) (lay_rv w x (vtC 5) (.slice none 0 0)).2 rfl) rfl ?_
 exact ⟨none,0,0,rfl,KoO.nil _ _,(StepM.same HL.out (((Kept.refl _ _).alloc _).alloc _)).u0⟩
set_option maxRecDepth 100000 in
theorem lookOf_call (w:World) (k:Int):Calls Tryz.prog 37 #[.int .i64 k] w fun e w'=>e=.returned (fnV (if k=3 then 74 else if k=4 then 75 else if k=5 then 76 else 77))∧w'=w:=by
 by_cases h0:k=3
 ·subst h0
  go_enter Tryz.func37,Tryz.ntmps37
  go_wp2_with fail
  go_ret
  exact ⟨rfl,rfl⟩
 ·rw [if_neg h0]
  by_cases h1:k=4
  ·subst h1
   go_enter Tryz.func37,Tryz.ntmps37
   go_wp2_with fail
   go_ret
   exact ⟨rfl,rfl⟩
  ·rw [if_neg h1]
   by_cases h2:k=5
   ·subst h2
    go_enter Tryz.func37,Tryz.ntmps37
    go_wp2_with fail
    go_ret
    exact ⟨rfl,rfl⟩
   ·rw [if_neg h2]
    go_enter Tryz.func37,Tryz.ntmps37
    go_wp2_with fail
    go_ret
    exact ⟨rfl,rfl⟩
def lookF (k:Int):Nat:=if k=3 then 74 else if k=4 then 75 else if k=5 then 76 else 77
set_option maxRecDepth 100000 in
theorem workOf_call (w:World) (k:Int):Calls Tryz.prog 124 #[.int .i64 k] w fun e w'=>e=.returned (fnV (if k=2 then 154 else if k=6 then 155 else if k=7 then 156 else lookF k))∧w'=w:=by
 by_cases h0:k=2
 ·subst h0
  go_enter Tryz.func124,Tryz.ntmps124
  go_wp2_with fail
  go_ret
  exact ⟨rfl,rfl⟩
 ·rw [if_neg h0]
  by_cases h1:k=6
  ·subst h1
   go_enter Tryz.func124,Tryz.ntmps124
   go_wp2_with fail
   go_ret
   exact ⟨rfl,rfl⟩
  ·rw [if_neg h1]
   by_cases h2:k=7
   ·subst h2
    go_enter Tryz.func124,Tryz.ntmps124
    go_wp2_with fail
    go_ret
    exact ⟨rfl,rfl⟩
   ·rw [if_neg h2]
    have cL:=lookOf_call w k
    rw [show (if k=3 then 74 else if k=4 then 75 else if k=5 then 76 else 77)=lookF k from rfl] at cL
    generalize lookF k=f at *
    unfold fnV at *
    go_enter Tryz.func124,Tryz.ntmps124
    go_wp2_with fail
    refine cL.mono ?_
    rintro _ _ ⟨rfl,rfl⟩
    go_wp2_with fail
    go_ret
    exact ⟨rfl,rfl⟩
set_option maxRecDepth 100000 in
theorem headM_call (h:LiveM w0 w F D b p al sz m) (x:Rm):Calls Tryz.prog 74 #[.pointer (some ⟨b,0,none⟩),rqV x] w fun e w'=>DeedP w0 w F D b p al sz ⟨8,0,m.g.cs.length,[],0,[],0⟩ m e w':=by
 have hk:=wDeed_kept w x
 obtain ⟨m0,m1,m2,m3,m4,m5⟩:=(h.kept hk).cells
 have cH:Calls Tryz.prog 68 #[.pointer (some ⟨p.g,0,none⟩)] (wDeed w x) fun e w'=>e=.returned (.int .i64 (m.g.cs.length:Int))∧w'=wDeed w x:=by
  obtain ⟨S,vt,X,h1,_⟩:=h.kept hk
  exact ghead_call h1.g
 have HL:=hide h
 unfold wDeed at *
 unfold rqV
 clear h hk
 generalize m.g.cs.length=gl at *
 go_enter Tryz.func74,Tryz.ntmps74
 go_wp2_with fail
 refine cH.mono ?_
 rintro _ _ ⟨rfl,rfl⟩
 go_wp2_with fail
 refine bodyPost_ret (vt_res (by rfl) _ (by rfl) (lay_rv w x ⟨8,0,gl,[],0,[],0⟩ (.slice none 0 0)).2 rfl) rfl ?_
 exact ⟨none,0,0,rfl,KoO.nil _ _,(StepM.same HL.out (((Kept.refl _ _).alloc _).alloc _)).u0⟩
end Go.Proofs.YtgpnlidnbldiiaaGreat
