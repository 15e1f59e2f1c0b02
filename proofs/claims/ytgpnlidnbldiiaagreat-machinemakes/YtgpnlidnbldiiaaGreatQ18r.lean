/-
  Texts laid as one.
-/
import Derived.Test.YtgpnlidnbldiiaaGreatQ1r
import Derived.Test.YtgpnlidnbldiiaaGreatQ3r
import Derived.Test.YtgpnlidnbldiiaaGreatQ12r
import Derived.Test.YtgpnlidnbldiiaaGreatQ2r
import Derived.Test.YtgpnlidnbldiiaaGreatQ10r
import Derived.Test.YtgpnlidnbldiiaaGreatQ14r
import Derived.Test.YtgpnlidnbldiiaaGreatQ16r
import Derived.Test.YtgpnlidnbldiiaaGreatQ15r
import Derived.Deep.MidRow
import Derived.Test.YtgpnlidnbldiiaaGreatQ11r
import Derived.Test.YtgpnlidnbldiiaaGreatQ5r
set_option maxHeartbeats 4000000
set_option maxRecDepth 100000
/-
 Requests in memory.
-/
namespace Go.Proofs.YtgpnlidnbldiiaaGreat
open Go.RowKit
def DG (r:Rq):Prop:=r.n.length≤300∧r.f.length≤300∧r.p.length≤300∧r.c.length≤40∧∀ y∈r.c,y.p.length≤300
def dE (w:World) (x:Rm):Prop:=tS w x∧DG x.r
theorem dE.kept {a w:World}{x:Rm}(h:dE a x) (k:aa [] a w):dE w x:=⟨h.1.kept k,h.2⟩
structure Cg where
 mo:Option Addr
 m:Nat
 mc:Nat
 l:List Int
 al:Int
 sz:Int
 kp:Int
 bt:Int
 tm:Int
 ls:Int
 nu:Int
 de:Int
def Dq (x:Cg):List Value:=[.slice x.mo x.m x.mc,.int .i64 x.al,.int .i64 x.sz,.int .i64 x.kp,.int .i64 x.bt,.int .i64 x.tm,.int .i64 x.ls,.int .i64 x.nu,.int .i64 x.de]
def Eo (x:Cg):Value:=.agg #[.slice x.mo x.m x.mc,.int .i64 x.al,.int .i64 x.sz,.int .i64 x.kp,.int .i64 x.bt,.int .i64 x.tm,.int .i64 x.ls,.int .i64 x.nu,.int .i64 x.de]
structure Pl where
 e:Nat
 t:Nat
 g:Nat
structure zz (w:World) (b:Nat) (p:Pl) (al:Int) (sz:Nat) (S:List Nat) (vt:Value) (X:List (Se × Value)) (B:Nat) (D:List Nat) (m:Ma):Prop where
 at_:w.heap[b]?=some (.cells #[.int .i64 al,.int .i64 (sz:Int),.int .i64 m.a,.pointer (some ⟨p.e,0,none⟩),.pointer (some ⟨p.t,0,none⟩),.pointer (some ⟨p.g,0,none⟩)] 70 (0,0))
 g:qu w p.g S m.g
 t:fJ (fun k=>k ∉ S∧k ∉ D) w p.t sz vt X m.s
 e:g9 B w p.e al m.e
structure qx (sz:Nat) (al:Int) (m:Ma):Prop where
 a0:0≤m.a
 a1:m.a≤1099511627776
 g:eO m.g
 sl:m.s.length≤sz
 so:∀ x∈m.s,jZ x
 e:hH m.e
 z1:sz≤16
 l0:1≤al
 l1:al≤8
def dD (b pt:Nat) (S:List Nat) (vt:Value):List Nat:=b :: (S++aW pt vt)
def ay (w0 w:World) (F D:List Nat) (b:Nat) (p:Pl) (al:Int) (sz:Nat) (m:Ma):Prop :=
 ∃ S vt X,zz w b p al sz S vt X w0.heap.size D m∧F=dD b p.t S vt∧aa [] w0 w∧(∀ k∈b :: p.t :: S,w0.heap.size≤k)∧(∀ k∈D,k < w.heap.size)∧qx sz al m
def jT (B:Nat) (F:List Nat) (w w':World):Prop :=
 ∃ U,aa U w w'∧aJ w U [70,131,137,126,124,121]∧∀ k∈U,k < w.heap.size→k∈F∨(B≤k∧∃ cur t mk,w.heap[k]?=some (.cells cur t mk)∧(t=124∨t=121))
theorem jT.kept {B:Nat}{F:List Nat}{w w':World}(h:aa [] w w'):jT B F w w':=⟨[],h,cm _ _,fun _ h=>by cases h⟩
theorem jT.size {B:Nat}{F:List Nat}{w w':World}(h:jT B F w w'):w.heap.size≤w'.heap.size:=by
 obtain ⟨U,h1,_⟩:=h;exact h1.size
theorem jT.trans {B:Nat}{F F1:List Nat}{a b c:World}(h:jT B F a b) (k:jT B F1 b c) (hF:∀ i∈F1,i∈F∨a.heap.size≤i):jT B F a c:=by
 obtain ⟨U,h1,h2,h3⟩:=h;obtain ⟨V,k1,k2,k3⟩:=k;refine ⟨U++V.filter fun i=>decide (i < a.heap.size),?_,?_,?_⟩
 ·refine (h1.mono (T:=U++V.filter fun i=>decide (i < a.heap.size)) (fun i hi=>.inl (by simp [hi]))).trans k1 fun i hi=>?_;by_cases hlt:i < a.heap.size
  ·exact .inl (by simp [hi,hlt])
  ·exact .inr (by omega)
 ·intro i hi cur t mk hh;by_cases hs:i∈U
  ·exact h2 i hs cur t mk hh
  ·rcases List.mem_append.1 hi with hi | hi
   ·exact absurd hi hs
   ·exact k2 i (List.mem_filter.1 hi).1 cur t mk (h1.at hh hs)
 ·intro i hi hlt;by_cases hs:i∈U
  ·exact h3 i hs hlt
  ·rcases List.mem_append.1 hi with hi | hi
   ·exact absurd hi hs
   ·rcases k3 i (List.mem_filter.1 hi).1 (Nat.lt_of_lt_of_le hlt h1.size) with hm | ⟨hB,cur,t,mk,hh,ht⟩
    ·rcases hF i hm with h | h
     ·exact .inl h
     ·omega
    ·exact .inr ⟨hB,cur,t,mk,by rw [← h1.block i hlt hs];exact hh,ht⟩
theorem jT.at {B:Nat}{F:List Nat}{w w':World}(h:jT B F w w') {k:Nat}{cur:Array Value}{t:TypeId}{mk:Nat × Nat}(hk:w.heap[k]?=some (.cells cur t mk)) (ht:t ∉ [70,131,137,126,124,121]):w'.heap[k]?=some (.cells cur t mk):=by
 obtain ⟨U,h1,h2,_⟩:=h;exact h1.typed h2 hk ht
theorem jT.row {B:Nat}{F:List Nat}{w w':World}(h:jT B F w w') {B' e size n:Nat}{v:Value}{xs:List Value}(hr:w.ownsRow B' e size v n xs) (ht:e ∉ [70,131,137,126,124,121]):w'.ownsRow B' e size v n xs:=by
 obtain ⟨U,h1,h2,_⟩:=h;exact ap h1 h2 hr ht
def db (w0 w:World) (F D:List Nat) (b:Nat) (p:Pl) (al:Int) (sz:Nat) (m:Ma) (w':World):Prop :=
 ∃ F',ay w0 w' F' D b p al sz m∧jT w0.heap.size F w w'∧∀ k∈F',k∈F∨w.heap.size≤k
theorem db.trans {w0 a b' c:World}{F D:List Nat}{b:Nat}{p:Pl}{al:Int}{sz:Nat}{m':Ma}{F1:List Nat}(h2:jT w0.heap.size F a b') (h3:∀ k∈F1,k∈F∨a.heap.size≤k) (k:db w0 b' F1 D b p al sz m' c):db w0 a F D b p al sz m' c:=by
 obtain ⟨F',k1,k2,k3⟩:=k;refine ⟨F',k1,h2.trans k2 h3,fun i hi=>?_⟩;rcases k3 i hi with h | h
 ·exact h3 i h
 ·exact .inr (Nat.le_trans h2.size h)
theorem nD {w:World}{u:Value}{k:List aV}{P:Nat→Prop}(h:io P w u k) {j:Nat}(hj:u.ownBlock=some j):j < w.heap.size:=by
 obtain ⟨⟨K,hr,_⟩,_⟩:=h;obtain ⟨cur,hh⟩:=ar hr hj;exact aq hh
theorem io.stay {P Q:Nat→Prop}{S:List Nat}{Ts:List TypeId}{w w':World}{u:Value}{k:List aV}(h:io P w u k) (hk:aa S w w') (hS:∀ j,P j→j < w.heap.size→j ∉ S∧Q j) (hT:aJ w S Ts) (h2:60 ∉ Ts):io Q w' u k:=by
 have hb:=fun j (hj:u.ownBlock=some j)=>hS j (h.2 j hj) (nD h hj);obtain ⟨⟨K,hr,ho,he⟩,_⟩:=h;exact ⟨⟨K,hk.ownsRow hr fun j hj=>(hb j hj).1,fun x hx=>ap hk hT (ho x hx) h2,he⟩,fun j hj=>(hb j hj).2⟩
theorem fJ.stay {P Q:Nat→Prop}{w w':World}{b sz:Nat}{v:Value}{X:List (Se × Value)}{L:List Se}(h:fJ P w b sz v X L) {S:List Nat}{Ts:List TypeId}(k:aa S w w') (hS:∀ i∈aW b v,i ∉ S) (hT:aJ w S Ts) (h2:60 ∉ Ts) (hP:∀ j,P j→j < w.heap.size→j ∉ S∧Q j):fJ Q w' b sz v X L :=
 ⟨k.at h.at_ (hS b (by simp [aW])),h.pos,h.row.keep k (fun i hi=>hS i (by simp [aW,hi])),fun x hx=>(h.own x hx).stay k hP hT h2,h.ses⟩
theorem g9.keep {B:Nat}{S:List Nat}{Ts:List TypeId}{w w':World}{p:Nat}{al:Int}{L:List Ep}(h:g9 B w p al L) (k:aa S w w') (hT:aJ w S Ts) (h1:124 ∉ Ts) (h2:121 ∉ Ts):g9 B w' p al L:=by
 obtain ⟨v,a,b,c⟩:=h;exact ⟨v,a,k.typed hT b h1,ap k hT c h2⟩
theorem fJ.typed {P:Nat→Prop}{w:World}{b sz:Nat}{v:Value}{X:List (Se × Value)}{L:List Se}(h:fJ P w b sz v X L) {k:Nat}(hk:k∈aW b v):∃ cur t,w.heap[k]?=some (.cells cur t (0,0))∧(t=126∨t=155):=by
 rcases List.mem_cons.1 hk with rfl | hk
 ·exact ⟨_,_,h.at_,.inl rfl⟩
 ·obtain ⟨cur,hh⟩:=h.row.block (aw.1 hk);exact ⟨_,_,hh,.inr rfl⟩
theorem zz.lt {w:World}{b:Nat}{al:Int}{sz:Nat}{p:Pl}{S:List Nat}{vt:Value}{X:List (Se × Value)}{B:Nat}{D:List Nat}{m:Ma}(h:zz w b p al sz S vt X B D m):∀ k∈dD b p.t S vt,k < w.heap.size:=by
 intro k hk;rcases List.mem_cons.1 hk with rfl | hk
 ·exact aq h.at_
 ·rcases List.mem_append.1 hk with hk | hk
  ·exact h.g.lt k hk
  ·exact h.t.lt k hk
theorem ay.lt {w0 w:World}{F D:List Nat}{b:Nat}{p:Pl}{al:Int}{sz:Nat}{m:Ma}(h:ay w0 w F D b p al sz m):∀ k∈F,k < w.heap.size:=by
 obtain ⟨S,vt,X,h1,rfl,_⟩:=h;exact h1.lt
theorem ay.keeps {w0 w:World}{F D:List Nat}{b:Nat}{p:Pl}{al:Int}{sz:Nat}{m:Ma}(h:ay w0 w F D b p al sz m):aa [] w0 w:=by
 obtain ⟨S,vt,X,h1,h2,h3,_⟩:=h;exact h3
theorem ay.w {w0 w:World}{F D:List Nat}{b:Nat}{p:Pl}{al:Int}{sz:Nat}{m:Ma}(h:ay w0 w F D b p al sz m):qx sz al m:=by
 obtain ⟨S,vt,X,h1,h2,h3,h4,h5,h6⟩:=h;exact h6
theorem zz.kept {w w':World}{b:Nat}{al:Int}{sz:Nat}{p:Pl}{S:List Nat}{vt:Value}{X:List (Se × Value)}{B:Nat}{D:List Nat}{m:Ma}(h:zz w b p al sz S vt X B D m) (k:aa [] w w'):zz w' b p al sz S vt X B D m :=
 ⟨k.at h.at_ (by simp),h.g.kept k,h.t.kept k,h.e.kept k⟩
theorem ay.kept {w0 w w':World}{F D:List Nat}{b:Nat}{p:Pl}{al:Int}{sz:Nat}{m:Ma}(h:ay w0 w F D b p al sz m) (k:aa [] w w'):ay w0 w' F D b p al sz m:=by
 obtain ⟨S,vt,X,h1,h2,h3,h4,h5,h6⟩:=h;exact ⟨S,vt,X,h1.kept k,h2,h3.trans k (by simp),h4,fun i hi=>Nat.lt_of_lt_of_le (h5 i hi) k.size,h6⟩
theorem db.same {w0 w w':World}{F D:List Nat}{b:Nat}{p:Pl}{al:Int}{sz:Nat}{m:Ma}(h:ay w0 w F D b p al sz m) (k:aa [] w w'):db w0 w F D b p al sz m w' :=
 ⟨F,h.kept k,jT.kept k,fun _ hi=>.inl hi⟩
theorem Df {w0 w w':World}{b:Nat}{al:Int}{sz:Nat}{p:Pl}{S:List Nat}{vt:Value}{X:List (Se × Value)}{D:List Nat}{m:Ma}{g:Gr}(h:zz w b p al sz S vt X w0.heap.size D m) (h3:aa [] w0 w) (h4:∀ k∈b :: p.t :: S,w0.heap.size≤k) (h5:∀ k∈D,k < w.heap.size) (h6:qx sz al m) (hL:uO w p.g S g w') (hg:eO g):db w0 w (dD b p.t S vt) D b p al sz ⟨m.a,g,m.s,m.e⟩ w':=by
 obtain ⟨S',g1,g2,g3⟩:=hL;have hT:=h.g.typed;have hS:∀ k∈S,w0.heap.size≤k:=fun k hk=>h4 k (by simp [hk])
 have hF:∀ k∈dD b p.t S' vt,k∈dD b p.t S vt∨w.heap.size≤k:=fun k hk=>by
  rcases List.mem_cons.1 hk with rfl | hk
  ·exact .inl (by simp [dD])
  ·rcases List.mem_append.1 hk with hk | hk
   ·rcases g3 k hk with h | h
    ·exact .inl (by simp [dD,h])
    ·exact .inr h
   ·exact .inl (by simp [dD,hk])
 refine ⟨dD b p.t S' vt,⟨S',vt,X,⟨g2.typed hT h.at_ (by decide),g1,?_,h.e.keep g2 hT (by decide) (by decide)⟩,rfl,h3.trans g2 (fun i hi=>.inr (hS i hi)),fun k hk=>?_,fun k hk=>Nat.lt_of_lt_of_le (h5 k hk) g2.size,⟨h6.a0,h6.a1,hg,h6.sl,h6.so,h6.e,h6.z1,h6.l0,h6.l1⟩⟩,⟨S,g2,?_,fun k hk _=>.inl (by simp [dD,hk])⟩,hF⟩
 ·refine h.t.stay g2 (fun i hi hm=>?_) hT (by decide) (fun j hj hlt=>⟨hj.1,fun hm=>?_,hj.2⟩)
  ·obtain ⟨cur,t,hh,ht⟩:=h.t.typed hi;have:=hT i hm _ _ _ hh
   rcases ht with rfl | rfl <;> simp at this
  ·rcases g3 j hm with h7 | h7
   ·exact hj.1 h7
   ·omega
 ·rcases List.mem_cons.1 hk with rfl | hk
  ·exact h4 k (by simp)
  ·rcases List.mem_cons.1 hk with rfl | hk
   ·exact h4 _ (by simp)
   ·rcases g3 k hk with h7 | h7
    ·exact h4 k (by simp [h7])
    ·exact Nat.le_trans h3.size h7
 ·intro k hk cur t mk hh;have:=hT k hk cur t mk hh
  simp at this
  rcases this with rfl | rfl <;> simp
theorem Af {w0 w w':World}{b:Nat}{al:Int}{sz:Nat}{p:Pl}{S:List Nat}{vt:Value}{X:List (Se × Value)}{D:List Nat}{m:Ma}{L:List Se}(h:zz w b p al sz S vt X w0.heap.size D m) (h3:aa [] w0 w) (h4:∀ k∈b :: p.t :: S,w0.heap.size≤k) (h5:∀ k∈D,k < w.heap.size) (h6:qx sz al m) {v':Value}{X':List (Se × Value)}(g1:fJ (fun k=>k ∉ S∧k ∉ D) w' p.t sz v' X' L) (g2:aa [p.t] w w') (g3:∀ k,v'.ownBlock=some k→vt.ownBlock=some k∨w.heap.size≤k) (hl:L.length≤sz) (hok:∀ x∈L,jZ x):ay w0 w' (dD b p.t S v') D b p al sz ⟨m.a,m.g,L,m.e⟩∧jT w0.heap.size (dD b p.t S vt) w w'∧∀ k∈dD b p.t S v',k∈dD b p.t S vt∨w.heap.size≤k:=by
 have hT:=dw h.t.at_;have hpt:w0.heap.size≤p.t:=h4 p.t (by simp)
 have hF:∀ k∈dD b p.t S v',k∈dD b p.t S vt∨w.heap.size≤k:=fun k hk=>by
  rcases List.mem_cons.1 hk with rfl | hk
  ·exact .inl (by simp [dD])
  ·rcases List.mem_append.1 hk with hk | hk
   ·exact .inl (by simp [dD,hk])
   ·rcases List.mem_cons.1 hk with rfl | hk
    ·exact .inl (by simp [dD,aW])
    ·rcases g3 k (aw.1 hk) with e | e
     ·exact .inl (by simp [dD,aW,e])
     ·exact .inr e
 refine ⟨⟨S,v',X',⟨g2.typed hT h.at_ (by decide),h.g.keep g2 (fun i hi hm=>?_) hT (by decide) (by decide) (by decide),g1,h.e.keep g2 hT (by decide) (by decide)⟩,rfl,h3.trans g2 (fun i hi=>.inr (by simp at hi;omega)),h4,fun k hk=>Nat.lt_of_lt_of_le (h5 k hk) g2.size,⟨h6.a0,h6.a1,h6.g,hl,hok,h6.e,h6.z1,h6.l0,h6.l1⟩⟩,⟨[p.t],g2,?_,fun k hk _=>.inl (by simp at hk;subst hk;simp [dD,aW])⟩,hF⟩
 ·rw [List.mem_singleton] at hm;rw [hm] at hi;have:=h.g.typed _ hi _ _ _ h.t.at_
  simp at this
 ·intro k hk cur t mk hh;have:=hT k hk cur t mk hh
  simp at this
  subst this;simp
theorem BV {w0 w w':World}{b:Nat}{al:Int}{sz:Nat}{p:Pl}{S:List Nat}{vt:Value}{X:List (Se × Value)}{D:List Nat}{m:Ma}{L:List Se}(h:zz w b p al sz S vt X w0.heap.size D m) (h3:aa [] w0 w) (h4:∀ k∈b :: p.t :: S,w0.heap.size≤k) (h5:∀ k∈D,k < w.heap.size) (h6:qx sz al m) (hL:BX (fun k=>k ∉ S∧k ∉ D) w p.t sz vt L w') (hl:L.length≤sz) (hok:∀ x∈L,jZ x):db w0 w (dD b p.t S vt) D b p al sz ⟨m.a,m.g,L,m.e⟩ w':=by
 obtain ⟨v',X',g1,g2,g3⟩:=hL;exact ⟨_,Af h h3 h4 h5 h6 g1 g2 g3 hl hok⟩
theorem BW {w0 w w':World}{b:Nat}{al:Int}{sz:Nat}{p:Pl}{S:List Nat}{vt:Value}{X:List (Se × Value)}{D:List Nat}{m:Ma}{L:List Ep}(h:zz w b p al sz S vt X w0.heap.size D m) (h3:aa [] w0 w) (h4:∀ k∈b :: p.t :: S,w0.heap.size≤k) (h5:∀ k∈D,k < w.heap.size) (h6:qx sz al m) (hE:g9 w0.heap.size w' p.e al L) (hN:Tn w0.heap.size [124,121] w w') (hok:hH L):db w0 w (dD b p.t S vt) D b p al sz ⟨m.a,m.g,m.s,L⟩ w':=by
 obtain ⟨U,g2,g3,hT,hC⟩:=id hN;refine ⟨dD b p.t S vt,⟨S,vt,X,⟨g2.typed hT h.at_ (by decide),h.g.keep g2 (fun i hi hm=>?_) hT (by decide) (by decide) (by decide),h.t.keep g2 (fun i hi hm=>?_) hT (by decide) (by decide),hE⟩,rfl,Tn.low h3 hN (Nat.le_refl _),h4,fun k hk=>Nat.lt_of_lt_of_le (h5 k hk) g2.size,⟨h6.a0,h6.a1,h6.g,h6.sl,h6.so,hok,h6.z1,h6.l0,h6.l1⟩⟩,⟨U,g2,?_,fun k hk hlt=>?_⟩,fun k hk=>.inl hk⟩
 ·obtain ⟨cur,t,mk,hh⟩:=hC i hm (h.g.lt i hi);have h7:=hT i hm _ _ _ hh;have h8:=h.g.typed i hi _ _ _ hh;simp at h7 h8
  rcases h7 with rfl | rfl <;> simp at h8
 ·obtain ⟨cur,t,hh,ht⟩:=h.t.typed hi;have h7:=hT i hm _ _ _ hh;rcases ht with rfl | rfl <;> simp at h7
 ·intro k hk cur t mk hh;have:=hT k hk cur t mk hh
  simp at this
  rcases this with rfl | rfl <;> simp
 ·obtain ⟨cur,t,mk,hh⟩:=hC k hk hlt;have h7:=hT k hk _ _ _ hh;simp at h7
  exact .inr ⟨g3 k hk,cur,t,mk,hh,h7⟩
theorem C3 {w0 w w':World}{b:Nat}{al:Int}{sz:Nat}{p:Pl}{S:List Nat}{vt:Value}{X:List (Se × Value)}{D:List Nat}{m:Ma}{a:Int}(h:zz w b p al sz S vt X w0.heap.size D m) (h3:aa [] w0 w) (h4:∀ k∈b :: p.t :: S,w0.heap.size≤k) (h5:∀ k∈D,k < w.heap.size) (h6:qx sz al m) (hk:w'=w.setCell ⟨b,2,none⟩ (.int .i64 a)) (ha:0≤a∧a≤1099511627776):db w0 w (dD b p.t S vt) D b p al sz ⟨a,m.g,m.s,m.e⟩ w':=by
 subst hk;have g2:aa [b] w (w.setCell ⟨b,2,none⟩ (.int .i64 a)):=(aa.refl _ _).setCell (by simp) _;have hT:=dw h.at_;have hb:w0.heap.size≤b:=h4 b (by simp);refine ⟨dD b p.t S vt,⟨S,vt,X,⟨heap_setCell_same w b 2 _ _ _ h.at_,h.g.keep g2 (fun i hi hm=>?_) hT (by decide) (by decide) (by decide),h.t.keep g2 (fun i hi hm=>?_) hT (by decide) (by decide),h.e.keep g2 hT (by decide) (by decide)⟩,rfl,h3.trans g2 (fun i hi=>.inr (by simp at hi;omega)),h4,fun k hk=>Nat.lt_of_lt_of_le (h5 k hk) g2.size,⟨ha.1,ha.2,h6.g,h6.sl,h6.so,h6.e,h6.z1,h6.l0,h6.l1⟩⟩,⟨[b],g2,?_,fun k hk _=>.inl (by simp at hk;subst hk;simp [dD])⟩,fun k hk=>.inl hk⟩
 ·simp at hm
  subst hm;have:=h.g.typed i hi _ _ _ h.at_
  simp at this
 ·simp at hm
  subst hm;obtain ⟨cur,t,hh,ht⟩:=h.t.typed hi;rw [h.at_] at hh;cases hh
  rcases ht with ht | ht <;> simp at ht
 ·intro k hk cur t mk hh;have:=hT k hk cur t mk hh
  simp at this
  subst this;simp
structure EU (w:World) (b:Nat) (p:Pl) (al:Int) (sz:Nat) (a:Int):Prop where
 m0:w.cell? ⟨b,0,none⟩=some (.int .i64 al)
 m1:w.cell? ⟨b,1,none⟩=some (.int .i64 (sz:Int))
 m2:w.cell? ⟨b,2,none⟩=some (.int .i64 a)
 m3:w.cell? ⟨b,3,none⟩=some (.pointer (some ⟨p.e,0,none⟩))
 m4:w.cell? ⟨b,4,none⟩=some (.pointer (some ⟨p.t,0,none⟩))
 m5:w.cell? ⟨b,5,none⟩=some (.pointer (some ⟨p.g,0,none⟩))
theorem ay.at {w0 w:World}{F D:List Nat}{b:Nat}{p:Pl}{al:Int}{sz:Nat}{m:Ma}(h:ay w0 w F D b p al sz m):w.heap[b]?=some (.cells #[.int .i64 al,.int .i64 (sz:Int),.int .i64 m.a,.pointer (some ⟨p.e,0,none⟩),.pointer (some ⟨p.t,0,none⟩),.pointer (some ⟨p.g,0,none⟩)] 70 (0,0)):=by
 obtain ⟨S,vt,X,h1,_⟩:=h;exact h1.at_
theorem ay.cells {w0 w:World}{F D:List Nat}{b:Nat}{p:Pl}{al:Int}{sz:Nat}{m:Ma}(h:ay w0 w F D b p al sz m):EU w b p al sz m.a :=
 ⟨ag (k:=0) h.at rfl,ag (k:=1) h.at rfl,ag (k:=2) h.at rfl,ag (k:=3) h.at rfl,ag (k:=4) h.at rfl,ag (k:=5) h.at rfl⟩
theorem dc (w:World) (b:Nat):Calls Tryz.prog 55 #[.pointer (some ⟨b,0,none⟩)] w fun e w'=>e=.returned (.pointer (some ⟨b,0,none⟩))∧w'=w:=by
 go_enter Tryz.func55,Tryz.ntmps55;go_wp2_with fail
 go_ret
 exact ⟨rfl,rfl⟩
theorem jY:(Tryz.prog.info? 43).map (·.size)=some 11:=by kernel_rfl
def py (v:Vt) (u:Value):List Value:=[.int .i64 v.c,.int .i64 v.s,.int .i64 v.r,.string (ak v.p),.int .u64 v.d,u,.int .i64 v.m]
def nY (w:World) (b:Nat) (x:Rm):Prop:=w.heap[b]?=some (.cells (oH x).toArray 43 (0,0))
def fg (w:World) (b:Nat) (v:Vt) (u:Value):Prop:=w.heap[b]?=some (.cells (py v u).toArray 39 (0,0))
theorem nY.kept {w w':World}{b:Nat}{x:Rm}(h:nY w b x) (k:aa [] w w'):nY w' b x:=k.at h (by simp)
theorem fg.kept {w w':World}{b:Nat}{v:Vt}{u:Value}(h:fg w b v u) (k:aa [] w w'):fg w' b v u:=k.at h (by simp)
theorem nY.fr {B:Nat}{F:List Nat}{w w':World}{b:Nat}{x:Rm}(h:nY w b x) (k:jT B F w w'):nY w' b x:=k.at h (by decide)
theorem fg.fr {B:Nat}{F:List Nat}{w w':World}{b:Nat}{v:Vt}{u:Value}(h:fg w b v u) (k:jT B F w w'):fg w' b v u:=k.at h (by decide)
theorem fg.lt {w:World}{b:Nat}{v:Vt}{u:Value}(h:fg w b v u):b < w.heap.size:=aq h
theorem ja {w:World}{b:Nat}{v:Vt}{u:Value}(h:fg w b v u):w.rangeAt b 0 (py v u):=fun j y hj=>by
 rw [Nat.zero_add];exact ag h (by simpa using hj)
theorem ld {w:World}{b:Nat}{x:Rm}(h:nY w b x):w.rangeAt b 0 (oH x):=fun j y hj=>by
 rw [Nat.zero_add];exact ag h (by simpa using hj)
structure Ev (w:World) (b:Nat) (v:Vt) (u:Value):Prop where
 v0:w.cell? ⟨b,0,none⟩=some (.int .i64 v.c)
 v1:w.cell? ⟨b,1,none⟩=some (.int .i64 v.s)
 v2:w.cell? ⟨b,2,none⟩=some (.int .i64 v.r)
 v3:w.cell? ⟨b,3,none⟩=some (.string (ak v.p))
 v4:w.cell? ⟨b,4,none⟩=some (.int .u64 v.d)
 v5:w.cell? ⟨b,5,none⟩=some u
 v6:w.cell? ⟨b,6,none⟩=some (.int .i64 v.m)
theorem fg.cells {w:World}{b:Nat}{v:Vt}{u:Value}(h:fg w b v u):Ev w b v u :=
 ⟨ag (k:=0) h rfl,ag (k:=1) h rfl,ag (k:=2) h rfl,ag (k:=3) h rfl,ag (k:=4) h rfl,ag (k:=5) h rfl,ag (k:=6) h rfl⟩
structure EH (w:World) (b:Nat) (x:Rm):Prop where
 q0:w.cell? ⟨b,0,none⟩=some (.int .i64 x.r.k)
 q1:w.cell? ⟨b,1,none⟩=some (.string (ak x.r.n))
 q2:w.cell? ⟨b,2,none⟩=some (.int .i64 x.r.s)
 q3:w.cell? ⟨b,3,none⟩=some (.int .i64 x.r.q)
 q4:w.cell? ⟨b,4,none⟩=some (.int .i64 x.r.b)
 q5:w.cell? ⟨b,5,none⟩=some (.string (ak x.r.f))
 q6:w.cell? ⟨b,6,none⟩=some (.slice x.mo x.m x.mc)
 q7:w.cell? ⟨b,7,none⟩=some (.string (ak x.r.p))
 q8:w.cell? ⟨b,8,none⟩=some (.int .i64 x.r.fr)
 q9:w.cell? ⟨b,9,none⟩=some (.int .i64 x.r.mn)
 q10:w.cell? ⟨b,10,none⟩=some (.int .i64 x.r.mb)
theorem nY.cells {w:World}{b:Nat}{x:Rm}(h:nY w b x):EH w b x :=
 ⟨ag (k:=0) h rfl,ag (k:=1) h rfl,ag (k:=2) h rfl,ag (k:=3) h rfl,ag (k:=4) h rfl,ag (k:=5) h rfl,ag (k:=6) h rfl,ag (k:=7) h rfl,ag (k:=8) h rfl,ag (k:=9) h rfl,ag (k:=10) h rfl⟩
structure ui (b bx:Nat) (p:Pl) (al:Int) (sz:Nat) (a:Int) (x:Rm) (w:World):Prop where
 m0:w.cell? ⟨b,0,none⟩=some (.int .i64 al)
 m1:w.cell? ⟨b,1,none⟩=some (.int .i64 (sz:Int))
 m2:w.cell? ⟨b,2,none⟩=some (.int .i64 a)
 m3:w.cell? ⟨b,3,none⟩=some (.pointer (some ⟨p.e,0,none⟩))
 m4:w.cell? ⟨b,4,none⟩=some (.pointer (some ⟨p.t,0,none⟩))
 m5:w.cell? ⟨b,5,none⟩=some (.pointer (some ⟨p.g,0,none⟩))
 q0:w.cell? ⟨bx,0,none⟩=some (.int .i64 x.r.k)
 q1:w.cell? ⟨bx,1,none⟩=some (.string (ak x.r.n))
 q2:w.cell? ⟨bx,2,none⟩=some (.int .i64 x.r.s)
 q3:w.cell? ⟨bx,3,none⟩=some (.int .i64 x.r.q)
 q4:w.cell? ⟨bx,4,none⟩=some (.int .i64 x.r.b)
 q5:w.cell? ⟨bx,5,none⟩=some (.string (ak x.r.f))
 q6:w.cell? ⟨bx,6,none⟩=some (.slice x.mo x.m x.mc)
 q7:w.cell? ⟨bx,7,none⟩=some (.string (ak x.r.p))
 q8:w.cell? ⟨bx,8,none⟩=some (.int .i64 x.r.fr)
 q9:w.cell? ⟨bx,9,none⟩=some (.int .i64 x.r.mn)
 q10:w.cell? ⟨bx,10,none⟩=some (.int .i64 x.r.mb)
 rg:w.rangeAt bx 0 (oH x)
theorem ay.mq {w0 w:World}{F D:List Nat}{b:Nat}{p:Pl}{al:Int}{sz:Nat}{m:Ma}(h:ay w0 w F D b p al sz m) {bx:Nat}{x:Rm}(hq:nY w bx x):ui b bx p al sz m.a x w:=by
 obtain ⟨m0,m1,m2,m3,m4,m5⟩:=h.cells;obtain ⟨q0,q1,q2,q3,q4,q5,q6,q7,q8,q9,q10⟩:=hq.cells;exact ⟨m0,m1,m2,m3,m4,m5,q0,q1,q2,q3,q4,q5,q6,q7,q8,q9,q10,ld hq⟩
theorem ay.box {w0 w w':World}{F D:List Nat}{b:Nat}{p:Pl}{al:Int}{sz:Nat}{m:Ma}(h:ay w0 w F D b p al sz m) {Bk:Nat}{cur:Array Value}{mk:Nat × Nat}(hB:w.heap[Bk]?=some (.cells cur 39 mk)) (k:aa [Bk] w w') (hlt:w0.heap.size≤Bk):ay w0 w' F D b p al sz m:=by
 obtain ⟨S,vt,X,h1,h2,h3,h4,h5,h6⟩:=h
 have hT:aJ w [Bk] [39]:=fun i hi cur' t' mk' hh=>by
  rw [List.mem_singleton] at hi;subst hi;rw [hB] at hh;cases hh;simp
 refine ⟨S,vt,X,⟨k.typed hT h1.at_ (by decide),h1.g.keep k (fun i hi hm=>?_) hT (by decide) (by decide) (by decide),h1.t.keep k (fun i hi hm=>?_) hT (by decide) (by decide),h1.e.keep k hT (by decide) (by decide)⟩,h2,h3.trans k (fun i hi=>.inr (by simp at hi;omega)),h4,fun i hi=>Nat.lt_of_lt_of_le (h5 i hi) k.size,h6⟩
 ·rw [List.mem_singleton] at hm;subst hm;have:=h1.g.typed i hi _ _ _ hB
  simp at this
 ·rw [List.mem_singleton] at hm;subst hm;obtain ⟨cur',t,hh,ht⟩:=h1.t.typed hi;rw [hB] at hh;cases hh
  rcases ht with ht | ht <;> simp at ht
theorem jT.box {B:Nat}{F:List Nat}{w w2 w3:World}(h:jT B F w w2) {Bk:Nat}(hlt:w.heap.size≤Bk) (k:aa [Bk] w2 w3):jT B F w w3:=by
 obtain ⟨U,h1,h2,h3⟩:=h;exact ⟨U,h1.trans k (fun i hi=>.inr (by simp at hi;omega)),h2,h3⟩
theorem db.lift {w0 w w1 w2:World}{F D:List Nat}{b:Nat}{p:Pl}{al:Int}{sz:Nat}{m:Ma}(k:aa [] w w1) (h:db w0 w1 F D b p al sz m w2):db w0 w F D b p al sz m w2 :=
 db.trans (F1:=F) (jT.kept k) (fun _ hi=>.inl hi) h
def dI (w0 w:World) (F D:List Nat) (b:Nat) (p:Pl) (al:Int) (sz:Nat) (m:Ma) (u:Value) (w':World):Prop :=
 ∃ F',ay w0 w' F' D b p al sz m∧jT w0.heap.size F w w'∧(∀ k∈F',k∈F∨w.heap.size≤k)∧∀ j,u.ownBlock=some j→j ∉ F'
theorem db.u0 {w0 w w2:World}{F D:List Nat}{b:Nat}{p:Pl}{al:Int}{sz:Nat}{m:Ma}(h:db w0 w F D b p al sz m w2):dI w0 w F D b p al sz m (.slice none 0 0) w2:=by
 obtain ⟨F',h1,h2,h3⟩:=h;exact ⟨F',h1,h2,h3,fun j hj=>by cases hj⟩
theorem il {B:Nat}{w:World}{u:Value}{k:List aV}(h:cw B w u k) {j:Nat}(hj:u.ownBlock=some j):B≤j∧∃ cur,w.heap[j]?=some (.cells cur 137 (0,0)):=by
 obtain ⟨K,hr,_⟩:=h;exact ⟨(World.ownsRow.lt hr j hj).1,ar hr hj⟩
theorem dI.same {w0 w w':World}{F D:List Nat}{b:Nat}{p:Pl}{al:Int}{sz:Nat}{m:Ma}{u:Value}{k:List aV}(h:ay w0 w F D b p al sz m) (hk:aa [] w w') (hu:cw w.heap.size w' u k):dI w0 w F D b p al sz m u w' :=
 ⟨F,h.kept hk,jT.kept hk,fun _ hi=>.inl hi,fun j hj hm=>by have:=(il hu hj).1;have:=h.lt j hm;omega⟩
theorem dI.box {w0 w w2 w3:World}{F D:List Nat}{b:Nat}{p:Pl}{al:Int}{sz:Nat}{m:Ma}{u:Value}(h:dI w0 w F D b p al sz m u w2) {Bk:Nat}{cur:Array Value}{mk:Nat × Nat}(hB:w2.heap[Bk]?=some (.cells cur 39 mk)) (hlt:w.heap.size≤Bk) (h0:w0.heap.size≤w.heap.size) (k:aa [Bk] w2 w3):dI w0 w F D b p al sz m u w3:=by
 obtain ⟨F',h1,h2,h3,h4⟩:=h;exact ⟨F',h1.box hB k (by omega),h2.box hlt k,h3,h4⟩
theorem dI.trans {w0 a b' c:World}{F D:List Nat}{b:Nat}{p:Pl}{al:Int}{sz:Nat}{m':Ma}{u:Value}{F1:List Nat}(h2:jT w0.heap.size F a b') (h3:∀ k∈F1,k∈F∨a.heap.size≤k) (k:dI w0 b' F1 D b p al sz m' u c):dI w0 a F D b p al sz m' u c:=by
 obtain ⟨F',k1,k2,k3,k4⟩:=k;refine ⟨F',k1,h2.trans k2 h3,fun i hi=>?_,k4⟩;rcases k3 i hi with h | h
 ·exact h3 i h
 ·exact .inr (Nat.le_trans h2.size h)
theorem dI.lift {w0 w w1 w2:World}{F D:List Nat}{b:Nat}{p:Pl}{al:Int}{sz:Nat}{m:Ma}{u:Value}(k:aa [] w w1) (h:dI w0 w1 F D b p al sz m u w2):dI w0 w F D b p al sz m u w2 :=
 dI.trans (F1:=F) (jT.kept k) (fun _ hi=>.inl hi) h
theorem dI.more {w0 w w1 w2:World}{F D:List Nat}{b:Nat}{p:Pl}{al:Int}{sz:Nat}{m:Ma}{u:Value}(h:dI w0 w F D b p al sz m u w1) (k:aa [] w1 w2):dI w0 w F D b p al sz m u w2:=by
 obtain ⟨F',h1,h2,h3,h4⟩:=h;exact ⟨F',h1.kept k,h2.trans (jT.kept (F:=[]) k) (fun i hi=>by cases hi),h3,h4⟩
theorem As {a w:World}{ao:Option Addr}{n c:Nat}{L:List Ch}(h:di a ao n c L) {b:Nat}(k:aa [b] a w) {z:Int}{ao':Option Addr}{n' c':Nat}{t:TypeId}(hb:a.heap[b]?=some (.cells #[.int .i64 z,.slice ao' n' c'] t (0,0))):di w ao n c L:=by
 refine ⟨h.1,h.2.1,h.2.2.1,fun i hi=>?_⟩;obtain ⟨g,o,e,h1⟩:=h.2.2.2 i hi;refine ⟨g,o,e,h1.kept k fun hm=>?_⟩;rw [List.mem_singleton] at hm;subst hm;have h2:=h1.c0;simp only [World.cell?,hb] at h2;match o+i*3,h2 with
 | 0,h2=>simp at h2
 | 1,h2=>simp at h2
 | q+2,h2=>simp at h2
def fF (w0 w:World) (F D:List Nat) (b:Nat) (p:Pl) (al:Int) (sz:Nat) (v:Vt) (m:Ma) (e:Ending) (w':World):Prop :=
 ∃ ao n c,e=.returned (gA v (.slice ao n c))∧cw w.heap.size w' (.slice ao n c) v.k∧dI w0 w F D b p al sz m (.slice ao n c) w'
theorem fp {B:Nat}{w w':World}{u:Value}{k:List aV}(h:cw B w u k) {Bk:Nat}{v:Vt}{u':Value}(hB:fg w Bk v u') (hk:aa [Bk] w w'):cw B w' u k :=
 h.keep hk (dw hB) (by decide) (by decide)
theorem aY {ops:Array Oper}{a:Act}{w:World}{K:Act→World→Prop}{Q:Exit→Act→World→Prop}{E:Prop}{d:Option Tmp}{x y:Operand}{ty:TypeId}{ps:String}{af:Array Edge}
 (v:Vt) (u:Value) (hu:∃ ao n c,u=.slice ao n c) {b:Nat}(hx:a.eval x=.pointer (some ⟨b,0,none⟩)) (hy:a.eval y=gA v u) {v':Vt}{u':Value}(hc:fg w b v' u') (h:∀ w',Hid (fg w' b v u)→Hid (aa [b] w w')→K (a.put d undef) w') :
 if Region.wanted (⟨d,.store 39 x y,ty,ps,af,none⟩:Oper) (yielded ops a.tmps)=true then Oper.wp Tryz.prog ⟨d,.store 39 x y,ty,ps,af,none⟩ a w K Q else E:=by
 obtain ⟨ao,n,c,rfl⟩:=hu;refine jH rfl (wp_store_mid _ x y rfl b 0 (py v (.slice ao n c)).toArray hx hy ?_ kj (all_oneCell_toArray ?_) (h _ ?_ (ee (by simp) _ _ (aa.refl _ _))))
 ·intro j hj;have hj7:j < 7:=hj;rw [Nat.zero_add];refine ⟨?_,aj hc j⟩;have:(py v' u')[j]?.isSome=true:=by simp [py,hj7]
  obtain ⟨q,hq⟩:=Option.isSome_iff_exists.1 this;rw [ag (k:=j) hc (by simpa using hq)];rfl
 ·intro q hq;simp [py] at hq
  rcases hq with rfl | rfl | rfl | rfl | rfl | rfl | rfl <;> rfl
 ·show fg _ _ _ _;exact aD hc rfl _ _ _ _ _ _ _
theorem qi (w:World) (x:Rm) (v:Vt) (u:Value):nY ((w.alloc (.cells (oH x).toArray 43)).alloc (.cells (py v u).toArray 39)) w.heap.size x∧fg ((w.alloc (.cells (oH x).toArray 43)).alloc (.cells (py v u).toArray 39)) (w.heap.size+1) v u:=by
 refine ⟨(Below.heap_alloc _ _ _ (by simp)).trans (heap_alloc_new w _),?_⟩;have:=heap_alloc_new (w.alloc (.cells (oH x).toArray 43)) (.cells (py v u).toArray 39)
 rw [World.size_alloc] at this;exact this
def aX (w:World) (x:Rm):World:=(w.alloc (.cells #[.int .i64 x.r.k,.string (ak x.r.n),.int .i64 x.r.s,.int .i64 x.r.q,.int .i64 x.r.b,.string (ak x.r.f),.slice x.mo x.m x.mc,.string (ak x.r.p),.int .i64 x.r.fr,.int .i64 x.r.mn,.int .i64 x.r.mb] 43)).alloc (.cells #[.int .i64 0,.int .i64 0,.int .i64 0,.string ⟨#[]⟩,.int .u64 0,.slice none 0 0,.int .i64 0] 39)
theorem aF (w:World) (x:Rm):nY (aX w x) w.heap.size x∧fg (aX w x) (w.heap.size+1) (cq 0) (.slice none 0 0):=qi w x (cq 0) (.slice none 0 0)
theorem ax (w:World) (x:Rm):aa [] w (aX w x):=((aa.refl _ _).alloc _).alloc _
theorem du {w0 w w1 w2 w3:World}{F D:List Nat}{b:Nat}{p:Pl}{al:Int}{sz:Nat}{v v':Vt}{m:Ma}{ao:Option Addr}{n c:Nat}{u':Value}(h0:w0.heap.size≤w.heap.size) (hK:aa [] w w1) (hS:dI w0 w1 F D b p al sz m (.slice ao n c) w2) (hO:cw w1.heap.size w2 (.slice ao n c) v.k) (hV:fg w2 (w.heap.size+1) v' u') (k:aa [w.heap.size+1] w2 w3):fF w0 w F D b p al sz v m (.returned (gA v (.slice ao n c))) w3 :=
 ⟨ao,n,c,rfl,fp (hO.mono hK.size) hV k,(hS.lift hK).box hV (Nat.le_succ _) h0 k⟩
variable {w0 w : World} {F D : List Nat} {b : Nat} {p : Pl} {al : Int} {sz : Nat} {m : Ma}
theorem tT (h:ay w0 w F D b p al sz m):Calls Tryz.prog 35 #[.pointer (some ⟨b,0,none⟩)] w fun e w'=>e=.returned (.bool true)∧w'=w:=by
 obtain ⟨m0,m1,m2,m3,m4,m5⟩:=h.cells;clear h;go_enter Tryz.func35,Tryz.ntmps35;go_wp2_with fail
 go_ret
 exact ⟨rfl,rfl⟩
theorem sB (h:ay w0 w F D b p al sz m):Calls Tryz.prog 36 #[.pointer (some ⟨b,0,none⟩)] w fun e w'=>e=.returned (.bool (m.a==1099511627776))∧w'=w:=by
 obtain ⟨m0,m1,m2,m3,m4,m5⟩:=h.cells;clear h;go_enter Tryz.func36,Tryz.ntmps36;go_wp2_with fail
 go_ret
 exact ⟨rfl,rfl⟩
def Cz (f:Nat):Value:=.func (.func f) #[] #[]
theorem sb (w:World) (k:Int):Calls Tryz.prog 40 #[.int .i64 k] w fun e w'=>e=.returned (Cz (if k=0 then 81 else if k=1 then 82 else 83))∧w'=w:=by
 by_cases h0:k=0
 ·subst h0;go_enter Tryz.func40,Tryz.ntmps40;(go_wp2_with fail);go_ret
  exact ⟨rfl,rfl⟩
 ·rw [if_neg h0];by_cases h1:k=1
  ·subst h1;go_enter Tryz.func40,Tryz.ntmps40;(go_wp2_with fail);go_ret
   exact ⟨rfl,rfl⟩
  ·rw [if_neg h1];go_enter Tryz.func40,Tryz.ntmps40;(go_wp2_with fail);go_ret
   exact ⟨rfl,rfl⟩
theorem pJ (h:ay w0 w F D b p al sz m) (x:Rm):Calls Tryz.prog 81 #[.pointer (some ⟨b,0,none⟩),eh x] w fun e w'=>fF w0 w F D b p al sz (cq 0) m e w':=by
 have HL:=ah h;unfold eh;clear h;go_enter Tryz.func81,Tryz.ntmps81;go_wp2_with fail
 refine bodyPost_ret (bj (by rfl) _ (by rfl) (qi w x (cq 0) (.slice none 0 0)).2 rfl) rfl ?_;exact ⟨none,0,0,rfl,cw.nil _ _,(db.same HL.out (((aa.refl _ _).alloc _).alloc _)).u0⟩
theorem yU (h:ay w0 w F D b p al sz m) (x:Rm):Calls Tryz.prog 77 #[.pointer (some ⟨b,0,none⟩),eh x] w fun e w'=>fF w0 w F D b p al sz (cq 5) m e w':=by
 have HL:=ah h;unfold eh;clear h;go_enter Tryz.func77,Tryz.ntmps77;go_wp2_with fail
 refine bodyPost_ret (bj (by rfl) _ (by rfl) (qi w x (cq 5) (.slice none 0 0)).2 rfl) rfl ?_;exact ⟨none,0,0,rfl,cw.nil _ _,(db.same HL.out (((aa.refl _ _).alloc _).alloc _)).u0⟩
theorem rb (w:World) (k:Int):Calls Tryz.prog 37 #[.int .i64 k] w fun e w'=>e=.returned (Cz (if k=3 then 74 else if k=4 then 75 else if k=5 then 76 else 77))∧w'=w:=by
 by_cases h0:k=3
 ·subst h0;go_enter Tryz.func37,Tryz.ntmps37;(go_wp2_with fail);go_ret
  exact ⟨rfl,rfl⟩
 ·rw [if_neg h0];by_cases h1:k=4
  ·subst h1;go_enter Tryz.func37,Tryz.ntmps37;(go_wp2_with fail);go_ret
   exact ⟨rfl,rfl⟩
  ·rw [if_neg h1];by_cases h2:k=5
   ·subst h2;go_enter Tryz.func37,Tryz.ntmps37;(go_wp2_with fail);go_ret
    exact ⟨rfl,rfl⟩
   ·rw [if_neg h2];go_enter Tryz.func37,Tryz.ntmps37;(go_wp2_with fail);go_ret
    exact ⟨rfl,rfl⟩
def me (k:Int):Nat:=if k=3 then 74 else if k=4 then 75 else if k=5 then 76 else 77
theorem rR (w:World) (k:Int):Calls Tryz.prog 124 #[.int .i64 k] w fun e w'=>e=.returned (Cz (if k=2 then 154 else if k=6 then 155 else if k=7 then 156 else me k))∧w'=w:=by
 by_cases h0:k=2
 ·subst h0;go_enter Tryz.func124,Tryz.ntmps124;(go_wp2_with fail);go_ret
  exact ⟨rfl,rfl⟩
 ·rw [if_neg h0];by_cases h1:k=6
  ·subst h1;go_enter Tryz.func124,Tryz.ntmps124;(go_wp2_with fail);go_ret
   exact ⟨rfl,rfl⟩
  ·rw [if_neg h1];by_cases h2:k=7
   ·subst h2;go_enter Tryz.func124,Tryz.ntmps124;(go_wp2_with fail);go_ret
    exact ⟨rfl,rfl⟩
   ·rw [if_neg h2];have cL:=rb w k;rw [show (if k=3 then 74 else if k=4 then 75 else if k=5 then 76 else 77)=me k from rfl] at cL;generalize me k=f at *;unfold Cz at *;go_enter Tryz.func124,Tryz.ntmps124;(go_wp2_with fail);refine cL.mono ?_;rintro _ _ ⟨rfl,rfl⟩;(go_wp2_with fail);go_ret
    exact ⟨rfl,rfl⟩
theorem sX (h:ay w0 w F D b p al sz m) (x:Rm):Calls Tryz.prog 74 #[.pointer (some ⟨b,0,none⟩),eh x] w fun e w'=>fF w0 w F D b p al sz ⟨8,0,m.g.cs.length,[],0,[],0⟩ m e w':=by
 have hk:=ax w x;obtain ⟨m0,m1,m2,m3,m4,m5⟩:=(h.kept hk).cells
 have cH:Calls Tryz.prog 68 #[.pointer (some ⟨p.g,0,none⟩)] (aX w x) fun e w'=>e=.returned (.int .i64 (m.g.cs.length:Int))∧w'=aX w x:=by
  obtain ⟨S,vt,X,h1,_⟩:=h.kept hk;exact ml h1.g
 have HL:=ah h;unfold aX at *;unfold eh;clear h hk;generalize m.g.cs.length=gl at *;go_enter Tryz.func74,Tryz.ntmps74;go_wp2_with fail
 refine cH.mono ?_;rintro _ _ ⟨rfl,rfl⟩;go_wp2_with fail
 refine bodyPost_ret (bj (by rfl) _ (by rfl) (qi w x ⟨8,0,gl,[],0,[],0⟩ (.slice none 0 0)).2 rfl) rfl ?_;exact ⟨none,0,0,rfl,cw.nil _ _,(db.same HL.out (((aa.refl _ _).alloc _).alloc _)).u0⟩
end Go.Proofs.YtgpnlidnbldiiaaGreat
