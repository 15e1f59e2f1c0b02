/-
  Texts laid as one.
-/
import Derived.Test.YtakafmejllilnaaGreatF1r
import Derived.Test.YtakafmejllilnaaGreatW0r
import Derived.Laws.CopyRow
import Derived.Laws.MakeOwn
import Derived.Laws.OwnMore
set_option maxHeartbeats 8000000
/-
 Hands: what a struct of method values does,said of whatever they do.
-/
namespace Go.Proofs.YtakafmejllilnaaGreat
open Go.RowKit
structure df where
 f0:Nat
 f1:Nat
 f2:Nat
 f3:Nat
 f4:Nat
 v:Value
def df.c (H:df):List Value:=[.func (.func H.f0) #[H.v] #[],.func (.func H.f1) #[H.v] #[],.func (.func H.f2) #[H.v] #[],.func (.func H.f3) #[H.v] #[],.func (.func H.f4) #[H.v] #[]]
def df.a (H:df):Value:=.agg #[.func (.func H.f0) #[H.v] #[],.func (.func H.f1) #[H.v] #[],.func (.func H.f2) #[H.v] #[],.func (.func H.f3) #[H.v] #[],.func (.func H.f4) #[H.v] #[]]
variable {σ : Type}
def cg (At:World→List Nat→σ→Nat→Prop) (w:World) (O:List Nat) (s:σ) (m:Nat) (w':World):Prop :=
 ∃ O',At w' O' s m∧ab O w w'∧∀ k∈O',k∈O∨w.heap.size≤k
structure bH (H:df) (P:PH σ) (At:World→List Nat→σ→Nat→Prop):Prop where
 e0:∀ (a:Array Value) (w:World),Sem.run Tryz.prog (callFunc H.f0 a) w=.ok (.enter H.f0 a) w
 e1:∀ (a:Array Value) (w:World),Sem.run Tryz.prog (callFunc H.f1 a) w=.ok (.enter H.f1 a) w
 e2:∀ (a:Array Value) (w:World),Sem.run Tryz.prog (callFunc H.f2 a) w=.ok (.enter H.f2 a) w
 e3:∀ (a:Array Value) (w:World),Sem.run Tryz.prog (callFunc H.f3 a) w=.ok (.enter H.f3 a) w
 e4:∀ (a:Array Value) (w:World),Sem.run Tryz.prog (callFunc H.f4 a) w=.ok (.enter H.f4 a) w
 kept:∀ {w w':World}{O T:List Nat}{s:σ}{m:Nat},At w O s m→ab T w w'→(∀ k∈T,k ∉ O)→At w' O s m
 lt:∀ {w:World}{O:List Nat}{s:σ}{m:Nat},At w O s m→∀ k∈O,k < w.heap.size
 le:∀ {w:World}{O:List Nat}{s:σ}{m m':Nat},At w O s m→m'≤m→At w O s m'
 num:∀ (w:World) (O:List Nat) (s:σ) (m:Nat) (n:Int),At w O s (m+1)→Calls Tryz.prog H.f0 #[H.v,.int .i64 n] w fun r w'=>r=.returned (.int .i64 (P.num s n).1)∧cg At w O (P.num s n).2 m w'
 upTo:∀ (w:World) (O:List Nat) (s:σ) (m:Nat) (n t:Int),At w O s (m+1)→Calls Tryz.prog H.f1 #[H.v,.int .i64 n,.int .i64 t] w fun r w'=>r=.returned (.int .i64 (P.upTo s n t).1)∧cg At w O (P.upTo s n t).2 m w'
 text:∀ (w:World) (O:List Nat) (s:σ) (m:Nat) (l:List UInt8),At w O s (m+1)→l.length≤140737488351232→Calls Tryz.prog H.f2 #[H.v,.string (ae l)] w fun r w'=>r=.returned (.string (ae (P.text s l).1))∧cg At w O (P.text s l).2 m w'
 flag:∀ (w:World) (O:List Nat) (s:σ) (m:Nat) (b:Bool),At w O s (m+1)→Calls Tryz.prog H.f3 #[H.v,.bool b] w fun r w'=>r=.returned (.bool (P.flag s b).1)∧cg At w O (P.flag s b).2 m w'
 word:∀ (w:World) (O:List Nat) (s:σ) (m:Nat) (x:Int),At w O s (m+1)→Calls Tryz.prog H.f4 #[H.v,.int .u64 x] w fun r w'=>r=.returned (.int .u64 (P.word s x).1)∧cg At w O (P.word s x).2 m w'
 bd:∀ {w:World}{O:List Nat}{s:σ}{m:Nat}(n t:Int),At w O s m→0≤n→0≤t→0≤(P.upTo s n t).1∧(P.upTo s n t).1≤t
structure Fl (T:TypeId) (w0:World) (O0:List Nat) (H:df) (xs zs:List Value) (w:World) (O:List Nat):Prop where
 k:ab O0 w0 w
 h:Bx w w0.heap.size 168 H.c
 x:Bx w (w0.heap.size+1) T xs
 z:Bx w (w0.heap.size+2) T zs
 o:∀ k∈O,k∈O0∨w0.heap.size+3≤k
 o0:∀ k∈O0,k < w0.heap.size
theorem Fl.call {T:TypeId}{w0 w w':World}{O0 O O':List Nat}{H:df}{xs zs:List Value}(h:Fl T w0 O0 H xs zs w O) (hk:ab O w w') (hn:∀ k∈O',k∈O∨w.heap.size≤k):Fl T w0 O0 H xs zs w' O':=by
 have hs:∀ b,b < w0.heap.size+3→w0.heap.size≤b→b ∉ O:=fun b h1 h2 hm=>by
  rcases h.o b hm with h3 | h3
  ·have:=h.o0 b h3;omega
  ·omega
 refine ⟨h.k.trans hk (fun i hi=>?_),h.h.kept hk (hs _ (by omega) (by omega)),h.x.kept hk (hs _ (by omega) (by omega)),h.z.kept hk (hs _ (by omega) (by omega)),fun i hi=>?_,h.o0⟩
 ·rcases h.o i hi with h3 | h3
  ·exact .inl h3
  ·exact .inr (by omega)
 ·rcases hn i hi with h3 | h3
  ·exact h.o i h3
  ·have:=h.z.lt;exact .inr (by omega)
theorem Fl.own {T:TypeId}{w0 w w':World}{O0 O:List Nat}{H:df}{xs zs:List Value}(h:Fl T w0 O0 H xs zs w O) {S:List Nat}(hk:ab S w w') (hS:∀ k∈S,w0.heap.size+3≤k):Fl T w0 O0 H xs zs w' O :=
 ⟨h.k.trans hk (fun i hi=>.inr (by have:=hS i hi;omega)),h.h.kept hk (fun hm=>by have:=hS _ hm;omega),h.x.kept hk (fun hm=>by have:=hS _ hm;omega),h.z.kept hk (fun hm=>by have:=hS _ hm;omega),h.o,h.o0⟩
structure Fn (T:TypeId) (w0:World) (O0:List Nat) (H:df) (xs zs:List Value) (b:Nat) (ns:List Value) (w:World) (O:List Nat):Prop where
 f:Fl T w0 O0 H xs zs w O
 n:Bx w b T ns
 b3:w0.heap.size+3≤b
 b0:b ∉ O
theorem Fn.call {T:TypeId}{w0 w w':World}{O0 O O':List Nat}{H:df}{xs zs ns:List Value}{b:Nat}(h:Fn T w0 O0 H xs zs b ns w O) (hk:ab O w w') (hn:∀ k∈O',k∈O∨w.heap.size≤k):Fn T w0 O0 H xs zs b ns w' O' :=
 ⟨h.f.call hk hn,h.n.kept hk h.b0,h.b3,fun hm=>by
  rcases hn b hm with h1 | h1
  ·exact h.b0 h1
  ·have:=h.n.lt;omega⟩
theorem Fn.set {T:TypeId}{w0 w:World}{O0 O:List Nat}{H:df}{xs zs ns:List Value}{b:Nat}(h:Fn T w0 O0 H xs zs b ns w O) (j:Nat) (v:Value):Fn T w0 O0 H xs zs b (ns.set j v) (w.setCell ⟨b,j,none⟩ v) O :=
 ⟨h.f.own ((ab.refl [b] w).setCell (by simp) v) (by simpa using h.b3),h.n.set j v,h.b3,h.b0⟩
theorem aj (w:World) (b j:Nat) (v:Value):ab [b] w (w.setCell ⟨b,j,none⟩ v):=(ab.refl [b] w).setCell (by simp) v
theorem fG:aq Tryz.prog 168 5:=⟨_,Tryz.underlying168,rfl,by kernel_rfl⟩
theorem gl:aq Tryz.prog 134 3:=⟨_,Tryz.underlying134,rfl,by kernel_rfl⟩
theorem eZ:aq Tryz.prog 108 4:=⟨_,Tryz.underlying108,rfl,by kernel_rfl⟩
theorem am:aq Tryz.prog 34 7:=⟨_,Tryz.underlying34,rfl,by kernel_rfl⟩
theorem ar:aq Tryz.prog 29 11:=⟨_,Tryz.underlying29,rfl,by kernel_rfl⟩
end Go.Proofs.YtakafmejllilnaaGreat
namespace Go.Proofs.YtakafmejllilnaaGreat
open Go.RowKit
variable {σ : Type}
def oP:List Value:=[.string ⟨#[]⟩,.bool false,.int .u64 0]
def dZ (w:World) (T:TypeId) (H:df) (xs zs:List Value):World:=((w.alloc (.cells H.c.toArray 168)).alloc (.cells xs.toArray T)).alloc (.cells zs.toArray T)
theorem cu (w:World) (T:TypeId) (O:List Nat) (H:df) (xs zs:List Value) (ho:∀ k∈O,k < w.heap.size):Fl T w O H xs zs (dZ w T H xs zs) O:=by
 have k1:ab O w (w.alloc (.cells H.c.toArray 168)):=(ab.refl _ _).alloc _;have k2:ab [] (w.alloc (.cells H.c.toArray 168)) ((w.alloc (.cells H.c.toArray 168)).alloc (.cells xs.toArray T)):=(ab.refl _ _).alloc _;have k3:ab [] ((w.alloc (.cells H.c.toArray 168)).alloc (.cells xs.toArray T)) (dZ w T H xs zs):=(ab.refl _ _).alloc _;have n1:(w.alloc (.cells H.c.toArray 168)).heap.size=w.heap.size+1:=by simp
 have n2:((w.alloc (.cells H.c.toArray 168)).alloc (.cells xs.toArray T)).heap.size=w.heap.size+2:=by simp
 refine ⟨(k1.trans k2 (by simp)).trans k3 (by simp),((Bx.new w _ _).kept k2 (by simp)).kept k3 (by simp),?_,?_,fun k hk=>.inl hk,ho⟩
 ·have h:=(Bx.new (w.alloc (.cells H.c.toArray 168)) T xs).kept k3 (by simp);rw [n1] at h;exact h
 ·have h:=Bx.new ((w.alloc (.cells H.c.toArray 168)).alloc (.cells xs.toArray T)) T zs;rw [n2] at h;exact h
theorem gS (w:World) (T:TypeId) (H:df) (xs zs:List Value):(dZ w T H xs zs).heap.size=w.heap.size+3:=by simp [dZ]
theorem Fl.named {T:TypeId}{w0 w:World}{O0 O:List Nat}{H:df}{xs zs:List Value}(h:Fl T w0 O0 H xs zs w O) (hl:∀ k∈O,k < w.heap.size) (ns:List Value):Fn T w0 O0 H xs zs w.heap.size ns (w.alloc (.cells ns.toArray T)) O :=
 ⟨h.own (S:=[]) ((ab.refl _ _).alloc _) (by simp),Bx.new w T ns,by have:=h.z.lt;omega,fun hm=>by have:=hl _ hm;omega⟩
theorem Fn.fin {T:TypeId}{w0 w w':World}{O0 O:List Nat}{H:df}{xs zs ns:List Value}{b:Nat}{P:PH σ}{At:World→List Nat→σ→Nat→Prop}(hH:bH H P At) (h:Fn T w0 O0 H xs zs b ns w O) {s:σ}{m:Nat}(hA:At w O s m) (hk:ab [w0.heap.size+2] w w'):cg At w0 O0 s m w':=by
 have hz:w0.heap.size+2 ∉ O:=fun hm=>by
  rcases h.f.o _ hm with h1 | h1
  ·have:=h.f.o0 _ h1;omega
  ·omega
 refine ⟨O,hH.kept hA hk (by simpa using hz),h.f.k.trans hk (by simp),fun k hk=>?_⟩;rcases h.f.o k hk with h1 | h1
 ·exact .inl h1
 ·exact .inr (by omega)
theorem i4 (x:Ch):∀ v∈eh x,v.oneCell'=true:=by
 intro v hv;simp [eh] at hv
 rcases hv with rfl | rfl | rfl <;> rfl
theorem Fn.cells {T:TypeId}{w0 w:World}{O0 O:List Nat}{H:df}{xs zs ns:List Value}{b:Nat}(h:Fn T w0 O0 H xs zs b ns w O) (i j:Nat) {f v:Value}(hf:H.c[i]?=some f) (hv:xs[j]?=some v) :
 w.cell? ⟨w0.heap.size,i,none⟩=some f∧w.cell? ⟨w0.heap.size+1,j,none⟩=some v:=⟨h.f.h.cell i hf,h.f.x.cell j hv⟩
theorem qb {H:df}{P:PH σ}{At:World→List Nat→σ→Nat→Prop}(hH:bH H P At) (w:World) (O:List Nat) (s:σ) (m:Nat) (x:Ch) (hx:x.p.length≤140737488351232) (hA:At w O s (m+3)) :
 Calls Tryz.prog 153 #[H.a,chV x] w fun r w'=>r=.returned (chV (bz P s x).1)∧cg At w O (bz P s x).2 m w':=by
 have HH:Hid (bH H P At):=hH;have e2:=hH.e2;have e3:=hH.e3;have e4:=hH.e4
 have HF1:Hid (Fn 134 w O H (eh x) oP (w.heap.size+3) oP ((dZ w 134 H (eh x) oP).alloc (.cells oP.toArray 134)) O):=by
  have h:=(cu w 134 O H (eh x) oP (hH.lt hA)).named (by rw [gS];intro k hk;have:=hH.lt hA k hk;omega) oP;rw [gS] at h;exact h
 have HA:Hid (At ((dZ w 134 H (eh x) oP).alloc (.cells oP.toArray 134)) O s (m+3)):=hH.kept hA (T:=[]) (((((ab.refl _ _).alloc _).alloc _).alloc _).alloc _) (by simp);clear hA hH;cases hc:(P.flag (P.text s x.p).2 x.g).1
 ·have HQ:Hid (bz P s x=(⟨(P.text s x.p).1,false,(P.word (P.flag (P.text s x.p).2 x.g).2 x.d).1⟩,(P.word (P.flag (P.text s x.p).2 x.g).2 x.d).2)):=by show bz P s x=_;unfold bz;rw [hc];simp
  have HC:=aa hc;clear hc;unfold df.a chV;go_enter Tryz.func153,Tryz.ntmps153;(go_wp2_with fail);refine (HH.out.text _ O s (m+2) x.p HA.out hx).mono ?_;rintro _ w2 ⟨rfl,O2,A2,hk2,hn2⟩;have F2:=HF1.out.call hk2 hn2;have n0:w2.cell? ⟨w.heap.size+1+1+1,0,none⟩=some (.string ⟨#[]⟩):=F2.n.cell 0 rfl;have f0:w2.frozen? ⟨w.heap.size+1+1+1,0,none⟩=false:=F2.n.froz 0;obtain ⟨g3,x1⟩:=F2.cells 3 1 rfl rfl;have HF2:=aa (F2.set 0 (.string (ae (P.text s x.p).1)));have HA2:=aa (HH.out.kept A2 (aj w2 (w.heap.size+3) 0 (.string (ae (P.text s x.p).1))) (by simpa using F2.b0));clear F2 A2 hk2 hn2;(go_wp2_with fail);have cF:=HH.out.flag _ O2 _ (m+1) x.g HA2.out;rw [HC.out] at cF;refine cF.mono ?_;clear cF n0 f0 g3 x1;rintro _ w3 ⟨rfl,O3,A3,hk3,hn3⟩;have F3:=HF2.out.call hk3 hn3;have n1:w3.cell? ⟨w.heap.size+1+1+1,1,none⟩=some (.bool false):=F3.n.cell 1 rfl;have f1:w3.frozen? ⟨w.heap.size+1+1+1,1,none⟩=false:=F3.n.froz 1;obtain ⟨g4,x2⟩:=F3.cells 4 2 rfl rfl;have HF3:=aa (F3.set 1 (.bool false));have HA3:=aa (HH.out.kept A3 (aj w3 (w.heap.size+3) 1 (.bool false)) (by simpa using F3.b0));clear F3 A3 hk3 hn3;(go_wp2_with fail);refine (HH.out.word _ O3 _ m x.d HA3.out).mono ?_;clear n1 f1 g4 x2;rintro _ w4 ⟨rfl,O4,A4,hk4,hn4⟩;have F4:=HF3.out.call hk4 hn4;have n2:w4.cell? ⟨w.heap.size+1+1+1,2,none⟩=some (.int .u64 0):=F4.n.cell 2 rfl;have f2:w4.frozen? ⟨w.heap.size+1+1+1,2,none⟩=false:=F4.n.froz 2;have HF4:=aa (F4.set 2 (.int .u64 (P.word (P.flag (P.text s x.p).2 x.g).2 x.d).1));have HA4:=aa (HH.out.kept A4 (aj w4 (w.heap.size+3) 2 (.int .u64 (P.word (P.flag (P.text s x.p).2 x.g).2 x.d).1)) (by simpa using F4.b0));clear F4 A4 hk4 hn4;have HZ:Hid (Bx (w4.setCell ⟨w.heap.size+1+1+1,2,none⟩ (.int .u64 (P.word (P.flag (P.text s x.p).2 x.g).2 x.d).1)) (w.heap.size+1+1) 134 oP):=HF4.out.f.z;have HN:Hid (Bx (w4.setCell ⟨w.heap.size+1+1+1,2,none⟩ (.int .u64 (P.word (P.flag (P.text s x.p).2 x.g).2 x.d).1)) (w.heap.size+1+1+1) 134 (eh ⟨(P.text s x.p).1,false,(P.word (P.flag (P.text s x.p).2 x.g).2 x.d).1⟩)):=HF4.out.n;have HO:=aa (i4 ⟨(P.text s x.p).1,false,(P.word (P.flag (P.text s x.p).2 x.g).2 x.d).1⟩);have HT:Hid (aq Tryz.prog 134 (eh ⟨(P.text s x.p).1,false,(P.word (P.flag (P.text s x.p).2 x.g).2 x.d).1⟩).length):=gl;have HL:Hid ((eh ⟨(P.text s x.p).1,false,(P.word (P.flag (P.text s x.p).2 x.g).2 x.d).1⟩).length=oP.length):=rfl;(go_wp2_with (first | ((with_reducible refine ak HN.out HT.out ?_ ?_);rfl) | ((with_reducible refine ac HZ.out HL.out HO.out HT.out ?_ ?_ ?_);rfl;rfl;intro w9 HB9 HK9)));refine bodyPost_ret (al (by rfl) _ (by rfl) HB9.out HT.out) rfl ?_;exact ⟨by rw [HQ.out];rfl,by rw [HQ.out];exact HF4.out.fin HH.out HA4.out HK9.out⟩
 ·have HQ:Hid (bz P s x=(⟨(P.text s x.p).1,true,0⟩,(P.flag (P.text s x.p).2 x.g).2)):=by show bz P s x=_;unfold bz;rw [hc];simp
  have HC:=aa hc;clear hc;unfold df.a chV;go_enter Tryz.func153,Tryz.ntmps153;(go_wp2_with fail);refine (HH.out.text _ O s (m+2) x.p HA.out hx).mono ?_;rintro _ w2 ⟨rfl,O2,A2,hk2,hn2⟩;have F2:=HF1.out.call hk2 hn2;have n0:w2.cell? ⟨w.heap.size+1+1+1,0,none⟩=some (.string ⟨#[]⟩):=F2.n.cell 0 rfl;have f0:w2.frozen? ⟨w.heap.size+1+1+1,0,none⟩=false:=F2.n.froz 0;obtain ⟨g3,x1⟩:=F2.cells 3 1 rfl rfl;have HF2:=aa (F2.set 0 (.string (ae (P.text s x.p).1)));have HA2:=aa (HH.out.kept A2 (aj w2 (w.heap.size+3) 0 (.string (ae (P.text s x.p).1))) (by simpa using F2.b0));clear F2 A2 hk2 hn2;(go_wp2_with fail);have cF:=HH.out.flag _ O2 _ (m+1) x.g HA2.out;rw [HC.out] at cF;refine cF.mono ?_;clear cF n0 f0 g3 x1;rintro _ w3 ⟨rfl,O3,A3,hk3,hn3⟩;have F3:=HF2.out.call hk3 hn3;have n1:w3.cell? ⟨w.heap.size+1+1+1,1,none⟩=some (.bool false):=F3.n.cell 1 rfl;have f1:w3.frozen? ⟨w.heap.size+1+1+1,1,none⟩=false:=F3.n.froz 1;obtain ⟨g4,x2⟩:=F3.cells 4 2 rfl rfl;have HF3:=aa (F3.set 1 (.bool true));have HA3:=aa (HH.out.kept A3 (aj w3 (w.heap.size+3) 1 (.bool true)) (by simpa using F3.b0));clear F3 A3 hk3 hn3;replace HA3:=aa (HH.out.le HA3.out (Nat.le_succ m));have HZ:Hid (Bx (w3.setCell ⟨w.heap.size+1+1+1,1,none⟩ (.bool true)) (w.heap.size+1+1) 134 oP):=HF3.out.f.z;have HN:Hid (Bx (w3.setCell ⟨w.heap.size+1+1+1,1,none⟩ (.bool true)) (w.heap.size+1+1+1) 134 (eh ⟨(P.text s x.p).1,true,0⟩)):=HF3.out.n;have HO:=aa (i4 ⟨(P.text s x.p).1,true,0⟩);have HT:Hid (aq Tryz.prog 134 (eh ⟨(P.text s x.p).1,true,0⟩).length):=gl;have HL:Hid ((eh ⟨(P.text s x.p).1,true,0⟩).length=oP.length):=rfl;(go_wp2_with (first | ((with_reducible refine ak HN.out HT.out ?_ ?_);rfl) | ((with_reducible refine ac HZ.out HL.out HO.out HT.out ?_ ?_ ?_);rfl;rfl;intro w9 HB9 HK9)));refine bodyPost_ret (al (by rfl) _ (by rfl) HB9.out HT.out) rfl ?_;exact ⟨by rw [HQ.out];rfl,by rw [HQ.out];exact HF3.out.fin HH.out HA3.out HK9.out⟩
end Go.Proofs.YtakafmejllilnaaGreat
namespace Go.Proofs.YtakafmejllilnaaGreat
open Go.RowKit
theorem pP (z:Array Value) (n:Nat):(List.range (n*z.size)).map (fun i=>z[i % z.size]!)=(List.replicate n z.toList).flatten:=by
 induction n with
 | zero=>simp
 | succ n ih =>
   rw [Nat.succ_mul,List.range_add,List.map_append,ih,List.replicate_succ',List.flatten_append];congr 1
   simp only [List.map_map,List.flatten_cons,List.flatten_nil,List.append_nil];apply List.ext_getElem
   ·simp
   ·intro i h1 h2;simp at h1
    have e:(n*z.size+i) % z.size=i:=by rw [Nat.mul_comm,Nat.mul_add_mod,Nat.mod_eq_of_lt h1]
    simp [e,h1]
theorem lN (z:Array Value) (n:Nat):(madeCells z (n*z.size)).toList=(List.replicate n z.toList).flatten:=by
 rw [← pP];simp [madeCells]
theorem kZ {P:Program}(w:World) (dT sT ty elem:TypeId) (g dLen dCap:Nat) (mo:Option Addr) (sLen sCap k:Nat) (cur:Array Value) (t:TypeId) (cs:List Value)
 (hu:P.underlying dT=some (.slice elem)) (hs:(P.info? elem).map (·.size)=some k)
 (hg:w.heap[g]?=some (.cells cur t (0,0))) (hn:cs.length=Nat.min sLen dLen*k)
 (hsrc:∀ ad,mo=some ad→∀ j v,cs[j]?=some v→w.cell? (ad.add j)=some v) (hnil:mo=none→cs=[]) (hfit:cs.length≤cur.size) (h1:∀ v∈cs,v.oneCell'=true) :
 (Builtin.copy_ #[dT,sT] ty #[.slice (some ⟨g,0,none⟩) dLen dCap,.slice mo sLen sCap]).run P w =
   .ok (goInt (Nat.min sLen dLen)) (w.setRow g (cs++cur.toList.drop cs.length).toArray):=by
 have hst:=run_storeCells_at P g 0 t cs 0 cur w hg (by simpa using hfit) h1;cases hq:P.info? elem with
 | none=>simp [hq] at hs
 | some i =>
   have hi:i.size=k:=by simpa [hq] using hs
   cases mo with
   | none =>
     obtain rfl:=hnil rfl;have e:w.setRow g cur=w:=setRow_self w g cur t _ hg
     have hst0:(storeCells ⟨g,0,none⟩ [] 0).run P w=.ok () w:=by
      rw [hst];simp [e]
     simp [Builtin.copy_,run_underlying hu,Builtin.lenOf,Builtin.firstCells,sizeOf,typeInfo,hq,hst0,e]
   | some ad =>
     have hl:=run_loadCells_list (P:=P) w ad cs (hsrc ad rfl);rw [hn] at hl;simp [Builtin.copy_,run_underlying hu,Builtin.lenOf,Builtin.firstCells,sizeOf,typeInfo,hq,hi,hl,hst]
theorem jM {P:Program}{ops:Array Oper}{rest:List Oper}{a:Act}{w:World}{Q:Exit→Act→World→Prop}{dst:Option Tmp}{d s:Operand}{dT sT ty:TypeId}{ps:String}{af:Array Edge}
 {elem:TypeId}{g dLen dCap sLen sCap k:Nat}{mo:Option Addr}{Z cs:List Value}(hu:P.underlying dT=some (.slice elem)) (hk:(P.info? elem).map (·.size)=some k) (hB:Bx w g elem Z) (hn:cs.length=Nat.min sLen dLen*k)
 (hsrc:∀ ad,mo=some ad→∀ j v,cs[j]?=some v→w.cell? (ad.add j)=some v) (hnil:mo=none→cs=[]) (hfit:cs.length≤Z.length) (h1:∀ v∈cs,v.oneCell'=true)
 (hd:a.eval d=.slice (some ⟨g,0,none⟩) dLen dCap) (hs:a.eval s=.slice mo sLen sCap)
 (h:∀ w',Hid (Bx w' g elem (cs++Z.drop cs.length))→Hid (ab [g] w w')→wpList P ops Q rest (a.put dst (goInt (Nat.min sLen dLen))) w') :
 wpList P ops Q (⟨dst,.call { callee:=.builtin .copy,args:=#[d,s],argTypes:=#[dT,sT] },ty,ps,af,none⟩ :: rest) a w:=by
 refine wpList_plain rfl fun K hK=>?_;have hrun:=kZ (P:=P) w dT sT ty elem g dLen dCap mo sLen sCap k Z.toArray elem cs hu hk hB hn hsrc hnil (by simpa using hfit) h1;unfold Oper.wp;simp only [execOp,resolve,invoke,builtin,Sem.run_bind,Sem.run_pure,Result.andThen_ok,List.map_toArray,List.map_cons,List.map_nil,hd,hs,hrun];refine hK _ _ (h _ ?_ ⟨rfl,rfl,rfl,by simp [World.setRow],fun i _ hi=>setRow_other w g i _ (by simpa using hi)⟩);have:=setRow_heap w g Z.toArray (cs++Z.drop cs.length).toArray elem _ hB
 exact this
variable {α : Type}
theorem du (ce:α→List Value) (k:Nat) (hk:∀ x,(ce x).length=k) (L:List α):(L.flatMap ce).length=L.length*k:=by
 induction L with
 | nil=>simp
 | cons x L ih=>simp [ih,hk,Nat.succ_mul];omega
theorem iq (ce:α→List Value) (L:List α) (i:Nat) (h:i < L.length):L.flatMap ce=(L.take i).flatMap ce++ce L[i]++(L.drop (i+1)).flatMap ce:=by
 conv=>lhs;rw [← List.take_append_drop i L,List.drop_eq_getElem_cons h,List.flatMap_append,List.flatMap_cons]
 rw [List.append_assoc]
theorem qU (ce:α→List Value) (L:List α) (i:Nat) (h:i < L.length) (y:α):(L.set i y).flatMap ce=(L.take i).flatMap ce++ce y++(L.drop (i+1)).flatMap ce:=by
 rw [iq ce (L.set i y) i (by simpa using h)];rw [List.take_set,List.set_eq_of_length_le (by simp;omega)];simp [List.drop_set]
theorem Bx.elem {ce:α→List Value}{k:Nat}(hk:∀ x,(ce x).length=k) {w:World}{g:Nat}{T:TypeId}{L:List α}(h:Bx w g T (L.flatMap ce)) {i:Nat}(hi:i < L.length):w.rangeAt g (i*k) (ce L[i]):=fun j v hv=>by
 have hj:j < (ce L[i]).length:=(List.getElem?_eq_some_iff.1 hv).1;refine h.cell (i*k+j) ?_;rw [iq ce L i hi,List.append_assoc,List.getElem?_append_right (by rw [du ce k hk,List.length_take];rw [show min i L.length=i by omega];omega),List.getElem?_append_left (by rw [du ce k hk,List.length_take];rw [show min i L.length=i by omega];omega)];rw [← hv];congr 1
 rw [du ce k hk,List.length_take];have:min i L.length=i:=by omega
 rw [this];omega
theorem Bx.put {ce:α→List Value}{k:Nat}(hk:∀ x,(ce x).length=k) {w:World}{g:Nat}{T:TypeId}{L:List α}(h:Bx w g T (L.flatMap ce)) {i:Nat}(hi:i < L.length) (y:α):Bx (w.setCells g (i*k) (ce y)) g T ((L.set i y).flatMap ce):=by
 have h1:=eP g (ce y) ((L.take i).flatMap ce) (ce L[i]) ((L.drop (i+1)).flatMap ce) w T (by rw [← iq ce L i hi];exact h) (by rw [hk,hk]);rw [← qU ce L i hi y,du ce k hk,List.length_take] at h1;have:min i L.length=i:=by omega
 rw [this] at h1;exact h1
theorem gb {P:Program}{ops:Array Oper}{rest:List Oper}{a:Act}{w:World}{Q:Exit→Act→World→Prop}{d:Option Tmp}{x:Operand}{T ty:TypeId}{ps:String}{af:Array Edge}
 {b o:Nat}{cs:List Value}(hc:w.rangeAt b o cs) (hT:aq P T cs.length) (hx:a.eval x=.pointer (some ⟨b,o,none⟩))
 (h:wpList P ops Q rest (a.put d (.agg cs.toArray)) w):wpList P ops Q (⟨d,.load T x,ty,ps,af,none⟩ :: rest) a w:=by
 obtain ⟨D,hu,hd,hi⟩:=hT;exact wpList_load_mid rfl _ x rfl b o hx cs D hc hu hd hi h
theorem jK {P:Program}{ops:Array Oper}{rest:List Oper}{a:Act}{w:World}{Q:Exit→Act→World→Prop}{d:Option Tmp}{x y:Operand}{T ty:TypeId}{ps:String}{af:Array Edge}
 {ce:α→List Value}{k:Nat}(hk:∀ x,(ce x).length=k) {g:Nat}{L:List α}(hB:Bx w g T (L.flatMap ce)) {i:Nat}(hi:i < L.length) {y':α}(h1:∀ v∈ce y',v.oneCell'=true) (hT:aq P T (ce y').length)
 (hx:a.eval x=.pointer (some ⟨g,i*k,none⟩)) (hy:a.eval y=.agg (ce y').toArray) (h:∀ w',Hid (Bx w' g T ((L.set i y').flatMap ce))→Hid (ab [g] w w')→wpList P ops Q rest (a.put d undef) w'):wpList P ops Q (⟨d,.store T x y,ty,ps,af,none⟩ :: rest) a w:=by
 obtain ⟨D,hu,hd,hz⟩:=hT;refine wpList_store_mid rfl _ x y rfl g (i*k) (ce y').toArray hx hy (fun j hj=>?_) (by rw [List.size_toArray];exact hz) (all_oneCell_toArray h1) (h _ (hB.put hk hi y') (dm (by simp) _ _ (ab.refl _ _)));rw [List.size_toArray,hk] at hj;have hr:=hB.elem hk hi;exact ⟨hr.isSome j (by rw [hk];exact hj),hB.froz _⟩
theorem mZ (ce:α→List Value) (k:Nat) (hk:∀ x,(ce x).length=k) (L:List α) (z:α) (n:Nat) :
 (L.take n).flatMap ce++((List.replicate n (ce z)).flatten).drop ((L.take n).flatMap ce).length=(eN L z n).flatMap ce:=by
 have e:(List.replicate n (ce z)).flatten=(List.replicate n z).flatMap ce:=by simp [List.flatMap]
 unfold eN;rw [List.flatMap_append,e,du ce k hk];congr 1
 have h2:List.replicate n z=List.replicate (L.take n).length z++List.replicate (n - L.length) z:=by
  rw [List.replicate_append_replicate];congr 1;simp;omega
 rw [h2,List.flatMap_append,List.drop_append_of_le_length (by rw [du ce k hk];simp)];rw [List.drop_eq_nil_of_le (by rw [du ce k hk];simp),List.nil_append]
end Go.Proofs.YtakafmejllilnaaGreat
namespace Go.Proofs.YtakafmejllilnaaGreat
open Go.RowKit
variable {σ : Type}
def wO (At:World→List Nat→σ→Nat→Prop) (w:World) (O:List Nat) (s:σ) (m:Nat) (L:List Ch) (r:Ending) (w':World):Prop :=
 ∃ v,r=.returned v∧aL w.heap.size w' v L∧∃ O',At w' O' s m∧ab O w w'∧(∀ k∈O',k∈O∨w.heap.size≤k)∧∀ k,v.ownBlock=some k→k ∉ O'
theorem jX (x:Ch):(eh x).length=3:=rfl
theorem wb {w:World}{g B:Nat}{L:List Ch}(h:Bx w g 134 (L.flatMap eh)) (hB:B≤g) (hm:L.length≤maxLen):aL B w (.slice (some ⟨g,0,none⟩) L.length L.length) L :=
 ⟨dP L,.inr ⟨g,L.length,_,rfl,hB,h,Nat.le_refl _,hm,by rw [List.size_toArray,dP],by show ((L.flatMap eh).toArray.toList).take (L.length*3)=_;rw [← dP L,List.toList_toArray,List.take_length]⟩⟩
def xB (At:World→List Nat→σ→Nat→Prop) (one:σ→Ch→Ch × σ) (w:World) (O:List Nat) (s:σ) (m g:Nat) (L:List Ch) (iv:Value) (wr:World):Prop :=
 ∃ (i:Nat) (O':List Nat),iv=.int .i64 (i:Int)∧i≤L.length∧Hid (Bx wr g 134 (((cf one s (L.take i)).1++L.drop i).flatMap eh))∧Hid (At wr O' (cf one s (L.take i)).2 (m+(L.length - i)*3)) ∧
  Hid (ab O w wr)∧Hid (∀ k∈O',k∈O∨w.heap.size≤k)∧Hid (g ∉ O')∧Hid (w.heap.size≤g)
theorem vX {L:List Ch}(one:σ→Ch→Ch × σ) (s:σ) {i:Nat}(hi:i < L.length):∃ h:i < ((cf one s (L.take i)).1++L.drop i).length,((cf one s (L.take i)).1++L.drop i)[i]=L[i]:=by
 have hl:(cf one s (L.take i)).1.length=i:=by rw [ex];simp;omega
 refine ⟨by simp [hl];omega,?_⟩;rw [List.getElem_append_right (by omega)];simp [hl]
theorem tF {L:List Ch}(one:σ→Ch→Ch × σ) (s:σ) {i:Nat}(hi:i < L.length) :
 ((cf one s (L.take i)).1++L.drop i).set i (one (cf one s (L.take i)).2 L[i]).1=(cf one s (L.take (i+1))).1++L.drop (i+1)∧(one (cf one s (L.take i)).2 L[i]).2=(cf one s (L.take (i+1))).2:=by
 have hl:(cf one s (L.take i)).1.length=i:=by rw [ex];simp;omega
 rw [List.take_succ_eq_append_getElem hi,jo];refine ⟨?_,rfl⟩;rw [List.set_append_right i _ (by omega),hl,Nat.sub_self,List.drop_eq_getElem_cons hi,List.set_cons_zero];simp
theorem pr {w:World}{B e k g n:Nat}{xs:List Value}(h:w.ownsRow B e k (.slice (some ⟨g,0,none⟩) n n) n xs):Bx w g e xs:=by
 obtain ⟨h1,h2⟩:=h;rcases h2 with ⟨h2,_⟩ | ⟨g',cap,cur,hv,_,hh,_,_,h5,h6⟩
 ·cases h2
 ·cases hv
  unfold Bx;rw [hh];congr 2
  apply Array.ext'
  rw [List.toList_toArray,← h6,List.take_of_length_le (by simp [h5])]
theorem dz.kept0 {S:List Nat}{a w:World}{ao:Option Addr}{n c:Nat}{L:List Ch}(h:dz a ao n c L) (k:ab S a w) (hb:0 < n→∀ g∈bO ao,g ∉ S):dz w ao n c L:=by
 have hn:=h.1;exact ⟨h.1,h.2.1,h.2.2.1,fun i hi=>by obtain ⟨b,o,e,h1⟩:=h.2.2.2 i hi;exact ⟨b,o,e,h1.kept k (hb (by omega) b (by rw [e];simp [bO]))⟩⟩
theorem pS (L:List Ch):∀ v∈L.flatMap eh,v.oneCell'=true:=by
 intro v hv;obtain ⟨x,_,hx⟩:=List.mem_flatMap.1 hv;exact i4 x v hx
theorem rj:(Tryz.prog.info? 134).map (·.size)=some 3:=by kernel_rfl
set_option maxRecDepth 100000 in
theorem ku {H:df}{P:PH σ}{At:World→List Nat→σ→Nat→Prop}(hH:bH H P At) (w:World) (O:List Nat) (s:σ) (m:Nat) (mo:Option Addr) (n c:Nat) (L:List Ch) (hS:dz w mo n c L) (hno:mo=none→c=0) (hd:0 < n→∀ k∈bO mo,k ∉ O) (hx:∀ x∈L,x.p.length≤140737488351232) (hA:At w O s (m+193)) :
 Calls Tryz.prog 152 #[H.a,.slice mo n c,.int .i64 64,.func (.func 153) #[H.a] #[]] w (wO At w O (aP P (bz P) fd s L 64).2 m (aP P (bz P) fd s L 64).1):=by
 have hn:=hS.1;subst hn;have hc:=hS.2.1;have hcm:=hS.2.2.1;unfold maxLen at hcm;have HH:Hid (bH H P At):=hH;have e1:=hH.e1;have hO:=hH.lt hA;have k1:ab O w (w.alloc (.cells H.c.toArray 168)):=(ab.refl _ _).alloc _;have HK1:=aa k1;have hA1:At (w.alloc (.cells H.c.toArray 168)) O s (m+193):=hH.kept hA (T:=[]) ((ab.refl _ _).alloc _) (by simp);have hS1:dz (w.alloc (.cells H.c.toArray 168)) mo L.length c L:=hS.kept (S:=[]) ((ab.refl _ _).alloc _) (by simp);obtain ⟨hb0,hb1⟩:=hH.bd (L.length:Int) 64 hA (by omega) (by omega);have HA1:=aa hA1;have HS1:=aa hS1;have HD:=aa hd;have HX:=aa hx;have HNO:=aa hno;have HO:=aa hO;clear hA hA1 hS hS1 hd hH hx k1 hno hO;unfold df.a;by_cases h0:(P.upTo s (L.length:Int) 64).1=0
 ·have HQ:Hid (aP P (bz P) fd s L 64=([],(P.upTo s (L.length:Int) 64).2)):=by
   show aP P (bz P) fd s L 64=_;unfold aP;rw [h0];simp [eN,cf]
  have H0:=aa h0;clear h0 hb0 hb1;go_enter Tryz.func152,Tryz.ntmps152;(go_wp2_with fail);have cU:=HH.out.upTo _ O s (m+192) (L.length:Int) 64 HA1.out;rw [H0.out] at cU;refine cU.mono ?_;clear cU;rintro _ w2 ⟨rfl,O2,A2,hk2,hn2⟩;have HA2:=aa A2;have HK2:=aa hk2;have HN2:=aa hn2;clear A2 hk2 hn2;(go_wp2_with fail);go_ret
  rw [HQ.out];refine ⟨_,rfl,aL.nil _ _,O2,HH.out.le HA2.out (by omega),HK1.out.trans HK2.out (fun i hi=>.inl hi),fun k hk=>?_,fun k hk=>by cases hk⟩;rcases HN2.out k hk with h | h
  ·exact .inl h
  ·exact .inr (Nat.le_trans HK1.out.size h)
 ·obtain ⟨N,hN⟩:∃ N:Nat,(P.upTo s (L.length:Int) 64).1=(N:Int):=⟨(P.upTo s (L.length:Int) 64).1.toNat,by omega⟩;have hN1:0 < N:=by omega
  have hN2:N≤64:=by omega
  have hne:((N:Int)==0)=false:=by simp;omega
  have HQ:Hid (aP P (bz P) fd s L 64=cf (bz P) (P.upTo s (L.length:Int) 64).2 (eN L fd N)):=by
   show aP P (bz P) fd s L 64=_;unfold aP;rw [hN,Int.toNat_natCast]
  have HN:=aa hN;clear h0 hb0 hb1 hN;go_enter Tryz.func152,Tryz.ntmps152;(go_wp2_with fail);have cU:=HH.out.upTo _ O s (m+192) (L.length:Int) 64 HA1.out;rw [HN.out] at cU;refine cU.mono ?_;clear cU;rintro _ w2 ⟨rfl,O2,A2,hk2,hn2⟩;obtain ⟨i0,hi,hz0,hz1,hz2⟩:=info_parts jA;obtain ⟨w3,hmk,hO3,hg3⟩:=run_makeSlice_full (P:=Tryz.prog) w2 w2.heap.size 27 134 i0 (.agg #[.string ⟨#[]⟩,.bool false,.int .u64 0]) 3 Tryz.underlying27 hi hz0 hz1 .i64 .i64 N (by omega) (by rw [hz2];omega) (by unfold maxLen;omega) (Nat.le_refl _);have k23:ab [] w2 w3:=(ab.refl [] w2).grown hg3 (fun k hk=>by cases hk);have hg2:w2.heap.size ∉ O2:=fun hm=>by have:=HH.out.lt A2 _ hm;omega
  have hB3:Bx w3 w2.heap.size 134 ((List.replicate N (eh fd)).flatten):=by
   have h:=pr hO3;rw [show (madeCells (Value.agg #[.string ⟨#[]⟩,.bool false,.int .u64 0]).cells (N*3)).toList=(List.replicate N (eh fd)).flatten from lN #[.string ⟨#[]⟩,.bool false,.int .u64 0] N] at h;exact h
  have hS3:dz w3 mo L.length c L:=(HS1.out.kept0 hk2 (fun h=>HD.out h)).kept0 k23 (by simp)
  have hsrc:∀ ad,mo=some ad→∀ j v,((L.take N).flatMap eh)[j]?=some v→w3.cell? (ad.add j)=some v:=by
   intro ad e j v hv;subst e;refine hS3.runs' j v ?_;rw [← List.take_append_drop N L,List.flatMap_append,List.getElem?_append_left (List.getElem?_eq_some_iff.1 hv).1];exact hv
  have hnil:mo=none→(L.take N).flatMap eh=[]:=fun e=>by
   have:=HNO.out e
   have:L=[]:=List.eq_nil_of_length_eq_zero (by omega)
   subst this;simp
  have hcs:((L.take N).flatMap eh).length=Nat.min L.length N*3:=by rw [dP,List.length_take,Nat.min_comm]
  have hfit:((L.take N).flatMap eh).length≤((List.replicate N (eh fd)).flatten).length:=by
   rw [dP,List.length_take];simp [jX];omega
  have HU:Hid (Tryz.prog.underlying 27=some (.slice 134)):=Tryz.underlying27;have HI:=aa rj;have HB3:=aa hB3;have HSR:=aa hsrc;have HNI:=aa hnil;have HCS:=aa hcs;have HFI:=aa hfit;have HON:=aa (pS (L.take N));have HA2:=aa A2;have HK2:=aa (HK1.out.trans hk2 (fun i hi=>.inl hi));have HK23:=aa k23
  have HN2:Hid (∀ k∈O2,k∈O∨w.heap.size≤k):=fun k hk=>by
   rcases hn2 k hk with h | h
   ·exact .inl h
   ·exact .inr (Nat.le_trans HK1.out.size h)
  have HG2:=aa hg2;have hw2:=HK2.out.size;clear hB3 hsrc hnil hcs hfit A2 hk2 hn2 k23 hg2 hO3 hg3 hS3 hi hz0 hz1 hz2;have CP:=aa (fun ops rest a Q dst d s' ty ps af=>jM (P:=Tryz.prog) (ops:=ops) (rest:=rest) (a:=a) (Q:=Q) (dst:=dst) (d:=d) (s:=s') (sT:=27) (ty:=ty) (ps:=ps) (af:=af) (dCap:=N) (sCap:=c) HU.out HI.out HB3.out HCS.out HSR.out HNI.out HFI.out HON.out);go_wp2_with ((with_reducible refine CP.out _ _ _ _ _ _ _ _ _ _ ?_ ?_ ?_);rfl;rfl;intro w4 HB4 HK4)
  have hB4:Bx w4 w2.heap.size 134 ((eN L fd N).flatMap eh):=by
   have h:=HB4.out;rw [mZ eh 3 jX] at h;exact h
  have hX:∀ x∈eN L fd N,x.p.length≤140737488351232:=fun x hx=>by
   rcases List.mem_append.1 hx with h | h
   ·exact HX.out x (List.mem_of_mem_take h)
   ·rw [(List.mem_replicate.1 h).2];simp [fd]
  obtain ⟨M,hM⟩:∃ M,M=eN L fd N:=⟨_,rfl⟩;rw [← hM] at hB4 hX;have hML:M.length=N:=by rw [hM,jE]
  have HM:=aa hM;have HML:=aa hML;have HXM:=aa hX
  have hst:xB At (bz P) w O (P.upTo s (L.length:Int) 64).2 m w2.heap.size M (.int .i64 0) w4 :=
   ⟨0,O2,rfl,Nat.zero_le _,by show Bx _ _ _ _;simpa [cf] using hB4,HH.out.kept (HH.out.kept (HH.out.le HA2.out (by omega)) HK23.out (by simp)) HK4.out (by simpa using HG2.out),(HK2.out.trans HK23.out (by simp)).trans HK4.out (by simp;omega),HN2.out,HG2.out,hw2⟩
  have HST:=aa hst;clear hB4 hX hM hML hst HB4 HB3 HSR HNI HCS HFI HON CP;go_loopw [28] (fun iv wr=>xB At (bz P) w O (P.upTo s (L.length:Int) 64).2 m w2.heap.size M iv wr) (fun iv _=>N - (intOf iv).toNat)
  case atStart=>exact HST.out
  case round =>
   obtain ⟨i,Oi,rfl,hi,HBi,HAi,HKi,HNi,HGi,HWi⟩:=hrel;rw [HML.out] at hi;by_cases hlt:i < N
   ·have hlt':(i:Int) < (N:Int):=by omega
    have hiM:i < M.length:=by rw [HML.out];exact hlt
    obtain ⟨hir,her⟩:=vX (bz P) (P.upTo s (L.length:Int) 64).2 hiM;have hel:=HBi.out.elem jX hir;rw [her] at hel;have HEL:=aa hel;have HT:Hid (aq Tryz.prog 134 (eh M[i]).length):=gl;have hdec:decide ((i:Int) < (N:Int))=true:=by simp;omega
    have HKa:Hid (ab [] wr (wr.alloc (.cells #[.string ⟨#[]⟩,.bool false,.int .u64 0] 134))):=(ab.refl _ _).alloc _;have HBa:Hid (Bx (wr.alloc (.cells #[.string ⟨#[]⟩,.bool false,.int .u64 0] 134)) wr.heap.size 134 (eh fd)):=Bx.new wr _ (eh fd);have HLa:Hid ((eh M[i]).length=(eh fd).length):=rfl;have HOa:=aa (i4 M[i]);have hgw:w2.heap.size < wr.heap.size:=HBi.out.lt;go_upto_region 9 with (first | ((with_reducible refine gb HEL.out HT.out ?_ ?_);rfl) | ((with_reducible refine ac HBa.out HLa.out HOa.out HT.out ?_ ?_ ?_);rfl;rfl;intro w5 HB5 HK5))
    have hlOi:=HH.out.lt HAi.out;have hwO:wr.heap.size ∉ Oi:=fun hm=>by have:=hlOi _ hm;omega
    have k5:ab [wr.heap.size] wr w5:=(HKa.out.mono (by simp)).trans HK5.out (by simp);have hA5:At w5 Oi (cf (bz P) (P.upTo s (L.length:Int) 64).2 (M.take i)).2 (m+(M.length - (i+1))*3+3):=HH.out.le (HH.out.kept HAi.out k5 (by simpa using hwO)) (by omega);have hB5:Bx w5 w2.heap.size 134 (((cf (bz P) (P.upTo s (L.length:Int) 64).2 (M.take i)).1++M.drop i).flatMap eh):=HBi.out.kept k5 (by simp;omega);have cC:=qb HH.out w5 Oi _ _ M[i] (HXM.out _ (List.getElem_mem hiM)) hA5;have HB5':=aa hB5;have HIR:=aa hir;have k50:ab O w w5:=HKi.out.trans k5 (by simp;omega);have HK50:=aa k50;have h5s:=k5.size;clear hA5 hB5 hel her hir k5 hwO hlOi HEL HBi HAi k50;unfold df.a chV at cC;(go_wp2_with (first | ((with_reducible refine ak HB5.out HT.out ?_ ?_);rfl)));refine cC.mono ?_;clear cC;rintro _ w6 ⟨rfl,O6,A6,hk6,hn6⟩;have hB6:=aa (HB5'.out.kept hk6 HGi.out);have HO6:=aa (i4 (bz P (cf (bz P) (P.upTo s (L.length:Int) 64).2 (M.take i)).2 M[i]).1);have HT6:Hid (aq Tryz.prog 134 (eh (bz P (cf (bz P) (P.upTo s (L.length:Int) 64).2 (M.take i)).2 M[i]).1).length):=gl;have HA6:=aa A6;have HK6:=aa hk6;have HN6:=aa hn6;clear A6 hk6 hn6;have SE:=aa (fun ops rest a Q d x y ty ps af=>jK (P:=Tryz.prog) (ops:=ops) (rest:=rest) (a:=a) (Q:=Q) (d:=d) (x:=x) (y:=y) (ty:=ty) (ps:=ps) (af:=af) jX hB6.out HIR.out HO6.out HT6.out);(go_wp2_with ((with_reducible refine SE.out _ _ _ _ _ _ _ _ _ _ ?_ ?_ ?_);rfl;rfl;intro w7 HB7 HK7));obtain ⟨nx1,nx2⟩:=tF (bz P) (P.upTo s (L.length:Int) 64).2 hiM
    have hg6:w2.heap.size ∉ O6:=fun hm=>by
     rcases HN6.out _ hm with h | h
     ·exact HGi.out h
     ·have:=HB5'.out.lt;omega
    have hB7:=HB7.out;rw [nx1] at hB7;have hA7:=HH.out.kept HA6.out HK7.out (by simpa using hg6);rw [nx2] at hA7
    have hres:xB At (bz P) w O (P.upTo s (L.length:Int) 64).2 m w2.heap.size M (.int .i64 ((i+1:Nat):Int)) w7 :=
     ⟨i+1,O6,rfl,by omega,hB7,hA7,(HK50.out.trans HK6.out (fun k hk=>HNi.out k hk)).trans HK7.out (by simp;have:=HWi.out;omega),fun k hk=>by
      rcases HN6.out k hk with h | h
      ·exact HNi.out k h
      ·exact .inr (Nat.le_trans HK50.out.size h),hg6,HWi.out⟩
    go_roundw
    case rel=>exact hres
    case measure=>simp [intOf];omega
   ·have hdec:decide ((i:Int) < (N:Int))=false:=by simp;omega
    have hiN:i=N:=by omega
    subst hiN;(go_wp2_with fail);go_ret
    rw [HQ.out];have hB:=HBi.out;have hA:=HAi.out;rw [← HML.out,List.take_length,List.drop_length,List.append_nil] at hB;rw [← HML.out,List.take_length] at hA;rw [← HM.out];have hlen:(cf (bz P) (P.upTo s (L.length:Int) 64).2 M).1.length=i:=by rw [ex];exact HML.out
    have hown:=wb hB HWi.out (by rw [hlen];unfold maxLen;omega);rw [hlen] at hown;exact ⟨_,rfl,hown,Oi,HH.out.le hA (by omega),HKi.out,HNi.out,fun k hk=>by cases hk;exact HGi.out⟩
end Go.Proofs.YtakafmejllilnaaGreat
namespace Go.Proofs.YtakafmejllilnaaGreat
open Go.RowKit
variable {σ : Type}
def a4 (x:Rq) (v:Value):List Value:=[.int .i64 x.k,.string (ae x.n),.int .i64 x.s,.int .i64 x.q,.int .i64 x.b,.string (ae x.f),v,.string (ae x.p),.int .i64 x.fr,.int .i64 x.mn,.int .i64 x.mb]
def aJ:List Value:=[.int .i64 0,.string ⟨#[]⟩,.int .i64 0,.int .i64 0,.int .i64 0,.string ⟨#[]⟩,.slice none 0 0,.string ⟨#[]⟩,.int .i64 0,.int .i64 0,.int .i64 0]
theorem bv (x:Rq) (v:Value) (hv:v.oneCell'=true):∀ u∈a4 x v,u.oneCell'=true:=by
 intro u hu;simp [a4] at hu
 rcases hu with rfl | rfl | rfl | rfl | rfl | rfl | rfl | rfl | rfl | rfl | rfl
 all_goals first | rfl | exact hv
def gf (At:World→List Nat→σ→Nat→Prop) (w:World) (O:List Nat) (s:σ) (m:Nat) (x:Rq) (r:Ending) (w':World):Prop :=
 ∃ v,r=.returned (.agg (a4 x v).toArray)∧aL w.heap.size w' v x.c∧∃ O',At w' O' s m∧ab O w w'∧(∀ k∈O',k∈O∨w.heap.size≤k)∧∀ k,v.ownBlock=some k→k ∉ O'
theorem dC {B:Nat}{w:World}{v:Value}{L:List Ch}(h:aL B w v L):∃ ao n c,v=.slice ao n c:=by
 obtain ⟨ao,c,e,_⟩:=h.sl;exact ⟨ao,_,c,e⟩
theorem pa {T:TypeId}{w w':World}{O O':List Nat}{H:df}{xs zs:List Value}{mo:Option Addr}{n c:Nat}{L:List Ch}(h:dz w mo n c L) (hd:0 < n→∀ k∈bO mo,k ∉ O) (hF:Fl T w O H xs zs w' O'):0 < n→∀ k∈bO mo,k ∉ O':=by
 intro hn k hk hm;obtain ⟨b,o,rfl,hc⟩:=h.some hn;simp [bO] at hk
 subst hk
 have hlt:k < w.heap.size:=by
  have h0:=(hc 0 (by rw [h.1];exact hn)).c0;unfold World.cell? at h0;by_cases hlt:k < w.heap.size
  ·exact hlt
  ·rw [show w.heap[(⟨k,o+0*3,none⟩:Addr).block]?=none from Array.getElem?_eq_none (by show w.heap.size≤k;omega)] at h0;simp at h0
 rcases hF.o k hm with h1 | h1
 ·exact hd hn k (by simp [bO]) h1
 ·omega
theorem Fn.stored {T:TypeId}{w0 w w':World}{O0 O:List Nat}{H:df}{xs zs ns ns':List Value}{b:Nat}(h:Fn T w0 O0 H xs zs b ns w O) (hk:ab [b] w w') (hb:Bx w' b T ns'):Fn T w0 O0 H xs zs b ns' w' O :=
 ⟨h.f.own hk (by simpa using h.b3),hb,h.b3,h.b0⟩
theorem pd {w w':World}{B b j:Nat}{v u:Value}{L:List Ch}(h:aL B w v L) (hb:b < B) (hk:ab [] w w'):aL b.succ (w'.setCell ⟨b,j,none⟩ u) v L:=by
 have h1:aL B (w'.setCell ⟨b,j,none⟩ u) v L:=(show ab [b] w _ from (hk.mono (by simp)).trans (aj w' b j u) (by simp)).ownsRow h (fun k hk' hm=>by
  have:=(World.ownsRow.lt h k hk').1
  simp at hm;omega)
 exact h1.mono (by omega)
structure dS (O:List Nat) (w:World) (x:Rm):Prop where
 s:dz w x.mo x.m x.mc x.r.c
 no:x.mo=none→x.mc=0
 d:0 < x.m→∀ k∈bO x.mo,k ∉ O
 n:x.r.n.length≤140737488351232
 f:x.r.f.length≤140737488351232
 p:x.r.p.length≤140737488351232
 c:∀ y∈x.r.c,y.p.length≤140737488351232
theorem gp {w w1 w':World}{O O1:List Nat}{H:df}{xs zs ns:List Value}{b:Nat}{P:PH σ}{At:World→List Nat→σ→Nat→Prop}(hH:bH H P At) (h:Fn 29 w O H xs zs b ns w1 O1) {s:σ}{m:Nat}(hA:At w1 O1 s m) (hk:ab [w.heap.size+2] w1 w')
 (x:Rq) (v:Value) {B:Nat}{e:Ending}(he:e=.returned (.agg (a4 x v).toArray)) (hO:aL B w1 v x.c) (hB:w.heap.size+3≤B) (hv:∀ k,v.ownBlock=some k→k ∉ O1):gf At w O s m x e w':=by
 have hz:w.heap.size+2 ∉ O1:=fun hm=>by
  rcases h.f.o _ hm with h1 | h1
  ·have:=h.f.o0 _ h1;omega
  ·omega
 refine ⟨v,he,?_,O1,hH.kept hA hk (by simpa using hz),h.f.k.trans hk (by simp),fun k hk=>?_,hv⟩
 ·have h1:aL B w' v x.c:=hk.ownsRow hO (fun k hk' hm=>by
   have:=(World.ownsRow.lt hO k hk').1
   simp at hm;omega)
  exact h1.mono (by omega)
 ·rcases h.f.o k hk with h1 | h1
  ·exact .inl h1
  ·exact .inr (by omega)
end Go.Proofs.YtakafmejllilnaaGreat
