/-
  Texts laid as one.
-/
import Derived.Test.YtgpnlidnbldiiaaGreatW0r
import Derived.Test.YtgpnlidnbldiiaaGreatQ18r
import Derived.Test.YtgpnlidnbldiiaaGreatQ17r
import Derived.Test.YtgpnlidnbldiiaaGreatQ11r
import Derived.Test.YtgpnlidnbldiiaaGreatQ14r
set_option maxHeartbeats 8000000
set_option maxRecDepth 100000
/-
 New;what a machine tells.
-/
namespace Go.Proofs.YtgpnlidnbldiiaaGreat
open Go.RowKit
def Dd (D:List Nat) (l:List Int) (al sz:Int) (w:World) (e:Ending) (w':World):Prop :=
 ((ea l∧1≤al∧al≤8∧1≤sz∧sz≤16)∧∃ (b:Nat) (p:Pl) (F:List Nat),e=.returned (.tuple #[.pointer (some ⟨b,0,none⟩),.int .i64 0])∧ay w w' F D b p al sz.toNat (jj l)) ∨
 (¬ (ea l∧1≤al∧al≤8∧1≤sz∧sz≤16)∧e=.returned (.tuple #[.pointer none,.int .i64 1])∧aa [] w w')
theorem wX {w w1 w3:World}{D:List Nat}(hD:∀ k∈D,k < w.heap.size) {l:List Int}(hl:ea l) {al:Int}(h0:1≤al) (h1:al≤8) {sz:Nat}(hs0:1≤sz) (hs1:sz≤16) {pe pg:Nat}{S:List Nat}(hK1:aa [] w w1) (hE:g9 w.heap.size w1 pe al [⟨0,l⟩]) (hG:qu w3 pg S ba) (hK3:aa [] (w1.alloc (.cells #[.int .i64 (sz:Int),.slice none 0 0] 126)) w3) (hS:∀ k∈S,w1.heap.size+1≤k) :
 ay w (w3.alloc (.cells #[.int .i64 al,.int .i64 (sz:Int),.int .i64 0,.pointer (some ⟨pe,0,none⟩),.pointer (some ⟨w1.heap.size,0,none⟩),.pointer (some ⟨pg,0,none⟩)] 70)) (dD w3.heap.size w1.heap.size S (.slice none 0 0)) D w3.heap.size ⟨pe,w1.heap.size,pg⟩ al sz (jj l):=by
 have hKa:aa [] w1 (w1.alloc (.cells #[.int .i64 (sz:Int),.slice none 0 0] 126)):=(aa.refl _ _).alloc _;have hKb:aa [] w3 (w3.alloc (.cells #[.int .i64 al,.int .i64 (sz:Int),.int .i64 0,.pointer (some ⟨pe,0,none⟩),.pointer (some ⟨w1.heap.size,0,none⟩),.pointer (some ⟨pg,0,none⟩)] 70)):=(aa.refl _ _).alloc _;have hz1:=hK1.size;have hz3:=hK3.size;rw [World.size_alloc] at hz3;refine ⟨S,.slice none 0 0,[],⟨heap_alloc_new w3 _,hG.kept hKb,((fJ.new w1 sz hs0).kept hK3).kept hKb,((hE.kept hKa).kept hK3).kept hKb⟩,rfl,((hK1.trans hKa (by simp)).trans hK3 (by simp)).trans hKb (by simp),fun k hk=>?_,fun k hk=>?_,?_⟩
 ·rcases List.mem_cons.1 hk with rfl | hk
  ·omega
  ·rcases List.mem_cons.1 hk with rfl | hk
   ·exact hz1
   ·have:=hS k hk;omega
 ·have:=hD k hk
  rw [World.size_alloc];omega
 ·exact ⟨Int.le_refl _,by show (0:Int)≤_;omega,.void,Nat.zero_le _,fun x hx=>by simp [jj] at hx,qt hl,hs1,h0,h1⟩
theorem vH (w:World) (D:List Nat) (hD:∀ k∈D,k < w.heap.size) (ao:Option Addr) (n c:Nat) (l:List Int) (hS:mW w ao n c l) (al sz:Int) :
 Calls Tryz.prog 8 #[.slice ao n c,.int .i64 al,.int .i64 sz] w fun e w'=>Dd D l al sz w e w':=by
 have cE:=xx w ao n c l hS al;have HD:=ah hD;clear hS hD;go_enter Tryz.func8,Tryz.ntmps8;go_wp2_with fail
 refine cE.mono ?_;rintro _ w1 (⟨⟨hl,h0,h1⟩,pe,rfl,hE,hK1⟩ | ⟨hn,rfl,hK1⟩)
 ·have cT:=kX w1 sz;have HE:=ah hE;have HK1:=ah hK1;clear hE hK1 cE;(go_wp2_with fail);refine cT.mono ?_;rintro _ w2 (⟨hs0,hs1,rfl,rfl⟩ | ⟨hn,rfl,rfl⟩)
  ·have cG:=fun W=>ot W;obtain ⟨zn,rfl⟩:∃ zn:Nat,sz=zn:=⟨sz.toNat,by omega⟩;clear cT;(go_wp2_with fail);refine (cG _).mono ?_;rintro _ w3 ⟨pg,S,rfl,hG,hK3,hS⟩;rw [World.size_alloc] at hS;have HLv:=ah (wX HD.out hl h0 h1 (by omega) (by omega) HK1.out HE.out hG hK3 hS);clear hG hK3 hS cG;(go_wp2_with fail);go_ret2
   exact .inl ⟨⟨hl,h0,h1,hs0,hs1⟩,_,_,_,rfl,HLv.out⟩
  ·clear cT;(go_wp2_with fail);go_ret2
   exact .inr ⟨fun h=>hn ⟨h.2.2.2.1,h.2.2.2.2⟩,rfl,HK1.out⟩
 ·have HK1:=ah hK1;clear hK1 cE;(go_wp2_with fail);go_ret2
  exact .inr ⟨fun h=>hn ⟨h.1,h.2.1,h.2.2.1⟩,rfl,HK1.out⟩
theorem ay.elder {w00 w0 w:World}{F D:List Nat}{b:Nat}{p:Pl}{al:Int}{sz:Nat}{m:Ma}(h:ay w0 w F D b p al sz m) (k:aa [] w00 w0):ay w00 w F D b p al sz m:=by
 have hz:=k.size;obtain ⟨S,vt,X,h1,h2,h3,h4,h5,h6⟩:=h;obtain ⟨v,e1,e2,e3⟩:=h1.e;exact ⟨S,vt,X,⟨h1.at_,h1.g,h1.t,v,by omega,e2,bF e3 hz⟩,h2,k.trans h3 (by simp),fun i hi=>Nat.le_trans hz (h4 i hi),h5,h6⟩
variable {w0 w : World} {F D : List Nat} {b : Nat} {p : Pl} {al : Int} {sz : Nat} {m : Ma}
theorem gC (h:ay w0 w F D b p al sz m):Calls Tryz.prog 20 #[.pointer (some ⟨b,0,none⟩)] w fun e w'=>e=.returned (.int .i64 (m.a))∧w'=w:=by
 obtain ⟨m0,m1,m2,m3,m4,m5⟩:=h.cells;have cT:=dc w b;clear h;go_enter Tryz.func20,Tryz.ntmps20;go_wp2_with fail
 refine cT.mono ?_;rintro _ W ⟨rfl,hW0⟩;obtain rfl:=hW0.symm;go_wp2_with fail
 go_ret
 exact ⟨rfl,rfl⟩
theorem ll (h:ay w0 w F D b p al sz m):Calls Tryz.prog 18 #[.pointer (some ⟨b,0,none⟩)] w fun e w'=>e=.returned (.int .i64 (al))∧w'=w:=by
 obtain ⟨m0,m1,m2,m3,m4,m5⟩:=h.cells;have cT:=dc w b;clear h;go_enter Tryz.func18,Tryz.ntmps18;go_wp2_with fail
 refine cT.mono ?_;rintro _ W ⟨rfl,hW0⟩;obtain rfl:=hW0.symm;go_wp2_with fail
 go_ret
 exact ⟨rfl,rfl⟩
theorem ny (h:ay w0 w F D b p al sz m):Calls Tryz.prog 19 #[.pointer (some ⟨b,0,none⟩)] w fun e w'=>e=.returned (.int .i64 ((sz:Int)))∧w'=w:=by
 obtain ⟨m0,m1,m2,m3,m4,m5⟩:=h.cells;have cT:=dc w b;clear h;go_enter Tryz.func19,Tryz.ntmps19;go_wp2_with fail
 refine cT.mono ?_;rintro _ W ⟨rfl,hW0⟩;obtain rfl:=hW0.symm;go_wp2_with fail
 go_ret
 exact ⟨rfl,rfl⟩
theorem nB (h:ay w0 w F D b p al sz m):Calls Tryz.prog 28 #[.pointer (some ⟨b,0,none⟩)] w fun e w'=>e=.returned (.int .i64 (m.g.cs.length:Int))∧w'=w:=by
 obtain ⟨m0,m1,m2,m3,m4,m5⟩:=h.cells;have cT:=dc w b
 have cH:Calls Tryz.prog 68 #[.pointer (some ⟨p.g,0,none⟩)] w fun e w'=>e=.returned (.int .i64 (m.g.cs.length:Int))∧w'=w:=by
  obtain ⟨S,vt,X,h1,_⟩:=h;exact ml h1.g
 clear h;generalize m.g.cs.length=gl at *;go_enter Tryz.func28,Tryz.ntmps28;go_wp2_with fail
 refine cT.mono ?_;rintro _ W ⟨rfl,hW0⟩;obtain rfl:=hW0.symm;go_wp2_with fail
 refine cH.mono ?_;rintro _ W ⟨rfl,hW0⟩;obtain rfl:=hW0.symm;go_wp2_with fail
 go_ret
 exact ⟨rfl,rfl⟩
def vu (l:List Int) (w:World) (e:Ending) (w':World):Prop:=∃ v,e=.returned v∧bJ w.heap.size w' v l∧aa [] w w'
def BB (L:List Ep) (w:World) (e:Ending) (w':World):Prop:=∃ v X,e=.returned v∧iR w.heap.size w' v X∧iK w.heap.size w' X∧X.map Prod.fst=L∧aa [] w w'
theorem CG (h:ay w0 w F D b p al sz m) (hl:m.e.length≤1000):Calls Tryz.prog 95 #[.pointer (some ⟨p.e,0,none⟩)] w fun e w'=>vu (bc (fd m.e)) w e w':=by
 obtain ⟨S,vt,X,h1,_,_,_,_,h6⟩:=h;exact tA _ w p.e al m.e h1.e h6.e.1 (by omega)
theorem C0 (h:ay w0 w F D b p al sz m) (hl:m.e.length≤1000) (z:Int):Calls Tryz.prog 97 #[.pointer (some ⟨p.e,0,none⟩),.int .i64 z] w fun e w'=>vu (xQ m.e z) w e w':=by
 obtain ⟨S,vt,X,h1,_,_,_,_,h6⟩:=h;exact Al _ w p.e al m.e h1.e h6.e (by omega) z
theorem CF (h:ay w0 w F D b p al sz m) (hl:m.e.length≤1000):Calls Tryz.prog 56 #[.pointer (some ⟨p.e,0,none⟩)] w fun e w'=>BB m.e w e w':=by
 obtain ⟨S,vt,X,h1,_,_,_,_,h6⟩:=h;exact wW _ w p.e al m.e h1.e h6.e (by omega)
theorem Dj (h:ay w0 w F D b p al sz m):Calls Tryz.prog 57 #[.pointer (some ⟨p.t,0,none⟩)] w fun e w'=>A9 w m.s e w':=by
 obtain ⟨S,vt,X,h1,_,_,_,_,h6⟩:=h;exact ze h1.t (by have:=h6.sl;have:=h6.z1;omega) h6.so
theorem C1 (h:ay w0 w F D b p al sz m) (hl:m.g.cs.length≤10000):Calls Tryz.prog 58 #[.pointer (some ⟨p.g,0,none⟩)] w fun e w'=>zE w m.g.cs e w':=by
 obtain ⟨S,vt,X,h1,_,_,_,_,h6⟩:=h;obtain ⟨v,q,t,mb,K,hG,_⟩:=h1.g;exact pD hG h6.g.wf hl
theorem rS (h:ay w0 w F D b p al sz m) (hl:m.e.length≤1000): Calls Tryz.prog 48 #[.pointer (some ⟨b,0,none⟩)] w fun e w'=>vu (bc (fd m.e)) w e w':=by
 obtain ⟨m0,m1,m2,m3,m4,m5⟩:=h.cells;have cT:=dc w b;have cH:=CG h hl;clear h;generalize (bc (fd m.e))=gl at *;go_enter Tryz.func48,Tryz.ntmps48;go_wp2_with fail
 refine cT.mono ?_;rintro _ W ⟨rfl,hW0⟩;obtain rfl:=hW0.symm;go_wp2_with fail
 refine cH.mono ?_;rintro _ w1 ⟨v1,rfl,hr,hk⟩;go_wp2_with fail
 go_ret
 exact ⟨v1,rfl,hr,hk⟩
theorem jV (h:ay w0 w F D b p al sz m) (hl:m.e.length≤1000): Calls Tryz.prog 21 #[.pointer (some ⟨b,0,none⟩)] w fun e w'=>BB m.e w e w':=by
 obtain ⟨m0,m1,m2,m3,m4,m5⟩:=h.cells;have cT:=dc w b;have cH:=CF h hl;clear h;generalize m.e=gl at *;go_enter Tryz.func21,Tryz.ntmps21;go_wp2_with fail
 refine cT.mono ?_;rintro _ W ⟨rfl,hW0⟩;obtain rfl:=hW0.symm;go_wp2_with fail
 refine cH.mono ?_;rintro _ w1 ⟨v1,X1,rfl,hr,ho,hx,hk⟩;go_wp2_with fail
 go_ret
 exact ⟨v1,X1,rfl,hr,ho,hx,hk⟩
theorem iE (h:ay w0 w F D b p al sz m):Calls Tryz.prog 22 #[.pointer (some ⟨b,0,none⟩)] w fun e w'=>A9 w m.s e w':=by
 obtain ⟨m0,m1,m2,m3,m4,m5⟩:=h.cells;have cT:=dc w b;have cH:=Dj h;clear h;generalize m.s=gl at *;go_enter Tryz.func22,Tryz.ntmps22;go_wp2_with fail
 refine cT.mono ?_;rintro _ W ⟨rfl,hW0⟩;obtain rfl:=hW0.symm;go_wp2_with fail
 refine cH.mono ?_;rintro _ w1 ⟨v1,X1,rfl,h1,h2,h3,h4⟩;go_wp2_with fail
 go_ret
 exact ⟨v1,X1,rfl,h1,h2,h3,h4⟩
theorem ju (h:ay w0 w F D b p al sz m) (hl:m.g.cs.length≤10000): Calls Tryz.prog 23 #[.pointer (some ⟨b,0,none⟩)] w fun e w'=>zE w m.g.cs e w':=by
 obtain ⟨m0,m1,m2,m3,m4,m5⟩:=h.cells;have cT:=dc w b;have cH:=C1 h hl;clear h;generalize m.g.cs=gl at *;go_enter Tryz.func23,Tryz.ntmps23;go_wp2_with fail
 refine cT.mono ?_;rintro _ W ⟨rfl,hW0⟩;obtain rfl:=hW0.symm;go_wp2_with fail
 refine cH.mono ?_;rintro _ w1 ⟨v1,X1,rfl,h1,h2,h3,h4⟩;go_wp2_with fail
 go_ret
 exact ⟨v1,X1,rfl,h1,h2,h3,h4⟩
theorem yK (h:ay w0 w F D b p al sz m) (hl:m.e.length≤1000) (z:Int):Calls Tryz.prog 50 #[.pointer (some ⟨b,0,none⟩),.int .i64 z] w fun e w'=>vu (xQ m.e z) w e w':=by
 obtain ⟨m0,m1,m2,m3,m4,m5⟩:=h.cells;have cT:=dc w b;have cH:=C0 h hl z;clear h;generalize xQ m.e z=gl at *;go_enter Tryz.func50,Tryz.ntmps50;go_wp2_with fail
 refine cT.mono ?_;rintro _ W ⟨rfl,hW0⟩;obtain rfl:=hW0.symm;go_wp2_with fail
 refine cH.mono ?_;rintro _ w1 ⟨v1,rfl,hr,hk⟩;go_wp2_with fail
 go_ret
 exact ⟨v1,rfl,hr,hk⟩
end Go.Proofs.YtgpnlidnbldiiaaGreat
namespace Go.Proofs.YtgpnlidnbldiiaaGreat
open Go.RowKit
theorem Cn:ea [0,1,2]:=by decide
theorem nj (w:World) (D:List Nat) (hD:∀ k∈D,k < w.heap.size):Calls Tryz.prog 16 #[] w fun e w'=>∃ (b:Nat) (p:Pl) (F:List Nat),e=.returned (.pointer (some ⟨b,0,none⟩))∧ay w w' F D b p 2 3 (jj [0,1,2]):=by
 have hKa:aa [] w (w.alloc (.cells #[.int .i64 0,.int .i64 1,.int .i64 2] 3)):=(aa.refl _ _).alloc _;have cN:=vH _ D (fun k hk=>Nat.lt_of_lt_of_le (hD k hk) hKa.size) _ 3 3 [0,1,2] (mW.lit w [0,1,2] 3 #[.int .i64 0,.int .i64 1,.int .i64 2] 3 rfl rfl (by omega)) 2 3;have HKa:=ah hKa;clear hD hKa;go_enter Tryz.func16,Tryz.ntmps16;go_wp2_with fail
 refine cN.mono ?_;rintro _ w1 (⟨_,b,p,F,rfl,hL⟩ | ⟨hn,_⟩)
 ·have HL:=ah (hL.elder HKa.out);clear hL cN;(go_wp2_with fail);go_ret
  exact ⟨b,p,F,rfl,HL.out⟩
 ·exact absurd ⟨Cn,by omega,by omega,by omega,by omega⟩ hn
def js (s q bs:Int) (l:List UInt8) (d:Int):Rq:=⟨2,[],s,q,bs,[],[⟨l,false,d⟩],[],0,0,0⟩
theorem Cf {w:World}{g:Nat}{cs:Array Value}{fn:Func}{p:Tmp}(hr:fn.results=#[.cell p 43]) (tmps:Array Value) (hp:tmps.getD p undef=.pointer (some ⟨g,0,none⟩)) (hg:w.heap[g]?=some (.cells cs 43 (0,0))) (hs:cs.size=11) :
 (results fn tmps).run Tryz.prog w=.ok (.agg cs) w :=
 results_cell_row hr tmps w g _ cs _ _ hp hg Tryz.underlying43 rfl (by rw [hs];exact jY)
theorem mz (w:World) (s q bs:Int) (l:List UInt8) (d:Int) (hl:l.length≤300) (hq:-9223372036854775808≤q∧q≤9223372036854775807):Calls Tryz.prog 27 #[.int .i64 s,.int .i64 q,.int .i64 bs,.string (ak l),.int .u64 d] w fun e w'=>∃ x:Rm,x.r=js s q bs l d∧e=.returned (eh x)∧dE w' x∧aa [] w w':=by
 have hq1:=hq;have hl1:=hl;clear hq hl;go_enter Tryz.func27,Tryz.ntmps27;go_wp2_with fail
 have hA:=(Below.heap_alloc (w.alloc (.cells #[.int .i64 2,.string ⟨#[]⟩,.int .i64 s,.int .i64 q,.int .i64 bs,.string ⟨#[]⟩,.slice (some ⟨w.heap.size+1,0,none⟩) 1 1,.string ⟨#[]⟩,.int .i64 0,.int .i64 0,.int .i64 0] 43)) (.cells #[.string (ak l),.bool false,.int .u64 d] 60) w.heap.size (by simp)).trans (heap_alloc_new w _);refine bodyPost_ret (Cf (by rfl) _ (by rfl) hA rfl) rfl ?_;have hS:=di.lit (w.alloc (.cells #[.int .i64 2,.string ⟨#[]⟩,.int .i64 s,.int .i64 q,.int .i64 bs,.string ⟨#[]⟩,.slice (some ⟨w.heap.size+1,0,none⟩) 1 1,.string ⟨#[]⟩,.int .i64 0,.int .i64 0,.int .i64 0] 43)) [⟨l,false,d⟩] rfl (by simp [maxLen]) rfl;rw [World.size_alloc] at hS;exact ⟨⟨js s q bs l d,some ⟨w.heap.size+1,0,none⟩,1,1⟩,rfl,rfl,⟨⟨hS,(fun h=>by cases h),hq1,by simp [js],by simp [js]⟩,by simp [js],by simp [js],by simp [js],by simp [js],by simpa [js] using hl1⟩,((aa.refl _ _).alloc _).alloc _⟩
def pQ:Rm:=⟨⟨1,[99],0,0,0,[],[],[],0,0,0⟩,none,0,0⟩
theorem Ca (w:World):dE w pQ:=⟨⟨⟨rfl,Nat.le_refl _,Nat.zero_le _,fun i hi=>by simp [pQ] at hi⟩,fun _=>rfl,by simp [pQ],by simp [pQ],by simp [pQ]⟩,by simp [pQ],by simp [pQ],by simp [pQ],by simp [pQ],by simp [pQ]⟩
def lK:Ma:=⟨1,ba,[⟨1,0,[99],cq 0⟩],[⟨0,[0,1,2]⟩]⟩
def lF:Vt:=⟨2,0,1,[],0,[],0⟩
def pV:Ma:=⟨2,Aa,[⟨1,1,[99],lF⟩],[⟨0,[0,1,2]⟩]⟩
def CM:Ma:=⟨3,Aa,[⟨1,1,[99],lF⟩],[⟨0,[0,1,2]⟩]⟩
theorem CC:qH 2 (jj [0,1,2]) pQ.r=⟨1,1,0,[],0,[],0⟩∧lH 2 3 (jj [0,1,2]) pQ.r=lK:=by
 have hw:bu false [99]=true:=by decide
 constructor
 ·unfold qH gg;rw [if_neg (by decide),if_neg (show ¬ pQ.r.k=0 by decide),if_pos (show pQ.r.k=1 by decide)];show (if bu false [99]=true then _ else _)=_;rw [if_pos hw];rfl
 ·rw [qK (by decide)];unfold fL gc fe;rw [show lM (jj [0,1,2]) pQ.r=false from by decide,if_neg (show ¬ pQ.r.k=0 by decide),if_pos (show pQ.r.k=1 by decide)];show (⟨_,_,if bu false [99]=true then _ else _,_⟩:Ma)=_;rw [if_pos hw];rfl
theorem C8:jI 2 lK (js 1 1 0 [97] 5)=lF:=by
 unfold jI;rw [if_pos (show (js 1 1 0 [97] 5).k=2 from rfl)];show pW (bi ba 0 [] [⟨[97],false,5⟩])=_;rw [CO];rfl
theorem CX:doG lK (js 1 1 0 [97] 5)=Aa:=by
 unfold doG;rw [if_pos (show (js 1 1 0 [97] 5).k=2 from rfl)];exact Dn
theorem Db:qH 2 lK (js 1 1 0 [97] 5)=lF∧lH 2 3 lK (js 1 1 0 [97] 5)=pV:=by
 have hq:aZ 1 1 lK.s=(cq 0,false):=by decide
 have hn:lM lK (js 1 1 0 [97] 5)=true:=by decide
 have hv:gg 2 lK (js 1 1 0 [97] 5)=lF:=by rw [(AK (al:=2) hn).2.2.2];exact C8
 constructor
 ·rw [show qH 2 lK (js 1 1 0 [97] 5)=gg 2 lK (js 1 1 0 [97] 5) from if_neg (by decide)];exact hv
 ·rw [qK (by decide)];unfold fL gc fe;rw [hn,if_pos rfl,CX,if_neg (by decide),if_neg (by decide),show (aZ (js 1 1 0 [97] 5).s (js 1 1 0 [97] 5).q lK.s).2=false from by rw [show aZ (js 1 1 0 [97] 5).s (js 1 1 0 [97] 5).q lK.s=_ from hq],if_neg (by simp),C8];rfl
theorem CH:qH 2 pV (js 1 1 0 [97] 5)=lF∧lH 2 3 pV (js 1 1 0 [97] 5)=CM:=by
 have hq:aZ 1 1 pV.s=(lF,true):=by decide
 have hn:lM pV (js 1 1 0 [97] 5)=false:=by decide
 constructor
 ·rw [show qH 2 pV (js 1 1 0 [97] 5)=gg 2 pV (js 1 1 0 [97] 5) from if_neg (by decide)];unfold gg;rw [if_neg (by decide),if_neg (by decide),show aZ (js 1 1 0 [97] 5).s (js 1 1 0 [97] 5).q pV.s=_ from hq];rfl
 ·rw [qK (by decide)];unfold fL gc fe;rw [hn,if_neg (by decide),if_neg (by decide),show aZ (js 1 1 0 [97] 5).s (js 1 1 0 [97] 5).q pV.s=_ from hq];rfl
theorem uF (w:World) (v:Vt) (u:Value):fg (w.alloc (.cells (py v u).toArray 39)) w.heap.size v u:=heap_alloc_new w _
theorem qJ (w:World):Calls Tryz.prog 6 #[] w fun e w'=>e=.returned (.bool true)∧aa [] w w':=by
 have cF:=nj w [] (fun k hk=>by cases hk);go_enter Tryz.func6,Tryz.ntmps6;go_wp2_with fail
 refine cF.mono ?_;rintro _ w1 ⟨b,p,F,rfl,hL1⟩;have cA:=fY hL1 (by decide) (by decide) pQ (Ca w1);rw [CC.1,CC.2] at cA;unfold eh pQ ak at cA;clear hL1 cF;dsimp only at cA;go_wp2_with fail
 refine cA.mono ?_;rintro _ w2 ⟨a2,n2,c2,rfl,_,F2,hL2,_,_,_⟩;obtain ⟨w3,hw3⟩:∃ w3,w3=w2.alloc (.cells (py ⟨1,1,0,[],0,[],0⟩ (.slice a2 n2 c2)).toArray 39):=⟨_,rfl⟩;have hK3:aa [] w2 w3:=by rw [hw3];exact (aa.refl _ _).alloc _
 have HB3:Hid (fg w3 w2.heap.size ⟨1,1,0,[],0,[],0⟩ (.slice a2 n2 c2)):=by rw [hw3];exact uF _ _ _
 have HL3:=ah (hL2.kept hK3);have cL:=mz w3 1 1 0 [97] 5 (by simp) (by omega);unfold ak at cL;unfold gA;clear hL2 cA hK3;unfold py at hw3;go_wp2_with fail
 rw [← hw3];clear hw3;refine cL.mono ?_;rintro _ w4 ⟨x4,hx4,rfl,hR4,hK4⟩;have cA:=fY (HL3.out.kept hK4) (by decide) (by decide) x4 hR4;rw [hx4,Db.1,Db.2] at cA;have HB4:=ah (HB3.out.kept hK4);clear cL hx4 hR4 hK4;go_wp2_with fail
 refine cA.mono ?_;rintro _ w5 ⟨a5,n5,c5,rfl,_,F5,hL5,hF5,_,_⟩;have HB5:=ah (HB4.out.fr hF5);obtain ⟨w6,hw6⟩:∃ w6,w6=w5.alloc (.cells (py lF (.slice a5 n5 c5)).toArray 39):=⟨_,rfl⟩;have hK6:aa [] w5 w6:=by rw [hw6];exact (aa.refl _ _).alloc _
 have HB6:=ah (HB5.out.kept hK6);have HC6:Hid (fg w6 w5.heap.size lF (.slice a5 n5 c5)):=by rw [hw6];exact uF _ _ _
 have HL6:=ah (hL5.kept hK6);have cL:=mz w6 1 1 0 [97] 5 (by simp) (by omega);unfold ak at cL;unfold gA;clear hL5 hF5 cA hK6;unfold py at hw6;go_wp2_with fail
 rw [← hw6];clear hw6;refine cL.mono ?_;rintro _ w7 ⟨x7,hx7,rfl,hR7,hK7⟩;have cA:=fY (HL6.out.kept hK7) (by decide) (by decide) x7 hR7;rw [hx7,CH.1,CH.2] at cA;have HB7:=ah (HB6.out.kept hK7);have HC7:=ah (HC6.out.kept hK7);clear cL hx7 hR7 hK7;go_wp2_with fail
 refine cA.mono ?_;rintro _ w8 ⟨a8,n8,c8,rfl,_,F8,hL8,hF8,_,_⟩;obtain ⟨w9,hw9⟩:∃ w9,w9=w8.alloc (.cells (py lF (.slice a8 n8 c8)).toArray 39):=⟨_,rfl⟩;have hK9:aa [] w8 w9:=by rw [hw9];exact (aa.refl _ _).alloc _
 have HB9:=ah ((HB7.out.fr hF8).kept hK9);have HC9:=ah ((HC7.out.fr hF8).kept hK9);have HD9:Hid (fg w9 w8.heap.size lF (.slice a8 n8 c8)):=by rw [hw9];exact uF _ _ _
 have HL9:=ah (hL8.kept hK9);obtain ⟨b0,b1,_,_,_,_,_⟩:=HB9.out.cells;obtain ⟨g0,_,_,_,_,_,_⟩:=HC9.out.cells;obtain ⟨d0,_,d2,_,_,_,_⟩:=HD9.out.cells;have cH:=nB HL9.out;have cP:=gC HL9.out;unfold gA;clear hL8 hF8 cA hK9;unfold py at hw9;go_upto_region 7 with fail
 rw [← hw9];clear hw9;unfold lF at g0 d0 d2;dsimp only [CM] at cH cP;rw [show Aa.cs.length=1 from rfl] at cH
 go_wp2_with (first
  | (go_at_call 28;refine cH.mono ?_;clear cH;rintro _ W ⟨rfl,hW0⟩;obtain rfl:=hW0.symm)
  | (go_at_call 20;refine cP.mono ?_;clear cP;rintro _ W ⟨rfl,hW0⟩;obtain rfl:=hW0.symm))
 go_ret
 exact ⟨rfl,HL9.out.keeps⟩
end Go.Proofs.YtgpnlidnbldiiaaGreat
