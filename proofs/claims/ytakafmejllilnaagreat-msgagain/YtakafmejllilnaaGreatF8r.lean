/-
  Texts laid as one.
-/
import Derived.Test.YtakafmejllilnaaGreatF7r
import Derived.Test.YtakafmejllilnaaGreatW0r
set_option maxHeartbeats 8000000
set_option maxRecDepth 100000
/-
 commit: the fields of a commit,by whatever hand. (Written by mk/mkfields.py.)
-/
namespace Go.Proofs.YtakafmejllilnaaGreat
open Go.RowKit
variable {σ : Type}
def rK:List Value:=[.int .i64 0,.int .i64 0,.string ⟨#[]⟩,.slice none 0 0]
theorem jY (x:bW × Value) (hv:x.2.oneCell'=true):∀ u∈dk x,u.oneCell'=true:=by
 intro u hu;simp [dk] at hu
 rcases hu with rfl | rfl | rfl | rfl
 all_goals first | rfl | exact hv
def pM (O:List Nat) (w:World) (v:Value) (L:List Ch):Prop :=
 ∃ mo n c,v=.slice mo n c∧dz w mo n c L∧(mo=none→c=0)∧(0 < n→∀ k∈bO mo,k < w.heap.size∧k ∉ O)
theorem pM.on {O O':List Nat}{w w':World}{v:Value}{L:List Ch}(h:pM O w v L) (hk:ab O w w') (hn:∀ k∈O',k∈O∨w.heap.size≤k):pM O' w' v L:=by
 obtain ⟨mo,n,c,e,hS,h0,hd⟩:=h;refine ⟨mo,n,c,e,hS.kept0 hk (fun h k hm=>(hd h k hm).2),h0,fun h k hm=>⟨Nat.lt_of_lt_of_le (hd h k hm).1 hk.size,fun h1=>?_⟩⟩;rcases hn k h1 with h2 | h2
 ·exact (hd h k hm).2 h2
 ·have:=(hd h k hm).1;omega
theorem pM.nil (O:List Nat) (w:World):pM O w (.slice none 0 0) []:=⟨none,0,0,rfl,⟨rfl,Nat.le_refl _,Nat.zero_le _,fun i hi=>by simp at hi⟩,fun _=>rfl,fun h=>by omega⟩
theorem pM.one {O:List Nat}{w:World}{v:Value}{L:List Ch}(h:pM O w v L):v.oneCell'=true:=by
 obtain ⟨mo,n,c,rfl,_⟩:=h;rfl
def vp (At:World→List Nat→σ→Nat→Prop) (w:World) (O:List Nat) (s:σ) (m:Nat) (x:bW) (r:Ending) (w':World):Prop :=
 ∃ v,r=.returned (.agg (dk (x,v)).toArray)∧aL w.heap.size w' v x.c∧∃ O',At w' O' s m∧ab O w w'∧(∀ k∈O',k∈O∨w.heap.size≤k)∧∀ k,v.ownBlock=some k→k ∉ O'
theorem vR {w w1 w':World}{O O1:List Nat}{H:df}{xs zs ns:List Value}{b:Nat}{P:PH σ}{At:World→List Nat→σ→Nat→Prop}(hH:bH H P At) (h:Fn 108 w O H xs zs b ns w1 O1) {s:σ}{m:Nat}(hA:At w1 O1 s m) (hk:ab [w.heap.size+2] w1 w')
 (x:bW) (v:Value) {B:Nat}{e:Ending}(he:e=.returned (.agg (dk (x,v)).toArray)) (hO:aL B w1 v x.c) (hB:w.heap.size+3≤B) (hv:∀ k,v.ownBlock=some k→k ∉ O1):vp At w O s m x e w':=by
 have hz:w.heap.size+2 ∉ O1:=fun hm=>by
  rcases h.f.o _ hm with h1 | h1
  ·have:=h.f.o0 _ h1;omega
  ·omega
 refine ⟨v,he,?_,O1,hH.kept hA hk (by simpa using hz),h.f.k.trans hk (by simp),fun k hk=>?_,hv⟩
 ·have h1:aL B w' v x.c:=hk.ownsRow hO (fun k hk' hm=>by
   have:=(World.ownsRow.lt hO k hk').1
   simp at hm;omega)
  exact h1.mono (by omega)
 ·rcases h.f.o k hk with h1 | h1
  ·exact .inl h1
  ·exact .inr (by omega)
theorem nW {H:df}{P:PH σ}{At:World→List Nat→σ→Nat→Prop}(hH:bH H P At) (w:World) (O:List Nat) (s:σ) (m:Nat) (x:bW) (u:Value) (hu:pM O w u x.c) (hn:x.n.length≤140737488351232) (hc:∀ y∈x.c,y.p.length≤140737488351232) (hA:At w O s (m+196)) :
 Calls Tryz.prog 151 #[H.a,xI (x,u)] w (vp At w O (cn P s x).2 m (cn P s x).1):=by
 have HH:Hid (bH H P At):=hH;have e0:=hH.e0;have e1:=hH.e1;have e2:=hH.e2;have e3:=hH.e3;have e4:=hH.e4;have HF0:=aa (cu w 108 O H (dk (x,u)) rK (hH.lt hA));have HA0:Hid (At (dZ w 108 H (dk (x,u)) rK) O s (m+196)):=hH.kept hA (T:=[]) ((((ab.refl _ _).alloc _).alloc _).alloc _) (by simp);clear hA hH;obtain ⟨mo,un,uc,rfl,hS,hno,hd⟩:=hu;have HQ:Hid (cn P s x=(⟨(P.num s x.r).1,(P.num (P.num s x.r).2 x.b).1,(P.text (P.num (P.num s x.r).2 x.b).2 x.n).1,(aP P (bz P) fd (P.text (P.num (P.num s x.r).2 x.b).2 x.n).2 x.c 64).1⟩,(aP P (bz P) fd (P.text (P.num (P.num s x.r).2 x.b).2 x.n).2 x.c 64).2)):=rfl
 have HF1:Hid (Fn 108 w O H (dk (x,.slice mo un uc)) rK (w.heap.size+1+1+1) rK ((dZ w 108 H (dk (x,.slice mo un uc)) rK).alloc (.cells rK.toArray 108)) O):=by
  have h:=HF0.out.named (by rw [gS];intro k hk;have:=HF0.out.o0 k hk;omega) rK;rw [gS] at h;exact h
 have HA1:=aa (HH.out.kept HA0.out (T:=[]) ((ab.refl [] (dZ w 108 H (dk (x,.slice mo un uc)) rK)).alloc (.cells rK.toArray 108)) (by simp));unfold df.a xI;go_enter Tryz.func151,Tryz.ntmps151;go_wp2_with fail
 have cN:=HH.out.num _ _ _ (m+195) x.r HA1.out;refine cN.mono ?_;clear cN;rintro _ w2 ⟨rfl,O2,A2,hk2,hn2⟩;have F2:=HF1.out.call hk2 hn2;have n2:w2.cell? ⟨w.heap.size+1+1+1,0,none⟩=some (.int .i64 0):=F2.n.cell 0 rfl;have f2:w2.frozen? ⟨w.heap.size+1+1+1,0,none⟩=false:=F2.n.froz 0;obtain ⟨g2,x2⟩:=F2.cells 0 1 rfl rfl;have HF2:=aa (F2.set 0 (.int .i64 (P.num s x.r).1));have HA2:=aa (HH.out.kept A2 (aj w2 (w.heap.size+1+1+1) 0 (.int .i64 (P.num s x.r).1)) (by simpa using F2.b0));clear F2 A2 hk2 hn2;go_wp2_with fail
 have cN:=HH.out.num _ _ _ (m+194) x.b HA2.out;refine cN.mono ?_;clear cN n2 f2 g2 x2;rintro _ w3 ⟨rfl,O3,A3,hk3,hn3⟩;have F3:=HF2.out.call hk3 hn3;have n3:w3.cell? ⟨w.heap.size+1+1+1,1,none⟩=some (.int .i64 0):=F3.n.cell 1 rfl;have f3:w3.frozen? ⟨w.heap.size+1+1+1,1,none⟩=false:=F3.n.froz 1;obtain ⟨g3,x3⟩:=F3.cells 2 2 rfl rfl;have HF3:=aa (F3.set 1 (.int .i64 (P.num (P.num s x.r).2 x.b).1));have HA3:=aa (HH.out.kept A3 (aj w3 (w.heap.size+1+1+1) 1 (.int .i64 (P.num (P.num s x.r).2 x.b).1)) (by simpa using F3.b0));clear F3 A3 hk3 hn3;go_wp2_with fail
 have cN:=HH.out.text _ _ _ (m+193) x.n HA3.out hn;refine cN.mono ?_;clear cN n3 f3 g3 x3;rintro _ w4 ⟨rfl,O4,A4,hk4,hn4⟩;have F4:=HF3.out.call hk4 hn4;have n4:w4.cell? ⟨w.heap.size+1+1+1,2,none⟩=some (.string ⟨#[]⟩):=F4.n.cell 2 rfl;have f4:w4.frozen? ⟨w.heap.size+1+1+1,2,none⟩=false:=F4.n.froz 2;have x4:w4.cell? ⟨w.heap.size+1,3,none⟩=some (.slice mo un uc):=F4.f.x.cell 3 rfl;have HF4:=aa (F4.set 2 (.string (ae (P.text (P.num (P.num s x.r).2 x.b).2 x.n).1)));have HA4:=aa (HH.out.kept A4 (aj w4 (w.heap.size+1+1+1) 2 (.string (ae (P.text (P.num (P.num s x.r).2 x.b).2 x.n).1))) (by simpa using F4.b0));clear F4 A4 hk4 hn4;have HHB:Hid (Bx (w4.setCell ⟨w.heap.size+1+1+1,2,none⟩ (.string (ae (P.text (P.num (P.num s x.r).2 x.b).2 x.n).1))) w.heap.size 168 H.c):=HF4.out.f.h;have HHT:Hid (aq Tryz.prog 168 H.c.length):=fG;have cN:=aa (ku HH.out _ _ _ (m+0) mo un uc x.c (hS.kept0 HF4.out.f.k (fun h k hk=>(hd h k hk).2)) hno (pa hS (fun h k hk=>(hd h k hk).2) HF4.out.f) hc HA4.out);go_wp2_with ((with_reducible refine ak HHB.out HHT.out ?_ ?_);rfl)
 have cM:=cN.out;unfold df.a at cM;refine cM.mono ?_;clear cN cM n4 f4 x4;rintro _ w5 ⟨v5,rfl,hO5,O5,A5,hk5,hn5,hq5⟩;obtain ⟨ao5,m5,mc5,rfl⟩:=dC hO5;have F5:=HF4.out.call hk5 hn5;have n5:w5.cell? ⟨w.heap.size+1+1+1,3,none⟩=some (.slice none 0 0):=F5.n.cell 3 rfl;have f5:w5.frozen? ⟨w.heap.size+1+1+1,3,none⟩=false:=F5.n.froz 3;have HF5:=aa (F5.set 3 (.slice ao5 m5 mc5));have HA5:=aa (HH.out.kept A5 (aj w5 (w.heap.size+1+1+1) 3 (.slice ao5 m5 mc5)) (by simpa using F5.b0));have HO5:=aa hO5;have HQ5:=aa hq5;have hlo5:=HF4.out.n.lt;clear hO5 hq5;clear F5 A5 hk5 hn5;have HZ:Hid (Bx (w5.setCell ⟨w.heap.size+1+1+1,3,none⟩ (.slice ao5 m5 mc5)) (w.heap.size+1+1) 108 rK):=HF5.out.f.z;have HN:Hid (Bx (w5.setCell ⟨w.heap.size+1+1+1,3,none⟩ (.slice ao5 m5 mc5)) (w.heap.size+1+1+1) 108 (dk (⟨(P.num s x.r).1,(P.num (P.num s x.r).2 x.b).1,(P.text (P.num (P.num s x.r).2 x.b).2 x.n).1,(aP P (bz P) fd (P.text (P.num (P.num s x.r).2 x.b).2 x.n).2 x.c 64).1⟩,(.slice ao5 m5 mc5)))):=HF5.out.n;have HO:=aa (jY (⟨(P.num s x.r).1,(P.num (P.num s x.r).2 x.b).1,(P.text (P.num (P.num s x.r).2 x.b).2 x.n).1,(aP P (bz P) fd (P.text (P.num (P.num s x.r).2 x.b).2 x.n).2 x.c 64).1⟩,(.slice ao5 m5 mc5)) (by rfl));have HT:Hid (aq Tryz.prog 108 (dk (⟨(P.num s x.r).1,(P.num (P.num s x.r).2 x.b).1,(P.text (P.num (P.num s x.r).2 x.b).2 x.n).1,(aP P (bz P) fd (P.text (P.num (P.num s x.r).2 x.b).2 x.n).2 x.c 64).1⟩,(.slice ao5 m5 mc5))).length):=eZ;have HL:Hid ((dk (⟨(P.num s x.r).1,(P.num (P.num s x.r).2 x.b).1,(P.text (P.num (P.num s x.r).2 x.b).2 x.n).1,(aP P (bz P) fd (P.text (P.num (P.num s x.r).2 x.b).2 x.n).2 x.c 64).1⟩,(.slice ao5 m5 mc5))).length=rK.length):=rfl;go_wp2_with (first | ((with_reducible refine ak HN.out HT.out ?_ ?_);rfl) | ((with_reducible refine ac HZ.out HL.out HO.out HT.out ?_ ?_ ?_);rfl;rfl;intro wz HBz HKz))
 refine bodyPost_ret (al (by rfl) _ (by rfl) HBz.out HT.out) rfl ?_;rw [HQ.out];exact vR HH.out HF5.out (HH.out.le HA5.out (by omega)) HKz.out _ (.slice ao5 m5 mc5) rfl (pd HO5.out hlo5 (ab.refl _ _)) (by omega) HQ5.out
end Go.Proofs.YtakafmejllilnaaGreat
namespace Go.Proofs.YtakafmejllilnaaGreat
open Go.RowKit
variable {σ : Type}
theorem j0 (x:bW × Value):(dk x).length=4:=rfl
theorem rC:(Tryz.prog.info? 108).map (·.size)=some 4:=by kernel_rfl
def k0:bW × Value:=(dp,.slice none 0 0)
def so (O:List Nat) (w:World) (ao:Option Addr) (n c:Nat) (K:List (bW × Value)):Prop :=
 K.length=n∧n≤c∧c≤maxLen∧(ao=none→c=0)∧(∀ i (h:i < K.length),∃ b o,ao=some ⟨b,o,none⟩∧mM w b (o+i*4) K[i])∧(0 < n→∀ k∈bO ao,k < w.heap.size∧k ∉ O)∧∀ x∈K,pM O w x.2 x.1.c
theorem so.on {O O':List Nat}{w w':World}{ao:Option Addr}{n c:Nat}{K:List (bW × Value)}(h:so O w ao n c K) (hk:ab O w w') (hn:∀ k∈O',k∈O∨w.heap.size≤k):so O' w' ao n c K:=by
 obtain ⟨h1,h2,h3,h4,h5,h6,h7⟩:=h;refine ⟨h1,h2,h3,h4,fun i hi=>?_,fun h0 k hm=>⟨Nat.lt_of_lt_of_le (h6 h0 k hm).1 hk.size,fun hq=>?_⟩,fun x hx=>(h7 x hx).on hk hn⟩
 ·obtain ⟨b,o,e,hc⟩:=h5 i hi;exact ⟨b,o,e,hc.kept hk ((h6 (by omega) b (by rw [e];simp [bO])).2)⟩
 ·rcases hn k hq with h8 | h8
  ·exact (h6 h0 k hm).2 h8
  ·have:=(h6 h0 k hm).1;omega
theorem so.runs {O:List Nat}{w:World}{ad:Addr}{n c:Nat}{K:List (bW × Value)}(h:so O w (some ad) n c K):∀ (j:Nat) (u:Value),(K.flatMap dk)[j]?=some u→w.cell? (ad.add j)=some u:=by
 cases K with
 | nil=>intro j u hj;simp at hj
 | cons x K =>
   obtain ⟨b,o,e,_⟩:=h.2.2.2.2.1 0 (by simp);cases e
   intro j u hj;rw [kO];refine oB (fun i hi=>?_) j u hj;obtain ⟨b',o',e,h1⟩:=h.2.2.2.2.1 i hi;cases e
   exact h1
theorem pK {O:List Nat}{w:World}{K:List (bW × Value)}(h:∀ x∈K,pM O w x.2 x.1.c):∀ v∈K.flatMap dk,v.oneCell'=true:=by
 intro v hv;obtain ⟨x,hx,hv⟩:=List.mem_flatMap.1 hv;exact jY x (h x hx).one v hv
def wo (At:World→List Nat→σ→Nat→Prop) (w:World) (O:List Nat) (s:σ) (m:Nat) (L:List bW) (r:Ending) (w':World):Prop :=
 ∃ v,r=.returned v∧bJ w.heap.size w' v L∧∃ O',At w' O' s m∧ab O w w'∧(∀ k∈O',k∈O∨w.heap.size≤k)∧∀ k,v.ownBlock=some k→k ∉ O'
theorem wg {w:World}{g B:Nat}{K:List (bW × Value)}(h:Bx w g 108 (K.flatMap dk)) (hB:B≤g) (hm:K.length≤maxLen):gB B w (.slice (some ⟨g,0,none⟩) K.length K.length) K :=
 ⟨eq K,.inr ⟨g,K.length,_,rfl,hB,h,Nat.le_refl _,hm,by rw [List.size_toArray,eq],by show ((K.flatMap dk).toArray.toList).take (K.length*4)=_;rw [← eq K,List.toList_toArray,List.take_length]⟩⟩
def xz (At:World→List Nat→σ→Nat→Prop) (one:σ→bW→bW × σ) (w:World) (O:List Nat) (s:σ) (m g:Nat) (M:List (bW × Value)) (iv:Value) (wr:World):Prop :=
 ∃ (i:Nat) (O':List Nat) (K:List (bW × Value)),iv=.int .i64 (i:Int)∧i≤M.length∧K.map Prod.fst=(cf one s ((M.map Prod.fst).take i)).1∧Hid (Bx wr g 108 ((K++M.drop i).flatMap dk))∧Hid (At wr O' (cf one s ((M.map Prod.fst).take i)).2 (m+(M.length - i)*196)) ∧
  Hid (ab O w wr)∧Hid (∀ k∈O',k∈O∨w.heap.size≤k)∧Hid (g ∉ O')∧Hid (w.heap.size≤g)∧Hid (∀ x∈K,aL (g+1) wr x.2 x.1.c∧∀ k,x.2.ownBlock=some k→k ∉ O')
theorem vG {M K:List (bW × Value)}{i:Nat}(hl:K.length=i) (hi:i < M.length):∃ h:i < (K++M.drop i).length,(K++M.drop i)[i]=M[i]:=by
 refine ⟨by simp [hl];omega,?_⟩;rw [List.getElem_append_right (by omega)];simp [hl]
theorem tM {M K:List (bW × Value)}{i:Nat}(hl:K.length=i) (hi:i < M.length) (y:bW × Value):(K++M.drop i).set i y=(K++[y])++M.drop (i+1):=by
 rw [List.set_append_right i _ (by omega),hl,Nat.sub_self,List.drop_eq_getElem_cons hi,List.set_cons_zero];simp
theorem we {M K:List (bW × Value)}{i:Nat}(one:σ→bW→bW × σ) (s:σ) (hi:i < M.length) (hK:K.map Prod.fst=(cf one s ((M.map Prod.fst).take i)).1) (v:Value) :
 (K++[((one (cf one s ((M.map Prod.fst).take i)).2 M[i].1).1,v)]).map Prod.fst=(cf one s ((M.map Prod.fst).take (i+1))).1∧(one (cf one s ((M.map Prod.fst).take i)).2 M[i].1).2=(cf one s ((M.map Prod.fst).take (i+1))).2:=by
 have hi':i < (M.map Prod.fst).length:=by simpa using hi
 rw [List.take_succ_eq_append_getElem hi',jo];simp [hK]
theorem tG (K:List (bW × Value)) (N:Nat):(eN K k0 N).map Prod.fst=eN (K.map Prod.fst) dp N:=by
 simp [eN,k0]
theorem oh {H:df}{P:PH σ}{At:World→List Nat→σ→Nat→Prop}(hH:bH H P At) (w:World) (O:List Nat) (s:σ) (m:Nat) (mo:Option Addr) (n c:Nat) (ks:List bW) (K:List (bW × Value)) (hS:so O w mo n c K) (hks:K.map Prod.fst=ks) (hx:∀ x∈K,x.1.n.length≤140737488351232∧∀ y∈x.1.c,y.p.length≤140737488351232) (hA:At w O s (m+6400)) :
 Calls Tryz.prog 150 #[H.a,.slice mo n c,.int .i64 32,.func (.func 151) #[H.a] #[]] w (wo At w O (aP P (cn P) dp s ks 32).2 m (aP P (cn P) dp s ks 32).1):=by
 have hn:=hS.1;subst hn;have hc:=hS.2.1;subst hks;have hcm:=hS.2.2.1;unfold maxLen at hcm;have HH:Hid (bH H P At):=hH;have e1:=hH.e1;have hO:=hH.lt hA;have k1:ab O w (w.alloc (.cells H.c.toArray 168)):=(ab.refl _ _).alloc _;have HK1:=aa k1;have hA1:At (w.alloc (.cells H.c.toArray 168)) O s (m+6400):=hH.kept hA (T:=[]) ((ab.refl _ _).alloc _) (by simp);have hS1:so O (w.alloc (.cells H.c.toArray 168)) mo K.length c K:=hS.on ((ab.refl _ _).alloc _) (fun k hk=>.inl hk);obtain ⟨hb0,hb1⟩:=hH.bd (K.length:Int) 32 hA (by omega) (by omega);have HA1:=aa hA1;have HS1:=aa hS1;have HS0:=aa hS;have HX:=aa hx;have HO:=aa hO;clear hA hA1 hS hS1 hH hx k1 hO;unfold df.a;by_cases h0:(P.upTo s (K.length:Int) 32).1=0
 ·have HQ:Hid (aP P (cn P) dp s (K.map Prod.fst) 32=([],(P.upTo s (K.length:Int) 32).2)):=by
   show aP P (cn P) dp s (K.map Prod.fst) 32=_;unfold aP;rw [List.length_map,h0];simp [eN,cf]
  have H0:=aa h0;clear h0 hb0 hb1;go_enter Tryz.func150,Tryz.ntmps150;(go_wp2_with fail);have cU:=HH.out.upTo _ O s (m+6399) (K.length:Int) 32 HA1.out;rw [H0.out] at cU;refine cU.mono ?_;clear cU;rintro _ w2 ⟨rfl,O2,A2,hk2,hn2⟩;have HA2:=aa A2;have HK2:=aa hk2;have HN2:=aa hn2;clear A2 hk2 hn2;(go_wp2_with fail);go_ret
  rw [HQ.out];refine ⟨_,rfl,bJ.nil _ _,O2,HH.out.le HA2.out (by omega),HK1.out.trans HK2.out (fun i hi=>.inl hi),fun k hk=>?_,fun k hk=>by cases hk⟩;rcases HN2.out k hk with h | h
  ·exact .inl h
  ·exact .inr (Nat.le_trans HK1.out.size h)
 ·obtain ⟨N,hN⟩:∃ N:Nat,(P.upTo s (K.length:Int) 32).1=(N:Int):=⟨(P.upTo s (K.length:Int) 32).1.toNat,by omega⟩;have hN1:0 < N:=by omega
  have hN2:N≤32:=by omega
  have hne:((N:Int)==0)=false:=by simp;omega
  have HQ:Hid (aP P (cn P) dp s (K.map Prod.fst) 32=cf (cn P) (P.upTo s (K.length:Int) 32).2 (eN (K.map Prod.fst) dp N)):=by
   show aP P (cn P) dp s (K.map Prod.fst) 32=_;unfold aP;rw [List.length_map,hN,Int.toNat_natCast]
  have HN:=aa hN;clear h0 hb0 hb1 hN;go_enter Tryz.func150,Tryz.ntmps150;(go_wp2_with fail);have cU:=HH.out.upTo _ O s (m+6399) (K.length:Int) 32 HA1.out;rw [HN.out] at cU;refine cU.mono ?_;clear cU;rintro _ w2 ⟨rfl,O2,A2,hk2,hn2⟩;obtain ⟨i0,hi,hz0,hz1,hz2⟩:=info_parts jR;obtain ⟨w3,hmk,hO3,hg3⟩:=run_makeSlice_full (P:=Tryz.prog) w2 w2.heap.size 32 108 i0 (.agg #[.int .i64 0,.int .i64 0,.string ⟨#[]⟩,.slice none 0 0]) 4 Tryz.underlying32 hi hz0 hz1 .i64 .i64 N (by omega) (by rw [hz2];omega) (by unfold maxLen;omega) (Nat.le_refl _);have k23:ab [] w2 w3:=(ab.refl [] w2).grown hg3 (fun k hk=>by cases hk);have hg2:w2.heap.size ∉ O2:=fun hm=>by have:=HH.out.lt A2 _ hm;omega
  have hB3:Bx w3 w2.heap.size 108 ((List.replicate N (dk k0)).flatten):=by
   have h:=pr hO3;rw [show (madeCells (Value.agg #[.int .i64 0,.int .i64 0,.string ⟨#[]⟩,.slice none 0 0]).cells (N*4)).toList=(List.replicate N (dk k0)).flatten from lN #[.int .i64 0,.int .i64 0,.string ⟨#[]⟩,.slice none 0 0] N] at h;exact h
  have hS3:so O2 w3 mo K.length c K:=(HS1.out.on hk2 hn2).on (k23.mono (by simp)) (fun k hk=>.inl hk)
  have hsrc:∀ ad,mo=some ad→∀ j v,((K.take N).flatMap dk)[j]?=some v→w3.cell? (ad.add j)=some v:=by
   intro ad e j v hv;subst e;refine hS3.runs j v ?_;rw [← List.take_append_drop N K,List.flatMap_append,List.getElem?_append_left (List.getElem?_eq_some_iff.1 hv).1];exact hv
  have hnil:mo=none→(K.take N).flatMap dk=[]:=fun e=>by
   have:=hS3.2.2.2.1 e
   have:K=[]:=List.eq_nil_of_length_eq_zero (by omega)
   subst this;simp
  have hcs:((K.take N).flatMap dk).length=Nat.min K.length N*4:=by rw [eq,List.length_take,Nat.min_comm]
  have hfit:((K.take N).flatMap dk).length≤((List.replicate N (dk k0)).flatten).length:=by
   rw [eq,List.length_take];simp [j0];omega
  have HU:Hid (Tryz.prog.underlying 32=some (.slice 108)):=Tryz.underlying32;have HI:=aa rC;have HB3:=aa hB3;have HSR:=aa hsrc;have HNI:=aa hnil;have HCS:=aa hcs;have HFI:=aa hfit;have HON:=aa (pK (K:=K.take N) (fun x hx=>hS3.2.2.2.2.2.2 x (List.mem_of_mem_take hx)));have HA2:=aa A2;have HK2:=aa (HK1.out.trans hk2 (fun i hi=>.inl hi));have HK23:=aa k23
  have HN2:Hid (∀ k∈O2,k∈O∨w.heap.size≤k):=fun k hk=>by
   rcases hn2 k hk with h | h
   ·exact .inl h
   ·exact .inr (Nat.le_trans HK1.out.size h)
  have HG2:=aa hg2;have hw2:=HK2.out.size;clear hB3 hsrc hnil hcs hfit A2 hk2 hn2 k23 hg2 hO3 hg3 hS3 hi hz0 hz1 hz2;have CP:=aa (fun ops rest a Q dst d s' ty ps af=>jM (P:=Tryz.prog) (ops:=ops) (rest:=rest) (a:=a) (Q:=Q) (dst:=dst) (d:=d) (s:=s') (sT:=32) (ty:=ty) (ps:=ps) (af:=af) (dCap:=N) (sCap:=c) HU.out HI.out HB3.out HCS.out HSR.out HNI.out HFI.out HON.out);go_wp2_with ((with_reducible refine CP.out _ _ _ _ _ _ _ _ _ _ ?_ ?_ ?_);rfl;rfl;intro w4 HB4 HK4)
  have hB4:Bx w4 w2.heap.size 108 ((eN K k0 N).flatMap dk):=by
   have h:=HB4.out;rw [mZ dk 4 j0] at h;exact h
  have hX:∀ x∈eN K k0 N,(x.1.n.length≤140737488351232∧∀ y∈x.1.c,y.p.length≤140737488351232)∧pM O w x.2 x.1.c:=fun x hx=>by
   rcases List.mem_append.1 hx with h | h
   ·exact ⟨HX.out x (List.mem_of_mem_take h),HS0.out.2.2.2.2.2.2 x (List.mem_of_mem_take h)⟩
   ·rw [(List.mem_replicate.1 h).2];exact ⟨by simp [k0,dp],pM.nil _ _⟩
  obtain ⟨M,hM⟩:∃ M,M=eN K k0 N:=⟨_,rfl⟩;rw [← hM] at hB4 hX;have hML:M.length=N:=by rw [hM,jE]
  have HM:=aa hM;have HML:=aa hML;have HXM:=aa hX;obtain ⟨s2,hs2⟩:∃ s2,s2=(P.upTo s (K.length:Int) 32).2:=⟨_,rfl⟩;have HS2:=aa hs2;have hA2:=HA2.out;rw [← hs2] at hA2
  have hst:xz At (cn P) w O s2 m w2.heap.size M (.int .i64 0) w4 :=
   ⟨0,O2,[],rfl,Nat.zero_le _,rfl,by show Bx _ _ _ _;simpa using hB4,HH.out.kept (HH.out.kept (HH.out.le hA2 (by omega)) HK23.out (by simp)) HK4.out (by simpa using HG2.out),(HK2.out.trans HK23.out (by simp)).trans HK4.out (by simp;omega),HN2.out,HG2.out,hw2,(fun x hx=>by cases hx)⟩
  have HST:=aa hst;clear hB4 hX hM hML hst HB4 HB3 HSR HNI HCS HFI HON CP hs2 hA2;go_loopw [28] (fun iv wr=>xz At (cn P) w O s2 m w2.heap.size M iv wr) (fun iv _=>N - (intOf iv).toNat)
  case atStart=>exact HST.out
  case round =>
   obtain ⟨i,Oi,Ki,rfl,hi,hKi,HBi,HAi,HKi,HNi,HGi,HWi,HOi⟩:=hrel;rw [HML.out] at hi;have HFi:=aa hKi;by_cases hlt:i < N
   ·have hlt':(i:Int) < (N:Int):=by omega
    have hiM:i < M.length:=by rw [HML.out];exact hlt
    have hKl:Ki.length=i:=by
     have h:=congrArg List.length hKi;rw [ex,List.length_map,List.length_take,List.length_map] at h;omega
    obtain ⟨hir,her⟩:=vG hKl hiM;have hel:=HBi.out.elem j0 hir;rw [her] at hel;have HEL:=aa hel;have HKL:=aa hKl;have HT:Hid (aq Tryz.prog 108 (dk M[i]).length):=eZ;have hdec:decide ((i:Int) < (N:Int))=true:=by simp;omega
    have HKa:Hid (ab [] wr (wr.alloc (.cells #[.int .i64 0,.int .i64 0,.string ⟨#[]⟩,.slice none 0 0] 108))):=(ab.refl _ _).alloc _;have HBa:Hid (Bx (wr.alloc (.cells #[.int .i64 0,.int .i64 0,.string ⟨#[]⟩,.slice none 0 0] 108)) wr.heap.size 108 (dk k0)):=Bx.new wr _ (dk k0);have HLa:Hid ((dk M[i]).length=(dk k0).length):=rfl;have hXi:=HXM.out M[i] (List.getElem_mem hiM);have HXi:=aa hXi;have HOa:=aa (jY M[i] hXi.2.one);have hgw:w2.heap.size < wr.heap.size:=HBi.out.lt;clear hKi hXi hKl;go_upto_region 9 with (first | ((with_reducible refine gb HEL.out HT.out ?_ ?_);rfl) | ((with_reducible refine ac HBa.out HLa.out HOa.out HT.out ?_ ?_ ?_);rfl;rfl;intro w5 HB5 HK5))
    have hlOi:=HH.out.lt HAi.out;have hwO:wr.heap.size ∉ Oi:=fun hm=>by have:=hlOi _ hm;omega
    have k5:ab [wr.heap.size] wr w5:=(HKa.out.mono (by simp)).trans HK5.out (by simp);have hA5:At w5 Oi (cf (cn P) s2 ((M.map Prod.fst).take i)).2 (m+(M.length - (i+1))*196+196):=HH.out.le (HH.out.kept HAi.out k5 (by simpa using hwO)) (by omega);have hB5:Bx w5 w2.heap.size 108 ((Ki++M.drop i).flatMap dk):=HBi.out.kept k5 (by simp;omega);have k50:ab O w w5:=HKi.out.trans k5 (by simp;omega);have cC:=nW HH.out w5 Oi _ _ M[i].1 M[i].2 (HXi.out.2.on k50 HNi.out) HXi.out.1.1 HXi.out.1.2 hA5
    have HO5:Hid (∀ x∈Ki,aL (w2.heap.size+1) w5 x.2 x.1.c∧∀ k,x.2.ownBlock=some k→k ∉ Oi):=fun x hx =>
     ⟨k5.ownsRow (HOi.out x hx).1 (fun k hk hm=>by simp at hm;have:=(World.ownsRow.lt (HOi.out x hx).1 k hk).2;omega),(HOi.out x hx).2⟩
    have HB5':=aa hB5;have HIR:=aa hir;have HK50:=aa k50;have h5s:=k5.size;have HC:=aa cC;clear hA5 hB5 hel her hir k5 hwO hlOi HEL HBi HAi k50 cC HOi;(go_wp2_with (first | ((with_reducible refine ak HB5.out HT.out ?_ ?_);rfl)));have cC:=HC.out;unfold df.a at cC;refine cC.mono ?_;clear cC HC;rintro _ w6 ⟨v6,rfl,hO6,O6,A6,hk6,hn6,hq6⟩;have hB6:=aa (HB5'.out.kept hk6 HGi.out);have HO6:=aa (jY ((cn P (cf (cn P) s2 ((M.map Prod.fst).take i)).2 M[i].1).1,v6) (uN hO6));have HT6:Hid (aq Tryz.prog 108 (dk ((cn P (cf (cn P) s2 ((M.map Prod.fst).take i)).2 M[i].1).1,v6)).length):=eZ;have HA6:=aa A6;have HK6:=aa hk6;have HN6:=aa hn6;have HW6:=aa hO6;have HQ6:=aa hq6;clear A6 hk6 hn6 hO6 hq6;have SE:=aa (fun ops rest a Q d x y ty ps af=>jK (P:=Tryz.prog) (ops:=ops) (rest:=rest) (a:=a) (Q:=Q) (d:=d) (x:=x) (y:=y) (ty:=ty) (ps:=ps) (af:=af) j0 hB6.out HIR.out HO6.out HT6.out);(go_wp2_with ((with_reducible refine SE.out _ _ _ _ _ _ _ _ _ _ ?_ ?_ ?_);rfl;rfl;intro w7 HB7 HK7));obtain ⟨nx1,nx2⟩:=we (cn P) s2 hiM HFi.out v6
    have hg6:w2.heap.size ∉ O6:=fun hm=>by
     rcases HN6.out _ hm with h | h
     ·exact HGi.out h
     ·have:=HB5'.out.lt;omega
    have hB7:=HB7.out;rw [tM HKL.out hiM] at hB7;have hA7:=HH.out.kept HA6.out HK7.out (by simpa using hg6);rw [nx2] at hA7
    have hO7:∀ x∈Ki++[((cn P (cf (cn P) s2 ((M.map Prod.fst).take i)).2 M[i].1).1,v6)],aL (w2.heap.size+1) w7 x.2 x.1.c∧∀ k,x.2.ownBlock=some k→k ∉ O6:=fun x hx=>by
     have hoff:∀ k,w2.heap.size+1≤k→k ∉ [w2.heap.size]:=fun k hk hm=>by simp at hm;omega
     rcases List.mem_append.1 hx with h | h
     ·obtain ⟨h1,h2⟩:=HO5.out x h;have h3:=HK6.out.ownsRow h1 (fun k hk=>h2 k hk);refine ⟨HK7.out.ownsRow h3 (fun k hk=>hoff k (World.ownsRow.lt h3 k hk).1),fun k hk hm=>?_⟩;rcases HN6.out k hm with h4 | h4
      ·exact h2 k hk h4
      ·have:=(World.ownsRow.lt h1 k hk).2;omega
     ·obtain rfl:=List.mem_singleton.1 h;have h1:=HW6.out;have h3:aL (w2.heap.size+1) w6 v6 _:=h1.mono (by omega);exact ⟨HK7.out.ownsRow h3 (fun k hk=>hoff k (World.ownsRow.lt h3 k hk).1),HQ6.out⟩
    have hres:xz At (cn P) w O s2 m w2.heap.size M (.int .i64 ((i+1:Nat):Int)) w7 :=
     ⟨i+1,O6,_,rfl,by omega,nx1,hB7,hA7,(HK50.out.trans HK6.out (fun k hk=>HNi.out k hk)).trans HK7.out (by simp;have:=HWi.out;omega),(fun k hk=>by
      rcases HN6.out k hk with h | h
      ·exact HNi.out k h
      ·exact .inr (Nat.le_trans HK50.out.size h)),hg6,HWi.out,hO7⟩
    go_roundw
    case rel=>exact hres
    case measure=>simp [intOf];omega
   ·have hdec:decide ((i:Int) < (N:Int))=false:=by simp;omega
    have hiN:i=N:=by omega
    subst hiN;clear hKi;(go_wp2_with fail);go_ret
    rw [HQ.out];have hB:=HBi.out;have hA:=HAi.out;have hF:=HFi.out;rw [← HML.out,List.drop_length,List.append_nil] at hB;rw [← HML.out,← List.length_map (f:=Prod.fst),List.take_length] at hA hF;rw [← tG,← HM.out,← HS2.out]
    have hlen:Ki.length=i:=by
     have h:=congrArg List.length hF;rw [ex,List.length_map,List.length_map,HML.out] at h;exact h
    have hown:=wg hB HWi.out (by rw [hlen];unfold maxLen;omega);rw [hlen] at hown;exact ⟨_,rfl,⟨Ki,hown,fun x hx=>(HOi.out x hx).1.mono (by have:=HWi.out;omega),hF⟩,Oi,HH.out.le hA (by omega),HKi.out,HNi.out,fun k hk=>by cases hk;exact HGi.out⟩
end Go.Proofs.YtakafmejllilnaaGreat
namespace Go.Proofs.YtakafmejllilnaaGreat
open Go.RowKit
variable {σ : Type}
def au (v:Vt) (u:Value):List Value:=[.int .i64 v.c,.int .i64 v.s,.int .i64 v.r,.string (ae v.p),.int .u64 v.d,u,.int .i64 v.m]
def aA:List Value:=[.int .i64 0,.int .i64 0,.int .i64 0,.string ⟨#[]⟩,.int .u64 0,.slice none 0 0,.int .i64 0]
theorem aQ (x:Vt) (v:Value) (hv:v.oneCell'=true):∀ u∈au x v,u.oneCell'=true:=by
 intro u hu;simp [au] at hu
 rcases hu with rfl | rfl | rfl | rfl | rfl | rfl | rfl
 all_goals first | rfl | exact hv
structure eb (O:List Nat) (w:World) (x:Vt) (u:Value):Prop where
 u:∃ uo un uc KK,u=.slice uo un uc∧so O w uo un uc KK∧KK.map Prod.fst=x.k
 p:x.p.length≤140737488351232
 k:∀ y∈x.k,y.n.length≤140737488351232∧∀ z∈y.c,z.p.length≤140737488351232
def eG (At:World→List Nat→σ→Nat→Prop) (w:World) (O:List Nat) (s:σ) (m:Nat) (x:Vt) (r:Ending) (w':World):Prop :=
 ∃ v,r=.returned (.agg (au x v).toArray)∧bJ w.heap.size w' v x.k∧∃ O',At w' O' s m∧ab O w w'∧(∀ k∈O',k∈O∨w.heap.size≤k)∧∀ k,v.ownBlock=some k→k ∉ O'
theorem fA {B:Nat}{w:World}{v:Value}{L:List bW}(h:bJ B w v L):∃ ao n c,v=.slice ao n c:=h.ko.one
theorem bJ.off {B:Nat}{S:List Nat}{w w':World}{v:Value}{L:List bW}(h:bJ B w v L) (hk:ab S w w') (hS:∀ k∈S,k < B):bJ B w' v L:=by
 obtain ⟨K,h1,h2,h3⟩:=h;exact ⟨K,hk.ownsRow h1 (fun k hk' hm=>by have:=(World.ownsRow.lt h1 k hk').1;have:=hS k hm;omega),fun x hx=>hk.ownsRow (h2 x hx) (fun k hk' hm=>by have:=(World.ownsRow.lt (h2 x hx) k hk').1;have:=hS k hm;omega),h3⟩
theorem vN {w w':World}{B b j:Nat}{v u:Value}{L:List bW}(h:bJ B w v L) (hb:b < B) (hk:ab [] w w'):bJ b.succ (w'.setCell ⟨b,j,none⟩ u) v L :=
 (h.off (show ab [b] w (w'.setCell ⟨b,j,none⟩ u) from (hk.mono (by simp)).trans (aj w' b j u) (by simp)) (by simpa using hb)).mono (by omega)
theorem eD {w w1 w':World}{O O1:List Nat}{H:df}{xs zs ns:List Value}{b:Nat}{P:PH σ}{At:World→List Nat→σ→Nat→Prop}(hH:bH H P At) (h:Fn 34 w O H xs zs b ns w1 O1) {s:σ}{m:Nat}(hA:At w1 O1 s m) (hk:ab [w.heap.size+2] w1 w')
 (x:Vt) (v:Value) {B:Nat}{e:Ending}(he:e=.returned (.agg (au x v).toArray)) (hO:bJ B w1 v x.k) (hB:w.heap.size+3≤B) (hv:∀ k,v.ownBlock=some k→k ∉ O1):eG At w O s m x e w':=by
 have hz:w.heap.size+2 ∉ O1:=fun hm=>by
  rcases h.f.o _ hm with h1 | h1
  ·have:=h.f.o0 _ h1;omega
  ·omega
 refine ⟨v,he,(hO.off hk (by simp;omega)).mono (by omega),O1,hH.kept hA hk (by simpa using hz),h.f.k.trans hk (by simp),fun k hk=>?_,hv⟩;rcases h.f.o k hk with h1 | h1
 ·exact .inl h1
 ·exact .inr (by omega)
end Go.Proofs.YtakafmejllilnaaGreat
