/-
  Texts laid as one.
-/
import Derived.Test.YtakafmejllilnaaGreatW5e
import Derived.Test.YtakafmejllilnaaGreatW7e
import Derived.Test.YtakafmejllilnaaGreatF13e
import Derived.Test.YtakafmejllilnaaGreatW0e
import Derived.Test.YtakafmejllilnaaGreatF12e
import Derived.Laws.AppendOwn
/-
 Requests and verdicts that came in,or were told,as what is gone through;their bytes are bytes. (Cut out of EnBa0,EnOn0,EnAm0.)
-/
namespace Go.Proofs.YtakafmejllilnaaGreat
open Go.RowKit
theorem kN {B:Nat}{w:World}{q:Rq}{vo:Option Addr}{vn vc:Nat}(h:bN B w (.slice vo vn vc) q.c) (hq:eF q):dw [] w ⟨q,vo,vn,vc⟩:=by
 obtain ⟨ao,n,c,e,hS,h0⟩:=h.chV;cases e
 have ht:∀ t:List UInt8,dY t=true→t.length≤140737488351232:=fun t ht=>by unfold dY at ht;simp at ht;omega
 have hall:q.n.length≤140737488351232∧q.f.length≤140737488351232∧q.p.length≤140737488351232∧∀ y∈q.c,y.p.length≤140737488351232:=by
  obtain ⟨_,h2⟩:=hq;unfold jW at h2;split at h2
  ·rw [h2];simp
  split at h2
  ·have h3:=ht _ h2.1;rw [← h2.2];refine ⟨h3,?_⟩;simp
  split at h2
  ·have h3:=ht _ h2.1.2.2.2.1;have h4:∀ y∈q.c,y.p.length≤140737488351232:=fun y hy=>ht _ (h2.1.2.2.2.2.2 y hy).1;rw [← h2.2];exact ⟨by simp,h3,by simp,h4⟩
  split at h2
  ·have h3:=ht _ h2.1.2.2;rw [← h2.2];exact ⟨by simp,by simp,h3,by simp⟩
  split at h2
  ·rw [← h2.2];simp
  split at h2
  ·rw [← h2.2];simp
  ·rw [← h2.2];simp
 exact ⟨hS,h0,(fun _ _ _ hm=>by cases hm),hall.1,hall.2.1,hall.2.2.1,hall.2.2.2⟩
theorem gl (t:List UInt8) (h:dY t=true):bh (bT t)∧(bT t).length≤261:=by
 have hl:t.length≤255:=by unfold dY at h;simpa using h
 have he:=bn 5 (t.length:Int);refine ⟨(eV _ (by omega) (by omega)).append (lm _),?_⟩;unfold bT;rw [List.length_append,fN];unfold ag;omega
theorem aO (n:Int) (h:aj n=true):bh (ag n)∧(ag n).length≤6:=by
 have h1:=(aG n).1 h;exact ⟨eV n h1.1 h1.2,bn 5 n⟩
theorem bl {a b:List Int}{n m:Nat}(h:bh a∧a.length≤n) (k:bh b∧b.length≤m):bh (a++b)∧(a++b).length≤n+m :=
 ⟨h.1.append k.1,by rw [List.length_append];omega⟩
theorem tN (c:Ch) (h:jo c):bh (bC c)∧(bC c).length≤270:=by
 have h1:=gl c.p h.1;have h2:bh (bF c.g)∧(bF c.g).length≤1:=⟨by unfold bF;intro x hx;simp at hx;subst hx;cases c.g <;> simp,by simp [bF]⟩
 have h3:bh (if c.g=true then [] else dA 8 c.d)∧(if c.g=true then [] else dA 8 c.d).length≤8:=by
  split
  ·exact ⟨bs,by simp⟩
  ·exact ⟨fK 8 c.d,by rw [bp];omega⟩
 exact bl (bl h1 h2) h3
theorem ng {α:Type}(b:α→List Int) (m:Nat) (L:List α) (h:∀ x∈L,bh (b x)∧(b x).length≤m):bh (L.flatMap b)∧(L.flatMap b).length≤L.length*m:=by
 induction L with
 | nil=>exact ⟨bs,by simp⟩
 | cons x L ih =>
   have h1:=bl (h x (by simp)) (ih (fun y hy=>h y (by simp [hy])));refine ⟨by simpa using h1.1,?_⟩;have:=h1.2
   simp only [List.flatMap_cons,List.length_cons,Nat.succ_mul];omega
theorem mu (L:List Ch) (h:eZ L):bh (np L)∧(np L).length≤17286:=by
 have h1:=ng bC 270 L (fun c hc=>tN c (h.2 c hc));have h0:aj (L.length:Int)=true:=(aG _).2 (by have:=h.1;omega);have h2:=bl (aO (L.length:Int) h0) h1;unfold np bL;rw [if_pos h.1];exact ⟨h2.1,by have:=h2.2;have:=h.1;omega⟩
theorem po {r:Rq}(h:eF r):bh (bR r)∧(bR r).length≤20000:=by
 rw [j1 h];obtain ⟨⟨hk,_⟩,h2⟩:=h;have h1:=aO r.k hk
 have h3:bh (uJ r.k r)∧(uJ r.k r).length≤19000:=by
  unfold jW at h2;unfold uJ;split
  ·exact ⟨bs,by simp⟩
  rename_i n0
  rw [if_neg n0] at h2;split
  ·rename_i n1
   rw [if_pos n1] at h2;have:=gl _ h2.1
   exact ⟨this.1,by omega⟩
  rename_i n1
  rw [if_neg n1] at h2;split
  ·rename_i n2
   rw [if_pos n2] at h2;have:=bl (aO _ h2.1.1) (bl (aO _ h2.1.2.1) (bl (aO _ h2.1.2.2.1) (bl (gl _ h2.1.2.2.2.1) (mu _ h2.1.2.2.2.2))))
   exact ⟨this.1,by have:=this.2;omega⟩
  rename_i n2
  rw [if_neg n2] at h2;split
  ·rename_i n4
   rw [if_pos n4] at h2;have:=bl (aO _ h2.1.1) (bl (aO _ h2.1.2.1) (gl _ h2.1.2.2))
   exact ⟨this.1,by have:=this.2;omega⟩
  rename_i n4
  rw [if_neg n4] at h2;split
  ·rename_i n5
   rw [if_pos n5] at h2;have:=bl (aO _ h2.1.1) (bl (aO _ h2.1.2.1) (bl (aO _ h2.1.2.2.1) (aO _ h2.1.2.2.2)))
   exact ⟨this.1,by have:=this.2;omega⟩
  rename_i n5
  rw [if_neg n5] at h2;split
  ·rename_i n6
   rw [if_pos n6] at h2;have:=bl (aO _ h2.1.1) (bl (aO _ h2.1.2.1) (aO _ h2.1.2.2))
   exact ⟨this.1,by have:=this.2;omega⟩
  ·rename_i n6
   rw [if_neg n6] at h2;have:=bl (aO _ h2.1.1) (aO _ h2.1.2)
   exact ⟨this.1,by have:=this.2;omega⟩
 have h4:=bl h1 h3;exact ⟨h4.1,by have:=h4.2;omega⟩
theorem iI {w:World}{b o:Nat}{v:Value}(h:w.cell? ⟨b,o,none⟩=some v):b < w.heap.size:=by
 unfold World.cell? at h;by_cases hlt:b < w.heap.size
 ·exact hlt
 ·rw [show w.heap[(⟨b,o,none⟩:Addr).block]?=none from Array.getElem?_eq_none (by show w.heap.size≤b;omega)] at h;simp at h
theorem q6 {w:World}{v:Value}{L:List Ch}(h:uD w v L):ph [] w v L:=by
 obtain ⟨ao,n,c,e,hS,h0⟩:=h;refine ⟨ao,n,c,e,hS,h0,fun hn k hk=>⟨?_,by simp⟩⟩;obtain ⟨b,o,rfl,hc⟩:=hS.some hn;simp [bO] at hk
 subst hk;exact iI (hc 0 (by rw [hS.1];exact hn)).c0
theorem um {w:World}{v:Vt}{u:Value}(h:ku w u v.k) (hi:xx v):bX [] w v u:=by
 obtain ⟨ao,n,c,K,e,hS,hK,h0⟩:=h;refine ⟨⟨ao,n,c,K,e,⟨hS.1,hS.2.1,hS.2.2.1,h0,hS.2.2.2.1,fun hn k hk=>⟨?_,by simp⟩,fun x hx=>q6 (hS.2.2.2.2 x hx)⟩,hK⟩,hi.1,fun y hy=>⟨(hi.2.2.1 y hy).1,fun z hz=>?_⟩⟩
 ·obtain ⟨b,o,rfl,hc⟩:=hS.some hn;simp [bO] at hk
  subst hk;exact iI (hc 0 (by rw [hS.1];exact hn)).c0
 ·exact ((hi.2.2.1 y hy).2.2 z hz).1
theorem wQ {v:Vt}(h:xx v):lU v:=⟨h.2.2.2.2,fun x hx c hc=>((h.2.2.1 x hx).2.2 c hc).2⟩
theorem qB {r:Rq}(h:ff r=true):go ([],0) r=(bR r,0):=by rw [oZ,if_pos h]
theorem pR {r:Rq}(h:¬ ff r=true):go ([],0) r=([],1):=by rw [oZ,if_neg h]
theorem rt {v:Vt}(h:i4 v=true):es ([],0) v=(bV v,0):=by rw [nC,if_pos h]
theorem pB {v:Vt}(h:¬ i4 v=true):es ([],0) v=([],1):=by rw [nC,if_neg h]
theorem uQ (x:ch) (h:kh x):bh (bK x)∧(bK x).length≤17560:=by
 have h1:=bl (bl (bl (aO _ h.1) (aO _ h.2.1)) (gl _ h.2.2.1)) (mu _ h.2.2.2);exact ⟨h1.1,by have:=h1.2;unfold bK;omega⟩
theorem rN (L:List ch) (h:gu L):bh (qy L)∧(qy L).length≤600000:=by
 have h1:=ng bK 17560 L (fun c hc=>uQ c (h.2 c hc));have h0:aj (L.length:Int)=true:=(aG _).2 (by have:=h.1;omega);have h2:=bl (aO (L.length:Int) h0) h1;unfold qy bL;rw [if_pos h.1];exact ⟨h2.1,by have:=h2.2;have:=h.1;omega⟩
theorem ua {v:Vt}(h:fi v):bh (bV v)∧(bV v).length≤1000000:=by
 rw [i5 h];obtain ⟨⟨hk,_⟩,h2⟩:=h;have h1:=aO v.c hk
 have h3:bh (bG v.c v)∧(bG v.c v).length≤900000:=by
  unfold sn at h2;unfold bG;split
  ·rename_i n1
   rw [if_pos n1] at h2;have:=aO _ h2.1
   exact ⟨this.1,by omega⟩
  rename_i n1
  rw [if_neg n1] at h2;split
  ·rename_i n2
   rw [if_pos n2] at h2;have:=aO _ h2.1
   exact ⟨this.1,by omega⟩
  rename_i n2
  rw [if_neg n2] at h2;split
  ·rename_i n3
   rw [if_pos n3] at h2;have:=bl (gl _ h2.1.1) (aO _ h2.1.2)
   exact ⟨this.1,by have:=this.2;omega⟩
  rename_i n3
  rw [if_neg n3] at h2;split
  ·rename_i n9
   rw [if_pos n9] at h2;have:=bl (gl _ h2.1.1) (bl (⟨fK 8 v.d,by rw [bp];exact Nat.le_refl _⟩:bh (dA 8 v.d)∧(dA 8 v.d).length≤8) (aO _ h2.1.2.2))
   exact ⟨this.1,by have:=this.2;omega⟩
  rename_i n9
  rw [if_neg n9] at h2;split
  ·rename_i n10
   rw [if_pos n10] at h2;have:=gl _ h2.1
   exact ⟨this.1,by omega⟩
  rename_i n10
  rw [if_neg n10] at h2;split
  ·rename_i n11
   rw [if_pos n11] at h2;have:=rN _ h2.1
   exact ⟨this.1,by omega⟩
  rename_i n11
  rw [if_neg n11] at h2;split
  ·rename_i n12
   rw [if_pos n12] at h2;have:=aO _ h2.1
   exact ⟨this.1,by omega⟩
  ·exact ⟨bs,by simp⟩
 have h4:=bl h1 h3;exact ⟨h4.1,by have:=h4.2;omega⟩
theorem aQ {S:List Nat}{a w:World}{b o:Nat}{cs:List Value}(h:a.rangeAt b o cs) (k:ab S a w) (hb:b ∉ S):w.rangeAt b o cs:=fun j v hv=>k.cell (h j v hv) hb
theorem Bx.part {w:World}{b:Nat}{T:TypeId}{pre cs post:List Value}(h:Bx w b T (pre++(cs++post))):w.rangeAt b pre.length cs:=fun j v hv=>by
 refine h.cell (pre.length+j) ?_
 have hj:j < cs.length:=by
  by_cases hl:j < cs.length
  ·exact hl
  ·rw [List.getElem?_eq_none (by omega)] at hv;cases hv
 rw [List.getElem?_append_right (by omega),Nat.add_sub_cancel_left,List.getElem?_append_left hj];exact hv
theorem aT {P:Program}{ops:Array Oper}{rest:List Oper}{a:Act}{w:World}{Q:Exit→Act→World→Prop}{d:Option Tmp}{x:Operand}{T ty:TypeId}{ps:String}{af:Array Edge}
 {b o:Nat}{cs:List Value}(hc:w.rangeAt b o cs) (hT:av P T cs.length) (hx:a.eval x=.pointer (some ⟨b,o,none⟩))
 (h:wpList P ops Q rest (a.put d (.agg cs.toArray)) w):wpList P ops Q (⟨d,.load T x,ty,ps,af,none⟩ :: rest) a w:=by
 obtain ⟨D,hu,hd,hi⟩:=hT;exact wpList_load_mid rfl _ x rfl b o hx cs D hc hu hd hi h
theorem az {P:Program}{ops:Array Oper}{rest:List Oper}{a:Act}{w:World}{Q:Exit→Act→World→Prop}{d:Option Tmp}{x:Operand}{T ty:TypeId}{ps:String}{af:Array Edge}{g:Nat × Bool}
 {b o:Nat}{cs:List Value}(hc:w.rangeAt b o cs) (hT:av P T cs.length) (hw:Region.wanted ⟨d,.load T x,ty,ps,af,some g⟩ (yielded ops a.tmps)=true) (hx:a.eval x=.pointer (some ⟨b,o,none⟩))
 (h:wpList P ops Q rest (a.put d (.agg cs.toArray)) w):wpList P ops Q (⟨d,.load T x,ty,ps,af,some g⟩ :: rest) a w:=by
 obtain ⟨D,hu,hd,hi⟩:=hT;unfold wpList;rw [if_pos hw];exact Or.inl (wp_load_mid T x rfl b o hx cs D hc hu hd hi h)
theorem Bx.mid {w:World}{b:Nat}{T:TypeId}{pre old post ds:List Value}(h:Bx w b T (pre++(old++post))) (hl:old.length=ds.length):Bx (w.setCells b pre.length ds) b T (pre++(ds++post)):=by
 have h1:=eJ b ds pre old post w T (by rw [List.append_assoc];exact h) hl;unfold Bx;rw [h1,List.append_assoc]
theorem Bx.thereM {w:World}{b:Nat}{T:TypeId}{pre old post:List Value}(h:Bx w b T (pre++(old++post))):w.there b pre.length old.length:=fun j hj=>by
 refine ⟨?_,h.froz _⟩;rw [h.part j (old[j]'hj) (List.getElem?_eq_getElem hj)];rfl
theorem eo {P:Program}{ops:Array Oper}{rest:List Oper}{a:Act}{w:World}{Q:Exit→Act→World→Prop}{d:Option Tmp}{x y:Operand}{T ty T0:TypeId}{ps:String}{af:Array Edge}
 {b o:Nat}{pre old post ds:List Value}(hc:Bx w b T0 (pre++(old++post))) (ho:o=pre.length) (hl:old.length=ds.length) (h1:∀ v∈ds,v.oneCell'=true) (hT:av P T ds.length)
 (hx:a.eval x=.pointer (some ⟨b,o,none⟩)) (hy:a.eval y=.agg ds.toArray) (h:∀ w',Hid (Bx w' b T0 (pre++(ds++post)))→Hid (ab [b] w w')→wpList P ops Q rest (a.put d undef) w'):wpList P ops Q (⟨d,.store T x y,ty,ps,af,none⟩ :: rest) a w:=by
 subst ho;obtain ⟨D,hu,hd,hi⟩:=hT;exact wpList_store_mid rfl _ x y rfl b pre.length ds.toArray hx hy (by rw [List.size_toArray,← hl];exact hc.thereM) (by rw [List.size_toArray];exact hi) (all_oneCell_toArray h1) (h _ (aa (hc.mid hl)) (dh (by simp) _ _ (ab.refl _ _)))
structure Vm where
 s:Int
 b:Int
 x:Rm
def Vm.v (y:Vm):Vo:=⟨y.s,y.b,y.x.r⟩
def db (y:Vm):List Value:=[.int .i64 y.s,.int .i64 y.b,.int .i64 y.x.r.k,.string (ac y.x.r.n),.int .i64 y.x.r.s,.int .i64 y.x.r.q,.int .i64 y.x.r.b,.string (ac y.x.r.f),.slice y.x.mo y.x.m y.x.mc,.string (ac y.x.r.p),.int .i64 y.x.r.fr,.int .i64 y.x.r.mn,.int .i64 y.x.r.mb]
theorem eW (y:Vm):(db y).length=13:=rfl
theorem qT (y:Vm):db y=[.int .i64 y.s,.int .i64 y.b]++(aR y.x++[]):=rfl
theorem jM (x:Rm):∀ v∈aR x,v.oneCell'=true:=by
 intro v hv;simp [aR] at hv
 rcases hv with rfl | rfl | rfl | rfl | rfl | rfl | rfl | rfl | rfl | rfl | rfl <;> rfl
theorem iR (y:Vm):∀ v∈db y,v.oneCell'=true:=by
 intro v hv;simp [db] at hv
 rcases hv with rfl | rfl | rfl | rfl | rfl | rfl | rfl | rfl | rfl | rfl | rfl | rfl | rfl <;> rfl
theorem dw.kept {a w:World}{x:Rm}(h:dw [] a x) (k:ab [] a w):dw [] w x:=h.on k (fun k hk=>by cases hk)
theorem bX.kept {a w:World}{x:Vt}{u:Value}(h:bX [] a x u) (k:ab [] a w):bX [] w x u:=h.on k (fun k hk=>by cases hk)
structure ob (w:World) (ao:Option Addr) (n c:Nat) (D:List Vm):Prop where
 l:D.length=n
 le:n≤c
 mx:c≤maxLen
 no:ao=none→c=0
 e:∀ i (h:i < D.length),∃ b o,ao=some ⟨b,o,none⟩∧w.rangeAt b (o+i*13) (db D[i])
 x:∀ y∈D,dw [] w y.x
theorem ob.kept {a w:World}{ao:Option Addr}{n c:Nat}{D:List Vm}(h:ob a ao n c D) (k:ab [] a w):ob w ao n c D :=
 ⟨h.l,h.le,h.mx,h.no,fun i hi=>by obtain ⟨b,o,e,h1⟩:=h.e i hi;exact ⟨b,o,e,aQ h1 k (by simp)⟩,fun y hy=>(h.x y hy).kept k⟩
theorem ob.nil (w:World):ob w none 0 0 []:=⟨rfl,Nat.le_refl _,Nat.zero_le _,fun _=>rfl,fun i hi=>by simp at hi,fun y hy=>by cases hy⟩
structure Mm where
 k:Int
 f:Int
 t:Int
 b:Int
 s:Int
 m:Int
 x:Rm
 vo:Option Addr
 vc:Nat
 D:List Vm
 io:Option Addr
 ic:Nat
 i:List Int
 n:Int
 r:Vt
 uo:Option Addr
 un:Nat
 uc:Nat
def Mm.ms (y:Mm):Ms:=⟨y.k,y.f,y.t,y.b,y.s,y.m,y.x.r,y.D.map Vm.v,y.i,y.n,y.r⟩
def aJ (y:Mm):List Value:=[.int .i64 y.k,.int .i64 y.f,.int .i64 y.t,.int .i64 y.b,.int .i64 y.s,.int .i64 y.m,
 .int .i64 y.x.r.k,.string (ac y.x.r.n),.int .i64 y.x.r.s,.int .i64 y.x.r.q,.int .i64 y.x.r.b,.string (ac y.x.r.f),.slice y.x.mo y.x.m y.x.mc,.string (ac y.x.r.p),.int .i64 y.x.r.fr,.int .i64 y.x.r.mn,.int .i64 y.x.r.mb,
 .slice y.vo y.D.length y.vc,.slice y.io y.i.length y.ic,.int .i64 y.n,
 .int .i64 y.r.c,.int .i64 y.r.s,.int .i64 y.r.r,.string (ac y.r.p),.int .u64 y.r.d,.slice y.uo y.un y.uc,.int .i64 y.r.m]
theorem jj (y:Mm):aJ y=[.int .i64 y.k,.int .i64 y.f,.int .i64 y.t,.int .i64 y.b,.int .i64 y.s,.int .i64 y.m]++(aR y.x++[.slice y.vo y.D.length y.vc,.slice y.io y.i.length y.ic,.int .i64 y.n,
 .int .i64 y.r.c,.int .i64 y.r.s,.int .i64 y.r.r,.string (ac y.r.p),.int .u64 y.r.d,.slice y.uo y.un y.uc,.int .i64 y.r.m]):=rfl
theorem kt (y:Mm):aJ y=[.int .i64 y.k,.int .i64 y.f,.int .i64 y.t,.int .i64 y.b,.int .i64 y.s,.int .i64 y.m,
 .int .i64 y.x.r.k,.string (ac y.x.r.n),.int .i64 y.x.r.s,.int .i64 y.x.r.q,.int .i64 y.x.r.b,.string (ac y.x.r.f),.slice y.x.mo y.x.m y.x.mc,.string (ac y.x.r.p),.int .i64 y.x.r.fr,.int .i64 y.x.r.mn,.int .i64 y.x.r.mb,
 .slice y.vo y.D.length y.vc,.slice y.io y.i.length y.ic,.int .i64 y.n]++(ak y.r (.slice y.uo y.un y.uc)++[]):=rfl
theorem fT (y:Mm):∀ v∈aJ y,v.oneCell'=true:=by
 intro v hv;simp [aJ] at hv
 rcases hv with rfl | rfl | rfl | rfl | rfl | rfl | rfl | rfl | rfl | rfl | rfl | rfl | rfl | rfl | rfl | rfl | rfl | rfl | rfl | rfl | rfl | rfl | rfl | rfl | rfl | rfl | rfl <;> rfl
structure bH (w:World) (y:Mm):Prop where
 x:dw [] w y.x
 v:ob w y.vo y.D.length y.vc y.D
 i:Sl w y.io y.i.length y.ic y.i
 o:bh y.i
 r:bX [] w y.r (.slice y.uo y.un y.uc)
 u:ei y.x.r.c
 uv:∀ z∈y.D,ei z.x.r.c
 ur:lU y.r
theorem bH.kept {a w:World}{y:Mm}(h:bH a y) (k:ab [] a w):bH w y :=
 ⟨h.x.kept k,h.v.kept k,Sl.kept k h.i (by simp),h.o,h.r.kept k,h.u,h.uv,h.ur⟩
theorem dm:av Tryz.prog 36 27:=⟨_,Tryz.underlying36,rfl,by kernel_rfl⟩
theorem gJ:av Tryz.prog 55 13:=⟨_,Tryz.underlying55,rfl,by kernel_rfl⟩
theorem Bx.msx {w:World}{b:Nat}{y:Mm}(h:Bx w b 36 (aJ y)):w.rangeAt b 6 (aR y.x):=by
 rw [jj] at h;exact h.part
theorem Bx.msr {w:World}{b:Nat}{y:Mm}(h:Bx w b 36 (aJ y)):w.rangeAt b 20 (ak y.r (.slice y.uo y.un y.uc)):=by
 rw [kt] at h;exact h.part
theorem Bx.vox {w:World}{b:Nat}{y:Vm}{T:TypeId}(h:Bx w b T (db y)):w.rangeAt b 2 (aR y.x):=by
 rw [qT] at h;exact h.part
def fB:Mm:=⟨0,0,0,0,0,0,je,none,0,[],none,0,[],0,eq,none,0,0⟩
theorem sD (D:List Vm) (i:Nat) (h:i < D.length) (j:Nat) (hj:j < 13):(D.flatMap db)[i*13+j]?=(db D[i])[j]?:=by
 induction D generalizing i with
 | nil=>simp at h
 | cons x D ih =>
   cases i with
   | zero=>rw [List.flatMap_cons,Nat.zero_mul,Nat.zero_add,List.getElem_cons_zero,List.getElem?_append_left (by rw [eW];omega)]
   | succ i =>
     rw [List.flatMap_cons,List.getElem_cons_succ,List.getElem?_append_right (by rw [eW];omega),← ih i (by simpa using h)];congr 1
     rw [eW];omega
def fo (B:Nat) (w:World) (v:Value) (D:List Vm):Prop:=w.ownsRow B 55 13 v D.length (D.flatMap db)
theorem bw {S:List Nat}{w w':World}{B e size n:Nat}{v:Value}{xs:List Value}(h:w.ownsRow B e size v n xs) (hk:ab S w w') (hS:∀ k∈S,k < B):w'.ownsRow B e size v n xs :=
 hk.ownsRow h (fun k hk' hm=>by have:=(World.ownsRow.lt h k hk').1;have:=hS k hm;omega)
theorem nq {B w e size n v xs}(h:World.ownsRow w B e size v n xs):∃ ao c,v=.slice ao n c∧n≤c∧c≤maxLen∧(ao=none→c=0)∧(n=0∨∃ g,ao=some ⟨g,0,none⟩):=by
 obtain ⟨_,h2⟩:=h;rcases h2 with ⟨hv,hn⟩ | ⟨g,cap,cur,hv,hg,hh,h3,h4,h5,h6⟩
 ·exact ⟨none,0,by rw [hv,hn],by omega,Nat.zero_le _,fun _=>rfl,.inl hn⟩
 ·exact ⟨_,cap,hv,h3,h4,by simp,.inr ⟨g,rfl⟩⟩
def yl (B:Nat) (w w':World):Prop:=∃ S,ab S w w'∧∀ k∈S,B≤k
theorem gO {w w':World}{B e size n:Nat}{v:Value}{xs:List Value}(h:w.ownsRow B e size v n xs) (hg:w.grownBy w' v.ownBlock):yl B w w' :=
 ⟨v.ownBlock.toList,(ab.refl _ w).grown hg (fun _ hk=>.inl (jK.2 hk)),fun k hk=>(World.ownsRow.lt h k (jK.1 hk)).1⟩
theorem eT {w w':World}{B e size n:Nat}{v:Value}{xs:List Value}(h:w.ownsRow B e size v n xs) (hg:w.grownBy w' v.ownBlock) {B2 e2 size2 n2:Nat}{v2:Value}{xs2:List Value}(h2:w.ownsRow B2 e2 size2 v2 n2 xs2) (hne:e2≠e):w'.ownsRow B2 e2 size2 v2 n2 xs2 :=
 i6 ((ab.refl v.ownBlock.toList w).grown hg fun k hk=>.inl (jK.2 hk)) (Ts:=[e]) (fun k hk cur t mk hh=>by
  obtain ⟨c2,h3⟩:=pJ h (jK.1 hk);rw [h3] at hh;cases hh;simp) h2 (by simpa using hne)
theorem qg:(Tryz.prog.info? 55).map (fun i=>(i.zero,i.size,i.bytes))=some (some (.agg #[.int .i64 0,.int .i64 0,.int .i64 0,.string ⟨#[]⟩,.int .i64 0,.int .i64 0,.int .i64 0,.string ⟨#[]⟩,.slice none 0 0,.string ⟨#[]⟩,.int .i64 0,.int .i64 0,.int .i64 0]),13,144):=by kernel_rfl
end Go.Proofs.YtakafmejllilnaaGreat
