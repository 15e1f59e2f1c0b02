/-
  Texts laid as one.
-/
import Derived.Test.YtakafmejllilnaaGreatW0r
import Derived.Test.YtakafmejllilnaaGreatW3r
import Derived.Test.YtakafmejllilnaaGreatF13r
import Derived.Test.YtakafmejllilnaaGreatW7r
import Derived.Test.YtakafmejllilnaaGreatF12r
import Derived.Test.YtakafmejllilnaaGreatW8r
import Derived.Laws.AppendOwn
import Derived.Test.YtakafmejllilnaaGreatF5r
set_option maxRecDepth 100000
/-
 Requests and verdicts that came in,or were told,as what is gone through;their bytes are bytes. (Cut out of EnBa0,EnOn0,EnAm0.)
-/
namespace Go.Proofs.YtakafmejllilnaaGreat
open Go.RowKit
theorem lL {B:Nat}{w:World}{q:Rq}{vo:Option Addr}{vn vc:Nat}(h:aL B w (.slice vo vn vc) q.c) (hq:ff q):dS [] w ⟨q,vo,vn,vc⟩:=by
 obtain ⟨ao,n,c,e,hS,h0⟩:=h.chV;cases e
 have ht:∀ t:List UInt8,eS t=true→t.length≤140737488351232:=fun t ht=>by unfold eS at ht;simp at ht;omega
 have hall:q.n.length≤140737488351232∧q.f.length≤140737488351232∧q.p.length≤140737488351232∧∀ y∈q.c,y.p.length≤140737488351232:=by
  obtain ⟨_,h2⟩:=hq;unfold lj at h2;split at h2
  ·rw [h2];simp
  split at h2
  ·have h3:=ht _ h2.1;rw [← h2.2];refine ⟨h3,?_⟩;simp
  split at h2
  ·have h3:=ht _ h2.1.2.2.2.1;have h4:∀ y∈q.c,y.p.length≤140737488351232:=fun y hy=>ht _ (h2.1.2.2.2.2.2 y hy).1;rw [← h2.2];exact ⟨by simp,h3,by simp,h4⟩
  split at h2
  ·have h3:=ht _ h2.1.2.2;rw [← h2.2];exact ⟨by simp,by simp,h3,by simp⟩
  split at h2
  ·rw [← h2.2];simp
  split at h2
  ·rw [← h2.2];simp
  ·rw [← h2.2];simp
 exact ⟨hS,h0,(fun _ _ _ hm=>by cases hm),hall.1,hall.2.1,hall.2.2.1,hall.2.2.2⟩
theorem go (t:List UInt8) (h:eS t=true):bi (bT t)∧(bT t).length≤261:=by
 have hl:t.length≤255:=by unfold eS at h;simpa using h
 have he:=dO 5 (t.length:Int);refine ⟨(eX _ (by omega) (by omega)).append (lC _),?_⟩;unfold bT;rw [List.length_append,jb];unfold ap;omega
theorem aW (n:Int) (h:ah n=true):bi (ap n)∧(ap n).length≤6:=by
 have h1:=(aZ n).1 h;exact ⟨eX n h1.1 h1.2,dO 5 n⟩
theorem bt {a b:List Int}{n m:Nat}(h:bi a∧a.length≤n) (k:bi b∧b.length≤m):bi (a++b)∧(a++b).length≤n+m :=
 ⟨h.1.append k.1,by rw [List.length_append];omega⟩
theorem ua (c:Ch) (h:jD c):bi (bC c)∧(bC c).length≤270:=by
 have h1:=go c.p h.1;have h2:bi (bF c.g)∧(bF c.g).length≤1:=⟨by unfold bF;intro x hx;simp at hx;subst hx;cases c.g <;> simp,by simp [bF]⟩
 have h3:bi (if c.g=true then [] else dR 8 c.d)∧(if c.g=true then [] else dR 8 c.d).length≤8:=by
  split
  ·exact ⟨bq,by simp⟩
  ·exact ⟨fg 8 c.d,by rw [a5];omega⟩
 exact bt (bt h1 h2) h3
theorem nN {α:Type}(b:α→List Int) (m:Nat) (L:List α) (h:∀ x∈L,bi (b x)∧(b x).length≤m):bi (L.flatMap b)∧(L.flatMap b).length≤L.length*m:=by
 induction L with
 | nil=>exact ⟨bq,by simp⟩
 | cons x L ih =>
   have h1:=bt (h x (by simp)) (ih (fun y hy=>h y (by simp [hy])));refine ⟨by simpa using h1.1,?_⟩;have:=h1.2
   simp only [List.flatMap_cons,List.length_cons,Nat.succ_mul];omega
theorem nB (L:List Ch) (h:fP L):bi (uD L)∧(uD L).length≤17286:=by
 have h1:=nN bC 270 L (fun c hc=>ua c (h.2 c hc));have h0:ah (L.length:Int)=true:=(aZ _).2 (by have:=h.1;omega);have h2:=bt (aW (L.length:Int) h0) h1;unfold uD bL;rw [if_pos h.1];exact ⟨h2.1,by have:=h2.2;have:=h.1;omega⟩
theorem pv {r:Rq}(h:ff r):bi (bR r)∧(bR r).length≤20000:=by
 rw [nD h];obtain ⟨⟨hk,_⟩,h2⟩:=h;have h1:=aW r.k hk
 have h3:bi (vk r.k r)∧(vk r.k r).length≤19000:=by
  unfold lj at h2;unfold vk;split
  ·exact ⟨bq,by simp⟩
  rename_i n0
  rw [if_neg n0] at h2;split
  ·rename_i n1
   rw [if_pos n1] at h2;have:=go _ h2.1
   exact ⟨this.1,by omega⟩
  rename_i n1
  rw [if_neg n1] at h2;split
  ·rename_i n2
   rw [if_pos n2] at h2;have:=bt (aW _ h2.1.1) (bt (aW _ h2.1.2.1) (bt (aW _ h2.1.2.2.1) (bt (go _ h2.1.2.2.2.1) (nB _ h2.1.2.2.2.2))))
   exact ⟨this.1,by have:=this.2;omega⟩
  rename_i n2
  rw [if_neg n2] at h2;split
  ·rename_i n4
   rw [if_pos n4] at h2;have:=bt (aW _ h2.1.1) (bt (aW _ h2.1.2.1) (go _ h2.1.2.2))
   exact ⟨this.1,by have:=this.2;omega⟩
  rename_i n4
  rw [if_neg n4] at h2;split
  ·rename_i n5
   rw [if_pos n5] at h2;have:=bt (aW _ h2.1.1) (bt (aW _ h2.1.2.1) (bt (aW _ h2.1.2.2.1) (aW _ h2.1.2.2.2)))
   exact ⟨this.1,by have:=this.2;omega⟩
  rename_i n5
  rw [if_neg n5] at h2;split
  ·rename_i n6
   rw [if_pos n6] at h2;have:=bt (aW _ h2.1.1) (bt (aW _ h2.1.2.1) (aW _ h2.1.2.2))
   exact ⟨this.1,by have:=this.2;omega⟩
  ·rename_i n6
   rw [if_neg n6] at h2;have:=bt (aW _ h2.1.1) (aW _ h2.1.2)
   exact ⟨this.1,by have:=this.2;omega⟩
 have h4:=bt h1 h3;exact ⟨h4.1,by have:=h4.2;omega⟩
theorem kK {w:World}{b o:Nat}{v:Value}(h:w.cell? ⟨b,o,none⟩=some v):b < w.heap.size:=by
 unfold World.cell? at h;by_cases hlt:b < w.heap.size
 ·exact hlt
 ·rw [show w.heap[(⟨b,o,none⟩:Addr).block]?=none from Array.getElem?_eq_none (by show w.heap.size≤b;omega)] at h;simp at h
theorem vY {w:World}{v:Value}{L:List Ch}(h:wd w v L):pM [] w v L:=by
 obtain ⟨ao,n,c,e,hS,h0⟩:=h;refine ⟨ao,n,c,e,hS,h0,fun hn k hk=>⟨?_,by simp⟩⟩;obtain ⟨b,o,rfl,hc⟩:=hS.some hn;simp [bO] at hk
 subst hk;exact kK (hc 0 (by rw [hS.1];exact hn)).c0
theorem qO {r:Rq}(h:fe r=true):gv ([],0) r=(bR r,0):=by rw [pf,if_pos h]
theorem pA {r:Rq}(h:¬ fe r=true):gv ([],0) r=([],1):=by rw [pf,if_neg h]
theorem sD {v:Vt}(h:jc v=true):ew ([],0) v=(bV v,0):=by rw [nj,if_pos h]
theorem qo {v:Vt}(h:¬ jc v=true):ew ([],0) v=([],1):=by rw [nj,if_neg h]
theorem tr (x:bW) (h:kr x):bi (bK x)∧(bK x).length≤17560:=by
 have h1:=bt (bt (bt (aW _ h.1) (aW _ h.2.1)) (go _ h.2.2.1)) (nB _ h.2.2.2);exact ⟨h1.1,by have:=h1.2;unfold bK;omega⟩
theorem ry (L:List bW) (h:iy L):bi (vq L)∧(vq L).length≤600000:=by
 have h1:=nN bK 17560 L (fun c hc=>tr c (h.2 c hc));have h0:ah (L.length:Int)=true:=(aZ _).2 (by have:=h.1;omega);have h2:=bt (aW (L.length:Int) h0) h1;unfold vq bL;rw [if_pos h.1];exact ⟨h2.1,by have:=h2.2;have:=h.1;omega⟩
theorem uL {v:Vt}(h:fH v):bi (bV v)∧(bV v).length≤1000000:=by
 rw [lm h];obtain ⟨⟨hk,_⟩,h2⟩:=h;have h1:=aW v.c hk
 have h3:bi (bG v.c v)∧(bG v.c v).length≤900000:=by
  unfold sY at h2;unfold bG;split
  ·rename_i n1
   rw [if_pos n1] at h2;have:=aW _ h2.1
   exact ⟨this.1,by omega⟩
  rename_i n1
  rw [if_neg n1] at h2;split
  ·rename_i n2
   rw [if_pos n2] at h2;have:=aW _ h2.1
   exact ⟨this.1,by omega⟩
  rename_i n2
  rw [if_neg n2] at h2;split
  ·rename_i n3
   rw [if_pos n3] at h2;have:=bt (go _ h2.1.1) (aW _ h2.1.2)
   exact ⟨this.1,by have:=this.2;omega⟩
  rename_i n3
  rw [if_neg n3] at h2;split
  ·rename_i n9
   rw [if_pos n9] at h2;have:=bt (go _ h2.1.1) (bt (⟨fg 8 v.d,by rw [a5];exact Nat.le_refl _⟩:bi (dR 8 v.d)∧(dR 8 v.d).length≤8) (aW _ h2.1.2.2))
   exact ⟨this.1,by have:=this.2;omega⟩
  rename_i n9
  rw [if_neg n9] at h2;split
  ·rename_i n10
   rw [if_pos n10] at h2;have:=go _ h2.1
   exact ⟨this.1,by omega⟩
  rename_i n10
  rw [if_neg n10] at h2;split
  ·rename_i n11
   rw [if_pos n11] at h2;have:=ry _ h2.1
   exact ⟨this.1,by omega⟩
  rename_i n11
  rw [if_neg n11] at h2;split
  ·rename_i n12
   rw [if_pos n12] at h2;have:=aW _ h2.1
   exact ⟨this.1,by omega⟩
  ·exact ⟨bq,by simp⟩
 have h4:=bt h1 h3;exact ⟨h4.1,by have:=h4.2;omega⟩
theorem a8 {S:List Nat}{a w:World}{b o:Nat}{cs:List Value}(h:a.rangeAt b o cs) (k:ab S a w) (hb:b ∉ S):w.rangeAt b o cs:=fun j v hv=>k.cell (h j v hv) hb
theorem Bx.part {w:World}{b:Nat}{T:TypeId}{pre cs post:List Value}(h:Bx w b T (pre++(cs++post))):w.rangeAt b pre.length cs:=fun j v hv=>by
 refine h.cell (pre.length+j) ?_
 have hj:j < cs.length:=by
  by_cases hl:j < cs.length
  ·exact hl
  ·rw [List.getElem?_eq_none (by omega)] at hv;cases hv
 rw [List.getElem?_append_right (by omega),Nat.add_sub_cancel_left,List.getElem?_append_left hj];exact hv
theorem bf {P:Program}{ops:Array Oper}{rest:List Oper}{a:Act}{w:World}{Q:Exit→Act→World→Prop}{d:Option Tmp}{x:Operand}{T ty:TypeId}{ps:String}{af:Array Edge}
 {b o:Nat}{cs:List Value}(hc:w.rangeAt b o cs) (hT:aq P T cs.length) (hx:a.eval x=.pointer (some ⟨b,o,none⟩))
 (h:wpList P ops Q rest (a.put d (.agg cs.toArray)) w):wpList P ops Q (⟨d,.load T x,ty,ps,af,none⟩ :: rest) a w:=by
 obtain ⟨D,hu,hd,hi⟩:=hT;exact wpList_load_mid rfl _ x rfl b o hx cs D hc hu hd hi h
theorem aC {P:Program}{ops:Array Oper}{rest:List Oper}{a:Act}{w:World}{Q:Exit→Act→World→Prop}{d:Option Tmp}{x:Operand}{T ty:TypeId}{ps:String}{af:Array Edge}{g:Nat × Bool}
 {b o:Nat}{cs:List Value}(hc:w.rangeAt b o cs) (hT:aq P T cs.length) (hw:Region.wanted ⟨d,.load T x,ty,ps,af,some g⟩ (yielded ops a.tmps)=true) (hx:a.eval x=.pointer (some ⟨b,o,none⟩))
 (h:wpList P ops Q rest (a.put d (.agg cs.toArray)) w):wpList P ops Q (⟨d,.load T x,ty,ps,af,some g⟩ :: rest) a w:=by
 obtain ⟨D,hu,hd,hi⟩:=hT;unfold wpList;rw [if_pos hw];exact Or.inl (wp_load_mid T x rfl b o hx cs D hc hu hd hi h)
theorem Bx.mid {w:World}{b:Nat}{T:TypeId}{pre old post ds:List Value}(h:Bx w b T (pre++(old++post))) (hl:old.length=ds.length):Bx (w.setCells b pre.length ds) b T (pre++(ds++post)):=by
 have h1:=eP b ds pre old post w T (by rw [List.append_assoc];exact h) hl;unfold Bx;rw [h1,List.append_assoc]
theorem Bx.thereM {w:World}{b:Nat}{T:TypeId}{pre old post:List Value}(h:Bx w b T (pre++(old++post))):w.there b pre.length old.length:=fun j hj=>by
 refine ⟨?_,h.froz _⟩;rw [h.part j (old[j]'hj) (List.getElem?_eq_getElem hj)];rfl
theorem di {P:Program}{ops:Array Oper}{rest:List Oper}{a:Act}{w:World}{Q:Exit→Act→World→Prop}{d:Option Tmp}{x y:Operand}{T ty T0:TypeId}{ps:String}{af:Array Edge}
 {b o:Nat}{pre old post ds:List Value}(hc:Bx w b T0 (pre++(old++post))) (ho:o=pre.length) (hl:old.length=ds.length) (h1:∀ v∈ds,v.oneCell'=true) (hT:aq P T ds.length)
 (hx:a.eval x=.pointer (some ⟨b,o,none⟩)) (hy:a.eval y=.agg ds.toArray) (h:∀ w',Hid (Bx w' b T0 (pre++(ds++post)))→Hid (ab [b] w w')→wpList P ops Q rest (a.put d undef) w'):wpList P ops Q (⟨d,.store T x y,ty,ps,af,none⟩ :: rest) a w:=by
 subst ho;obtain ⟨D,hu,hd,hi⟩:=hT;exact wpList_store_mid rfl _ x y rfl b pre.length ds.toArray hx hy (by rw [List.size_toArray,← hl];exact hc.thereM) (by rw [List.size_toArray];exact hi) (all_oneCell_toArray h1) (h _ (aa (hc.mid hl)) (dm (by simp) _ _ (ab.refl _ _)))
structure Vm where
 s:Int
 b:Int
 x:Rm
def Vm.v (y:Vm):Vo:=⟨y.s,y.b,y.x.r⟩
def cq (y:Vm):List Value:=[.int .i64 y.s,.int .i64 y.b,.int .i64 y.x.r.k,.string (ae y.x.r.n),.int .i64 y.x.r.s,.int .i64 y.x.r.q,.int .i64 y.x.r.b,.string (ae y.x.r.f),.slice y.x.mo y.x.m y.x.mc,.string (ae y.x.r.p),.int .i64 y.x.r.fr,.int .i64 y.x.r.mn,.int .i64 y.x.r.mb]
theorem fN (y:Vm):(cq y).length=13:=rfl
theorem vW (y:Vm):cq y=[.int .i64 y.s,.int .i64 y.b]++(bp y.x++[]):=rfl
theorem gR (x:Rm):∀ v∈bp x,v.oneCell'=true:=by
 intro v hv;simp [bp] at hv
 rcases hv with rfl | rfl | rfl | rfl | rfl | rfl | rfl | rfl | rfl | rfl | rfl <;> rfl
theorem fY (y:Vm):∀ v∈cq y,v.oneCell'=true:=by
 intro v hv;simp [cq] at hv
 rcases hv with rfl | rfl | rfl | rfl | rfl | rfl | rfl | rfl | rfl | rfl | rfl | rfl | rfl <;> rfl
theorem dS.kept {a w:World}{x:Rm}(h:dS [] a x) (k:ab [] a w):dS [] w x:=h.on k (fun k hk=>by cases hk)
theorem eb.kept {a w:World}{x:Vt}{u:Value}(h:eb [] a x u) (k:ab [] a w):eb [] w x u:=h.on k (fun k hk=>by cases hk)
structure p2 (w:World) (ao:Option Addr) (n c:Nat) (D:List Vm):Prop where
 l:D.length=n
 le:n≤c
 mx:c≤maxLen
 no:ao=none→c=0
 e:∀ i (h:i < D.length),∃ b o,ao=some ⟨b,o,none⟩∧w.rangeAt b (o+i*13) (cq D[i])
 x:∀ y∈D,dS [] w y.x
theorem p2.kept {a w:World}{ao:Option Addr}{n c:Nat}{D:List Vm}(h:p2 a ao n c D) (k:ab [] a w):p2 w ao n c D :=
 ⟨h.l,h.le,h.mx,h.no,fun i hi=>by obtain ⟨b,o,e,h1⟩:=h.e i hi;exact ⟨b,o,e,a8 h1 k (by simp)⟩,fun y hy=>(h.x y hy).kept k⟩
theorem p2.nil (w:World):p2 w none 0 0 []:=⟨rfl,Nat.le_refl _,Nat.zero_le _,fun _=>rfl,fun i hi=>by simp at hi,fun y hy=>by cases hy⟩
structure Mm where
 k:Int
 f:Int
 t:Int
 b:Int
 s:Int
 m:Int
 x:Rm
 vo:Option Addr
 vc:Nat
 D:List Vm
 io:Option Addr
 ic:Nat
 i:List Int
 n:Int
 r:Vt
 uo:Option Addr
 un:Nat
 uc:Nat
def Mm.ms (y:Mm):Ms:=⟨y.k,y.f,y.t,y.b,y.s,y.m,y.x.r,y.D.map Vm.v,y.i,y.n,y.r⟩
def aX (y:Mm):List Value:=[.int .i64 y.k,.int .i64 y.f,.int .i64 y.t,.int .i64 y.b,.int .i64 y.s,.int .i64 y.m,
 .int .i64 y.x.r.k,.string (ae y.x.r.n),.int .i64 y.x.r.s,.int .i64 y.x.r.q,.int .i64 y.x.r.b,.string (ae y.x.r.f),.slice y.x.mo y.x.m y.x.mc,.string (ae y.x.r.p),.int .i64 y.x.r.fr,.int .i64 y.x.r.mn,.int .i64 y.x.r.mb,
 .slice y.vo y.D.length y.vc,.slice y.io y.i.length y.ic,.int .i64 y.n,
 .int .i64 y.r.c,.int .i64 y.r.s,.int .i64 y.r.r,.string (ae y.r.p),.int .u64 y.r.d,.slice y.uo y.un y.uc,.int .i64 y.r.m]
theorem iX (y:Mm):aX y=[.int .i64 y.k,.int .i64 y.f,.int .i64 y.t,.int .i64 y.b,.int .i64 y.s,.int .i64 y.m]++(bp y.x++[.slice y.vo y.D.length y.vc,.slice y.io y.i.length y.ic,.int .i64 y.n,
 .int .i64 y.r.c,.int .i64 y.r.s,.int .i64 y.r.r,.string (ae y.r.p),.int .u64 y.r.d,.slice y.uo y.un y.uc,.int .i64 y.r.m]):=rfl
theorem i2 (y:Mm):aX y=[.int .i64 y.k,.int .i64 y.f,.int .i64 y.t,.int .i64 y.b,.int .i64 y.s,.int .i64 y.m,
 .int .i64 y.x.r.k,.string (ae y.x.r.n),.int .i64 y.x.r.s,.int .i64 y.x.r.q,.int .i64 y.x.r.b,.string (ae y.x.r.f),.slice y.x.mo y.x.m y.x.mc,.string (ae y.x.r.p),.int .i64 y.x.r.fr,.int .i64 y.x.r.mn,.int .i64 y.x.r.mb,
 .slice y.vo y.D.length y.vc,.slice y.io y.i.length y.ic,.int .i64 y.n]++(au y.r (.slice y.uo y.un y.uc)++[]):=rfl
theorem dJ (y:Mm):∀ v∈aX y,v.oneCell'=true:=by
 intro v hv;simp [aX] at hv
 rcases hv with rfl | rfl | rfl | rfl | rfl | rfl | rfl | rfl | rfl | rfl | rfl | rfl | rfl | rfl | rfl | rfl | rfl | rfl | rfl | rfl | rfl | rfl | rfl | rfl | rfl | rfl | rfl <;> rfl
structure cb (w:World) (y:Mm):Prop where
 x:dS [] w y.x
 v:p2 w y.vo y.D.length y.vc y.D
 i:Sl w y.io y.i.length y.ic y.i
 o:bi y.i
 r:eb [] w y.r (.slice y.uo y.un y.uc)
 u:fI y.x.r.c
 uv:∀ z∈y.D,fI z.x.r.c
 ur:qp y.r
theorem cb.kept {a w:World}{y:Mm}(h:cb a y) (k:ab [] a w):cb w y :=
 ⟨h.x.kept k,h.v.kept k,Sl.kept k h.i (by simp),h.o,h.r.kept k,h.u,h.uv,h.ur⟩
theorem cL:aq Tryz.prog 36 27:=⟨_,Tryz.underlying36,rfl,by kernel_rfl⟩
theorem eR:aq Tryz.prog 55 13:=⟨_,Tryz.underlying55,rfl,by kernel_rfl⟩
theorem Bx.msx {w:World}{b:Nat}{y:Mm}(h:Bx w b 36 (aX y)):w.rangeAt b 6 (bp y.x):=by
 rw [iX] at h;exact h.part
theorem Bx.msr {w:World}{b:Nat}{y:Mm}(h:Bx w b 36 (aX y)):w.rangeAt b 20 (au y.r (.slice y.uo y.un y.uc)):=by
 rw [i2] at h;exact h.part
theorem Bx.vox {w:World}{b:Nat}{y:Vm}{T:TypeId}(h:Bx w b T (cq y)):w.rangeAt b 2 (bp y.x):=by
 rw [vW] at h;exact h.part
def eI:Mm:=⟨0,0,0,0,0,0,ie,none,0,[],none,0,[],0,bD,none,0,0⟩
theorem qV (D:List Vm) (i:Nat) (h:i < D.length) (j:Nat) (hj:j < 13):(D.flatMap cq)[i*13+j]?=(cq D[i])[j]?:=by
 induction D generalizing i with
 | nil=>simp at h
 | cons x D ih =>
   cases i with
   | zero=>rw [List.flatMap_cons,Nat.zero_mul,Nat.zero_add,List.getElem_cons_zero,List.getElem?_append_left (by rw [fN];omega)]
   | succ i =>
     rw [List.flatMap_cons,List.getElem_cons_succ,List.getElem?_append_right (by rw [fN];omega),← ih i (by simpa using h)];congr 1
     rw [fN];omega
def eC (B:Nat) (w:World) (v:Value) (D:List Vm):Prop:=w.ownsRow B 55 13 v D.length (D.flatMap cq)
def o3 (B:Nat) (w:World) (v:Value) (L:List Vo):Prop:=∃ D,eC B w v D∧(∀ y∈D,aL B w (.slice y.x.mo y.x.m y.x.mc) y.x.r.c)∧D.map Vm.v=L
theorem o3.nil (B:Nat) (w:World):o3 B w (.slice none 0 0) []:=⟨[],World.ownsRow_nil w B 55 13,fun x hx=>(by cases hx),rfl⟩
theorem bk {S:List Nat}{w w':World}{B e size n:Nat}{v:Value}{xs:List Value}(h:w.ownsRow B e size v n xs) (hk:ab S w w') (hS:∀ k∈S,k < B):w'.ownsRow B e size v n xs :=
 hk.ownsRow h (fun k hk' hm=>by have:=(World.ownsRow.lt h k hk').1;have:=hS k hm;omega)
theorem o3.low {S:List Nat}{w w':World}{B:Nat}{v:Value}{L:List Vo}(h:o3 B w v L) (hk:ab S w w') (hS:∀ k∈S,k < B):o3 B w' v L:=by
 obtain ⟨D,h1,h2,h3⟩:=h;exact ⟨D,bk h1 hk hS,fun y hy=>bk (h2 y hy) hk hS,h3⟩
theorem ka {B w e size n v xs}(h:World.ownsRow w B e size v n xs):∃ ao c,v=.slice ao n c∧n≤c∧c≤maxLen∧(ao=none→c=0)∧(n=0∨∃ g,ao=some ⟨g,0,none⟩):=by
 obtain ⟨_,h2⟩:=h;rcases h2 with ⟨hv,hn⟩ | ⟨g,cap,cur,hv,hg,hh,h3,h4,h5,h6⟩
 ·exact ⟨none,0,by rw [hv,hn],by omega,Nat.zero_le _,fun _=>rfl,.inl hn⟩
 ·exact ⟨_,cap,hv,h3,h4,by simp,.inr ⟨g,rfl⟩⟩
def xN (B:Nat) (w w':World):Prop:=∃ S,ab S w w'∧∀ k∈S,B≤k
theorem fx {w w':World}{B e size n:Nat}{v:Value}{xs:List Value}(h:w.ownsRow B e size v n xs) (hg:w.grownBy w' v.ownBlock):xN B w w' :=
 ⟨v.ownBlock.toList,(ab.refl _ w).grown hg (fun _ hk=>.inl (gV.2 hk)),fun k hk=>(World.ownsRow.lt h k (gV.1 hk)).1⟩
theorem dN {w w':World}{B e size n:Nat}{v:Value}{xs:List Value}(h:w.ownsRow B e size v n xs) (hg:w.grownBy w' v.ownBlock) {B2 e2 size2 n2:Nat}{v2:Value}{xs2:List Value}(h2:w.ownsRow B2 e2 size2 v2 n2 xs2) (hne:e2≠e):w'.ownsRow B2 e2 size2 v2 n2 xs2 :=
 gK ((ab.refl v.ownBlock.toList w).grown hg fun k hk=>.inl (gV.2 hk)) (Ts:=[e]) (fun k hk cur t mk hh=>by
  obtain ⟨c2,h3⟩:=ll h (gV.1 hk);rw [h3] at hh;cases hh;simp) h2 (by simpa using hne)
theorem ls:(Tryz.prog.info? 55).map (fun i=>(i.zero,i.size,i.bytes))=some (some (.agg #[.int .i64 0,.int .i64 0,.int .i64 0,.string ⟨#[]⟩,.int .i64 0,.int .i64 0,.int .i64 0,.string ⟨#[]⟩,.slice none 0 0,.string ⟨#[]⟩,.int .i64 0,.int .i64 0,.int .i64 0]),13,144):=by kernel_rfl
theorem tE {w:World}{ops:Array Oper}{rest:List Oper}{o:Oper}{a:Act}{Q:Exit→Act→World→Prop}(hgd:o.guard=none) (s x:Operand)
 (hop:o.op=.call { callee:=.builtin .append,args:=#[s,x],argTypes:=#[30,30] })
 (B:Nat) (v:Value) (L:List Vo) (hs:a.eval s=v) (hO:o3 B w v L) (g:Nat) (y:Vm) (hu:aL B w (.slice y.x.mo y.x.m y.x.mc) y.x.r.c) (hx:a.eval x=.slice (some ⟨g,0,none⟩) 1 1) (hc:w.heap[g]?=some (.cells (cq y).toArray 55 (0,0))) (hlen:L.length≤1000000) (hB:B≤w.heap.size)
 (h:∀ v' w',o3 B w' v' (L++[y.v])→xN B w w'→wpList Tryz.prog ops Q rest (a.put o.dst v') w'):wpList Tryz.prog ops Q (o :: rest) a w:=by
 obtain ⟨D,hR,hW,he⟩:=hO;have hXl:D.length=L.length:=by rw [← he,List.length_map]
 obtain ⟨i0,hi,hz0,hz1,hz2⟩:=info_parts ls;refine wpList_append_own w hgd s x 30 hop B 55 i0 _ 13 144 Tryz.underlying30 hi hz0 hz1 hz2 rfl (by decide) v D.length (D.flatMap cq) hs hR ⟨g,0,none⟩ 1 1 (cq y) hx rfl (World.news_of_block hc) (fY y) (by unfold maxLen;omega) (by omega) hB ?_
 ·intro v' w' h2 h3 _;refine h v' w' ⟨D++[y],?_,fun z hz=>?_,by simp [he]⟩ (fx hR h3)
  ·unfold eC;rw [List.length_append,List.flatMap_append];simpa using h2
  ·rcases List.mem_append.1 hz with hz | hz
   ·exact dN hR h3 (hW z hz) (by decide)
   ·simp at hz;subst hz
    exact dN hR h3 hu (by decide)
open Go.ChangeShapes Go.WideShapes Go.ChangeAt Go.RowKit Go.Deep
end Go.Proofs.YtakafmejllilnaaGreat
