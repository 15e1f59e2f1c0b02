/-
  Texts laid as one.
-/
import Derived.Test.YtgpnlidnbldiiaaGreatQ10r
import Derived.Test.YtgpnlidnbldiiaaGreatW5r
import Derived.Test.YtgpnlidnbldiiaaGreatM13r
import Derived.Laws.Cover1
import Derived.Handy
import Derived.Test.YtgpnlidnbldiiaaGreatM14r
import Derived.Test.YtgpnlidnbldiiaaGreatW9r
import Derived.Test.YtgpnlidnbldiiaaGreatQ11r
import Derived.Deep.CutRange
import Derived.Deep.AppendLies
import Derived.Test.YtgpnlidnbldiiaaGreatQ2r
set_option maxHeartbeats 16000000
set_option maxRecDepth 100000
/-
 The document's own graph in memory;move.
-/
namespace Go.Proofs.YtgpnlidnbldiiaaGreat
open Go.RowKit
def fI (B:Nat) (w:World) (v:Value) (l:List (List UInt8 × Int)):Prop:=w.ownsRow B 204 2 v l.length (l.flatMap yg)
theorem xz:(Tryz.prog.info? 204).map (fun i=>(i.zero,i.size,i.bytes))=some (some (.agg #[.string ⟨#[]⟩,.int .i64 0]),2,24):=by kernel_rfl
theorem ej {w:World}{ops:Array Oper}{rest:List Oper}{o:Oper}{a:Act}{Q:Exit→Act→World→Prop}(hgd:o.guard=none) (s x:Operand)
 (hop:o.op=.call { callee:=.builtin .append,args:=#[s,x],argTypes:=#[80,80] })
 (B:Nat) (v:Value) (l:List (List UInt8 × Int)) (hs:a.eval s=v) (hO:fI B w v l) (g:Nat) (y:List UInt8 × Int) (hx:a.eval x=.slice (some ⟨g,0,none⟩) 1 1) (hc:w.heap[g]?=some (.cells #[.string (ak y.1),.int .i64 y.2] 204 (0,0)))
 (hlen:l.length≤1000000000) (hB:B≤w.heap.size)
 (h:∀ v' w',fI B w' v' (l++[y])→w.grownBy w' v.ownBlock→wpList Tryz.prog ops Q rest (a.put o.dst v') w'):wpList Tryz.prog ops Q (o :: rest) a w:=by
 obtain ⟨i0,hi,hz0,hz1,hz2⟩:=info_parts xz;refine wpList_append_own w hgd s x 80 hop B 204 i0 (.agg #[.string ⟨#[]⟩,.int .i64 0]) 2 24 Tryz.underlying80 hi hz0 hz1 hz2 rfl (by decide) v l.length (l.flatMap yg) hs hO ⟨g,0,none⟩ 1 1 (yg y) hx rfl (World.news_of_block hc) ?_ (by unfold maxLen;omega) (by omega) hB ?_
 ·intro u hu;simp [yg] at hu;rcases hu with rfl | rfl <;> rfl
 ·intro v' w' h1 h2 _;refine h v' w' ?_ h2;unfold fI;rw [List.length_append,List.flatMap_append];simpa using h1
theorem yv (L:List (List UInt8 × Int)) (i:Nat) (h:i < L.length) (j:Nat) (hj:j < 2):(L.flatMap yg)[i*2+j]?=(yg L[i])[j]?:=by
 induction L generalizing i with
 | nil=>simp at h
 | cons x L ih =>
   cases i with
   | zero=>simp only [List.flatMap_cons,Nat.zero_mul,Nat.zero_add,List.getElem_cons_zero];rw [List.getElem?_append_left (by simp [yg];omega)]
   | succ i =>
     simp only [List.flatMap_cons,List.getElem_cons_succ];rw [List.getElem?_append_right (by simp [yg];omega)];rw [← ih i (by simpa using h)];congr 1
     simp [yg];omega
theorem fI.at {B:Nat}{w:World}{v:Value}{l:List (List UInt8 × Int)}(h:fI B w v l):∃ ao c,v=.slice ao l.length c∧l.length≤c∧c≤maxLen∧∀ i (hi:i < l.length),∃ g,ao=some ⟨g,0,none⟩∧w.cell? ⟨g,i*2,none⟩=some (.string (ak l[i].1))∧w.cell? ⟨g,i*2+1,none⟩=some (.int .i64 l[i].2):=by
 have h':=h;obtain ⟨h1,h2⟩:=h;rcases h2 with ⟨hv,hn⟩ | ⟨g,cap,cur,hv,hg,hh,h3,h4,h5,h6⟩
 ·exact ⟨none,0,by rw [hv,hn],by omega,Nat.zero_le _,fun i hi=>by omega⟩
 ·refine ⟨_,cap,hv,h3,h4,fun i hi=>⟨g,rfl,?_⟩⟩
  have hc:∀ j,j < 2→w.cell? ⟨g,i*2+j,none⟩=(yg l[i])[j]?:=fun j hj=>by
   have:=World.ownsRow.cellAt (w:=w) (base:=B) (e:=204) (size:=2) (n:=l.length) (cap:=cap) (g:=g) (xs:=l.flatMap yg) (by rw [← hv];exact h') (i*2+j) (by omega)
   rw [this,yv l i hi j hj]
  exact ⟨hc 0 (by omega),hc 1 (by omega)⟩
structure MA (w:World) (b:Nat) (v vL vR:Value) (K:List (aV × Value)) (G:Gr):Prop where
 at_:w.heap[b]?=some (.cells #[v,vL,vR] 82 (0,0))
 row:bk 0 w v K
 own:gK 0 w K
 com:K.map Prod.fst=G.cs
 lvs:cf 0 w vL G.ls
 rfs:fI 0 w vR G.rs
def bf (b:Nat) (v:Value):List Nat:=b :: v.ownBlock.toList
def vl (w:World) (b:Nat) (S:List Nat) (G:Gr):Prop:=∃ v vL vR K,MA w b v vL vR K G∧gQ G.ls vL∧S=bf b v
theorem MA.typed {w:World}{b:Nat}{v vL vR:Value}{K:List (aV × Value)}{G:Gr}(h:MA w b v vL vR K G):aJ w (bf b v) [82,137]:=by
 intro k hk cur t' mk hh;rcases List.mem_cons.1 hk with rfl | hk
 ·rw [h.at_] at hh;cases hh;simp
 ·obtain ⟨c2,h2⟩:=ar h.row (aw.1 hk);rw [h2] at hh;cases hh;simp
theorem MA.lt {w:World}{b:Nat}{v vL vR:Value}{K:List (aV × Value)}{G:Gr}(h:MA w b v vL vR K G):∀ k∈bf b v,k < w.heap.size:=by
 intro k hk;rcases List.mem_cons.1 hk with rfl | hk
 ·exact aq h.at_
 ·obtain ⟨c2,h2⟩:=ar h.row (aw.1 hk);exact aq h2
theorem MA.keep {w w':World}{b:Nat}{v vL vR:Value}{K:List (aV × Value)}{G:Gr}(h:MA w b v vL vR K G)
 {S:List Nat}{Ts:List TypeId}(k:aa S w w') (hS:∀ i∈bf b v,i ∉ S) (hT:aJ w S Ts) (h1:60 ∉ Ts) (h2:141 ∉ Ts) (h3:204 ∉ Ts):MA w' b v vL vR K G :=
 ⟨k.at h.at_ (hS b (by simp [bf])),k.ownsRow h.row (fun i hi=>hS i (by simp [bf,hi])),fun x hx=>ap k hT (h.own x hx) h1,h.com,ap k hT h.lvs h2,ap k hT h.rfs h3⟩
theorem MA.kept {w w':World}{b:Nat}{v vL vR:Value}{K:List (aV × Value)}{G:Gr}(h:MA w b v vL vR K G) (k:aa [] w w'):MA w' b v vL vR K G :=
 h.keep k (by simp) (cm w []) (by simp) (by simp) (by simp)
theorem vl.keep {w w':World}{b:Nat}{S':List Nat}{G:Gr}(h:vl w b S' G) {S:List Nat}{Ts:List TypeId}(k:aa S w w') (hS:∀ i∈S',i ∉ S) (hT:aJ w S Ts) (h1:60 ∉ Ts) (h2:141 ∉ Ts) (h3:204 ∉ Ts):vl w' b S' G:=by
 obtain ⟨v,vL,vR,K,hG,hn,rfl⟩:=h;exact ⟨v,vL,vR,K,hG.keep k hS hT h1 h2 h3,hn,rfl⟩
theorem vl.kept {w w':World}{b:Nat}{S:List Nat}{G:Gr}(h:vl w b S G) (k:aa [] w w'):vl w' b S G :=
 h.keep k (by simp) (cm w []) (by simp) (by simp) (by simp)
theorem vl.typed {w:World}{b:Nat}{S:List Nat}{G:Gr}(h:vl w b S G):aJ w S [82,137]:=by
 obtain ⟨v,vL,vR,K,hG,hn,rfl⟩:=h;exact hG.typed
theorem MA.new (w:World):MA (w.alloc (.cells #[.slice none 0 0,.slice none 0 0,.slice none 0 0] 82)) w.heap.size (.slice none 0 0) (.slice none 0 0) (.slice none 0 0) [] ba :=
 ⟨heap_alloc_new w _,bk.nil _ _,fun x hx=>(by cases hx),rfl,World.ownsRow_nil _ _ _ _,World.ownsRow_nil _ _ _ _⟩
theorem MA.setRefs {w:World}{b:Nat}{v vL vR vR':Value}{K:List (aV × Value)}{G:Gr}(h:MA w b v vL vR K G) {rs:List (List UInt8 × Int)}(hR:fI 0 w vR' rs) :
 MA (w.setCell ⟨b,2,none⟩ vR') b v vL vR' K ⟨G.cs,G.ls,rs⟩:=by
 have hK2:aa [b] w (w.setCell ⟨b,2,none⟩ vR'):=(aa.refl _ _).setCell (by simp) _
 have hT2:aJ w [b] [82]:=fun k hk cur t' mk hh=>by
  simp at hk;subst hk;rw [h.at_] at hh;cases hh;simp
 exact ⟨heap_setCell_same w b 2 _ _ _ h.at_,ap hK2 hT2 h.row (by decide),fun y hy=>ap hK2 hT2 (h.own y hy) (by decide),h.com,ap hK2 hT2 h.lvs (by decide),ap hK2 hT2 hR (by decide)⟩
theorem MA.setLeaves {w:World}{b:Nat}{v vL vL' vR:Value}{K:List (aV × Value)}{G:Gr}(h:MA w b v vL vR K G) {ls:List Lf}(hL:cf 0 w vL' ls) :
 MA (w.setCell ⟨b,1,none⟩ vL') b v vL' vR K ⟨G.cs,ls,G.rs⟩:=by
 have hK2:aa [b] w (w.setCell ⟨b,1,none⟩ vL'):=(aa.refl _ _).setCell (by simp) _
 have hT2:aJ w [b] [82]:=fun k hk cur t' mk hh=>by
  simp at hk;subst hk;rw [h.at_] at hh;cases hh;simp
 exact ⟨heap_setCell_same w b 1 _ _ _ h.at_,ap hK2 hT2 h.row (by decide),fun y hy=>ap hK2 hT2 (h.own y hy) (by decide),h.com,ap hK2 hT2 hL (by decide),ap hK2 hT2 h.rfs (by decide)⟩
theorem MA.setRow {w:World}{b:Nat}{v vL vR:Value}{K:List (aV × Value)}{G:Gr}(h:MA w b v vL vR K G) {w':World}{x:aV}{cv:Value}(hO:aP 0 w cv x.c) {g cap:Nat}
 (hR:bk 0 w' (.slice (some ⟨g,0,none⟩) (K.length+1) cap) (K++[(x,cv)])) (hg:w.grownBy w' v.ownBlock) (hat:v.ownBlock=some g∨g=w.heap.size) :
 MA (w'.setCell ⟨b,0,none⟩ (.slice (some ⟨g,0,none⟩) (K.length+1) cap)) b (.slice (some ⟨g,0,none⟩) (K.length+1) cap) vL vR (K++[(x,cv)]) ⟨G.cs++[x],G.ls,G.rs⟩:=by
 have hT:aJ w v.ownBlock.toList [137]:=fun k hk cur t' mk hh=>by
  obtain ⟨c2,h2⟩:=ar h.row (aw.1 hk);rw [h2] at hh;cases hh;simp
 have hK:aa v.ownBlock.toList w w':=(aa.refl _ w).grown hg fun k hk=>.inl (aw.2 hk);have hbv:b ∉ v.ownBlock.toList:=fun hm=>by have:=hT b hm _ _ _ h.at_;simp at this
 have hb':=hK.at h.at_ hbv;have hblt:=aq h.at_
 have hgb:g≠b:=fun e=>by
  subst e;rcases hat with hat | hat
  ·exact hbv (aw.2 hat)
  ·omega
 have hK2:aa [b] w' (w'.setCell ⟨b,0,none⟩ (.slice (some ⟨g,0,none⟩) (K.length+1) cap)):=(aa.refl _ _).setCell (by simp) _
 have hT2:aJ w' [b] [82]:=fun k hk cur t' mk hh=>by
  simp at hk;subst hk;rw [hb'] at hh;cases hh;simp
 refine ⟨heap_setCell_same w' b 0 _ _ _ hb',hK2.ownsRow hR (fun k hk=>by simp [Value.ownBlock] at hk;subst hk;simpa using hgb),?_,by simp [h.com],ap hK2 hT2 (ap hK hT h.lvs (by decide)) (by decide),ap hK2 hT2 (ap hK hT h.rfs (by decide)) (by decide)⟩;intro y hy
 have hy2:aP 0 w y.2 y.1.c:=by
  rcases List.mem_append.1 hy with hy | hy
  ·exact h.own y hy
  ·simp at hy;subst hy;exact hO
 exact ap hK2 hT2 (ap hK hT hy2 (by decide)) (by decide)
theorem rE {n:List UInt8}{l:List (List UInt8 × Int)}(h:∀ x∈l,x.1≠n):l.filter (fun y=>decide (y.1≠n))=l:=by
 rw [List.filter_eq_self];intro x hx;simpa using h x hx
def oc (n:List UInt8) (r:Int) (l:List (List UInt8 × Int)) (i:Nat) (put:Bool) (out:List (List UInt8 × Int)):Prop :=
 (put=false∧out++jp n r (l.drop i)=jp n r l)∨(put=true∧out++(l.drop i).filter (fun y=>decide (y.1≠n))=jp n r l)
theorem BQ {n:List UInt8}{r:Int}{l:List (List UInt8 × Int)}{i:Nat}(hi:i < l.length) {out:List (List UInt8 × Int)}(h:oc n r l i false out) (hlt:l[i].1 < n):oc n r l (i+1) false (out++[l[i]]):=by
 rcases h with ⟨_,h⟩ | ⟨h,_⟩
 ·refine .inl ⟨rfl,?_⟩;rw [List.drop_eq_getElem_cons hi,jp,if_pos hlt] at h;rw [List.append_assoc];exact h
 ·cases h
theorem rl {l:List (List UInt8 × Int)}(hs:sK l) {i:Nat}(hi:i < l.length):∀ x∈l.drop (i+1),l[i].1 < x.1:=by
 have h1:sK (l.drop i):=List.Pairwise.sublist (List.drop_sublist _ _) hs;rw [List.drop_eq_getElem_cons hi] at h1;exact (List.pairwise_cons.1 h1).1
theorem BK {n:List UInt8}{r:Int}{l:List (List UInt8 × Int)}(hs:sK l) {i:Nat}(hi:i < l.length) {out:List (List UInt8 × Int)}(h:oc n r l i false out) (he:l[i].1=n):oc n r l (i+1) true (out++[(n,r)]):=by
 rcases h with ⟨_,h⟩ | ⟨h,_⟩
 ·refine .inr ⟨rfl,?_⟩;rw [List.drop_eq_getElem_cons hi,jp,if_neg (by rw [he];exact List.lt_irrefl _),if_pos he] at h;rw [rE (fun x hx e=>by have:=rl hs hi x hx;rw [he,e] at this;exact List.lt_irrefl _ this),List.append_assoc];exact h
 ·cases h
theorem BE {n:List UInt8}{r:Int}{l:List (List UInt8 × Int)}(hs:sK l) {i:Nat}(hi:i < l.length) {out:List (List UInt8 × Int)}(h:oc n r l i false out) (hlt:¬ l[i].1 < n) (he:l[i].1≠n):oc n r l (i+1) true (out++[(n,r)]++[l[i]]):=by
 rcases h with ⟨_,h⟩ | ⟨h,_⟩
 ·refine .inr ⟨rfl,?_⟩;rw [List.drop_eq_getElem_cons hi,jp,if_neg hlt,if_neg he] at h;rw [rE (fun x hx e=>by have:=rl hs hi x hx;rw [e] at this;exact hlt this),List.append_assoc,List.append_assoc];exact h
 ·cases h
theorem BC {n:List UInt8}{r:Int}{l:List (List UInt8 × Int)}{i:Nat}(hi:i < l.length) {out:List (List UInt8 × Int)}(h:oc n r l i true out) (he:l[i].1=n):oc n r l (i+1) true out:=by
 rcases h with ⟨h,_⟩ | ⟨_,h⟩
 ·cases h
 ·refine .inr ⟨rfl,?_⟩;rw [List.drop_eq_getElem_cons hi,List.filter_cons_of_neg (by simpa using he)] at h;exact h
theorem BU {n:List UInt8}{r:Int}{l:List (List UInt8 × Int)}{i:Nat}(hi:i < l.length) {out:List (List UInt8 × Int)}(h:oc n r l i true out) (he:l[i].1≠n):oc n r l (i+1) true (out++[l[i]]):=by
 rcases h with ⟨h,_⟩ | ⟨_,h⟩
 ·cases h
 ·refine .inr ⟨rfl,?_⟩;rw [List.drop_eq_getElem_cons hi,List.filter_cons_of_pos (by simpa using he)] at h;rw [List.append_assoc];exact h
theorem rh:∀ {a b:List UInt8},Op.bytesLess a b=decide (a < b)
 | [],[]=>by simp [Op.bytesLess]
 | [],_ :: _=>by simp [Op.bytesLess]
 | _ :: _,[]=>by simp [Op.bytesLess]
 | x :: a,y :: b=>by
   have ih:=@rh a b;simp only [Op.bytesLess,ih,List.cons_lt_cons_iff];by_cases h1:x < y
   ·simp [h1]
   ·by_cases h2:x=y <;> simp [h1,h2]
theorem jf (a b:List UInt8):Op.bytesLess (ak a).toList (ak b).toList=decide (a < b):=by rw [bl,bl,rh]
theorem fI.mono {B C:Nat}{w:World}{v:Value}{l:List (List UInt8 × Int)}(h:fI C w v l) (hB:B≤C):fI B w v l:=by
 obtain ⟨h1,h2⟩:=h;exact ⟨h1,h2.imp id fun ⟨g,cap,cur,hv,hg,r⟩=>⟨g,cap,cur,hv,Nat.le_trans hB hg,r⟩⟩
def xW (w:World) (n:List UInt8) (r:Int) (l:List (List UInt8 × Int)) (ov pv iv:Value) (wr:World):Prop :=
 ∃ (i:Nat) (out:List (List UInt8 × Int)) (put:Bool),iv=.int .i64 (i:Int)∧pv=.bool put∧i≤l.length∧Hid (oc n r l i put out)∧Hid (out.length≤2*i)∧Hid (fI w.heap.size wr ov out)∧Hid (aa [] w wr)
def En (w:World) (b:Nat) (v vL:Value) (K:List (aV × Value)) (G:Gr) (w':World):Prop:=∃ vR,MA w' b v vL vR K G∧aa [b] w w'
theorem yT {w wr:World}{b:Nat}{v vL vR:Value}{K:List (aV × Value)}{G:Gr}(h:MA w b v vL vR K G) {ov:Value}{rs:List (List UInt8 × Int)}(hK:aa [] w wr) (hO:fI w.heap.size wr ov rs):Hid (En w b v vL K ⟨G.cs,G.ls,rs⟩ (wr.setCell ⟨b,2,none⟩ ov)) :=
 ⟨ov,(h.kept hK).setRefs (fI.mono hO (Nat.zero_le _)),(hK.mono (by simp)).setCell (.inl (by simp)) _⟩
theorem wR {w:World}{b:Nat}{v vL vR:Value}{K:List (aV × Value)}{G:Gr}(h:MA w b v vL vR K G) (n:List UInt8) (r:Int) (hs:sK G.rs) (hl:G.rs.length≤1000000) :
 Calls Tryz.prog 144 #[.pointer (some ⟨b,0,none⟩),.string (ak n),.int .i64 r] w fun e w'=>e=.returned (.tuple #[])∧En w b v vL K ⟨G.cs,G.ls,jp n r G.rs⟩ w':=by
 obtain ⟨ao,c,rfl,hc,hm,hat⟩:=h.rfs.at;unfold maxLen at hm;have HAt:Hid (∀ i (hi:i < G.rs.length),∃ g,ao=some ⟨g,0,none⟩∧w.cell? ⟨g,i*2,none⟩=some (.string (ak G.rs[i].1))∧w.cell? ⟨g,i*2+1,none⟩=some (.int .i64 G.rs[i].2)):=hat;have HM:Hid (MA w b v vL (.slice ao G.rs.length c) K G):=h;have HS:Hid (sK G.rs):=hs;obtain ⟨rn,hrn⟩:∃ rn:Nat,rn=G.rs.length:=⟨_,rfl⟩;have HRn:Hid (rn=G.rs.length):=hrn;rw [← hrn] at hc hl;clear hat h hs hrn;go_enter Tryz.func144,Tryz.ntmps144;go_wp2_with fail
 go_loopw [6,7,8] (fun ov pv iv wr=>xW w n r G.rs ov pv iv wr) (fun _ _ iv _=>rn - (intOf iv).toNat)
 case atStart=>exact ⟨0,[],false,rfl,rfl,Nat.zero_le _,.inl ⟨rfl,rfl⟩,Nat.zero_le _,World.ownsRow_nil _ _ _ _,aa.refl _ _⟩
 case round =>
  obtain ⟨i,out,put,rfl,rfl,hi,HP,HL,HO,HK⟩:=hrel;have hsz:=HK.out.size;obtain ⟨c0,c1,c2⟩:=bC (HM.out.kept HK.out).at_;rw [← HRn.out] at c2;have HO2:=fun ob=>World.ownsRow.alloc HO.out ob;have hlen:out.length≤1000000000:=by have:=HL.out;have:=HRn.out;omega
  have HKa:=fun ob=>HK.out.alloc ob;by_cases hlt:i < rn
  ·have hlt':(i:Int) < rn:=by omega
   have hic:i≤c:=by omega
   have hir:i < G.rs.length:=by rw [← HRn.out];exact hlt
   obtain ⟨g,rfl,d0,d1⟩:=HAt.out i hir;have e0:=HK.out.cell d0 (by simp);have e1:=HK.out.cell d1 (by simp);have E0:Hid (w.cell? ⟨g,i*2,none⟩=some (.string (ak G.rs[i].1))):=d0;have E1:Hid (w.cell? ⟨g,i*2+1,none⟩=some (.int .i64 G.rs[i].2)):=d1;clear d0 d1;obtain ⟨y,hy⟩:∃ y,y=G.rs[i]:=⟨_,rfl⟩;rw [← hy] at e0 e1 E0 E1;cases put with
   | false =>
     by_cases hlt1:y.1 < n
     ·have hb1:Op.bytesLess (ak y.1).toList (ak n).toList=true:=by rw [jf];simpa using hlt1
      have hb2:((ak y.1).toList==(ak n).toList)=false:=by rw [dl];simp;intro e;rw [e] at hlt1;exact List.lt_irrefl _ hlt1
      have HN:Hid (oc n r G.rs (i+1) false (out++[y])):=by rw [hy];exact BQ hir HP.out (by rw [← hy];exact hlt1)
      clear hlt1 hy;go_wp2_with (at_builtin;refine ej rfl _ _ rfl w.heap.size _ out rfl (HO2 _) wr.heap.size y rfl (heap_alloc_new _ _) hlen (by simp;omega) ?a1)
      case a1 =>
       intro v2 w2 hO2 hg2;have HF:Hid (xW w n r G.rs v2 (.bool false) (.int .i64 ((i+1:Nat):Int)) w2):=⟨i+1,_,false,rfl,rfl,by omega,HN,(by have:=HL.out;show _≤_;simp;omega),hO2,(HKa (.cells #[.string (ak y.1),.int .i64 y.2] 204)).grown hg2 (fun k hk=>.inr (World.ownsRow.lt (HO2 (.cells #[.string (ak y.1),.int .i64 y.2] 204)) k hk).1)⟩;clear hO2 hg2;(go_wp2_with fail);go_roundw
       case rel=>exact HF.out
       case measure=>simp [intOf];omega
     ·have hb1:Op.bytesLess (ak y.1).toList (ak n).toList=false:=by rw [jf];simpa using hlt1
      by_cases he:y.1=n
      ·have hb2:((ak y.1).toList==(ak n).toList)=true:=by rw [dl];simpa using he
       have HN:Hid (oc n r G.rs (i+1) true (out++[(n,r)])):=BK HS.out hir HP.out (by rw [← hy];exact he);clear hlt1 hy he;go_wp2_with (at_builtin;refine ej rfl _ _ rfl w.heap.size _ out rfl (HO2 _) wr.heap.size (n,r) rfl (heap_alloc_new _ _) hlen (by simp;omega) ?a2)
       case a2 =>
        intro v2 w2 hO2 hg2;have hK2:=(HKa (.cells #[.string (ak n),.int .i64 r] 204)).grown hg2 (fun k hk=>.inr (World.ownsRow.lt (HO2 (.cells #[.string (ak n),.int .i64 r] 204)) k hk).1);obtain ⟨m0,m1,m2⟩:=bC (HM.out.kept hK2).at_;rw [← HRn.out] at m2;have k0:=hK2.cell E0.out (by simp);have k1:=hK2.cell E1.out (by simp);have HF:Hid (xW w n r G.rs v2 (.bool true) (.int .i64 ((i+1:Nat):Int)) w2):=⟨i+1,_,true,rfl,rfl,by omega,HN,(by have:=HL.out;show _≤_;simp;omega),hO2,hK2⟩;clear hO2 hg2 hK2;(go_wp2_with fail);go_roundw
        case rel=>exact HF.out
        case measure=>simp [intOf];omega
      ·have hb2:((ak y.1).toList==(ak n).toList)=false:=by rw [dl];simpa using he
       have HN:Hid (oc n r G.rs (i+1) true (out++[(n,r)]++[y])):=by rw [hy];exact BE HS.out hir HP.out (by rw [← hy];exact hlt1) (by rw [← hy];exact he)
       clear hlt1 hy he;go_wp2_with (at_builtin;refine ej rfl _ _ rfl w.heap.size _ out rfl (HO2 _) wr.heap.size (n,r) rfl (heap_alloc_new _ _) hlen (by simp;omega) ?a3)
       case a3 =>
        intro v2 w2 hO2 hg2;have hK2:=(HKa (.cells #[.string (ak n),.int .i64 r] 204)).grown hg2 (fun k hk=>.inr (World.ownsRow.lt (HO2 (.cells #[.string (ak n),.int .i64 r] 204)) k hk).1);obtain ⟨m0,m1,m2⟩:=bC (HM.out.kept hK2).at_;rw [← HRn.out] at m2;have k0:=hK2.cell E0.out (by simp);have k1:=hK2.cell E1.out (by simp);have HK2:Hid (aa [] w w2):=hK2;have HO3:=fun ob=>World.ownsRow.alloc hO2 ob;have hlen3:(out++[(n,r)]).length≤1000000000:=by have:=HL.out;have:=HRn.out;simp;omega
        have hsz2:=hK2.size;clear hg2 hK2 HO2 HKa;go_wp2_with (at_builtin;refine ej rfl _ _ rfl w.heap.size _ (out++[(n,r)]) rfl (HO3 _) w2.heap.size y rfl (heap_alloc_new _ _) hlen3 (by simp;omega) ?a4)
        case a4 =>
         intro v3 w3 hO4 hg4;have HF:Hid (xW w n r G.rs v3 (.bool true) (.int .i64 ((i+1:Nat):Int)) w3):=⟨i+1,_,true,rfl,rfl,by omega,HN,(by have:=HL.out;show _≤_;simp;omega),(by show fI _ _ _ _;rw [List.append_assoc];exact hO4),(HK2.out.alloc (.cells #[.string (ak y.1),.int .i64 y.2] 204)).grown hg4 (fun k hk=>.inr (World.ownsRow.lt (HO3 (.cells #[.string (ak y.1),.int .i64 y.2] 204)) k hk).1)⟩;clear hO4 hg4 HO3;(go_wp2_with fail);go_roundw
         case rel=>exact HF.out
         case measure=>simp [intOf];omega
   | true =>
     by_cases he:y.1=n
     ·have hb2:((ak y.1).toList==(ak n).toList)=true:=by rw [dl];simpa using he
      have HN:Hid (oc n r G.rs (i+1) true out):=BC hir HP.out (by rw [← hy];exact he);have HF:Hid (xW w n r G.rs u6 (.bool true) (.int .i64 ((i+1:Nat):Int)) wr):=⟨i+1,_,true,rfl,rfl,by omega,HN,(by have:=HL.out;show _≤_;omega),HO,HK⟩;clear hy he;(go_wp2_with fail);go_roundw
      case rel=>exact HF.out
      case measure=>simp [intOf];omega
     ·have hb2:((ak y.1).toList==(ak n).toList)=false:=by rw [dl];simpa using he
      have HN:Hid (oc n r G.rs (i+1) true (out++[y])):=by rw [hy];exact BU hir HP.out (by rw [← hy];exact he)
      clear hy he;go_wp2_with (at_builtin;refine ej rfl _ _ rfl w.heap.size _ out rfl (HO2 _) wr.heap.size y rfl (heap_alloc_new _ _) hlen (by simp;omega) ?a5)
      case a5 =>
       intro v2 w2 hO2 hg2;have HF:Hid (xW w n r G.rs v2 (.bool true) (.int .i64 ((i+1:Nat):Int)) w2):=⟨i+1,_,true,rfl,rfl,by omega,HN,(by have:=HL.out;show _≤_;simp;omega),hO2,(HKa (.cells #[.string (ak y.1),.int .i64 y.2] 204)).grown hg2 (fun k hk=>.inr (World.ownsRow.lt (HO2 (.cells #[.string (ak y.1),.int .i64 y.2] 204)) k hk).1)⟩;clear hO2 hg2;(go_wp2_with fail);go_roundw
       case rel=>exact HF.out
       case measure=>simp [intOf];omega
  ·have hlt':¬ (i:Int) < rn:=by omega
   have hdr:G.rs.drop i=[]:=List.drop_eq_nil_of_le (by rw [← HRn.out];omega);cases put with
   | true =>
     have HE:Hid (out=jp n r G.rs):=by
      have:=HP.out
      rcases this with ⟨h,_⟩ | ⟨_,h⟩
      ·cases h
      ·rw [hdr] at h;show _=_;simpa using h
     obtain ⟨ao6,c6,he6,_⟩:=HO.out.at;have HF:=yT HM.out HK.out HO.out;rw [HE.out] at HF;have f2:=aj (HM.out.kept HK.out).at_ 2;subst he6;clear HO2 HKa hdr;(go_wp2_with fail);go_returns
     exact ⟨rfl,HF.out⟩
   | false =>
     have HE:Hid (out++[(n,r)]=jp n r G.rs):=by
      have:=HP.out
      rcases this with ⟨_,h⟩ | ⟨h,_⟩
      ·rw [hdr] at h;exact h
      ·cases h
     clear hdr;go_wp2_with (at_builtin;refine ej rfl _ _ rfl w.heap.size _ out rfl (HO2 _) wr.heap.size (n,r) rfl (heap_alloc_new _ _) hlen (by simp;omega) ?a6)
     case a6 =>
      intro v2 w2 hO2 hg2;have hK2:=(HKa (.cells #[.string (ak n),.int .i64 r] 204)).grown hg2 (fun k hk=>.inr (World.ownsRow.lt (HO2 (.cells #[.string (ak n),.int .i64 r] 204)) k hk).1);obtain ⟨m0,m1,m2⟩:=bC (HM.out.kept hK2).at_;have f2:=aj (HM.out.kept hK2).at_ 2;have HF:=yT HM.out hK2 hO2;rw [HE.out] at HF;obtain ⟨ao6,c6,he6,_⟩:=fI.at hO2;obtain ⟨n6,hn6⟩:∃ n6,n6=(out++[(n,r)]).length:=⟨_,rfl⟩;rw [← hn6] at he6;subst he6;clear hn6;clear hO2 hg2 hK2 HO2 HKa;(go_wp2_with fail);go_returns
      exact ⟨rfl,HF.out⟩
def ym (w:World) (b:Nat) (S:List Nat) (G:Gr) (w':World):Prop:=∃ S',vl w' b S' G∧aa S w w'∧∀ k∈S',k∈S∨w.heap.size≤k
theorem gF {w w2 w3:World}{b:Nat}{v vL vR:Value}{K:List (aV × Value)}{G:Gr}{vs:Array Value}(h:MA w2 b v vL vR K G) (hnl:gQ G.ls vL) {S:List Nat}(hS:∀ k∈S,k < w.heap.size) (hv:∀ k∈bf b v,k∈S∨w.heap.size < k)
 (hB:w2.heap[w.heap.size]?=some (.cells vs 39 (0,0))) (hK2:aa S w w2) (hK3:aa [w.heap.size] w2 w3):ym w b S G w3:=by
 have hT:aJ w2 [w.heap.size] [39]:=fun k hk cur t' mk hh=>by
  simp at hk;subst hk;rw [hB] at hh;cases hh;simp
 refine ⟨bf b v,⟨v,vL,vR,K,h.keep hK3 (fun i hi hm=>?_) hT (by decide) (by decide) (by decide),hnl,rfl⟩,hK2.trans hK3 (by simp),fun k hk=>?_⟩
 ·simp at hm;subst hm
  rcases hv _ hi with h1 | h1
  ·have:=hS _ h1;omega
  ·omega
 ·rcases hv k hk with h1 | h1
  ·exact .inl h1
  ·exact .inr (by omega)
theorem oF {w w1:World}{v0 v1 v2 v3:Value}{t:TypeId}(h:aa [] (w.alloc (.cells #[v0,v1,v2,v3] t)).drew w1) :
 w1.cell? ⟨w.heap.size,0,none⟩=some v0∧w1.cell? ⟨w.heap.size,1,none⟩=some v1∧w1.cell? ⟨w.heap.size,2,none⟩=some v2∧w1.cell? ⟨w.heap.size,3,none⟩=some v3 ∧
 w1.frozen? ⟨w.heap.size,0,none⟩=false∧w1.frozen? ⟨w.heap.size,1,none⟩=false∧w1.frozen? ⟨w.heap.size,2,none⟩=false∧w1.frozen? ⟨w.heap.size,3,none⟩=false∧Hid (w1.heap[w.heap.size]?=some (.cells #[v0,v1,v2,v3] t (0,0))):=by
 have h2:w1.heap[w.heap.size]?=some (.cells #[v0,v1,v2,v3] t (0,0)):=h.at (heap_alloc_new w _) (by simp);obtain ⟨m0,m1,m2,m3⟩:=br h2;exact ⟨m0,m1,m2,m3,ai h2 0,ai h2 1,ai h2 2,ai h2 3,h2⟩
theorem g8 {w:World}{k:Nat}{o:Obj}(h:w.heap[k]?=some o):k < w.heap.size:=by
 by_cases hl:k < w.heap.size
 ·exact hl
 ·rw [Array.getElem?_eq_none (by omega)] at h;cases h
theorem qN {w:World}{ops:Array Oper}{rest:List Oper}{o:Oper}{a:Act}{Q:Exit→Act→World→Prop}(hgd:o.guard=none) (s x:Operand)
 (hop:o.op=.call { callee:=.builtin .append,args:=#[s,x],argTypes:=#[37,37] })
 (v:Value) (K:List (aV × Value)) (hs:a.eval s=v) (hO:bk 0 w v K) (g:Nat) (y:aV × Value) (hx:a.eval x=.slice (some ⟨g,0,none⟩) 1 1) (hc:w.heap[g]?=some (.cells #[.int .i64 y.1.r,.int .i64 y.1.b,.string (ak y.1.n),y.2] 137 (0,0)))
 (h1:y.2.oneCell'=true) (hlen:K.length≤1000000000)
 (h:∀ g cap w',bk 0 w' (.slice (some ⟨g,0,none⟩) (K.length+1) cap) (K++[y])→w.grownBy w' v.ownBlock→(v.ownBlock=some g∨g=w.heap.size)→g < w'.heap.size→wpList Tryz.prog ops Q rest (a.put o.dst (.slice (some ⟨g,0,none⟩) (K.length+1) cap)) w'):wpList Tryz.prog ops Q (o :: rest) a w:=by
 obtain ⟨i0,hi,hz0,hz1,hz2⟩:=info_parts gt;refine wpList_append_lies w hgd s x 37 hop 0 137 i0 (.agg #[.int .i64 0,.int .i64 0,.string ⟨#[]⟩,.slice none 0 0]) 4 56 Tryz.underlying37 hi hz0 hz1 hz2 rfl (by decide) v K.length (K.flatMap gE) hs hO ⟨g,0,none⟩ 1 1 (gE y) hx rfl (World.news_of_block hc) ?_ (by decide) (by unfold maxLen;omega) (by omega) (Nat.zero_le _) _ rfl ?_
 ·intro u hu;simp [gE] at hu;rcases hu with rfl | rfl | rfl | rfl <;> first | rfl | exact h1
 ·intro g' cap w' h2 h3 h4 h5;refine h g' cap w' ?_ h3 h4 h5;unfold bk;rw [List.length_append,List.flatMap_append];simpa using h2
theorem kq {w:World}{b g o:Nat}{v u0 u1 u2 u3 u4 u5 u6:Value}(hne:g≠b) (h:w.cell? ⟨g,o,none⟩=some v):(eg w b u0 u1 u2 u3 u4 u5 u6).drew.cell? ⟨g,o,none⟩=some v :=
 (aQ (aa.refl [b] w) (.inl (by simp)) u0 u1 u2 u3 u4 u5 u6).drew.cell h (by simpa using hne)
theorem z7 {w:World}{k:Nat}{o:Option Obj}(h:w.heap[k]?=o):w.drew.heap[k]?=o:=h
theorem uY {w:World}{b:Nat}{v0 v1 v2 v3 v4 v5 v6:Value}{t:TypeId}(h:w.heap[b]?=some (.cells #[v0,v1,v2,v3,v4,v5,v6] t (0,0))) (u0 u1 u2 u3 u4 u5 u6:Value) :
 Hid ((eg w b u0 u1 u2 u3 u4 u5 u6).drew.heap[b]?=some (.cells #[u0,u1,u2,u3,u4,u5,u6] t (0,0))):=z7 (ff h u0 u1 u2 u3 u4 u5 u6)
theorem MA.grown {w:World}{b:Nat}{v vL vR:Value}{K:List (aV × Value)}{G:Gr}(h:MA w b v vL vR K G) {w':World}(hg:w.grownBy w' v.ownBlock):w'.heap[b]?=some (.cells #[v,vL,vR] 82 (0,0)):=by
 refine ((aa.refl v.ownBlock.toList w).grown hg fun k hk=>.inl (aw.2 hk)).at h.at_ fun hm=>?_;obtain ⟨c2,h2⟩:=ar h.row (aw.1 hm);rw [h.at_] at h2;cases h2
theorem sS {w wr w2:World}{b:Nat}{v:Value}{o ob:Obj}{g n cap:Nat}(hS:∀ k∈bf b v,k < w.heap.size) (hK:aa [] w wr) (hB:wr.heap[w.heap.size]?=some o) (hg:(wr.alloc ob).grownBy w2 v.ownBlock) (hat:v.ownBlock=some g∨g=(wr.alloc ob).heap.size) :
 aa (bf b v) w (w2.setCell ⟨b,0,none⟩ (.slice (some ⟨g,0,none⟩) n cap))∧(∀ k∈bf b (.slice (some ⟨g,0,none⟩) n cap),k∈bf b v∨w.heap.size < k) ∧
  (w2.setCell ⟨b,0,none⟩ (.slice (some ⟨g,0,none⟩) n cap)).heap[w.heap.size]?=some o:=by
 have hlt:=g8 hB;refine ⟨(((hK.mono (by simp)).alloc _).grown hg (fun k hk=>.inl (by simp [bf,hk]))).setCell (.inl (by simp [bf])) _,fun k hk=>?_,?_⟩
 ·rcases List.mem_cons.1 hk with rfl | hk
  ·exact .inl (by simp [bf])
  ·simp [Value.ownBlock] at hk
   subst hk;rcases hat with h | h
   ·exact .inl (by simp [bf,h])
   ·refine .inr ?_;rw [h,World.size_alloc];omega
 ·have hb:=hS b (by simp [bf]);have h1:(wr.alloc ob).heap[w.heap.size]?=some o:=(Below.heap_alloc _ _ _ hlt).trans hB
  have h2:w2.heap[w.heap.size]?=some o:=((aa.refl v.ownBlock.toList _).grown hg fun k hk=>.inl (aw.2 hk)).at h1 fun hm=>by
   have:=hS w.heap.size (by simp [bf,aw.1 hm])
   omega
  exact (show aa [b] w2 _ from (aa.refl _ _).setCell (by simp) _).at h2 (by simp;omega)
def D7 (w:World) (b:Nat) (S:List Nat) (v vR:Value) (K:List (aV × Value)) (cs:List aV) (ls:List Lf) (rs:List (List UInt8 × Int)) (r:Int) (L:List Ch) (vs:Array Value) (iv:Value) (wr:World):Prop :=
 ∃ (i:Nat) (vL:Value),iv=.int .i64 (i:Int)∧i≤L.length∧Hid (MA wr b v vL vR K ⟨cs,dF r ls (L.take i),rs⟩)∧Hid (gQ (dF r ls (L.take i)) vL)∧Hid (aa S w wr)∧Hid (wr.heap[w.heap.size]?=some (.cells vs 39 (0,0)))
def CZ (w:World) (ls:List Lf) (base:Int) (L:List Ch) (R:Option (List UInt8 × Int)) (kv:Value) (wr:World):Prop :=
 ∃ k:Nat,kv=.int .i64 (k:Int)∧k≤L.length∧Hid (aa [] w wr)∧Hid (bW ls base (L.drop k)=R)
set_option linter.unusedSimpArgs false in
theorem uE {w:World}{b:Nat}{v vL vR:Value}{K:List (aV × Value)}{G:Gr}(h:MA w b v vL vR K G) (hnl:gQ G.ls vL) (hW:Wf G) (hl:G.cs.length≤10000)
 (base:Int) (n:List UInt8) (hn:n.length≤1000000) (ao:Option Addr) (m c:Nat) (L:List Ch) (hS:di w ao m c L) (hm:m≤1000000) (hp:∀ x∈L,x.p.length≤1000000000) :
 Calls Tryz.prog 110 #[.pointer (some ⟨b,0,none⟩),.int .i64 base,.string (ak n),.slice ao m c] w fun e w'=>e=.returned (sH (bi G base n L))∧ym w b (bf b v) (bB G base n L) w':=by
 have hK1:aa [] w (iz w):=(aa.refl _ _).alloc _;have HB:Hid ((iz w).heap[w.heap.size]?=some (.cells #[.int .i64 0,.int .i64 0,.int .i64 0,.string ⟨#[]⟩,.int .u64 0,.slice none 0 0,.int .i64 0] 39 (0,0))):=heap_alloc_new w _;have cC:=lE (iz w) ao m c L (hS.kept hK1 (by simp)) hp;have cN:=fun W=>jG n W (by omega);have HLt:Hid (∀ k∈bf b v,k < w.heap.size):=h.lt;have hkl:K.length=G.cs.length:=by rw [← h.com];simp
 have HM:Hid (MA w b v vL vR K G):=h;have HNl:Hid (gQ G.ls vL):=hnl;have HS:Hid (di w ao m c L):=hS;have HP:Hid (∀ x∈L,x.p.length≤1000000000):=hp;have HW:Hid (Wf G):=hW;obtain ⟨aoC,cpC,hvC,_,_⟩:=h.row.sl h.own;obtain ⟨aoL,cpL,hvL,hsL⟩:=h.lvs.sl;rw [hkl] at hvC;obtain ⟨gl,hgl⟩:∃ gl:Nat,gl=G.cs.length:=⟨_,rfl⟩;have HGl:Hid (gl=G.cs.length):=hgl;obtain ⟨nl,hnll⟩:∃ nl:Nat,nl=G.ls.length:=⟨_,rfl⟩;have HN2:Hid (nl=G.ls.length):=hnll;rw [← hgl] at hvC hl;rw [← hnll] at hvL hsL;have HSL:Hid (uk w aoL nl cpL G.ls):=hsL;have HVL:Hid (vL=.slice aoL nl cpL):=hvL;have HVC:Hid (v=.slice aoC gl cpC):=hvC;have HK1:Hid (aa [] w (iz w)):=hK1;clear h hnl hS hp hW hsL hkl hgl hnll hvL hvC hK1;unfold iz at *;go_enter Tryz.func110,Tryz.ntmps110;go_upto_region 1 with fail
 go_cut [30] from 15 to 30 (fun sv wx=>sv=.bool (bY base n L)∧aa [] (w.alloc (.cells #[.int .i64 0,.int .i64 0,.int .i64 0,.string ⟨#[]⟩,.int .u64 0,.slice none 0 0,.int .i64 0] 39)) wx)
 case first =>
  by_cases hz:gy L=0
  ·by_cases h0:n=[]
   ·by_cases hlt:base < 0
    ·have HE:Hid (bY base n L=true):=by simp [bY,hlt];exact trivial
     rw [hz] at cC;clear hz;subst h0;have hE:=dN;(go_wp2_with fail);refine cC.mono ?_;rintro _ w1 ⟨rfl,hK⟩;(go_wp2_with fail);go_meet
     exact ⟨by rw [HE.out],hK⟩
    ·have HE:Hid (bY base n L=false):=by show _=_;simp [bY,hlt,hz,h0]
     rw [hz] at cC;clear hz;subst h0;have hE:=dN;(go_wp2_with fail);refine cC.mono ?_;rintro _ w1 ⟨rfl,hK⟩;(go_wp2_with fail);go_meet
     exact ⟨by rw [HE.out,decide_eq_false (by omega)],hK⟩
   ·have hE:=ez h0;cases hw:bu false n with
    | false =>
      have HE:Hid (bY base n L=true):=by show _=_;simp [bY,hw,h0]
      rw [hz] at cC;rw [hw] at cN;clear hz;(go_wp2_with fail);refine cC.mono ?_;rintro _ w1 ⟨rfl,hK⟩;(go_wp2_with fail);refine (cN _).mono ?_;rintro _ W ⟨rfl,hW0⟩;obtain rfl:=hW0.symm;(go_wp2_with fail);go_meet
      exact ⟨by rw [HE.out],hK⟩
    | true =>
      rw [hz] at cC;rw [hw] at cN;by_cases hlt:base < 0
      ·have HE:Hid (bY base n L=true):=by show _=_;simp [bY,hlt]
       clear hz;(go_wp2_with fail);refine cC.mono ?_;rintro _ w1 ⟨rfl,hK⟩;(go_wp2_with fail);refine (cN _).mono ?_;rintro _ W ⟨rfl,hW0⟩;obtain rfl:=hW0.symm;(go_wp2_with fail);go_meet
       exact ⟨by rw [HE.out],hK⟩
      ·have HE:Hid (bY base n L=false):=by show _=_;simp [bY,hlt,hz,hw]
       clear hz;(go_wp2_with fail);refine cC.mono ?_;rintro _ w1 ⟨rfl,hK⟩;(go_wp2_with fail);refine (cN _).mono ?_;rintro _ W ⟨rfl,hW0⟩;obtain rfl:=hW0.symm;(go_wp2_with fail);go_meet
       exact ⟨by rw [HE.out,decide_eq_false (by omega)],hK⟩
  ·have HE:Hid (bY base n L=true):=by show _=_;simp [bY,hz]
   have hz1:gy L=1:=by
    by_cases hk:cQ L
    ·exact absurd (ia hk) hz
    ·exact dP hk
   rw [hz1] at cC;clear hz hz1;(go_wp2_with fail);refine cC.mono ?_;rintro _ w1 ⟨rfl,hK⟩;(go_wp2_with fail);go_meet
   exact ⟨by rw [HE.out],hK⟩
 case rest =>
  obtain ⟨rfl,hKc⟩:=hcut;have hBc:=hKc.at HB.out (by simp);have HKw:Hid (aa [] w wc):=HK1.out.trans hKc (by simp);have hMc:=HM.out.kept HKw.out;obtain ⟨c0,c1,c2⟩:=bC hMc.at_;rw [HVC.out] at c0;rw [HVL.out] at c1;have HMc:Hid (MA wc b v vL vR K G):=hMc;have HBc:Hid (wc.heap[w.heap.size]?=some (.cells #[.int .i64 0,.int .i64 0,.int .i64 0,.string ⟨#[]⟩,.int .u64 0,.slice none 0 0,.int .i64 0] 39 (0,0))):=hBc;clear cC cN hKc hMc;cases hbad:bY base n L with
  | true =>
    obtain ⟨hv,hg⟩:=bV (G:=G) (qV hbad);have HV:Hid (bi G base n L=⟨5,0,[],0⟩):=hv;have HGe:Hid (bB G base n L=G):=hg;obtain ⟨r0,r1,r2,r3,r4,r5,r6⟩:=bL hBc;have f0:=ai hBc 0;have f1:=ai hBc 1;have f2:=ai hBc 2;have f3:=ai hBc 3;have f4:=ai hBc 4;have f5:=ai hBc 5;have f6:=ai hBc 6;clear hv hg hbad hBc;(go_wp2_with fail);refine bodyPost_ret (aI (by rfl) _ (by rfl) (ff HBc.out _ _ _ _ _ _ _) rfl) rfl ?_;rw [HV.out,HGe.out];exact ⟨rfl,gF HMc.out HNl.out HLt.out (fun k hk=>.inl hk) HBc.out (HKw.out.mono (by simp)) (aQ (aa.refl _ _) (.inl (by simp)) _ _ _ _ _ _ _)⟩
  | false =>
    obtain ⟨hchk,hnm,hb0⟩:=fl hbad;by_cases hah:(gl:Int) < base
    ·obtain ⟨hv,hg⟩:=bV (G:=G) (nf hbad (by rw [← HGl.out];exact hah));have HV:Hid (bi G base n L=⟨4,gl,[],0⟩):=by rw [HGl.out];exact hv
     have HGe:Hid (bB G base n L=G):=hg;obtain ⟨r0,r1,r2,r3,r4,r5,r6⟩:=bL hBc;have f0:=ai hBc 0;have f1:=ai hBc 1;have f2:=ai hBc 2;have f3:=ai hBc 3;have f4:=ai hBc 4;have f5:=ai hBc 5;have f6:=ai hBc 6;clear hv hg hbad hBc hchk;(go_wp2_with fail);refine bodyPost_ret (aI (by rfl) _ (by rfl) (ff HBc.out _ _ _ _ _ _ _) rfl) rfl ?_;rw [HV.out,HGe.out];exact ⟨rfl,gF HMc.out HNl.out HLt.out (fun k hk=>.inl hk) HBc.out (HKw.out.mono (by simp)) (aQ (aa.refl _ _) (.inl (by simp)) _ _ _ _ _ _ _)⟩
    ·have hsc:=eD.2 hchk;have hsp:=fC hsc;have hs16:(an L).length≤16:=hsc.2.1;have HPs:Hid (∀ x∈an L,x.p.length≤64):=hsp;have HAh:Hid (¬ (G.cs.length:Int) < base):=by rw [← HGl.out];exact hah
     have HBad:Hid (bY base n L=false):=hbad;have hah':¬ (gl:Int) < base:=hah;have cS:=ku wc ao m c L (HS.out.kept HKw.out (by simp)) hm (fun x hx=>by have:=HP.out x hx;omega);clear hbad hBc hchk hsc hsp hnm hah;(go_wp2_with fail);refine cS.mono ?_;rintro _ w2 ⟨vS,rfl,hOs,hKs⟩;obtain ⟨aoS,nS,cpS,rfl,hsS,_⟩:=hOs.chV;have HKw2:Hid (aa [] w w2):=HKw.out.trans hKs (by simp);have HM2:Hid (MA w2 b v vL vR K G):=HMc.out.kept hKs;have HB2:Hid (w2.heap[w.heap.size]?=some (.cells #[.int .i64 0,.int .i64 0,.int .i64 0,.string ⟨#[]⟩,.int .u64 0,.slice none 0 0,.int .i64 0] 39 (0,0))):=hKs.at HBc.out (by simp);have HsS:Hid (di w2 aoS nS cpS (an L)):=hsS;have HOs:Hid (aP 0 w2 (.slice aoS nS cpS) (an L)):=hOs.mono (Nat.zero_le _);have hnS:=hsS.1;have hcS:=hsS.2.1;have hmS:=hsS.2.2.1;unfold maxLen at hmS;have HNS:Hid ((an L).length=nS):=hnS;obtain ⟨R,hR⟩:∃ R,R=bW G.ls base (an L):=⟨_,rfl⟩;have HR:Hid (bW G.ls base (an L)=R):=hR.symm;rw [hnS] at hs16;clear cS hOs hKs hsS hnS hR c0 c1 c2 HMc HBc HKw;(go_wp2_with fail);go_loopw [10] (fun kv wr=>CZ w2 G.ls base (an L) R kv wr) (fun kv _=>nS - (intOf kv).toNat)
     case atStart=>exact ⟨0,rfl,Nat.zero_le _,aa.refl _ _,HR.out⟩
     case round =>
      obtain ⟨k,rfl,hk,HK,HC⟩:=hrel;have hMr:=HM2.out.kept HK.out;obtain ⟨c0,c1,c2⟩:=bC hMr.at_;rw [HVC.out] at c0;rw [HVL.out] at c1;have hBr:=HK.out.at HB2.out (by simp);have HMr:Hid (MA wr b v vL vR K G):=hMr;have HBr:Hid (wr.heap[w.heap.size]?=some (.cells #[.int .i64 0,.int .i64 0,.int .i64 0,.string ⟨#[]⟩,.int .u64 0,.slice none 0 0,.int .i64 0] 39 (0,0))):=hBr;clear hMr hBr;by_cases hlt:k < nS
      ·have hlt':(k:Int) < nS:=by omega
       have hkc:k≤cpS:=by omega
       have hks:k < (an L).length:=by rw [HNS.out];exact hlt
       obtain ⟨g,o,rfl,hx⟩:=HsS.out.2.2.2 k hks;obtain ⟨d0,d1,d2⟩:=hx.kept HK.out (by simp);obtain ⟨x,hxe⟩:∃ x,x=(an L)[k]:=⟨_,rfl⟩;have HX:Hid ((an L).drop k=x :: (an L).drop (k+1)):=by rw [hxe];exact List.drop_eq_getElem_cons hks
       have hxp:x.p.length≤64:=by rw [hxe];exact HPs.out _ (List.getElem_mem hks)
       rw [← hxe] at d0 d1 d2;have D0:Hid (w2.cell? ⟨g,o+k*3,none⟩=some (.string (ak x.p))):=by rw [hxe];exact hx.c0
       have cG:=fun W (h:aa [] wr W)=>kR W aoL nl cpL G.ls (((HSL.out.kept HKw2.out).kept HK.out).kept h) HW.out.srt (fun y hy=>by have:=HW.out.path y hy;omega) x.p (by omega);have hfind:=show ex x.p G.ls=G.ls.find? (fun y=>decide (x.p=y.p)) from rfl
       obtain ⟨F,hF⟩:∃ F,F=ex x.p G.ls:=⟨_,rfl⟩;rw [← hfind,← hF] at cG;obtain ⟨y0,y1,y2,y3,y4,hv⟩:=kV F;have HV:Hid (eW F=.tuple #[.agg #[.string y0,.int .u64 y1,.int .i64 y2,.bool y3],.bool y4]):=hv;have HF:Hid (F=ex x.p G.ls):=hF;rw [hv] at cG;have hB1:w2.heap.size≤wr.heap.size:=HK.out.size;have hbw:b < wr.heap.size:=aq HMr.out.at_
       have hgw:g < wr.heap.size:=by
        by_cases hl:g < wr.heap.size
        ·exact hl
        ·unfold World.cell? at d0;rw [show wr.heap[(⟨g,o+k*3,none⟩:Addr).block]?=none from Array.getElem?_eq_none (by show wr.heap.size≤g;omega)] at d0;simp at d0
       clear hx hxe hfind hF hv;go_upto_region 9 with fail
       go_cut [11,12] from 47 to 80 (fun s11 s12 wx=>∃ B:Nat,s11=.pointer (some ⟨B,0,none⟩)∧s12=.bool y4∧wx.cell? ⟨B,2,none⟩=some (.int .i64 y2)∧Hid (aa [] w2 wx)∧Hid (w2.heap.size≤B))
       case first =>
        go_region_with (first
         | (go_at_call 79;refine (cG _ ?_).mono ?_;exact ((aa.refl [] _).alloc _).drew;rintro e w1 ⟨rfl,hKb⟩;have hKb1:aa [] wr w1:=(((aa.refl [] _).alloc _).drew).trans hKb (by simp);obtain ⟨m0,m1,m2,m3,n0,n1,n2,n3,hB0⟩:=oF hKb)
         | (go_at_call 79;refine (cG _ ?_).mono ?_;exact (aa.refl [] _).drew;rintro e w1 ⟨rfl,hKb⟩;have hKb1:aa [] wr w1:=((aa.refl [] _).drew).trans hKb (by simp)))
        all_goals go_wp2_with fail
        all_goals go_meet
        all_goals have hKw:aa [] w2 w1:=HK.out.trans hKb1 (by simp)
        all_goals first
         | exact ⟨_,rfl,rfl,by simp,hKw.alloc _,hKw.size⟩
         | exact ⟨_,rfl,rfl,(br (zC hB0)).2.2.1,((((hKw.setCell (.inr hB1) _).setCell (.inr hB1) _).setCell (.inr hB1) _).setCell (.inr hB1) _),hB1⟩
       case rest =>
        obtain ⟨B,rfl,rfl,r2b,HK2,HBsz⟩:=hcut
        have HG:Hid (g≠w.heap.size):=by
         intro e;obtain ⟨c2',h2'⟩:=ar HOs.out (k:=g) rfl;rw [e,HB2.out] at h2';cases h2'
        have HBn:Hid (B≠w.heap.size):=by have h1:=HBsz.out;have h2:=g8 HB2.out;intro e;omega
        clear HK c0 c1 c2 d0 d1 d2 cG HMr HBr;cases F with
        | none =>
          obtain ⟨rfl,rfl⟩:y2=0∧y4=false:=by have:=HV.out;simp [eW] at this;obtain ⟨⟨_,_,h2,_⟩,h4⟩:=this;exact ⟨by first | exact h2 | exact h2.symm,by first | exact h4 | exact h4.symm⟩
          have HC2:Hid (bW G.ls base ((an L).drop (k+1))=R):=by
           have:=HC.out;rw [HX.out,jD HF.out.symm] at this;exact this
          (go_wp2_with fail);go_roundw
          case rel=>exact ⟨k+1,by go_num,by rw [HNS.out];omega,HK2,HC2⟩
          case measure=>simp [intOf];omega
        | some y =>
          obtain ⟨rfl,rfl,rfl⟩:y0=ak y.p∧y2=y.r∧y4=true:=by have:=HV.out;simp [eW,jm] at this;exact ⟨this.1.1.symm,this.1.2.2.1.symm,by first | exact this.2 | exact this.2.symm⟩
          by_cases hlt2:base < y.r
          ·have he:dL G base n L=some ⟨3,y.r,x.p,0⟩:=by
            have h1:=HC.out;rw [HX.out,lf HF.out.symm hlt2] at h1;rw [fj HBad.out (by have:=HAh.out;omega),HR.out,← h1];rfl
           obtain ⟨hv,hg⟩:=bV he;have HV2:Hid (bi G base n L=⟨3,y.r,x.p,0⟩):=hv;have HGe:Hid (bB G base n L=G):=hg;have hBq:=HK2.out.at HB2.out (by simp);have x0:=HK2.out.cell D0.out (by simp);have HNx:=uY hBq (.int .i64 3) (.int .i64 0) (.int .i64 y.r) (.string (ak x.p)) (.int .u64 0) (.slice none 0 0) (.int .i64 0);have HS0:Hid ((eg wc w.heap.size (.int .i64 3) (.int .i64 0) (.int .i64 y.r) (.string (ak x.p)) (.int .u64 0) (.slice none 0 0) (.int .i64 0)).drew.cell? ⟨g,o+k*3,none⟩=some (.string (ak x.p))):=kq HG.out x0;have HS1:Hid ((eg wc w.heap.size (.int .i64 3) (.int .i64 0) (.int .i64 y.r) (.string (ak x.p)) (.int .u64 0) (.slice none 0 0) (.int .i64 0)).drew.cell? ⟨B,2,none⟩=some (.int .i64 y.r)):=kq HBn.out r2b
           have HEnd:Hid (ym w b (bf b v) G (eg wc w.heap.size (.int .i64 3) (.int .i64 0) (.int .i64 y.r) (.string (ak x.p)) (.int .u64 0) (.slice none 0 0) (.int .i64 0)).drew) :=
            gF (HM2.out.kept HK2.out) HNl.out HLt.out (fun k hk=>.inl hk) hBq ((HKw2.out.trans HK2.out (by simp)).mono (by simp)) (aQ (aa.refl _ _) (.inl (by simp)) _ _ _ _ _ _ _).drew
           obtain ⟨r0,r1,r2,r3,r4,r5,r6⟩:=bL hBq;have f0:=ai hBq 0;have f1:=ai hBq 1;have f2:=ai hBq 2;have f3:=ai hBq 3;have f4:=ai hBq 4;have f5:=ai hBq 5;have f6:=ai hBq 6;clear he hv hg hBq;(go_wp2_with fail);refine wp_region_held_drew (S:=fun w'=>w'.cell? ⟨g,o+k*3,none⟩=some (.string (ak x.p))∧w'.cell? ⟨B,2,none⟩=some (.int .i64 y.r)) (by kernel_rfl) ⟨x0,r2b⟩ (fun hHeld=>?_);refine tk 0 ?_ rfl (by kernel_rfl) (fun _ _ _ h=>h) (Or.inl ⟨by rfl,?_⟩) hHeld ?_;rotate_left
           ·intro w9 hSw;(try dsimp only at hSw);go_simp;(try with_reducible rfl)
           (try simp only [sT,Act.put]);refine tk 1 ?_ rfl (by kernel_rfl) (fun _ _ _ h=>h) (Or.inl ⟨by rfl,?_⟩) hHeld ?_;rotate_left
           ·intro w9 hSw;(try dsimp only at hSw);go_simp;(try with_reducible rfl)
           (try simp only [sT,Act.put]);refine tk 2 ?_ rfl (by kernel_rfl) (fun _ _ _ h=>h) (Or.inl ⟨by rfl,?_⟩) hHeld ?_;rotate_left
           ·intro w9 hSw;(try dsimp only at hSw);go_simp;(try with_reducible rfl)
           (try simp only [sT,Act.put]);refine tk 3 ?_ rfl (by kernel_rfl) (fun _ _ _ h=>h) (Or.inl ⟨by rfl,?_⟩) hHeld ?_;rotate_left
           ·intro w9 hSw;(try dsimp only at hSw);go_simp;(try with_reducible rfl)
           (try simp only [sT,Act.put]);refine tk 4 ?_ rfl (by kernel_rfl) (fun _ _ _ h=>h) (Or.inl ⟨by rfl,?_⟩) hHeld ?_;rotate_left
           ·intro w9 hSw;(try dsimp only at hSw);go_simp;(try with_reducible rfl)
           (try simp only [sT,Act.put]);refine tk 5 ?_ rfl (by kernel_rfl) (fun _ _ _ h=>h) (Or.inl ⟨by rfl,?_⟩) hHeld ?_;rotate_left
           ·intro w9 hSw;(try dsimp only at hSw);go_simp;(try with_reducible rfl)
           (try simp only [sT,Act.put]);refine tk 6 ?_ rfl (by kernel_rfl) (fun _ _ _ h=>h) (Or.inl ⟨by rfl,?_⟩) hHeld ?_;rotate_left
           ·intro w9 hSw;(try dsimp only at hSw);go_simp;(try with_reducible rfl)
           (try simp only [sT,Act.put]);refine tk 7 ?_ rfl (by kernel_rfl) (fun _ _ _ h=>h) (Or.inl ⟨by rfl,?_⟩) hHeld ?_;rotate_left
           ·intro w9 hSw;(try dsimp only at hSw);go_simp;(try with_reducible rfl)
           (try simp only [sT,Act.put]);refine aH 8 (by kernel_rfl) rfl (fun K0 hK0=>?_);go_simp;refine hK0.out _ _ ?_ (fun hHeld=>?_)
           ·exact And.intro HS0.out HS1.out
           refine wpAnyH_done (by kernel_rfl) ?_ _;(go_wp2_with fail);refine bodyPost_ret (aI (by rfl) _ (by rfl) HNx.out rfl) rfl ?_;rw [HV2.out,HGe.out];exact ⟨rfl,HEnd.out⟩
          ·have HC2:Hid (bW G.ls base ((an L).drop (k+1))=R):=by
            have:=HC.out;rw [HX.out,k7 HF.out.symm hlt2] at this;exact this
           (go_wp2_with fail);go_roundw
           case rel=>exact ⟨k+1,by go_num,by rw [HNS.out];omega,HK2,HC2⟩
           case measure=>simp [intOf];omega
      ·have hlt':¬ (k:Int) < nS:=by omega
       have hRn:R=none:=by have h1:=HC.out;rw [List.drop_eq_nil_of_le (by rw [HNS.out];omega)] at h1;exact h1.symm
       have he:dL G base n L=none:=by rw [fj HBad.out (by have:=HAh.out;omega),HR.out,hRn];rfl
       obtain ⟨hv,hg⟩:=bD he;have HV2:Hid (bi G base n L=⟨2,(gl:Int)+1,[],0⟩):=by rw [HGl.out];exact hv
       have HGe:Hid (bB G base n L=da G ⟨(gl:Int)+1,base,n,an L⟩):=by rw [HGl.out];exact hg
       have HOr:Hid (aP 0 wr (.slice aoS nS cpS) (an L)):=HOs.out.kept HK.out;have HKr:Hid (aa [] w wr):=HKw2.out.trans HK.out (by simp);have hvC:=HVC.out;subst hvC;have HR2:=fun ob=>World.ownsRow.alloc HMr.out.row ob;have hklen:K.length≤1000000000:=by have h1:=congrArg List.length HMr.out.com;simp at h1;have:=HGl.out;omega
       have q1:IntKind.i64.wrap ((gl:Int)+1)=(gl:Int)+1:=IntWalk.i64_in _ (by omega);have HQ:Hid (IntKind.i64.wrap ((gl:Int)+1)=(gl:Int)+1):=q1;clear hRn he hv hg HC HR;go_wp2_with (at_builtin;refine qN rfl _ _ rfl _ K rfl (HR2 _) wr.heap.size (⟨(gl:Int)+1,base,n,an L⟩,.slice aoS nS cpS) rfl (heap_alloc_new _ _) rfl hklen ?k1)
       case k1 =>
        intro g2 cap2 w3 hR3 hg3 hat3 hlt3;replace hat3:(Value.slice aoC gl cpC).ownBlock=some g2∨g2=(wr.alloc (.cells #[.int .i64 ((gl:Int)+1),.int .i64 base,.string (ak n),.slice aoS nS cpS] 137)).heap.size:=by rw [World.size_alloc];exact hat3
        have hMa:=HMr.out.kept ((aa.refl [] wr).alloc (.cells #[.int .i64 ((gl:Int)+1),.int .i64 base,.string (ak n),.slice aoS nS cpS] 137));have hG3:=hMa.grown hg3;have hset:=hMa.setRow (x:=⟨(gl:Int)+1,base,n,an L⟩) (HOr.out.kept ((aa.refl [] wr).alloc (.cells #[.int .i64 ((gl:Int)+1),.int .i64 base,.string (ak n),.slice aoS nS cpS] 137))) hR3 hg3 hat3;have hfst:=sS (n:=K.length+1) (cap:=cap2) HLt.out HKr.out HBr.out hg3 hat3;obtain ⟨k1,hk1⟩:∃ k1,k1=K.length+1:=⟨_,rfl⟩;rw [← hk1] at hset hfst ⊢;have HSet:Hid (MA (w3.setCell ⟨b,0,none⟩ (.slice (some ⟨g2,0,none⟩) k1 cap2)) b (.slice (some ⟨g2,0,none⟩) k1 cap2) vL vR (K++[(⟨(gl:Int)+1,base,n,an L⟩,.slice aoS nS cpS)]) ⟨G.cs++[⟨(gl:Int)+1,base,n,an L⟩],G.ls,G.rs⟩):=hset;have HF1:Hid (aa (bf b (.slice aoC gl cpC)) w (w3.setCell ⟨b,0,none⟩ (.slice (some ⟨g2,0,none⟩) k1 cap2))):=hfst.1;have HF2:Hid (∀ k∈bf b (.slice (some ⟨g2,0,none⟩) k1 cap2),k∈bf b (.slice aoC gl cpC)∨w.heap.size < k):=hfst.2.1;have HF3:Hid ((w3.setCell ⟨b,0,none⟩ (.slice (some ⟨g2,0,none⟩) k1 cap2)).heap[w.heap.size]?=some (.cells #[.int .i64 0,.int .i64 0,.int .i64 0,.string ⟨#[]⟩,.int .u64 0,.slice none 0 0,.int .i64 0] 39 (0,0))):=hfst.2.2;obtain ⟨c30,c31,c32⟩:=bC hG3;have f30:=aj hG3 0;clear hMa hG3 hset hfst hk1 hR3 hg3 hat3 hlt3 HR2 c0 c1 c2 q1;(go_wp2_with fail);go_loopw [14] (fun iv wr=>D7 w b (bf b (.slice aoC gl cpC)) (.slice (some ⟨g2,0,none⟩) k1 cap2) vR (K++[(⟨(gl:Int)+1,base,n,an L⟩,.slice aoS nS cpS)]) (G.cs++[⟨(gl:Int)+1,base,n,an L⟩]) G.ls G.rs ((gl:Int)+1) (an L) #[.int .i64 0,.int .i64 0,.int .i64 0,.string ⟨#[]⟩,.int .u64 0,.slice none 0 0,.int .i64 0] iv wr) (fun iv _=>nS - (intOf iv).toNat)
        case atStart=>exact ⟨0,vL,rfl,Nat.zero_le _,HSet.out,HNl.out,HF1.out,HF3.out⟩
        case round =>
         obtain ⟨i,vLi,rfl,hi,HMi,HNi,HKi,HBi⟩:=hrel;by_cases hlt3:i < nS
         ·have hlt3':(i:Int) < nS:=by omega
          have hic:i≤cpS:=by omega
          have his:i < (an L).length:=by rw [HNS.out];exact hlt3
          have hsr:di wr aoS nS cpS (an L):=(HMi.out.own (⟨(gl:Int)+1,base,n,an L⟩,.slice aoS nS cpS) (by simp)).slice;have hrb:=HMi.out.own (⟨(gl:Int)+1,base,n,an L⟩,.slice aoS nS cpS) (by simp);obtain ⟨g,o,rfl,hx⟩:=hsr.2.2.2 i his
          have hgb:¬ g=b:=by
           intro e;obtain ⟨c2',h2'⟩:=ar hrb (k:=g) rfl;rw [e,HMi.out.at_] at h2';cases h2'
          obtain ⟨y,hye⟩:∃ y,y=(an L)[i]:=⟨_,rfl⟩;rw [← hye] at hx;obtain ⟨e0,e1,e2⟩:=hx;have HY:Hid (y=(an L)[i]):=hye;have hyp:y.p.length≤64:=by rw [hye];exact HPs.out _ (List.getElem_mem his)
          obtain ⟨aoI,cpI,hvI,hsI⟩:=HMi.out.lvs.sl;obtain ⟨lsi,hlsi⟩:∃ lsi,lsi=dF ((gl:Int)+1) G.ls ((an L).take i):=⟨_,rfl⟩;have HLs:Hid (lsi=dF ((gl:Int)+1) G.ls ((an L).take i)):=hlsi;simp only at hvI hsI;rw [← hlsi] at hvI hsI HNi;have hNil:gQ lsi (.slice aoI lsi.length cpI):=by rw [← hvI];exact HNi.out
          have hll:lsi.length≤1000000:=by
           rw [hlsi];have h2:=@gw ((gl:Int)+1) ((an L).take i) G.ls;have h3:=List.length_take_le i (an L);have h4:=HW.out.many;have h5:=HGl.out;have h6:=HNS.out;omega
          have hlp:∀ z∈lsi,z.p.length≤64:=by
           rw [hlsi];exact kH (fun z=>z.p.length≤64) (fun z hz=>HW.out.path z hz) (fun z hz=>HPs.out z (List.mem_of_mem_take hz))
          have cP:=fun W (hk:aa [] wr W)=>sE W aoI lsi.length cpI lsi (hsI.kept hk) hNil hll (fun z hz=>by have:=hlp z hz;omega) ⟨y.p,y.d,(gl:Int)+1,y.g⟩ (by simp only;omega);simp only [jm] at cP;obtain ⟨b0,b1,b2⟩:=bC HMi.out.at_;rw [hvI] at b1
          have HN:Hid (∀ w4 vL4,aa [] wr w4→cf wr.heap.size w4 vL4 (dh ⟨y.p,y.d,(gl:Int)+1,y.g⟩ lsi)→D7 w b (bf b (.slice aoC gl cpC)) (.slice (some ⟨g2,0,none⟩) k1 cap2) vR (K++[(⟨(gl:Int)+1,base,n,an L⟩,.slice (some ⟨g,o,none⟩) nS cpS)]) (G.cs++[⟨(gl:Int)+1,base,n,an L⟩]) G.ls G.rs ((gl:Int)+1) (an L) #[.int .i64 0,.int .i64 0,.int .i64 0,.string ⟨#[]⟩,.int .u64 0,.slice none 0 0,.int .i64 0] (.int .i64 ((i+1:Nat):Int)) (w4.setCell ⟨b,1,none⟩ vL4)):=fun w4 vL4 hK4 hO4=>by
           have hpt:dF ((gl:Int)+1) G.ls ((an L).take (i+1))=dh ⟨y.p,y.d,(gl:Int)+1,y.g⟩ lsi:=by rw [lg his,← HY.out,← HLs.out]
           refine ⟨i+1,vL4,rfl,by omega,?_,?_,?_,?_⟩
           ·rw [hpt];exact (HMi.out.kept hK4).setLeaves (hO4.mono (Nat.zero_le _))
           ·intro h0;rw [hpt] at h0;have h4:dh ⟨y.p,y.d,(gl:Int)+1,y.g⟩ lsi≠[]:=by cases lsi <;> simp [dh] <;> (try split) <;> (try split) <;> simp
            exact absurd h0 h4
           ·exact (HKi.out.trans hK4 (by simp)).setCell (.inl (by simp [bf])) _
           ·have hb:=HLt.out b (by simp [bf]);exact (show aa [b] w4 _ from (aa.refl _ _).setCell (by simp) _).at (hK4.at HBi.out (by simp)) (by simp;omega)
          have HMi2:Hid (wr.heap[b]?=some (.cells #[.slice (some ⟨g2,0,none⟩) k1 cap2,.slice aoI lsi.length cpI,vR] 82 (0,0))):=by rw [← hvI];exact HMi.out.at_
          obtain ⟨nI,hnI⟩:∃ nI,nI=lsi.length:=⟨_,rfl⟩;rw [← hnI] at cP b1 HMi2;clear hye hsr hrb hvI hsI hNil hll hlp hlsi hnI;(go_wp2_with fail);refine wp_region_held_drew (S:=fun w'=>w'.cell? ⟨g,o+i*3,none⟩=some (.string (ak y.p))∧w'.cell? ⟨g,o+i*3+1,none⟩=some (.bool y.g)∧w'.cell? ⟨g,o+i*3+2,none⟩=some (.int .u64 y.d)) (by kernel_rfl) ⟨e0,e1,e2⟩ (fun hHeld=>?_);refine tk 0 ?_ rfl (by kernel_rfl) (fun _ _ _ h=>h) (Or.inl ⟨by rfl,?_⟩) hHeld ?_;rotate_left
          ·intro w9 hSw;(try dsimp only at hSw);go_simp;(try with_reducible rfl)
          (try simp only [sT,Act.put]);refine tk 1 ?_ rfl (by kernel_rfl) (fun _ _ _ h=>h) (Or.inl ⟨by rfl,?_⟩) hHeld ?_;rotate_left
          ·intro w9 hSw;(try dsimp only at hSw);go_simp;(try with_reducible rfl)
          (try simp only [sT,Act.put]);refine tk 2 ?_ rfl (by kernel_rfl) (fun _ _ _ h=>h) (Or.inl ⟨by rfl,?_⟩) hHeld ?_;rotate_left
          ·intro w9 hSw;(try dsimp only at hSw);go_simp;(try with_reducible rfl)
          (try simp only [sT,Act.put]);refine tk 3 ?_ rfl (by kernel_rfl) (fun _ _ _ h=>h) (Or.inl ⟨by rfl,?_⟩) hHeld ?_;rotate_left
          ·intro w9 hSw;(try dsimp only at hSw);go_simp;(try with_reducible rfl)
          (try simp only [sT,Act.put]);refine tk 5 ?_ rfl (by kernel_rfl) (fun _ _ _ h=>h) (Or.inl ⟨by rfl,?_⟩) hHeld ?_;rotate_left
          ·intro w9 hSw;(try dsimp only at hSw);go_simp;(try with_reducible rfl)
          (try simp only [sT,Act.put]);refine tk 6 ?_ rfl (by kernel_rfl) (fun _ _ _ h=>h) (Or.inl ⟨by rfl,?_⟩) hHeld ?_;rotate_left
          ·intro w9 hSw;(try dsimp only at hSw);go_simp;(try with_reducible rfl)
          (try simp only [sT,Act.put]);refine tk 7 ?_ rfl (by kernel_rfl) (fun _ _ _ h=>h) (Or.inl ⟨by rfl,?_⟩) hHeld ?_;rotate_left
          ·intro w9 hSw;(try dsimp only at hSw);go_simp;(try with_reducible rfl)
          (try simp only [sT,Act.put]);refine tk 8 ?_ rfl (by kernel_rfl) (fun _ _ _ h=>h) (Or.inl ⟨by rfl,?_⟩) hHeld ?_;rotate_left
          ·intro w9 hSw;(try dsimp only at hSw);go_simp;(try with_reducible rfl)
          (try simp only [sT,Act.put]);refine tk 9 ?_ rfl (by kernel_rfl) (fun _ _ _ h=>h) (Or.inl ⟨by rfl,?_⟩) hHeld ?_;rotate_left
          ·intro w9 hSw;(try dsimp only at hSw);go_simp;(try with_reducible rfl)
          (try simp only [sT,Act.put]);refine tk 10 ?_ rfl (by kernel_rfl) (fun _ _ _ h=>h) (Or.inl ⟨by rfl,?_⟩) hHeld ?_;rotate_left
          ·intro w9 hSw;(try dsimp only at hSw);go_simp;(try with_reducible rfl)
          (try simp only [sT,Act.put]);refine tk 11 ?_ rfl (by kernel_rfl) (fun _ _ _ h=>h) (Or.inl ⟨by rfl,?_⟩) hHeld ?_;rotate_left
          ·intro w9 hSw;(try dsimp only at hSw);go_simp;(try with_reducible rfl)
          (try simp only [sT,Act.put]);refine tk 12 ?_ rfl (by kernel_rfl) (fun _ _ _ h=>h) (Or.inl ⟨by rfl,?_⟩) hHeld ?_;rotate_left
          ·intro w9 hSw;(try dsimp only at hSw);go_simp;(try with_reducible rfl)
          (try simp only [sT,Act.put]);refine tk 13 ?_ rfl (by kernel_rfl) (fun _ _ _ h=>h) (Or.inl ⟨by rfl,?_⟩) hHeld ?_;rotate_left
          ·intro w9 hSw;(try dsimp only at hSw);go_simp;(try with_reducible rfl)
          (try simp only [sT,Act.put]);refine tk 14 ?_ rfl (by kernel_rfl) (fun _ _ _ h=>h) (Or.inl ⟨by rfl,?_⟩) hHeld ?_;rotate_left
          ·intro w9 hSw;(try dsimp only at hSw);go_simp;(try with_reducible rfl)
          (try simp only [sT,Act.put]);refine tk 15 ?_ rfl (by kernel_rfl) (fun _ _ _ h=>h) (Or.inl ⟨by rfl,?_⟩) hHeld ?_;rotate_left
          ·intro w9 hSw;(try dsimp only at hSw);go_simp;(try with_reducible rfl)
          (try simp only [sT,Act.put]);refine tk 16 ?_ rfl (by kernel_rfl) (fun _ _ _ h=>h) (Or.inl ⟨by rfl,?_⟩) hHeld ?_;rotate_left
          ·intro w9 hSw;(try dsimp only at hSw);go_simp;(try with_reducible rfl)
          (try simp only [sT,Act.put]);refine tk 17 ?_ rfl (by kernel_rfl) (fun _ _ _ h=>h) (Or.inl ⟨by rfl,?_⟩) hHeld ?_;rotate_left
          ·intro w9 hSw;(try dsimp only at hSw);go_simp;(try with_reducible rfl)
          (try simp only [sT,Act.put]);refine tk 18 ?_ rfl (by kernel_rfl) (fun _ _ _ h=>h) (Or.inl ⟨by rfl,?_⟩) hHeld ?_;rotate_left
          ·intro w9 hSw;(try dsimp only at hSw);go_simp;(try with_reducible rfl)
          (try simp only [sT,Act.put]);refine tk 19 ?_ rfl (by kernel_rfl) (fun _ _ _ h=>h) (Or.inl ⟨by rfl,?_⟩) hHeld ?_;rotate_left
          ·intro w9 hSw;(try dsimp only at hSw);go_simp;(try with_reducible rfl)
          (try simp only [sT,Act.put]);refine tk 20 ?_ rfl (by kernel_rfl) (fun _ _ _ h=>h) (Or.inl ⟨by rfl,?_⟩) hHeld ?_;rotate_left
          ·intro w9 hSw;(try dsimp only at hSw);go_simp;(try with_reducible rfl)
          (try simp only [sT,Act.put]);refine tk 21 ?_ rfl (by kernel_rfl) (fun _ _ _ h=>h) (Or.inl ⟨by rfl,?_⟩) hHeld ?_;rotate_left
          ·intro w9 hSw;(try dsimp only at hSw);go_simp;(try with_reducible rfl)
          (try simp only [sT,Act.put]);refine aH 4 (by kernel_rfl) rfl (fun K0 hK0=>?_);go_simp;refine hK0.out _ _ hHeld (fun hHeld=>?_);clear hK0 K0;(try simp only [sT,Act.put]);refine aH 22 (by kernel_rfl) rfl (fun K0 hK0=>?_);go_simp;refine (cP _ (aa.refl [] _).drew).mono ?_;rintro e w4 ⟨ao4,cp4,rfl,hO4,hK4⟩;replace hK4:=(aa.refl [] wr).drew.trans hK4 (by simp);have hG4:=hK4.at HMi2.out (by simp);obtain ⟨m0,m1,m2⟩:=bC hG4;have f4:=aj hG4 1;have HFin:=HN.out w4 _ hK4 hO4;obtain ⟨n4,hn4⟩:∃ n4,n4=(dh ⟨y.p,y.d,(gl:Int)+1,y.g⟩ lsi).length:=⟨_,rfl⟩;rw [← hn4] at HFin ⊢;have HFin2:Hid (D7 w b (bf b (.slice aoC gl cpC)) (.slice (some ⟨g2,0,none⟩) k1 cap2) vR (K++[(⟨(gl:Int)+1,base,n,an L⟩,.slice (some ⟨g,o,none⟩) nS cpS)]) (G.cs++[⟨(gl:Int)+1,base,n,an L⟩]) G.ls G.rs ((gl:Int)+1) (an L) #[.int .i64 0,.int .i64 0,.int .i64 0,.string ⟨#[]⟩,.int .u64 0,.slice none 0 0,.int .i64 0] (.int .i64 ((i+1:Nat):Int)) (w4.setCell ⟨b,1,none⟩ (.slice ao4 n4 cp4))):=HFin;clear HFin hO4 hn4;(go_wp2_with fail);refine hK0.out _ _ ⟨hK4.cell e0 (by simp),hK4.cell e1 (by simp),hK4.cell e2 (by simp)⟩ (fun hHeld=>?_);clear hK0 K0;(try simp only [sT,Act.put]);refine tk 23 ?_ rfl (by kernel_rfl) (fun _ _ _ h=>h) (Or.inl ⟨by rfl,?_⟩) hHeld ?_;rotate_left
          ·intro w9 hSw;(try dsimp only at hSw);go_simp;(try with_reducible rfl)
          (try simp only [sT,Act.put]);refine tk 24 ?_ rfl (by kernel_rfl) (fun _ _ _ h=>h) (Or.inl ⟨by rfl,?_⟩) hHeld ?_;rotate_left
          ·intro w9 hSw;(try dsimp only at hSw);go_simp;(try with_reducible rfl)
          (try simp only [sT,Act.put]);refine aH 25 (by kernel_rfl) rfl (fun K0 hK0=>?_);go_simp;have hK4b:aa [b] wr (w4.setCell ⟨b,1,none⟩ (.slice ao4 n4 cp4)):=(hK4.mono (by simp)).setCell (.inl (by simp)) _;refine hK0.out _ _ ⟨hK4b.cell e0 (by simpa using hgb),hK4b.cell e1 (by simpa using hgb),hK4b.cell e2 (by simpa using hgb)⟩ (fun hHeld=>?_);refine wpAnyH_done (by kernel_rfl) ?_ _;all_goals go_wp2_with fail
          all_goals go_roundw
          all_goals first | exact HFin2.out | (simp [intOf];omega)
         ·have hlt3':¬ (i:Int) < nS:=by omega
          have hie:i=(an L).length:=by rw [HNS.out];have h1:=hi;rw [HNS.out] at h1;omega
          have HMe:Hid (MA wr b (.slice (some ⟨g2,0,none⟩) k1 cap2) vLi vR (K++[(⟨(gl:Int)+1,base,n,an L⟩,.slice aoS nS cpS)]) ⟨G.cs++[⟨(gl:Int)+1,base,n,an L⟩],dF ((gl:Int)+1) G.ls (an L),G.rs⟩):=by
           have:=HMi.out;rw [hie,List.take_length] at this;exact this
          have HNe:Hid (gQ (dF ((gl:Int)+1) G.ls (an L)) vLi):=by
           have:=HNi.out;rw [hie,List.take_length] at this;exact this
          clear hie HMi HNi;by_cases hnn:n=[]
          ·have HE2:Hid (da G ⟨(gl:Int)+1,base,n,an L⟩=⟨G.cs++[⟨(gl:Int)+1,base,n,an L⟩],dF ((gl:Int)+1) G.ls (an L),G.rs⟩):=by show da G _=_;unfold da;simp only;rw [hnn];rfl
           subst hnn;have hE:=dN;have hBi:=HBi.out;obtain ⟨r0,r1,r2,r3,r4,r5,r6⟩:=bL hBi;have f0:=ai hBi 0;have f1:=ai hBi 1;have f2:=ai hBi 2;have f3:=ai hBi 3;have f4:=ai hBi 4;have f5:=ai hBi 5;have f6:=ai hBi 6;clear hBi;(go_wp2_with fail);refine bodyPost_ret (aI (by rfl) _ (by rfl) (ff HBi.out _ _ _ _ _ _ _) rfl) rfl ?_;rw [HV2.out,HGe.out,HE2.out];exact ⟨rfl,gF HMe.out HNe.out HLt.out HF2.out HBi.out HKi.out (aQ (aa.refl _ _) (.inl (by simp)) _ _ _ _ _ _ _)⟩
          ·have HE2:Hid (da G ⟨(gl:Int)+1,base,n,an L⟩=⟨G.cs++[⟨(gl:Int)+1,base,n,an L⟩],dF ((gl:Int)+1) G.ls (an L),jp n ((gl:Int)+1) G.rs⟩):=by show da G _=_;unfold da;rw [jO hnn]
           have hE:=ez hnn;have cM:=wR HMe.out n ((gl:Int)+1) HW.out.srs (by have h1:=HW.out.refs;have h2:=HGl.out;simp only;omega);have HBn:Hid (b≠w.heap.size):=by have:=HLt.out b (by simp [bf]);intro e;omega
           (go_wp2_with fail);refine cM.mono ?_;rintro _ w5 ⟨rfl,vR5,hM5,hK5⟩;have HM5:Hid (MA w5 b (.slice (some ⟨g2,0,none⟩) k1 cap2) vLi vR5 (K++[(⟨(gl:Int)+1,base,n,an L⟩,.slice aoS nS cpS)]) ⟨G.cs++[⟨(gl:Int)+1,base,n,an L⟩],dF ((gl:Int)+1) G.ls (an L),jp n ((gl:Int)+1) G.rs⟩):=hM5;have hB5:=hK5.at HBi.out (by simpa using fun e=>HBn.out (Eq.symm e));have HB5:Hid (w5.heap[w.heap.size]?=some (.cells #[.int .i64 0,.int .i64 0,.int .i64 0,.string ⟨#[]⟩,.int .u64 0,.slice none 0 0,.int .i64 0] 39 (0,0))):=hB5;have HK5:Hid (aa (bf b (.slice aoC gl cpC)) w w5):=HKi.out.trans hK5 (fun k hk=>by simp at hk;subst hk;exact .inl (by simp [bf]));obtain ⟨r0,r1,r2,r3,r4,r5,r6⟩:=bL hB5;have f0:=ai hB5 0;have f1:=ai hB5 1;have f2:=ai hB5 2;have f3:=ai hB5 3;have f4:=ai hB5 4;have f5:=ai hB5 5;have f6:=ai hB5 6;clear hB5 hM5 hK5;(go_wp2_with fail);refine bodyPost_ret (aI (by rfl) _ (by rfl) (ff HB5.out _ _ _ _ _ _ _) rfl) rfl ?_;rw [HV2.out,HGe.out,HE2.out];exact ⟨rfl,gF HM5.out HNe.out HLt.out HF2.out HB5.out HK5.out (aQ (aa.refl _ _) (.inl (by simp)) _ _ _ _ _ _ _)⟩
end Go.Proofs.YtgpnlidnbldiiaaGreat
