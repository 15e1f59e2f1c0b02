/-
  Texts laid as one.
-/
import Derived.Test.YtgpnlidnbldiiaaGreatQ12r
import Derived.Test.YtgpnlidnbldiiaaGreatQ2r
import Derived.ArgAppend
import Derived.Deep.RegionLawGrows
import Derived.Deep.AppendLies
import Derived.Deep.RegionHeld3
import Derived.Deep.Cut
set_option maxHeartbeats 8000000
set_option maxRecDepth 100000
set_option linter.unusedSimpArgs false
/-
 A table in memory;made,place,placeOf.
-/
namespace Go.Proofs.YtgpnlidnbldiiaaGreat
open Go.RowKit
variable {P : Nat → Prop}
structure fJ (P:Nat→Prop) (w:World) (b sz:Nat) (v:Value) (X:List (Se × Value)) (L:List Se):Prop where
 at_:w.heap[b]?=some (.cells #[.int .i64 sz,v] 126 (0,0))
 pos:1≤sz
 row:dj w v X
 own:∀ x∈X,io P w x.2 x.1.v.k
 ses:X.map Prod.fst=L
def aW (b:Nat) (v:Value):List Nat:=b :: v.ownBlock.toList
theorem fJ.keep {w w':World}{b sz:Nat}{v:Value}{X:List (Se × Value)}{L:List Se}(h:fJ P w b sz v X L) {S:List Nat}{Ts:List TypeId}(k:aa S w w') (hS:∀ i∈aW b v,i ∉ S) (hT:aJ w S Ts) (h1:137 ∉ Ts) (h2:60 ∉ Ts):fJ P w' b sz v X L :=
 ⟨k.at h.at_ (hS b (by simp [aW])),h.pos,h.row.keep k (fun i hi=>hS i (by simp [aW,hi])),fun x hx=>(h.own x hx).keep k hT h1 h2,h.ses⟩
theorem fJ.kept {w w':World}{b sz:Nat}{v:Value}{X:List (Se × Value)}{L:List Se}(h:fJ P w b sz v X L) (k:aa [] w w'):fJ P w' b sz v X L :=
 h.keep k (by simp) (cm w []) (by simp) (by simp)
theorem fJ.lt {w:World}{b sz:Nat}{v:Value}{X:List (Se × Value)}{L:List Se}(h:fJ P w b sz v X L):∀ k∈aW b v,k < w.heap.size:=by
 intro k hk;rcases List.mem_cons.1 hk with rfl | hk
 ·exact aq h.at_
 ·obtain ⟨c2,h2⟩:=h.row.block (aw.1 hk);exact aq h2
theorem fJ.cells {w:World}{b sz:Nat}{v:Value}{X:List (Se × Value)}{L:List Se}(h:fJ P w b sz v X L):w.cell? ⟨b,0,none⟩=some (.int .i64 sz)∧w.cell? ⟨b,1,none⟩=some v :=
 ⟨ag h.at_ rfl,ag h.at_ rfl⟩
theorem fJ.len {w:World}{b sz:Nat}{v:Value}{X:List (Se × Value)}{L:List Se}(h:fJ P w b sz v X L):X.length=L.length:=by rw [← h.ses];simp
theorem fJ.sl {w:World}{b sz:Nat}{v:Value}{X:List (Se × Value)}{L:List Se}(h:fJ P w b sz v X L):∃ ao c,v=.slice ao X.length c∧vo w ao X.length c X:=h.row.sl fun x hx=>(h.own x hx).ko
theorem dQ {w:World}{b sz:Nat}{v:Value}{X:List (Se × Value)}{L:List Se}(h:fJ P w b sz v X L) :
 Calls Tryz.prog 105 #[.pointer (some ⟨b,0,none⟩)] w fun e w'=>e=.returned (.bool true)∧w'=w:=by
 obtain ⟨c0,_⟩:=h.cells;have hp:=h.pos;have hd:decide (0 < sz)=true:=by simp;omega
 clear h hp;go_enter Tryz.func105,Tryz.ntmps105;go_wp2
 go_ret
 exact ⟨rfl,rfl⟩
theorem Co (a b:Int):(a==b)=decide (a=b):=by rw [Bool.eq_iff_iff];simp
theorem rr (l:List UInt8):(ak l).toList=l:=by rw [Go.ByteArray.toList_eq,bE]
theorem kE (a b:List UInt8):((ak a).toList==(ak b).toList)=decide (a=b):=by rw [rr,rr,Bool.eq_iff_iff];simp
theorem AN (w:World) (x:Se) (ao:Option Addr) (n c p:Nat) (id:Int) (hp:w.cell? ⟨p,0,none⟩=some (.int .i64 id)) :
 Calls Tryz.prog 133 #[jN x (.slice ao n c),.pointer (some ⟨p,0,none⟩)] w fun e w'=>e=.returned (.bool (decide (x.i=id)))∧aa [] w w':=by
 have hK:=(aa.refl [] w).alloc (.cells #[.int .i64 x.i,.int .i64 x.q,.string (ak x.n),.int .i64 x.v.c,.int .i64 x.v.s,.int .i64 x.v.r,.string (ak x.v.p),.int .u64 x.v.d,.slice ao n c,.int .i64 x.v.m] 155);have hp2:=hK.cell hp (by simp);unfold jN;go_enter Tryz.func133,Tryz.ntmps133;go_wp2
 go_ret
 exact ⟨congrArg (fun z=>Ending.returned (.bool z)) (Co _ _),hK⟩
theorem Bi (w:World) (x:Se) (ao:Option Addr) (n c p:Nat) (nm:List UInt8) (hp:w.cell? ⟨p,0,none⟩=some (.string (ak nm))) :
 Calls Tryz.prog 134 #[jN x (.slice ao n c),.pointer (some ⟨p,0,none⟩)] w fun e w'=>e=.returned (.bool (decide (x.n=nm)))∧aa [] w w':=by
 have hK:=(aa.refl [] w).alloc (.cells #[.int .i64 x.i,.int .i64 x.q,.string (ak x.n),.int .i64 x.v.c,.int .i64 x.v.s,.int .i64 x.v.r,.string (ak x.v.p),.int .u64 x.v.d,.slice ao n c,.int .i64 x.v.m] 155);have hp2:=hK.cell hp (by simp);unfold jN;go_enter Tryz.func134,Tryz.ntmps134;go_wp2
 go_ret
 exact ⟨congrArg (fun z=>Ending.returned (.bool z)) (kE _ _),hK⟩
def kI:Option Nat→Value
 | some i=>.int .i64 (i:Int)
 | none=>.int .i64 (-1)
def DH (w:World) (L:List Se) (f:Se→Bool) (iv:Value) (wr:World):Prop:=∃ j:Nat,iv=.int .i64 (j:Int)∧j≤L.length∧Hid (∀ k (h:k < L.length),k < j→f L[k]=false)∧Hid (aa [] w wr)
theorem lP {L:List Se}{f:Se→Bool}{j:Nat}(hj:j < L.length) (h:∀ k (h:k < L.length),k < j→f L[k]=false) (ht:f L[j]=true):L.findIdx? f=some j:=by
 rw [List.findIdx?_eq_some_iff_getElem];exact ⟨hj,ht,fun k hk=>by simpa using h k (by omega) hk⟩
theorem jc {L:List Se}{f:Se→Bool}{j:Nat}(hj:¬ j < L.length) (h:∀ k (h:k < L.length),k < j→f L[k]=false):L.findIdx? f=none:=by
 rw [List.findIdx?_eq_none_iff];intro x hx;obtain ⟨k,hk,rfl⟩:=List.getElem_of_mem hx;exact h k hk (by omega)
theorem wL (w:World) (v:Value) (X:List (Se × Value)) (L:List Se) (hR:dj w v X) (hcom:X.map Prod.fst=L) (ho:∀ x∈X,nU w x.2 x.1.v.k) (hn:X.length≤100000) (p:Nat) (id:Int) (hp:w.cell? ⟨p,0,none⟩=some (.int .i64 id)) :
 Calls Tryz.prog 158 #[v,.func (.func 133) #[] #[.pointer (some ⟨p,0,none⟩)]] w fun e w'=>e=.returned (kI (ir id L))∧aa [] w w':=by
 obtain ⟨ao,c,rfl,hc,hm,_,hat⟩:=hR.shape;unfold maxLen at hm;have HA:=ah hat;have HCom:=ah hcom;have HKo:=ah ho;have hl:X.length=L.length:=by rw [← hcom];simp
 have HL:=ah hl;obtain ⟨n,hn2⟩:∃ n,n=X.length:=⟨_,rfl⟩;have HN:=ah hn2;rw [← hn2] at hc hn ⊢;have HP:=ah hp;clear hat hcom ho hl hR hn2 hp;go_enter Tryz.func158,Tryz.ntmps158;go_wp2_with fail
 go_loopw [8] (fun iv wr=>DH w L (fun x=>decide (x.i=id)) iv wr) (fun iv _=>n - (intOf iv).toNat)
 case atStart=>exact ⟨0,rfl,Nat.zero_le _,fun k _ hk=>by omega,aa.refl _ _⟩
 case round =>
  obtain ⟨j,rfl,hj,HF,HK⟩:=hrel;by_cases hlt:j < n
  ·have hlt':(j:Int) < n:=by omega
   have hjc:j≤c:=by omega
   have hjX:j < X.length:=by rw [← HN.out];exact hlt
   have hjL:j < L.length:=by rw [← HL.out];exact hjX
   have hCk:=dm HCom.out hjX hjL;obtain ⟨g,he,hx⟩:=HA.out j hjX;have hko:=(HKo.out _ (List.getElem_mem hjX)).kept HK.out;subst he;obtain ⟨h0,h1,h2,h3,h4,h5,h6,h7,h8,h9⟩:=hx.kept HK.out (by simp);rw [hCk] at h0 h1 h2 h3 h4 h5 h6 h7 h9;obtain ⟨mo,mm,mc,hm2⟩:=hko.one;rw [hm2] at h8;have HT:=ah (fun h=>lP (f:=fun x=>decide (x.i=id)) hjL HF.out h);have cK:=AN wr L[j] mo mm mc p id (HK.out.cell HP.out (by simp))
   have HF2:Hid (decide (L[j].i=id)=false→∀ k (h:k < L.length),k < j+1→(fun x:Se=>decide (x.i=id)) L[k]=false):=fun h k hk hk2=>by
    by_cases e:k=j
    ·subst e;exact h
    ·exact HF.out k hk (by omega)
   generalize L[j]=x at *;unfold jN at cK;clear hx hko hCk hm2 hjX;(go_wp2_with fail);refine cK.mono ?_;rintro _ w5 ⟨rfl,hK5⟩;replace hK5:=ah (HK.out.trans hK5 (by simp));clear cK h0 h1 h2 h3 h4 h5 h6 h7 h8 h9;cases hd:decide (x.i=id) with
   | true =>
     have HE:Hid (ir id L=some j):=HT.out hd;(go_wp2_with fail);go_ret
     exact ⟨by rw [HE.out];rfl,hK5.out⟩
   | false =>
     have HE:=ah (HF2.out hd);(go_wp2_with fail);go_roundw
     case rel=>exact ⟨j+1,by go_num,hjL,HE,hK5⟩
     case measure=>simp [intOf];omega
  ·have hlt':¬ (j:Int) < n:=by omega
   have HE:Hid (ir id L=none):=jc (j:=j) (by rw [← HL.out,← HN.out];exact hlt) HF.out;(go_wp2_with fail);go_ret
   exact ⟨by rw [HE.out];rfl,HK.out⟩
theorem gI {w:World}{b sz:Nat}{v:Value}{X:List (Se × Value)}{L:List Se}(h:fJ P w b sz v X L) (hn:L.length≤100000) (id:Int) :
 Calls Tryz.prog 98 #[.pointer (some ⟨b,0,none⟩),.int .i64 id] w fun e w'=>e=.returned (kI (ir id L))∧aa [] w w':=by
 have hK:=(aa.refl [] w).alloc (.cells #[.int .i64 id] 3);have h1:=h.kept hK;have cM:=dQ h1;have cI:=wL _ v X L h1.row h1.ses (fun x hx=>(h1.own x hx).ko) (by rw [h.len];exact hn) w.heap.size id (ag (heap_alloc_new w _) rfl)
 have cF:Calls Tryz.prog 132 #[.pointer (some ⟨b,0,none⟩),.func (.func 133) #[] #[.pointer (some ⟨w.heap.size,0,none⟩)]] (w.alloc (.cells #[.int .i64 id] 3)) fun e w'=>e=.returned (kI (ir id L))∧aa [] (w.alloc (.cells #[.int .i64 id] 3)) w':=by
  obtain ⟨c0,c1⟩:=h1.cells;obtain ⟨ao,c,rfl,_⟩:=h1.row.shape;generalize w.alloc (.cells #[.int .i64 id] 3)=W at *;clear h h1 hK;go_enter Tryz.func132,Tryz.ntmps132;(go_wp2_with fail);refine cM.mono ?_;rintro _ _ ⟨rfl,rfl⟩;(go_wp2_with fail);refine cI.mono ?_;rintro _ w2 ⟨rfl,hK2⟩;(go_wp2_with fail);go_ret
  exact ⟨rfl,hK2⟩
 have hmf:∀ (fn:Fn) (first cap:Array Value) (w:World),(Instr.makeFunc fn first cap).run Tryz.prog w=.ok (.func fn first cap) w:=fun _ _ _ _=>rfl;clear cM cI h h1;go_enter Tryz.func98,Tryz.ntmps98;go_wp2_with fail
 refine cF.mono ?_;rintro _ w2 ⟨rfl,hK2⟩;go_wp2_with fail
 go_ret
 exact ⟨rfl,hK.trans hK2 (by simp)⟩
theorem wl (w:World) (v:Value) (X:List (Se × Value)) (L:List Se) (hR:dj w v X) (hcom:X.map Prod.fst=L) (ho:∀ x∈X,nU w x.2 x.1.v.k) (hn:X.length≤100000) (p:Nat) (nm:List UInt8) (hp:w.cell? ⟨p,0,none⟩=some (.string (ak nm))) :
 Calls Tryz.prog 158 #[v,.func (.func 134) #[] #[.pointer (some ⟨p,0,none⟩)]] w fun e w'=>e=.returned (kI (oS nm L))∧aa [] w w':=by
 obtain ⟨ao,c,rfl,hc,hm,_,hat⟩:=hR.shape;unfold maxLen at hm;have HA:=ah hat;have HCom:=ah hcom;have HKo:=ah ho;have hl:X.length=L.length:=by rw [← hcom];simp
 have HL:=ah hl;obtain ⟨n,hn2⟩:∃ n,n=X.length:=⟨_,rfl⟩;have HN:=ah hn2;rw [← hn2] at hc hn ⊢;have HP:=ah hp;clear hat hcom ho hl hR hn2 hp;go_enter Tryz.func158,Tryz.ntmps158;go_wp2_with fail
 go_loopw [8] (fun iv wr=>DH w L (fun x=>decide (x.n=nm)) iv wr) (fun iv _=>n - (intOf iv).toNat)
 case atStart=>exact ⟨0,rfl,Nat.zero_le _,fun k _ hk=>by omega,aa.refl _ _⟩
 case round =>
  obtain ⟨j,rfl,hj,HF,HK⟩:=hrel;by_cases hlt:j < n
  ·have hlt':(j:Int) < n:=by omega
   have hjc:j≤c:=by omega
   have hjX:j < X.length:=by rw [← HN.out];exact hlt
   have hjL:j < L.length:=by rw [← HL.out];exact hjX
   have hCk:=dm HCom.out hjX hjL;obtain ⟨g,he,hx⟩:=HA.out j hjX;have hko:=(HKo.out _ (List.getElem_mem hjX)).kept HK.out;subst he;obtain ⟨h0,h1,h2,h3,h4,h5,h6,h7,h8,h9⟩:=hx.kept HK.out (by simp);rw [hCk] at h0 h1 h2 h3 h4 h5 h6 h7 h9;obtain ⟨mo,mm,mc,hm2⟩:=hko.one;rw [hm2] at h8;have HT:=ah (fun h=>lP (f:=fun x=>decide (x.n=nm)) hjL HF.out h);have cK:=Bi wr L[j] mo mm mc p nm (HK.out.cell HP.out (by simp))
   have HF2:Hid (decide (L[j].n=nm)=false→∀ k (h:k < L.length),k < j+1→(fun x:Se=>decide (x.n=nm)) L[k]=false):=fun h k hk hk2=>by
    by_cases e:k=j
    ·subst e;exact h
    ·exact HF.out k hk (by omega)
   generalize L[j]=x at *;unfold jN at cK;clear hx hko hCk hm2 hjX;(go_wp2_with fail);refine cK.mono ?_;rintro _ w5 ⟨rfl,hK5⟩;replace hK5:=ah (HK.out.trans hK5 (by simp));clear cK h0 h1 h2 h3 h4 h5 h6 h7 h8 h9;cases hd:decide (x.n=nm) with
   | true =>
     have HE:Hid (oS nm L=some j):=HT.out hd;(go_wp2_with fail);go_ret
     exact ⟨by rw [HE.out];rfl,hK5.out⟩
   | false =>
     have HE:=ah (HF2.out hd);(go_wp2_with fail);go_roundw
     case rel=>exact ⟨j+1,by go_num,hjL,HE,hK5⟩
     case measure=>simp [intOf];omega
  ·have hlt':¬ (j:Int) < n:=by omega
   have HE:Hid (oS nm L=none):=jc (j:=j) (by rw [← HL.out,← HN.out];exact hlt) HF.out;(go_wp2_with fail);go_ret
   exact ⟨by rw [HE.out];rfl,HK.out⟩
theorem iI {w:World}{b sz:Nat}{v:Value}{X:List (Se × Value)}{L:List Se}(h:fJ P w b sz v X L) (hn:L.length≤100000) (nm:List UInt8) :
 Calls Tryz.prog 99 #[.pointer (some ⟨b,0,none⟩),.string (ak nm)] w fun e w'=>e=.returned (kI (oS nm L))∧aa [] w w':=by
 have hK:=(aa.refl [] w).alloc (.cells #[.string (ak nm)] 9);have h1:=h.kept hK;have cM:=dQ h1;have cI:=wl _ v X L h1.row h1.ses (fun x hx=>(h1.own x hx).ko) (by rw [h.len];exact hn) w.heap.size nm (ag (heap_alloc_new w _) rfl)
 have cF:Calls Tryz.prog 132 #[.pointer (some ⟨b,0,none⟩),.func (.func 134) #[] #[.pointer (some ⟨w.heap.size,0,none⟩)]] (w.alloc (.cells #[.string (ak nm)] 9)) fun e w'=>e=.returned (kI (oS nm L))∧aa [] (w.alloc (.cells #[.string (ak nm)] 9)) w':=by
  obtain ⟨c0,c1⟩:=h1.cells;obtain ⟨ao,c,rfl,_⟩:=h1.row.shape;generalize w.alloc (.cells #[.string (ak nm)] 9)=W at *;clear h h1 hK;go_enter Tryz.func132,Tryz.ntmps132;(go_wp2_with fail);refine cM.mono ?_;rintro _ _ ⟨rfl,rfl⟩;(go_wp2_with fail);refine cI.mono ?_;rintro _ w2 ⟨rfl,hK2⟩;(go_wp2_with fail);go_ret
  exact ⟨rfl,hK2⟩
 have hmf:∀ (fn:Fn) (first cap:Array Value) (w:World),(Instr.makeFunc fn first cap).run Tryz.prog w=.ok (.func fn first cap) w:=fun _ _ _ _=>rfl;clear cM cI h h1;go_enter Tryz.func99,Tryz.ntmps99;go_wp2_with fail
 refine cF.mono ?_;rintro _ w2 ⟨rfl,hK2⟩;go_wp2_with fail
 go_ret
 exact ⟨rfl,hK.trans hK2 (by simp)⟩
end Go.Proofs.YtgpnlidnbldiiaaGreat
namespace Go.Proofs.YtgpnlidnbldiiaaGreat
open Go.RowKit
theorem eu {w:World}{ops:Array Oper}{o:Oper}{a:Act}{Kk:Act→World→Prop}{Q:Exit→Act→World→Prop}{E:Prop}(hgd:o.guard=none) (s x:Operand) (t:TypeId)
 (hop:o.op=.call { callee:=.builtin .append,args:=#[s,x],argTypes:=#[t,t] }) (e:TypeId) (i:TypeInfo) (ht:Tryz.prog.underlying t=some (.slice e)) (hi:Tryz.prog.info? e=some i)
 (base:Option Addr) (n c:Nat) (hle:n≤c) (hs:a.eval s=.slice base n c) (ad:Addr) (d:Nat) (hx:a.eval x=.slice (some ad) 0 d)
 (h:Kk (a.put o.dst (.slice base n c)) w):if Region.wanted o (yielded ops a.tmps)=true then Oper.wp Tryz.prog o a w Kk Q else E:=by
 have hw:Region.wanted o (yielded ops a.tmps)=true:=by simp [Region.wanted,hgd]
 rw [if_pos hw];have hf:=run_firstCells_some (P:=Tryz.prog) w i.size 0 ad 0 d [] (by simp) (by simp)
 have hrun:(Builtin.append_ #[t,t] o.type #[.slice base n c,.slice (some ad) 0 d]).run Tryz.prog w=.ok (.slice base n c) w:=by
  cases base <;> simp [Builtin.append_,run_underlying ht,sizeOf,typeInfo,hi,Builtin.lenOf,hle,hf,storeCells]
 unfold Oper.wp;simp [execOp,hop,resolve,invoke,builtin,hs,hx,hrun,Result.andThen]
 exact h
theorem k5 {w:World}{ops:Array Oper}{o:Oper}{a:Act}{Kk:Act→World→Prop}{Q:Exit→Act→World→Prop}{E:Prop}(hgd:o.guard=none) (s x:Operand)
 (hop:o.op=.call { callee:=.builtin .append,args:=#[s,x],argTypes:=#[51,51] })
 (ao:Option Addr) (n:Nat) (M:List (Se × Value)) (hs:a.eval s=.slice ao n n) (hn:n=M.length) (hao:ao=none→n=0) (ho:∀ b,ao=some b→∀ (j:Nat) (u:Value),(M.flatMap dU)[j]?=some u→w.cell? (b.add j)=some u)
 (ad:Addr) (m c:Nat) (N:List (Se × Value)) (hx:a.eval x=.slice (some ad) m c) (hm:m=N.length) (hc:∀ (j:Nat) (u:Value),(N.flatMap dU)[j]?=some u→w.cell? (ad.add j)=some u) (h1:∀ x∈N,x.2.oneCell'=true) (hpos:0 < m)
 (hlen:M.length+N.length≤1000000000)
 (h:∀ g cap w',bp w.heap.size w' (.slice (some ⟨g,0,none⟩) (n+m) cap) (M++N)→aa [] w w'→Kk (a.put o.dst (.slice (some ⟨g,0,none⟩) (n+m) cap)) w') :
 if Region.wanted o (yielded ops a.tmps)=true then Oper.wp Tryz.prog o a w Kk Q else E:=by
 subst hm;subst hn;obtain ⟨i0,hi,hz0,hz1,hz2⟩:=info_parts dW;refine step_append_grows hgd s x 51 hop 155 i0 _ 10 112 Tryz.underlying51 hi hz0 hz1 hz2 rfl (by decide) ao M.length M.length (M.flatMap dU) hs (fun e=>⟨hao e,hao e⟩) (eq M) ho ad N.length c (N.flatMap dU) hx (eq N) hc (lO h1) (by omega) (by unfold maxLen;omega) (by omega) ?_;intro v' w' h2 h3
 have h4:bp w.heap.size w' v' (M++N):=by
  unfold bp;rw [List.length_append,List.flatMap_append];exact h2
 obtain ⟨g,cap,he,_,_⟩:=World.ownsRow.form h2 (by omega);subst he;exact h g cap w' h4 ((aa.refl [] w).grown h3 (by simp))
def Em (c i g:Nat):Addr:=if c=i+1 then ⟨g,0,none⟩ else ⟨g,(i+1)*10,none⟩
def BI (w:World) (v:Value) (X:List (Se × Value)) (e:Ending) (w':World):Prop :=
 ∃ v',e=.returned v'∧dj w' v' X∧aa [] w w'∧∀ k,v'.ownBlock=some k→v.ownBlock=some k∨w.heap.size≤k
theorem ic (w:World) (v:Value) (X:List (Se × Value)) (hR:dj w v X) (h1:∀ x∈X,x.2.oneCell'=true) (i:Nat) (hi:i < X.length) (hn:X.length≤100000) :
 Calls Tryz.prog 153 #[v,.int .i64 i] w fun e w'=>BI w v (cn X i) e w':=by
 obtain ⟨ao,c,rfl,hc,hm,_,hat⟩:=hR.shape;unfold maxLen at hm;obtain ⟨g,rfl,_⟩:=hat i hi;clear hat;obtain ⟨i0,hi0,_⟩:=info_parts dW;have HI:=ah hi0;have HR:=ah hR;have H1:=ah h1;obtain ⟨n,hnX⟩:∃ n,n=X.length:=⟨_,rfl⟩;have HN:=ah hnX;rw [← hnX] at hc hi hn ⊢;clear hR hi0 h1 hnX;have hi':(i:Int) < n:=by omega
 have hic:i≤c:=by omega
 have hw:IntKind.i64.wrap ((i:Int)+1)=((i+1:Nat):Int):=by rw [IntWalk.i64_in _ (by omega)];omega
 by_cases hlast:i+1=n
 ·have HE:Hid (dj w (.slice (some ⟨g,0,none⟩) i i) (cn X i)):=by
   show dj _ _ _;unfold cn;rw [List.drop_of_length_le (by rw [← HN.out];omega),List.append_nil];exact HR.out.cut (by rw [← HN.out];omega)
  have qa:(0:Int)≤(i:Int)+1:=by omega
  have qb:(i:Int)≤(i:Int)+1:=by omega
  subst hlast;go_enter Tryz.func153,Tryz.ntmps153;(go_wp2_with fail);refine wp_region_held_drew (S:=fun _=>True) (by kernel_rfl) trivial (fun hHeld=>?_);refine aU [0,1,2,3,4,5,6,7] (by rfl) (by kernel_rfl) (fun _ _ _ _ _ h=>h) hHeld ?_
  iterate 8
   refine yk ?_ rfl (Or.inl ⟨by rfl,?_⟩) ?_;rotate_left
   ·intro w9 hSw;(try dsimp only at hSw);go_simp;(try with_reducible rfl)
   try simp only [sT,Act.put]
  refine aT ?_;simp only [au,sT];refine aH 8 (by kernel_rfl) rfl (fun K0 hK0=>?_);refine eu (by rfl) _ _ 51 (by rfl) 155 i0 Tryz.underlying51 HI.out (some ⟨g,0,none⟩) i i (Nat.le_refl _) (by simp [Act.eval]) (Em c i g) (c - (i+1)) (by simp [Act.eval,Em];split <;> rfl) ?_;refine hK0.out _ _ trivial (fun hHeld=>?_);clear hK0 K0;simp only [List.getElem_toArray,List.getElem_cons_succ,List.getElem_cons_zero,Act.put,List.setIfInBounds_toArray,List.set_cons_zero,List.set_cons_succ];refine aU [9] (by rfl) (by kernel_rfl) (fun _ _ _ _ _ h=>h) hHeld ?_
  iterate 1
   refine yk ?_ rfl (Or.inl ⟨by rfl,?_⟩) ?_;rotate_left
   ·intro w9 hSw;(try dsimp only at hSw);go_simp;(try with_reducible rfl)
   try simp only [sT,Act.put]
  refine aT ?_;simp only [au,sT];refine wpAnyH_done (by kernel_rfl) ?_ _;all_goals go_wp2_with fail
  all_goals go_ret
  all_goals exact ⟨_,rfl,HE.out.kept (aN w 1),aN w 1,fun k hk=>.inl (by cases hk;rfl)⟩
 ·have hne:¬ c=i+1:=by omega
  have qa:(0:Int)≤(i:Int)+1:=by omega
  have qb:(i:Int)+1≤n:=by omega
  have H2:Hid (∀ x∈X.drop (i+1),x.2.oneCell'=true):=fun x hx=>H1.out x (List.mem_of_mem_drop hx);have HC1:Hid (∀ b,(some ⟨g,0,none⟩:Option Addr)=some b→∀ (j:Nat) (u:Value),((X.take i).flatMap dU)[j]?=some u→w.drew.cell? (b.add j)=some u):=fun b e=>by cases e;exact (HR.out.kept (aN w 1)).run0 i
  have HC2:Hid (∀ (j:Nat) (u:Value),((X.drop (i+1)).flatMap dU)[j]?=some u→w.drew.cell? ((⟨g,(i+1)*10,none⟩:Addr).add j)=some u):=(HR.out.kept (aN w 1)).runs (i+1);have HL1:Hid (i=(X.take i).length):=by show _=_;simp;rw [← HN.out];omega
  have HL2:Hid (n - (i+1)=(X.drop (i+1)).length):=by show _=_;simp;rw [← HN.out]
  go_enter Tryz.func153,Tryz.ntmps153;(go_wp2_with fail);refine wp_region_held_drew (S:=fun _=>True) (by kernel_rfl) trivial (fun hHeld=>?_);refine aU [0,1,2,3,4,5,6,7] (by rfl) (by kernel_rfl) (fun _ _ _ _ _ h=>h) hHeld ?_
  iterate 8
   refine yk ?_ rfl (Or.inl ⟨by rfl,?_⟩) ?_;rotate_left
   ·intro w9 hSw;(try dsimp only at hSw);go_simp;(try with_reducible rfl)
   try simp only [sT,Act.put]
  refine aT ?_;simp only [au,sT];refine aH 8 (by kernel_rfl) rfl (fun K0 hK0=>?_);refine k5 (by rfl) _ _ (by rfl) (some ⟨g,0,none⟩) i (X.take i) (by simp [Act.eval]) HL1.out (by simp) HC1.out ⟨g,(i+1)*10,none⟩ (n - (i+1)) (c - (i+1)) (X.drop (i+1)) (by simp [Act.eval]) HL2.out HC2.out H2.out (by omega) (by rw [← HL1.out,← HL2.out];omega) ?_;intro g5 c5 w5 hR5 hK5;refine hK0.out _ _ trivial (fun hHeld=>?_);clear hK0 K0;simp only [List.getElem_toArray,List.getElem_cons_succ,List.getElem_cons_zero,Act.put,List.setIfInBounds_toArray,List.set_cons_zero,List.set_cons_succ];refine aU [9] (by rfl) (by kernel_rfl) (fun _ _ _ _ _ h=>h) hHeld ?_
  iterate 1
   refine yk ?_ rfl (Or.inl ⟨by rfl,?_⟩) ?_;rotate_left
   ·intro w9 hSw;(try dsimp only at hSw);go_simp;(try with_reducible rfl)
   try simp only [sT,Act.put]
  refine aT ?_;simp only [au,sT];refine wpAnyH_done (by kernel_rfl) ?_ _;(go_wp2_with fail);go_ret
  exact ⟨_,rfl,hR5.t,(aN w 1).trans hK5 (by simp),fun k hk=>.inr (World.ownsRow.lt hR5 k hk).1⟩
theorem jF (w:World) (v:Value) (X:List (Se × Value)) (hR:dj w v X) (x:Se) (u:Value) (hu:∃ ao n c,u=.slice ao n c) (hl:X.length≤100000) :
 Calls Tryz.prog 100 #[v,jN x u] w fun e w'=>∃ v',e=.returned v'∧bp w.heap.size w' v' (X++[(x,u)])∧aa [] w w':=by
 obtain ⟨ao,n,c,rfl⟩:=hu;obtain ⟨W0,hW0⟩:∃ W0,W0=w.alloc (.cells #[.int .i64 x.i,.int .i64 x.q,.string (ak x.n),.int .i64 x.v.c,.int .i64 x.v.s,.int .i64 x.v.r,.string (ak x.v.p),.int .u64 x.v.d,.slice ao n c,.int .i64 x.v.m] 155):=⟨_,rfl⟩;have HK0:Hid (aa [] w W0):=by show aa _ _ _;rw [hW0];exact (aa.refl _ _).alloc _
 have hB:W0.heap[w.heap.size]?=some (.cells #[.int .i64 x.i,.int .i64 x.q,.string (ak x.n),.int .i64 x.v.c,.int .i64 x.v.s,.int .i64 x.v.r,.string (ak x.v.p),.int .u64 x.v.d,.slice ao n c,.int .i64 x.v.m] 155 (0,0)):=by rw [hW0];exact heap_alloc_new w _
 have HKb:Hid (aa [] W0 (W0.alloc (.cells #[.int .i64 x.i,.int .i64 x.q,.string (ak x.n),.int .i64 x.v.c,.int .i64 x.v.s,.int .i64 x.v.r,.string (ak x.v.p),.int .u64 x.v.d,.slice ao n c,.int .i64 x.v.m] 155)).drew):=((aa.refl [] W0).alloc _).drew
 have HNw:Hid (∀ (j:Nat) (u:Value),([(x,.slice ao n c)].flatMap dU)[j]?=some u→(W0.alloc (.cells #[.int .i64 x.i,.int .i64 x.q,.string (ak x.n),.int .i64 x.v.c,.int .i64 x.v.s,.int .i64 x.v.r,.string (ak x.v.p),.int .u64 x.v.d,.slice ao n c,.int .i64 x.v.m] 155)).drew.cell? ((⟨w.heap.size+1,0,none⟩:Addr).add j)=some u):=by
  have h:=heap_alloc_new W0 (.cells #[.int .i64 x.i,.int .i64 x.q,.string (ak x.n),.int .i64 x.v.c,.int .i64 x.v.s,.int .i64 x.v.r,.string (ak x.v.p),.int .u64 x.v.d,.slice ao n c,.int .i64 x.v.m] 155);rw [show W0.heap.size=w.heap.size+1 by rw [hW0,World.size_alloc]] at h;exact eT (x:=(x,.slice ao n c)) rfl ((aa.refl [] _).drew.at h (by simp))
 have HR:=ah ((hR.kept HK0.out).kept HKb.out);have b0:=ag (k:=0) hB rfl;have b1:=ag (k:=1) hB rfl;have b2:=ag (k:=2) hB rfl;have b3:=ag (k:=3) hB rfl;have b4:=ag (k:=4) hB rfl;have b5:=ag (k:=5) hB rfl;have b6:=ag (k:=6) hB rfl;have b7:=ag (k:=7) hB rfl;have b8:=ag (k:=8) hB rfl;have b9:=ag (k:=9) hB rfl;unfold jN;rcases hR with ⟨rfl,rfl⟩ | ⟨g,c',cur,rfl,hh,h1,h2,h3⟩
 ·clear hB;subst hW0;go_enter Tryz.func100,Tryz.ntmps100;(go_wp2_with fail);refine wp_region_held_drew (S:=fun w'=>w'.cell? ⟨w.heap.size,0,none⟩=some (.int .i64 x.i)∧w'.cell? ⟨w.heap.size,1,none⟩=some (.int .i64 x.q)∧w'.cell? ⟨w.heap.size,2,none⟩=some (.string (ak x.n))∧w'.cell? ⟨w.heap.size,3,none⟩=some (.int .i64 x.v.c)∧w'.cell? ⟨w.heap.size,4,none⟩=some (.int .i64 x.v.s)∧w'.cell? ⟨w.heap.size,5,none⟩=some (.int .i64 x.v.r)∧w'.cell? ⟨w.heap.size,6,none⟩=some (.string (ak x.v.p))∧w'.cell? ⟨w.heap.size,7,none⟩=some (.int .u64 x.v.d)∧w'.cell? ⟨w.heap.size,8,none⟩=some (.slice ao n c)∧w'.cell? ⟨w.heap.size,9,none⟩=some (.int .i64 x.v.m)) (by kernel_rfl) ⟨b0,b1,b2,b3,b4,b5,b6,b7,b8,b9⟩ (fun hHeld=>?_);refine aU [0,1,2,3,4,5,6] (by rfl) (by kernel_rfl) (fun _ _ _ _ _ h=>h) hHeld ?_
  iterate 7
   refine yk ?_ rfl (Or.inl ⟨by rfl,?_⟩) ?_;rotate_left
   ·intro w9 hSw;(try dsimp only at hSw);go_simp;(try with_reducible rfl)
   try simp only [sT,Act.put]
  refine aT ?_;simp only [au,sT];refine aH 7 (by kernel_rfl) rfl (fun K0 hK0=>?_);go_simp;refine hK0.out _ _ ⟨HKb.out.cell b0 (by simp),HKb.out.cell b1 (by simp),HKb.out.cell b2 (by simp),HKb.out.cell b3 (by simp),HKb.out.cell b4 (by simp),HKb.out.cell b5 (by simp),HKb.out.cell b6 (by simp),HKb.out.cell b7 (by simp),HKb.out.cell b8 (by simp),HKb.out.cell b9 (by simp)⟩ (fun hHeld=>?_);clear hK0 K0;(try simp only [sT,Act.put]);refine aH 8 (by kernel_rfl) rfl (fun K0 hK0=>?_);refine k5 (by rfl) _ _ (by rfl) none 0 [] (by simp [Act.eval]) rfl (fun _=>rfl) (by intro b e;cases e) ⟨w.heap.size+1,0,none⟩ 1 1 [(x,.slice ao n c)] (by simp [Act.eval]) rfl HNw.out (by intro y hy;simp at hy;subst hy;rfl) (by omega) (by simp) ?_;intro g5 c5 w5 hR5 hK5;have hK6:=HKb.out.trans hK5 (by simp);refine hK0.out _ _ ⟨hK6.cell b0 (by simp),hK6.cell b1 (by simp),hK6.cell b2 (by simp),hK6.cell b3 (by simp),hK6.cell b4 (by simp),hK6.cell b5 (by simp),hK6.cell b6 (by simp),hK6.cell b7 (by simp),hK6.cell b8 (by simp),hK6.cell b9 (by simp)⟩ (fun hHeld=>?_);clear hK0 K0;(try simp only [sT,Act.put]);refine aU [9] (by rfl) (by kernel_rfl) (fun _ _ _ _ _ h=>h) hHeld ?_
  iterate 1
   refine yk ?_ rfl (Or.inl ⟨by rfl,?_⟩) ?_;rotate_left
   ·intro w9 hSw;(try dsimp only at hSw);go_simp;(try with_reducible rfl)
   try simp only [sT,Act.put]
  refine aT ?_;simp only [au,sT];refine wpAnyH_done (by kernel_rfl) ?_ _;all_goals go_wp2_with fail
  all_goals go_ret
  all_goals exact ⟨_,rfl,hR5.mono (Nat.le_trans HK0.out.size HKb.out.size),HK0.out.trans hK6 (by simp)⟩
 ·unfold maxLen at h2
  have HC:Hid (∀ b,(some ⟨g,0,none⟩:Option Addr)=some b→∀ (j:Nat) (u:Value),(X.flatMap dU)[j]?=some u→(W0.alloc (.cells #[.int .i64 x.i,.int .i64 x.q,.string (ak x.n),.int .i64 x.v.c,.int .i64 x.v.s,.int .i64 x.v.r,.string (ak x.v.p),.int .u64 x.v.d,.slice ao n c,.int .i64 x.v.m] 155)).drew.cell? (b.add j)=some u):=fun b e=>by
   cases e
   have h:=HR.out.run0 X.length;rw [List.take_length] at h;exact h
  obtain ⟨m,hmX⟩:∃ m,m=X.length:=⟨_,rfl⟩;have HM:=ah hmX;rw [← hmX] at h1 hl ⊢;clear hh h3 hmX hB;subst hW0;go_enter Tryz.func100,Tryz.ntmps100;(go_wp2_with fail);refine wp_region_held_drew (S:=fun w'=>w'.cell? ⟨w.heap.size,0,none⟩=some (.int .i64 x.i)∧w'.cell? ⟨w.heap.size,1,none⟩=some (.int .i64 x.q)∧w'.cell? ⟨w.heap.size,2,none⟩=some (.string (ak x.n))∧w'.cell? ⟨w.heap.size,3,none⟩=some (.int .i64 x.v.c)∧w'.cell? ⟨w.heap.size,4,none⟩=some (.int .i64 x.v.s)∧w'.cell? ⟨w.heap.size,5,none⟩=some (.int .i64 x.v.r)∧w'.cell? ⟨w.heap.size,6,none⟩=some (.string (ak x.v.p))∧w'.cell? ⟨w.heap.size,7,none⟩=some (.int .u64 x.v.d)∧w'.cell? ⟨w.heap.size,8,none⟩=some (.slice ao n c)∧w'.cell? ⟨w.heap.size,9,none⟩=some (.int .i64 x.v.m)) (by kernel_rfl) ⟨b0,b1,b2,b3,b4,b5,b6,b7,b8,b9⟩ (fun hHeld=>?_);refine aU [0,1,2,3,4,5,6] (by rfl) (by kernel_rfl) (fun _ _ _ _ _ h=>h) hHeld ?_
  iterate 7
   refine yk ?_ rfl (Or.inl ⟨by rfl,?_⟩) ?_;rotate_left
   ·intro w9 hSw;(try dsimp only at hSw);go_simp;(try with_reducible rfl)
   try simp only [sT,Act.put]
  refine aT ?_;simp only [au,sT];refine aH 7 (by kernel_rfl) rfl (fun K0 hK0=>?_);go_simp;refine hK0.out _ _ ⟨HKb.out.cell b0 (by simp),HKb.out.cell b1 (by simp),HKb.out.cell b2 (by simp),HKb.out.cell b3 (by simp),HKb.out.cell b4 (by simp),HKb.out.cell b5 (by simp),HKb.out.cell b6 (by simp),HKb.out.cell b7 (by simp),HKb.out.cell b8 (by simp),HKb.out.cell b9 (by simp)⟩ (fun hHeld=>?_);clear hK0 K0;(try simp only [sT,Act.put]);refine aH 8 (by kernel_rfl) rfl (fun K0 hK0=>?_);refine k5 (by rfl) _ _ (by rfl) (some ⟨g,0,none⟩) m X (by simp [Act.eval]) HM.out (by simp) HC.out ⟨w.heap.size+1,0,none⟩ 1 1 [(x,.slice ao n c)] (by simp [Act.eval]) rfl HNw.out (by intro y hy;simp at hy;subst hy;rfl) (by omega) (by rw [← HM.out];simp;omega) ?_;intro g5 c5 w5 hR5 hK5;have hK6:=HKb.out.trans hK5 (by simp);refine hK0.out _ _ ⟨hK6.cell b0 (by simp),hK6.cell b1 (by simp),hK6.cell b2 (by simp),hK6.cell b3 (by simp),hK6.cell b4 (by simp),hK6.cell b5 (by simp),hK6.cell b6 (by simp),hK6.cell b7 (by simp),hK6.cell b8 (by simp),hK6.cell b9 (by simp)⟩ (fun hHeld=>?_);clear hK0 K0;(try simp only [sT,Act.put]);refine aU [9] (by rfl) (by kernel_rfl) (fun _ _ _ _ _ h=>h) hHeld ?_
  iterate 1
   refine yk ?_ rfl (Or.inl ⟨by rfl,?_⟩) ?_;rotate_left
   ·intro w9 hSw;(try dsimp only at hSw);go_simp;(try with_reducible rfl)
   try simp only [sT,Act.put]
  refine aT ?_;simp only [au,sT];refine wpAnyH_done (by kernel_rfl) ?_ _;all_goals go_wp2_with fail
  all_goals go_ret
  all_goals exact ⟨_,rfl,hR5.mono (Nat.le_trans HK0.out.size HKb.out.size),HK0.out.trans hK6 (by simp)⟩
theorem gq (w:World) (v:Value) (X:List (Se × Value)) (hR:dj w v X) (x:Se) (u:Value) (hu:∃ ao n c,u=.slice ao n c) (hl:X.length≤100000) :
 Calls Tryz.prog 100 #[v,jN x u] w fun e w'=>BI w v (X++[(x,u)]) e w' :=
 (jF w v X hR x u hu hl).mono fun _ _ ⟨v',he,h1,h2⟩=>⟨v',he,h1.t,h2,fun k hk=>.inr (World.ownsRow.lt h1 k hk).1⟩
theorem fO {w:World}{ops:Array Oper}{o:Oper}{a:Act}{Kk:Act→World→Prop}{Q:Exit→Act→World→Prop}{E:Prop}(hgd:o.guard=none) (s x:Operand)
 (hop:o.op=.call { callee:=.builtin .append,args:=#[s,x],argTypes:=#[51,51] })
 (B:Nat) (v:Value) (M:List (Se × Value)) (hs:a.eval s=v) (hO:bp B w v M) (ad:Addr) (m c:Nat) (N:List (Se × Value)) (hx:a.eval x=.slice (some ad) m c) (hm:m=N.length) (hc:∀ (j:Nat) (u:Value),(N.flatMap dU)[j]?=some u→w.cell? (ad.add j)=some u) (h1:∀ x∈N,x.2.oneCell'=true) (hpos:0 < m)
 (hlen:M.length+N.length≤1000000000) (hB:B≤w.heap.size)
 (h:∀ g n cap w',bp B w' (.slice (some ⟨g,0,none⟩) n cap) (M++N)→w.grownBy w' v.ownBlock→(v.ownBlock=some g∨g=w.heap.size)→Kk (a.put o.dst (.slice (some ⟨g,0,none⟩) n cap)) w') :
 if Region.wanted o (yielded ops a.tmps)=true then Oper.wp Tryz.prog o a w Kk Q else E:=by
 subst hm;obtain ⟨i0,hi,hz0,hz1,hz2⟩:=info_parts dW;refine step_append_lies w hgd s x 51 hop B 155 i0 _ 10 112 Tryz.underlying51 hi hz0 hz1 hz2 rfl (by decide) v M.length (M.flatMap dU) hs hO ad N.length c (N.flatMap dU) hx (eq N) hc (lO h1) hpos (by unfold maxLen;omega) (by omega) hB _ rfl ?_;intro g' cap w' h2 h3 h4 _;refine h g' _ cap w' ?_ h3 h4;unfold bp;rw [List.length_append,List.flatMap_append];exact h2
variable {P : Nat → Prop}
def BX (P:Nat→Prop) (w:World) (b sz:Nat) (v:Value) (L:List Se) (w':World):Prop :=
 ∃ v' X',fJ P w' b sz v' X' L∧aa [b] w w'∧∀ k,v'.ownBlock=some k→v.ownBlock=some k∨w.heap.size≤k
theorem dw {w:World}{b:Nat}{t:TypeId}{x:Array Value}(hb:w.heap[b]?=some (.cells x t (0,0))):aJ w [b] [t]:=fun k hk cur t' mk hh=>by
 simp at hk;subst hk
 rw [hb] at hh;cases hh;simp
theorem fJ.store {w w5:World}{b sz:Nat}{v v5:Value}{X X5:List (Se × Value)}{L L5:List Se}(h:fJ P w b sz v X L) (hK:aa [] w w5) (hR:dj w5 v5 X5) (ho:∀ x∈X5,io P w5 x.2 x.1.v.k) (he:X5.map Prod.fst=L5):fJ P (w5.setCell ⟨b,1,none⟩ v5) b sz v5 X5 L5:=by
 have h5:=hK.at h.at_ (by simp);have hK2:aa [b] w5 (w5.setCell ⟨b,1,none⟩ v5):=(aa.refl _ _).setCell (by simp) _;exact ⟨heap_setCell_same w5 b 1 _ _ _ h5,h.pos,hR.typed hK2 (dw h5) (by decide),fun x hx=>(ho x hx).keep hK2 (dw h5) (by decide) (by decide),he⟩
theorem rL {w:World}{b sz:Nat}{v:Value}{X:List (Se × Value)}{L:List Se}(h:fJ P w b sz v X L) (hl:L.length≤100000) (i:Nat) (hi:i < L.length) :
 Calls Tryz.prog 152 #[.pointer (some ⟨b,0,none⟩),.int .i64 i] w fun e w'=>∃ u,e=.returned (jN (L.getD i sJ) u)∧io P w' u (L.getD i sJ).v.k∧BX P w b sz v (fN L i) w':=by
 have hiX:i < X.length:=by rw [h.len];exact hi
 obtain ⟨sao,sc,hv,hsc,hsm,_,hsat⟩:=h.row.shape;subst hv;unfold maxLen at hsm;obtain ⟨g,he,hx⟩:=hsat i hiX;subst he;have hCk:=dm h.ses hiX hi;have hkoi:=h.own _ (List.getElem_mem hiX);obtain ⟨ao,n,c,hm2⟩:=hkoi.ko.one
 have HX:Hid (X[i]?=some (L[i],.slice ao n c)):=by
  show _=_;rw [List.getElem?_eq_getElem hiX];exact congrArg some (Prod.ext hCk hm2)
 obtain ⟨h0,h1,h2,h3,h4,h5,h6,h7,h8,h9⟩:=hx;rw [hCk] at h0 h1 h2 h3 h4 h5 h6 h7 h9 hkoi;rw [hm2] at h8 hkoi;have HD:Hid (L.getD i sJ=L[i]):=cy hi;have HU:Hid (fN L i=cn L i++[L[i]]):=by show _=_;unfold fN;rw [cy hi]
 obtain ⟨x,hxe⟩:∃ x,x=L[i]:=⟨_,rfl⟩;rw [← hxe] at h0 h1 h2 h3 h4 h5 h6 h7 h9 hkoi HX HD HU;clear hm2 hCk hxe hsat;rw [HD.out];obtain ⟨W1,hW1⟩:∃ W1,W1=(w.alloc (.cells #[.int .i64 0,.int .i64 0,.string ⟨#[]⟩,.int .i64 0,.int .i64 0,.int .i64 0,.string ⟨#[]⟩,.int .u64 0,.slice none 0 0,.int .i64 0] 155)).alloc (.cells #[.int .i64 x.i,.int .i64 x.q,.string (ak x.n),.int .i64 x.v.c,.int .i64 x.v.s,.int .i64 x.v.r,.string (ak x.v.p),.int .u64 x.v.d,.slice ao n c,.int .i64 x.v.m] 155):=⟨_,rfl⟩;have hK1:aa [] w W1:=by rw [hW1];exact ((aa.refl _ _).alloc _).alloc _
 have hL2:=lJ w #[.int .i64 0,.int .i64 0,.string ⟨#[]⟩,.int .i64 0,.int .i64 0,.int .i64 0,.string ⟨#[]⟩,.int .u64 0,.slice none 0 0,.int .i64 0] #[.int .i64 x.i,.int .i64 x.q,.string (ak x.n),.int .i64 x.v.c,.int .i64 x.v.s,.int .i64 x.v.r,.string (ak x.v.p),.int .u64 x.v.d,.slice ao n c,.int .i64 x.v.m] 155;rw [← hW1] at hL2;have hT1:=h.kept hK1;have hw1:W1.heap.size=w.heap.size+2:=by rw [hW1,World.size_alloc,World.size_alloc]
 have hlX:X.length≤100000:=by rw [h.len];exact hl
 have HT:=ah hT1;have HKo:=ah hkoi;have HK1:=ah hK1;have HZ:=ah hL2.1;have HB:=ah hL2.2;have b0:=ag (k:=0) hL2.2 rfl;have b1:=ag (k:=1) hL2.2 rfl;have b2:=ag (k:=2) hL2.2 rfl;have b3:=ag (k:=3) hL2.2 rfl;have b4:=ag (k:=4) hL2.2 rfl;have b5:=ag (k:=5) hL2.2 rfl;have b6:=ag (k:=6) hL2.2 rfl;have b7:=ag (k:=7) hL2.2 rfl;have b8:=ag (k:=8) hL2.2 rfl;have b9:=ag (k:=9) hL2.2 rfl;have H1:Hid (∀ x∈X,x.2.oneCell'=true):=fun x hx=>by obtain ⟨_,_,_,e⟩:=(h.own x hx).ko.one;rw [e];rfl
 have cW:=fun W (hk:aa [] W1 W)=>ic W _ X ((hT1.kept hk).row) H1.out i hiX hlX;have cB:=fun W v' (hR:dj W v' (cn X i))=>gq W v' (cn X i) hR x (.slice ao n c) ⟨_,_,_,rfl⟩ (by rw [cu hiX];omega);unfold BI at cW cB;unfold jN at cB;have t1:=hT1.cells.2;obtain ⟨r0,r1⟩:=h.cells;have fz:=aj hT1.at_ 1;have hblt:=aq h.at_
 have HF:Hid (∀ w5 v5,aa [] W1 w5→dj w5 v5 (cn X i++[(x,.slice ao n c)])→fJ P (w5.setCell ⟨b,1,none⟩ v5) b sz v5 (cn X i++[(x,.slice ao n c)]) (fN L i)):=fun w5 v5 hK5 hR5=>by
  refine HT.out.store hK5 hR5 (fun y hy=>?_) ?_
  ·rcases List.mem_append.1 hy with hy | hy
   ·exact (HT.out.own y (eI hy)).kept hK5
   ·simp at hy;subst hy
    exact (HKo.out.kept HK1.out).kept hK5
  ·rw [List.map_append,gd,HT.out.ses,HU.out];rfl
 have HG:Hid (g < w.heap.size):=aq (h.row.block (k:=g) rfl).choose_spec;have hinX:(i:Int) < X.length:=by omega
 have hic:i≤sc:=by omega
 unfold jN;have hKz:=(aa.refl [] w).alloc (.cells #[.int .i64 0,.int .i64 0,.string ⟨#[]⟩,.int .i64 0,.int .i64 0,.int .i64 0,.string ⟨#[]⟩,.int .u64 0,.slice none 0 0,.int .i64 0] 155);replace h0:=hKz.cell h0 (by simp);replace h1:=hKz.cell h1 (by simp);replace h2:=hKz.cell h2 (by simp);replace h3:=hKz.cell h3 (by simp);replace h4:=hKz.cell h4 (by simp);replace h5:=hKz.cell h5 (by simp);replace h6:=hKz.cell h6 (by simp);replace h7:=hKz.cell h7 (by simp);replace h8:=hKz.cell h8 (by simp);replace h9:=hKz.cell h9 (by simp);replace r0:=hKz.cell r0 (by simp);replace r1:=hKz.cell r1 (by simp);clear h hT1 hkoi hK1 hL2 hlX hKz;go_enter Tryz.func152,Tryz.ntmps152;go_upto_region 2 with fail
 rw [← hW1];clear hW1 h0 h1 h2 h3 h4 h5 h6 h7 h8 h9 r0 r1;refine wp_region_held_drew (S:=fun w'=>w'.cell? ⟨w.heap.size+1,0,none⟩=some (.int .i64 x.i)∧w'.cell? ⟨w.heap.size+1,1,none⟩=some (.int .i64 x.q)∧w'.cell? ⟨w.heap.size+1,2,none⟩=some (.string (ak x.n))∧w'.cell? ⟨w.heap.size+1,3,none⟩=some (.int .i64 x.v.c)∧w'.cell? ⟨w.heap.size+1,4,none⟩=some (.int .i64 x.v.s)∧w'.cell? ⟨w.heap.size+1,5,none⟩=some (.int .i64 x.v.r)∧w'.cell? ⟨w.heap.size+1,6,none⟩=some (.string (ak x.v.p))∧w'.cell? ⟨w.heap.size+1,7,none⟩=some (.int .u64 x.v.d)∧w'.cell? ⟨w.heap.size+1,8,none⟩=some (.slice ao n c)∧w'.cell? ⟨w.heap.size+1,9,none⟩=some (.int .i64 x.v.m)) (by kernel_rfl) ⟨b0,b1,b2,b3,b4,b5,b6,b7,b8,b9⟩ (fun hHeld=>?_);refine aU [0,1,2,3,5,7] (by rfl) (by kernel_rfl) (fun _ _ _ _ _ h=>h) hHeld ?_
 iterate 6
  refine yk ?_ rfl (Or.inl ⟨by rfl,?_⟩) ?_;rotate_left
  ·intro w9 hSw;(try dsimp only at hSw);go_simp;(try with_reducible rfl)
  try simp only [sT,Act.put]
 refine aT ?_;simp only [au,sT];refine aH 4 (by kernel_rfl) rfl (fun K0 hK0=>?_);go_simp;refine hK0.out _ _ hHeld (fun hHeld=>?_);clear hK0 K0;try simp only [sT,Act.put]
 refine aH 6 (by kernel_rfl) rfl (fun K0 hK0=>?_);go_simp;refine (cW _ (aa.refl [] _).drew).mono ?_;rintro _ w3 ⟨v3,rfl,hR3,hK3,hv3⟩;replace hK3:=(aa.refl [] W1).drew.trans hK3 (by simp);obtain ⟨ao3,c3,rfl,_⟩:=hR3.shape;have HR3:=ah hR3;have HV3:=ah hv3;have HK3:=ah hK3;go_wp2_with fail
 refine hK0.out _ _ ⟨HK3.out.cell b0 (by simp),HK3.out.cell b1 (by simp),HK3.out.cell b2 (by simp),HK3.out.cell b3 (by simp),HK3.out.cell b4 (by simp),HK3.out.cell b5 (by simp),HK3.out.cell b6 (by simp),HK3.out.cell b7 (by simp),HK3.out.cell b8 (by simp),HK3.out.cell b9 (by simp)⟩ (fun hHeld=>?_);clear hK0 K0 hR3 hv3 hK3;try simp only [sT,Act.put]
 refine aH 8 (by kernel_rfl) rfl (fun K0 hK0=>?_);go_simp;refine (cB _ _ HR3.out).mono ?_;rintro _ w4 ⟨v4,rfl,hR4,hK4,hv4⟩;have HK4:=ah (HK3.out.trans hK4 (by simp));have HR4:=ah hR4
 have HV4:Hid (∀ k,v4.ownBlock=some k→g=k∨w.heap.size+2≤k):=fun k hk=>by
  rcases hv4 k hk with h1 | h1
  ·rcases HV3.out k h1 with h2 | h2
   ·cases h2;exact .inl rfl
   ·have h3:W1.heap.size≤k:=h2;exact .inr (by omega)
  ·have h2:=HK3.out.size;exact .inr (by omega)
 obtain ⟨ao4,c4,hv4e,_⟩:=hR4.shape;have hb4:=ag (k:=1) (HK4.out.at HT.out.at_ (by simp)) rfl;have fz4:=aj (HK4.out.at HT.out.at_ (by simp)) 1;have HF4:=ah (HF.out w4 v4 HK4.out hR4);clear hR4 hK4 hv4;subst hv4e;go_wp2_with fail
 refine hK0.out _ _ ⟨HK4.out.cell b0 (by simp),HK4.out.cell b1 (by simp),HK4.out.cell b2 (by simp),HK4.out.cell b3 (by simp),HK4.out.cell b4 (by simp),HK4.out.cell b5 (by simp),HK4.out.cell b6 (by simp),HK4.out.cell b7 (by simp),HK4.out.cell b8 (by simp),HK4.out.cell b9 (by simp)⟩ (fun hHeld=>?_);clear hK0 K0;try simp only [sT,Act.put]
 refine aU [9,10] (by rfl) (by kernel_rfl) (fun _ _ _ _ _ h=>h) hHeld ?_
 iterate 2
  refine yk ?_ rfl (Or.inl ⟨by rfl,?_⟩) ?_;rotate_left
  ·intro w9 hSw;(try dsimp only at hSw);go_simp;(try with_reducible rfl)
  try simp only [sT,Act.put]
 refine aT ?_;simp only [au,sT];refine aH 11 (by kernel_rfl) rfl (fun K0 hK0=>?_);go_simp;obtain ⟨w5,hw5⟩:∃ w5,w5=w4.setCell ⟨b,1,none⟩ (.slice ao4 ((cn X i).length+1) c4):=⟨_,rfl⟩;rw [← hw5];have hK5:aa [b] W1 w5:=by rw [hw5];exact (HK4.out.mono (by simp)).setCell (by simp) _
 refine hK0.out _ _ ⟨hK5.cell b0 (by simp;omega),hK5.cell b1 (by simp;omega),hK5.cell b2 (by simp;omega),hK5.cell b3 (by simp;omega),hK5.cell b4 (by simp;omega),hK5.cell b5 (by simp;omega),hK5.cell b6 (by simp;omega),hK5.cell b7 (by simp;omega),hK5.cell b8 (by simp;omega),hK5.cell b9 (by simp;omega)⟩ (fun hHeld=>?_);refine wpAnyH_done (by kernel_rfl) ?_ _;have HF5:Hid (fJ P w5 b sz (.slice ao4 ((cn X i).length+1) c4) (cn X i++[(x,.slice ao n c)]) (fN L i)):=by show fJ _ _ _ _ _ _ _;rw [hw5];have h:=HF4.out;rw [List.length_append] at h;exact h
 have HK5:=ah hK5;have hB5:=hK5.at HB.out (by simp;omega);have hZ5:=hK5.at HZ.out (by simp;omega);clear b0;clear b1;clear b2;clear b3;clear b4;clear b5;clear b6;clear b7;clear b8;clear b9;have q0:=ag (k:=0) hB5 rfl;have q1:=ag (k:=1) hB5 rfl;have q2:=ag (k:=2) hB5 rfl;have q3:=ag (k:=3) hB5 rfl;have q4:=ag (k:=4) hB5 rfl;have q5:=ag (k:=5) hB5 rfl;have q6:=ag (k:=6) hB5 rfl;have q7:=ag (k:=7) hB5 rfl;have q8:=ag (k:=8) hB5 rfl;have q9:=ag (k:=9) hB5 rfl;have r0:=ag (k:=0) hZ5 rfl;have r1:=ag (k:=1) hZ5 rfl;have r2:=ag (k:=2) hZ5 rfl;have r3:=ag (k:=3) hZ5 rfl;have r4:=ag (k:=4) hZ5 rfl;have r5:=ag (k:=5) hZ5 rfl;have r6:=ag (k:=6) hZ5 rfl;have r7:=ag (k:=7) hZ5 rfl;have r8:=ag (k:=8) hZ5 rfl;have r9:=ag (k:=9) hZ5 rfl;have fr0:=aj hZ5 0;have fr1:=aj hZ5 1;have fr2:=aj hZ5 2;have fr3:=aj hZ5 3;have fr4:=aj hZ5 4;have fr5:=aj hZ5 5;have fr6:=aj hZ5 6;have fr7:=aj hZ5 7;have fr8:=aj hZ5 8;have fr9:=aj hZ5 9;have HZ5:=ah hZ5;clear hw5 hK5 hB5 hZ5 hK0 K0 hHeld hb4 fz4 fz t1;go_wp2_with fail
 have HKe:Hid (aa [w.heap.size] w5 (mY w5 w.heap.size (.int .i64 x.i) (.int .i64 x.q) (.string (ak x.n)) (.int .i64 x.v.c) (.int .i64 x.v.s) (.int .i64 x.v.r) (.string (ak x.v.p)) (.int .u64 x.v.d) (.slice ao n c) (.int .i64 x.v.m))):=iT (aa.refl _ w5) (by simp) _ _ _ _ _ _ _ _ _ _;refine bodyPost_ret (uD (by rfl) _ (by rfl) (li HZ5.out rfl _ _ _ _ _ _ _ _ _ _) rfl) rfl ?_;have hb:b < w.heap.size:=hblt;have hv5:∀ k,(Value.slice ao4 ((cn X i).length+1) c4).ownBlock=some k→g=k∨w.heap.size+2≤k:=by have h:=HV4.out;rw [List.length_append] at h;exact h
 have hsz:∀ k∈aW b (.slice ao4 ((cn X i).length+1) c4),k ∉ [w.heap.size]:=fun k hk hm=>by
  simp at hm
  subst hm;rcases List.mem_cons.1 hk with e | e
  ·omega
  ·have h2:=HG.out;rcases hv5 _ (aw.1 e) with h1 | h1 <;> omega
 have hT6:=HF5.out.keep HKe.out hsz (dw HZ5.out) (by decide) (by decide);exact ⟨_,rfl,hT6.own (x,.slice ao n c) (by simp),_,_,hT6,((HK1.out.mono (by simp)).trans HK5.out (by simp)).trans HKe.out (fun k hk=>.inr (by simp at hk;omega)),fun k hk=>(hv5 k hk).imp (fun e=>by rw [e];rfl) (fun e=>by omega)⟩
end Go.Proofs.YtgpnlidnbldiiaaGreat
namespace Go.Proofs.YtgpnlidnbldiiaaGreat
open Go.RowKit
variable {P : Nat → Prop}
theorem wb {w:World}{b sz:Nat}{v:Value}{X:List (Se × Value)}{L:List Se}(h:fJ P w b sz v X L) (hl:L.length≤sz) (hs:sz≤1000) (n:List UInt8) (hn:n.length≤140737488351232) (id:Int) :
 Calls Tryz.prog 122 #[.pointer (some ⟨b,0,none⟩),.string (ak n),.int .i64 id] w fun e w'=>e=.returned (.int .i64 (eF n id L))∧BX P w b sz v (cd sz n id L) w':=by
 have hl5:L.length≤100000:=by omega
 have HT:=ah h;have hXL:=h.len;have HXL:=ah hXL;have hpos:=h.pos;obtain ⟨vao,vc,hve,hvc,hvm,_⟩:=h.row.shape;subst hve;obtain ⟨vv,hvv⟩:∃ vv,vv=Value.slice vao X.length vc:=⟨_,rfl⟩;have HVV:=ah hvv;unfold maxLen at hvm;have H1:Hid (∀ x∈X,x.2.oneCell'=true):=fun x hx=>by obtain ⟨_,_,_,e⟩:=(h.own x hx).ko.one;rw [e];rfl
 have HRw:=ah h.row;clear h hXL hvv;cases hN:oS n L with
 | some i =>
   obtain ⟨hi,_⟩:=kJ hN;have HOI:Hid (eF n id L=(L.getD i sJ).i):=by show _=_;unfold eF;rw [hN]
   have HOL:Hid (cd sz n id L=fN L i):=by show _=_;unfold cd;rw [hN]
   go_enter Tryz.func122,Tryz.ntmps122;(go_wp2_with fail);refine (dQ HT.out).mono ?_;rintro _ W ⟨rfl,hW0⟩;obtain rfl:=hW0.symm;(go_wp2_with fail);refine (iI HT.out hl5 n).mono ?_;rintro _ w1 ⟨rfl,hK1⟩;rw [hN];simp only [kI];have cU:=rL (HT.out.kept hK1) hl5 i hi;have hi0:(0:Int)≤i:=by omega
   unfold jN at cU;generalize L.getD i sJ=x at *;(go_wp2_with fail);refine cU.mono ?_;rintro _ w2 ⟨u,rfl,_,v2,X2,hT2,hK2,hv2⟩
   have HE:Hid (BX P w b sz (.slice vao X.length vc) (cd sz n id L) w2):=by
    show BX _ _ _ _ _ _ _;rw [HOL.out];exact ⟨v2,X2,hT2,(hK1.mono (by simp)).trans hK2 (by simp),fun k hk=>(hv2 k hk).imp (fun e=>e) (fun e=>Nat.le_trans hK1.size e)⟩
   have hfd:∀ W:World,(Instr.field 155 (.agg #[.int .i64 x.i,.int .i64 x.q,.string (ak x.n),.int .i64 x.v.c,.int .i64 x.v.s,.int .i64 x.v.r,.string (ak x.v.p),.int .u64 x.v.d,u,.int .i64 x.v.m]) 0).run Tryz.prog W=.ok (.int .i64 x.i) W:=fun _=>by kernel_rfl
   clear hT2 hK2 hv2 cU hK1;(go_wp2_with fail);go_ret
   exact ⟨by rw [HOI.out];rfl,HE.out⟩
 | none =>
   have HOI:Hid (eF n id L=id):=by show _=_;unfold eF;rw [hN]
   have HOL:Hid (cd sz n id L=gV sz (dk id L)++[⟨id,0,n,cq 0⟩]):=by show _=_;unfold cd;rw [hN]
   cases hI:ir id L with
   | some j =>
     obtain ⟨hj,_⟩:=eo hI;have hjX:j < X.length:=by rw [HXL.out];exact hj
     have HL5:Hid ((cn X j).length≤100000):=by show _≤_;rw [cu hjX,HXL.out];omega
     have HM5:Hid ((cn X j).map Prod.fst=gV sz (dk id L)):=by
      show _=_;rw [gd,HT.out.ses];unfold dk;rw [hI];unfold gV;rw [if_neg (by rw [cu hj];omega)]
     go_enter Tryz.func122,Tryz.ntmps122;(go_wp2_with fail);refine (dQ HT.out).mono ?_;rintro _ W ⟨rfl,hW0⟩;obtain rfl:=hW0.symm;(go_wp2_with fail);refine (iI HT.out hl5 n).mono ?_;rintro _ w1 ⟨rfl,hK1⟩;rw [hN];simp only [kI];have HK1:=ah hK1;have hT1:=HT.out.kept hK1;obtain ⟨c0,c1⟩:=hT1.cells;have cI:=gI hT1 hl5 id;rw [hI] at cI;simp only [kI] at cI;clear hK1 hT1;(go_wp2_with fail);refine cI.mono ?_;rintro _ w2 ⟨rfl,hK2⟩;have HK2:=ah (HK1.out.trans hK2 (by simp));clear cI hK2 c0 c1;have cW:=ic w2 _ X (HRw.out.kept HK2.out) H1.out j hjX (by rw [HXL.out];omega);unfold BI at cW;have hd:¬ ((cn X j).length:Int)=sz:=by rw [cu hjX,HXL.out];omega
     (go_wp2_with fail);refine cW.mono ?_;rintro _ w3 ⟨v3,rfl,hR3,hK3,hv3⟩;obtain ⟨ao3,c3,rfl,_⟩:=hR3.shape;have HR5:=ah hR3;have HK3:=ah (HK2.out.trans hK3 (by simp))
     have HV5:Hid (∀ k,(Value.slice ao3 (cn X j).length c3).ownBlock=some k→vv.ownBlock=some k∨w.heap.size≤k):=fun k hk=>by
      rcases hv3 k hk with h1 | h1
      ·rw [HVV.out];exact .inl h1
      ·exact .inr (Nat.le_trans HK2.out.size h1)
     clear hR3 hK3 hv3 cW hjX;have HK5:Hid (aa [] w w3):=HK3.out;have hT5:=HT.out.kept HK5.out;obtain ⟨c0,c1⟩:=hT5.cells;have cC:=df n w3 (by omega);(go_wp2_with fail);refine cC.mono ?_;rintro _ w6 ⟨rfl,hK6⟩;have cB:=gq w6 (Value.slice ao3 (cn X j).length c3) (cn X j) (HR5.out.kept hK6) ⟨id,0,n,cq 0⟩ (.slice none 0 0) ⟨_,_,_,rfl⟩ HL5.out;unfold BI at cB;simp only [jN,cq,qd] at cB;have HK6:=ah (HK5.out.trans hK6 (by simp));clear c0 c1 hT5 cC hK6;(go_wp2_with fail);refine cB.mono ?_;rintro _ w7 ⟨v7,rfl,hR7,hK7,hv7⟩;obtain ⟨ao7,m7,c7,rfl⟩:=hR7.one;have HK7:=ah (HK6.out.trans hK7 (by simp));have hT7:=HT.out.kept HK7.out;obtain ⟨c0,c1⟩:=hT7.cells;have fz:=aj hT7.at_ 1
     have HE:=ah (HT.out.store HK7.out hR7 (L5:=cd sz n id L) (fun y hy=>by
      rcases List.mem_append.1 hy with hy | hy
      ·exact (HT.out.own y (eI hy)).kept HK7.out
      ·simp at hy;subst hy;exact io.nil w7) (by rw [List.map_append,HM5.out,HOL.out];rfl))
     have HV7:=ah (show ∀ k,_→vv.ownBlock=some k∨w.heap.size≤k from fun k hk=>by
      rcases hv7 k hk with h1 | h1
      ·exact HV5.out k h1
      ·exact .inr (Nat.le_trans HK6.out.size h1))
     clear hR7 hK7 hv7 hT7 cB;(go_wp2_with fail);go_ret
     exact ⟨by rw [HOI.out];rfl,_,_,HE.out,(HK7.out.mono (by simp)).setCell (by simp) _,by have h:=HV7.out;rw [HVV.out] at h;exact h⟩
   | none =>
     have hrI:dk id L=L:=by unfold dk;rw [hI]
     by_cases hfull:L.length=sz
     ·have h0X:0 < X.length:=by rw [HXL.out];omega
      have HL5:Hid ((cn X 0).length≤100000):=by show _≤_;rw [cu h0X,HXL.out];omega
      have HM5:Hid ((cn X 0).map Prod.fst=gV sz (dk id L)):=by
       show _=_;rw [gd,HT.out.ses,hrI];unfold gV;rw [if_pos hfull];rfl
      have hd:(X.length:Int)=sz:=by rw [HXL.out];omega
      clear hrI;go_enter Tryz.func122,Tryz.ntmps122;(go_wp2_with fail);refine (dQ HT.out).mono ?_;rintro _ W ⟨rfl,hW0⟩;obtain rfl:=hW0.symm;(go_wp2_with fail);refine (iI HT.out hl5 n).mono ?_;rintro _ w1 ⟨rfl,hK1⟩;rw [hN];simp only [kI];have HK1:=ah hK1;have hT1:=HT.out.kept hK1;obtain ⟨c0,c1⟩:=hT1.cells;have cI:=gI hT1 hl5 id;rw [hI] at cI;simp only [kI] at cI;clear hK1 hT1;(go_wp2_with fail);refine cI.mono ?_;rintro _ w2 ⟨rfl,hK2⟩;have HK2:=ah (HK1.out.trans hK2 (by simp));clear cI hK2 c0 c1;have cW:=ic w2 _ X (HRw.out.kept HK2.out) H1.out 0 h0X (by rw [HXL.out];omega);unfold BI at cW;have hT2:=HT.out.kept HK2.out;obtain ⟨c0,c1⟩:=hT2.cells;clear hT2;(go_wp2_with fail);refine cW.mono ?_;rintro _ w3 ⟨v3,rfl,hR3,hK3,hv3⟩;obtain ⟨ao3,c3,rfl,_⟩:=hR3.shape;have HR5:=ah hR3;have HK3:=ah (HK2.out.trans hK3 (by simp))
      have HV5:Hid (∀ k,(Value.slice ao3 (cn X 0).length c3).ownBlock=some k→vv.ownBlock=some k∨w.heap.size≤k):=fun k hk=>by
       rcases hv3 k hk with h1 | h1
       ·rw [HVV.out];exact .inl h1
       ·exact .inr (Nat.le_trans HK2.out.size h1)
      clear hR3 hK3 hv3 cW c0 c1 h0X;have HK5:Hid (aa [] w w3):=HK3.out;have hT5:=HT.out.kept HK5.out;obtain ⟨c0,c1⟩:=hT5.cells;have cC:=df n w3 (by omega);(go_wp2_with fail);refine cC.mono ?_;rintro _ w6 ⟨rfl,hK6⟩;have cB:=gq w6 (Value.slice ao3 (cn X 0).length c3) (cn X 0) (HR5.out.kept hK6) ⟨id,0,n,cq 0⟩ (.slice none 0 0) ⟨_,_,_,rfl⟩ HL5.out;unfold BI at cB;simp only [jN,cq,qd] at cB;have HK6:=ah (HK5.out.trans hK6 (by simp));clear c0 c1 hT5 cC hK6;(go_wp2_with fail);refine cB.mono ?_;rintro _ w7 ⟨v7,rfl,hR7,hK7,hv7⟩;obtain ⟨ao7,m7,c7,rfl⟩:=hR7.one;have HK7:=ah (HK6.out.trans hK7 (by simp));have hT7:=HT.out.kept HK7.out;obtain ⟨c0,c1⟩:=hT7.cells;have fz:=aj hT7.at_ 1
      have HE:=ah (HT.out.store HK7.out hR7 (L5:=cd sz n id L) (fun y hy=>by
       rcases List.mem_append.1 hy with hy | hy
       ·exact (HT.out.own y (eI hy)).kept HK7.out
       ·simp at hy;subst hy;exact io.nil w7) (by rw [List.map_append,HM5.out,HOL.out];rfl))
      have HV7:=ah (show ∀ k,_→vv.ownBlock=some k∨w.heap.size≤k from fun k hk=>by
       rcases hv7 k hk with h1 | h1
       ·exact HV5.out k h1
       ·exact .inr (Nat.le_trans HK6.out.size h1))
      clear hR7 hK7 hv7 hT7 cB;(go_wp2_with fail);go_ret
      exact ⟨by rw [HOI.out];rfl,_,_,HE.out,(HK7.out.mono (by simp)).setCell (by simp) _,by have h:=HV7.out;rw [HVV.out] at h;exact h⟩
     ·have HL5:Hid (X.length≤100000):=by show _≤_;rw [HXL.out];omega
      have HM5:Hid (X.map Prod.fst=gV sz (dk id L)):=by
       show _=_;rw [HT.out.ses,hrI];unfold gV;rw [if_neg hfull]
      have hd:¬ (X.length:Int)=sz:=by rw [HXL.out];omega
      clear hrI;go_enter Tryz.func122,Tryz.ntmps122;(go_wp2_with fail);refine (dQ HT.out).mono ?_;rintro _ W ⟨rfl,hW0⟩;obtain rfl:=hW0.symm;(go_wp2_with fail);refine (iI HT.out hl5 n).mono ?_;rintro _ w1 ⟨rfl,hK1⟩;rw [hN];simp only [kI];have HK1:=ah hK1;have hT1:=HT.out.kept hK1;obtain ⟨c0,c1⟩:=hT1.cells;have cI:=gI hT1 hl5 id;rw [hI] at cI;simp only [kI] at cI;clear hK1 hT1;(go_wp2_with fail);refine cI.mono ?_;rintro _ w2 ⟨rfl,hK2⟩;have HK2:=ah (HK1.out.trans hK2 (by simp));clear cI hK2 c0 c1;have HR5:=ah (HRw.out.kept HK2.out);have HV5:Hid (∀ k,(Value.slice vao X.length vc).ownBlock=some k→vv.ownBlock=some k∨w.heap.size≤k):=fun k hk=>by rw [HVV.out];exact .inl hk
      have HK5:Hid (aa [] w w2):=HK2.out;have hT5:=HT.out.kept HK5.out;obtain ⟨c0,c1⟩:=hT5.cells;have cC:=df n w2 (by omega);(go_wp2_with fail);refine cC.mono ?_;rintro _ w6 ⟨rfl,hK6⟩;have cB:=gq w6 (Value.slice vao X.length vc) (X) (HR5.out.kept hK6) ⟨id,0,n,cq 0⟩ (.slice none 0 0) ⟨_,_,_,rfl⟩ HL5.out;unfold BI at cB;simp only [jN,cq,qd] at cB;have HK6:=ah (HK5.out.trans hK6 (by simp));clear c0 c1 hT5 cC hK6;(go_wp2_with fail);refine cB.mono ?_;rintro _ w7 ⟨v7,rfl,hR7,hK7,hv7⟩;obtain ⟨ao7,m7,c7,rfl⟩:=hR7.one;have HK7:=ah (HK6.out.trans hK7 (by simp));have hT7:=HT.out.kept HK7.out;obtain ⟨c0,c1⟩:=hT7.cells;have fz:=aj hT7.at_ 1
      have HE:=ah (HT.out.store HK7.out hR7 (L5:=cd sz n id L) (fun y hy=>by
       rcases List.mem_append.1 hy with hy | hy
       ·exact (HT.out.own y (hy)).kept HK7.out
       ·simp at hy;subst hy;exact io.nil w7) (by rw [List.map_append,HM5.out,HOL.out];rfl))
      have HV7:=ah (show ∀ k,_→vv.ownBlock=some k∨w.heap.size≤k from fun k hk=>by
       rcases hv7 k hk with h1 | h1
       ·exact HV5.out k h1
       ·exact .inr (Nat.le_trans HK6.out.size h1))
      clear hR7 hK7 hv7 hT7 cB;(go_wp2_with fail);go_ret
      exact ⟨by rw [HOI.out];rfl,_,_,HE.out,(HK7.out.mono (by simp)).setCell (by simp) _,by have h:=HV7.out;rw [HVV.out] at h;exact h⟩
end Go.Proofs.YtgpnlidnbldiiaaGreat
