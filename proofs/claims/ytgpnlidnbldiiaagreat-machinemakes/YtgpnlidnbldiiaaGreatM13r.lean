/-
  Texts laid as one.
-/
import Derived.Test.YtgpnlidnbldiiaaGreatQ6r
import Derived.Test.YtgpnlidnbldiiaaGreatQ2r
import Derived.Test.YtgpnlidnbldiiaaGreatW9r
import Derived.Laws.AppendOwnNone
import Derived.Laws.AppendOwn
import Derived.OwnWalk
set_option maxHeartbeats 4000000
set_option maxRecDepth 100000
/-
 Rows of leaves.
-/
namespace Go.Proofs.YtgpnlidnbldiiaaGreat
open Go.RowKit
def kc (x:Lf):List Value:=[.string (ak x.p),.int .u64 x.d,.int .i64 x.r,.bool x.g]
def cf (B:Nat) (w:World) (v:Value) (L:List Lf):Prop:=w.ownsRow B 141 4 v L.length (L.flatMap kc)
theorem oT:(Tryz.prog.info? 141).map (fun i=>(i.zero,i.size,i.bytes))=some (some (.agg #[.string ⟨#[]⟩,.int .u64 0,.int .i64 0,.bool false]),4,40):=by kernel_rfl
theorem pS (b o i:Nat):(⟨b,o,none⟩:Addr).add i=⟨b,o+i,none⟩:=by
 by_cases h:i=0 <;> simp [Addr.add,h]
theorem kG (w:World) (x:Lf) (t:TypeId):∀ (j:Nat) (u:Value),(kc x)[j]?=some u→(w.alloc (.cells #[.string (ak x.p),.int .u64 x.d,.int .i64 x.r,.bool x.g] t)).cell? ((⟨w.heap.size,0,none⟩:Addr).add j)=some u:=by
 intro j u hj;rw [pS,Nat.zero_add];exact bz (heap_alloc_new w (.cells #[.string (ak x.p),.int .u64 x.d,.int .i64 x.r,.bool x.g] t)) (by simpa [kc] using hj)
theorem cf.mono {B C:Nat}{w:World}{v:Value}{L:List Lf}(h:cf C w v L) (hB:B≤C):cf B w v L:=by
 obtain ⟨h1,h2⟩:=h;refine ⟨h1,?_⟩;rcases h2 with h2 | ⟨g,cap,cur,hv,hg,r⟩
 ·exact .inl h2
 ·exact .inr ⟨g,cap,cur,hv,Nat.le_trans hB hg,r⟩
structure nr (w:World) (b o:Nat) (x:Lf):Prop where
 c0:w.cell? ⟨b,o,none⟩=some (.string (ak x.p))
 c1:w.cell? ⟨b,o+1,none⟩=some (.int .u64 x.d)
 c2:w.cell? ⟨b,o+2,none⟩=some (.int .i64 x.r)
 c3:w.cell? ⟨b,o+3,none⟩=some (.bool x.g)
theorem nr.kept {a w:World}{b o:Nat}{x:Lf}(h:nr a b o x) (k:aa [] a w):nr w b o x :=
 ⟨k.cell h.c0 (by simp),k.cell h.c1 (by simp),k.cell h.c2 (by simp),k.cell h.c3 (by simp)⟩
def uk (w:World) (ao:Option Addr) (n c:Nat) (L:List Lf):Prop :=
 L.length=n∧n≤c∧c≤maxLen∧∀ i (h:i < L.length),∃ b o,ao=some ⟨b,o,none⟩∧nr w b (o+i*4) L[i]
theorem uk.kept {a w:World}{ao:Option Addr}{n c:Nat}{L:List Lf}(h:uk a ao n c L) (k:aa [] a w):uk w ao n c L :=
 ⟨h.1,h.2.1,h.2.2.1,fun i hi=>by obtain ⟨b,o,e,h1⟩:=h.2.2.2 i hi;exact ⟨b,o,e,h1.kept k⟩⟩
theorem uk.some {w:World}{ao:Option Addr}{n c:Nat}{L:List Lf}(h:uk w ao n c L) (hn:0 < n) :
 ∃ b o,ao=Option.some ⟨b,o,none⟩∧∀ i (hi:i < L.length),nr w b (o+i*4) L[i]:=by
 obtain ⟨b,o,e,_⟩:=h.2.2.2 0 (by rw [h.1];exact hn);refine ⟨b,o,e,fun i hi=>?_⟩;obtain ⟨b',o',e',h⟩:=h.2.2.2 i hi;rw [e] at e';cases e'
 exact h
theorem nd (L:List Lf):(L.flatMap kc).length=L.length*4:=by
 induction L with
 | nil=>rfl
 | cons x L ih=>simp [kc,ih];omega
theorem vf (L:List Lf) (i:Nat) (h:i < L.length) (j:Nat) (hj:j < 4):(L.flatMap kc)[i*4+j]?=(kc L[i])[j]?:=by
 induction L generalizing i with
 | nil=>simp at h
 | cons x L ih =>
   rw [List.flatMap_cons];cases i with
   | zero=>rw [List.getElem?_append_left (by simp [kc];omega)];simp
   | succ i =>
     rw [List.getElem?_append_right (by simp [kc];omega)];have e:(i+1)*4+j - (kc x).length=i*4+j:=by simp [kc];omega
     rw [e,ih i (by simpa using h)];simp
theorem cf.sl {B:Nat}{w:World}{v:Value}{L:List Lf}(h:cf B w v L):∃ ao c,v=.slice ao L.length c∧uk w ao L.length c L:=by
 have h':=h;obtain ⟨h1,h2⟩:=h;rcases h2 with ⟨hv,hn⟩ | ⟨g,cap,cur,hv,hg,hh,h3,h4,h5,h6⟩
 ·have:L=[]:=by simpa using hn
  subst this;exact ⟨none,0,by rw [hv];rfl,rfl,Nat.le_refl _,Nat.zero_le _,fun i hi=>by simp at hi⟩
 ·refine ⟨some ⟨g,0,none⟩,cap,hv,rfl,h3,h4,fun i hi=>⟨g,0,rfl,?_⟩⟩;unfold cf at h';rw [hv] at h'
  have c:∀ j,j < 4→w.cell? ⟨g,0+i*4+j,none⟩=(kc L[i])[j]?:=fun j hj=>by
   rw [Nat.zero_add,World.ownsRow.cellAt h' (i*4+j) (by omega),vf L i hi j hj]
  exact ⟨c 0 (by omega),c 1 (by omega),c 2 (by omega),c 3 (by omega)⟩
def a9 (f:List UInt8):List Lf→Nat × Bool
 | []=>(0,false)
 | x :: L=>if aA f x.p=0 then (0,true) else if aA f x.p < 0 then (0,false) else ((a9 f L).1+1,(a9 f L).2)
theorem oo (f:List UInt8) (L:List Lf):(a9 f L).1≤L.length∧((a9 f L).2=true→(a9 f L).1 < L.length):=by
 induction L with
 | nil=>simp [a9]
 | cons x L ih =>
   simp only [a9];split
   ·simp
   ·split
    ·simp
    ·simp only [List.length_cons];exact ⟨by omega,fun h=>by have:=ih.2 h;omega⟩
theorem xM (x:Lf) (L:List Lf):dh x L=L.take (a9 x.p L).1++[x]++L.drop (if (a9 x.p L).2=true then (a9 x.p L).1+1 else (a9 x.p L).1):=by
 induction L with
 | nil=>simp [dh,a9]
 | cons y L ih =>
   simp only [dh,a9];split
   ·simp
   ·split
    ·simp
    ·simp only [List.take_succ_cons,ih];split <;> simp
theorem tF (f:List UInt8) (L:List Lf) (h:qe L):L.find? (fun x=>decide (f=x.p))=if (a9 f L).2=true then L[(a9 f L).1]? else none:=by
 induction L with
 | nil=>simp [a9]
 | cons y L ih =>
   unfold qe at h;rw [List.pairwise_cons] at h;rw [List.find?_cons];rcases fA f y.p with e | e | e
   ·have hne:f≠y.p:=fun q=>by rw [(gh.zero _ _).2 q] at e;omega
    have ep:a9 f (y :: L)=(0,false):=by simp only [a9];rw [if_neg (by omega),if_pos (by omega)]
    rw [decide_eq_false hne,ep];simp only [Bool.false_eq_true,if_false];rw [List.find?_eq_none];intro b hb q;simp at q
    have h3:=lZ (show aA f y.p < 0 by omega) (h.1 b hb);rw [q,k9] at h3;omega
   ·have ep:a9 f (y :: L)=(0,true):=by simp only [a9];rw [if_pos e]
    rw [decide_eq_true ((gh.zero _ _).1 e),ep];simp
   ·have hne:f≠y.p:=fun q=>by rw [(gh.zero _ _).2 q] at e;omega
    have ep:a9 f (y :: L)=((a9 f L).1+1,(a9 f L).2):=by simp only [a9];rw [if_neg (by omega),if_neg (by omega)]
    rw [decide_eq_false hne,ep,ih h.2];simp
theorem tX {f:List UInt8}{L:List Lf}{k:Nat}(hk:k < L.length) {R:Nat × Bool}(h:R=((a9 f (L.drop k)).1+k,(a9 f (L.drop k)).2)) :
 (aA f L[k].p=0→R=(k,true))∧(aA f L[k].p < 0→R=(k,false))∧(0 < aA f L[k].p→R=((a9 f (L.drop (k+1))).1+(k+1),(a9 f (L.drop (k+1))).2)):=by
 rw [List.drop_eq_getElem_cons hk] at h;simp only [a9] at h;refine ⟨fun e=>?_,fun e=>?_,fun e=>?_⟩
 ·rw [if_pos e] at h;simpa using h
 ·rw [if_neg (by omega),if_pos e] at h;simpa using h
 ·rw [if_neg (by omega),if_neg (by omega)] at h;rw [h];simp;omega
theorem jL (w:World) (ao:Option Addr) (n c:Nat) (L:List Lf) (ht:uk w ao n c L) (hp:∀ x∈L,x.p.length≤100000000000) (f:List UInt8) (hf:f.length≤100000000000) :
 Calls Tryz.prog 120 #[.agg #[.slice ao n c],.string (ak f)] w fun e w'=>e=.returned (.tuple #[.int .i64 ((a9 f L).1:Int),.bool (a9 f L).2])∧aa [] w w':=by
 have hn:=ht.1;subst hn;have hm:=ht.2.2.1;have hc:=ht.2.1;unfold maxLen at hm;obtain ⟨R,hR⟩:∃ R,R=a9 f L:=⟨_,rfl⟩;rw [← hR];have hK0:=(aa.refl [] w).alloc (.cells #[.slice ao L.length c] 79);have bT:=cell_of_one (heap_alloc_new w (.cells #[.slice ao L.length c] 79));have HL:Hid (∀ i (hi:i < L.length),∃ b o,ao=some ⟨b,o,none⟩∧nr w b (o+i*4) L[i]):=ht.2.2.2;have HP:Hid (∀ x∈L,x.p.length≤100000000000):=hp;have HR:Hid (R=((a9 f (L.drop 0)).1+0,(a9 f (L.drop 0)).2)):=hR;clear ht hp hR;go_enter Tryz.func120,Tryz.ntmps120;go_wp2_with fail
 go_loopw [6] (fun iv wr=>∃ k:Nat,iv=.int .i64 (k:Int)∧k≤L.length∧Hid (R=((a9 f (L.drop k)).1+k,(a9 f (L.drop k)).2))∧aa [] (w.alloc (.cells #[.slice ao L.length c] 79)) wr) (fun iv _=>L.length - (intOf iv).toNat)
 case atStart=>exact ⟨0,rfl,Nat.zero_le _,HR,aa.refl _ _⟩
 case round =>
  obtain ⟨k,rfl,hk,HR,hK⟩:=hrel;have bT':=hK.cell bT (by simp);have hKw:=hK0.trans hK (by simp);clear bT;by_cases hlt:k < L.length
  ·obtain ⟨b,o,rfl,hx⟩:=HL.out k hlt;have c0:=(hx.kept hKw).c0;have hxp:=HP.out L[k] (List.getElem_mem hlt);have hst:=tX hlt HR.out;have cc:=fun w'=>jq f L[k].p w' hf hxp;generalize L[k]=x at *;rcases fA f x.p with e | e | e
   ·have HE:Hid (R=(k,false)):=hst.2.1 (by omega);rw [e] at cc;clear hst hx;(go_wp2_with fail);refine (cc _).mono ?_;rintro e w1 ⟨rfl,hK1⟩;(go_wp2_with fail);go_ret2
    exact ⟨by rw [HE.out];rfl,hKw.trans hK1 (by simp)⟩
   ·have HE:Hid (R=(k,true)):=hst.1 e;rw [e] at cc;clear hst hx;(go_wp2_with fail);refine (cc _).mono ?_;rintro e w1 ⟨rfl,hK1⟩;(go_wp2_with fail);go_ret2
    exact ⟨by rw [HE.out];rfl,hKw.trans hK1 (by simp)⟩
   ·have HE:Hid (R=((a9 f (L.drop (k+1))).1+(k+1),(a9 f (L.drop (k+1))).2)):=hst.2.2 (by omega);rw [e] at cc;clear hst hx;(go_wp2_with fail);refine (cc _).mono ?_;rintro e w1 ⟨rfl,hK1⟩;(go_wp2_with fail);go_roundw
    case rel=>exact ⟨k+1,by simp,by omega,HE,hK.trans hK1 (by simp)⟩
    case measure=>simp [intOf];omega
  ·have HE:Hid (R=(L.length,false)):=by
    show R=(L.length,false);have:=HR.out
    rw [List.drop_of_length_le (by omega)] at this;rw [this];simp [a9];omega
   (go_wp2_with fail);go_ret2
   exact ⟨by rw [HE.out];rfl,hKw⟩
def Dw (ao:Option Addr) (c:Nat) (L:List Lf):Prop:=(ao=none∧c=0∧L=[])∨L≠[]
theorem wD (L:List Lf) (k:Nat):(L.take k).flatMap kc=(L.flatMap kc).take (k*4):=by
 induction L generalizing k with
 | nil=>simp
 | cons x L ih =>
   cases k with
   | zero=>simp
   | succ k =>
     rw [List.take_succ_cons,List.flatMap_cons,List.flatMap_cons,ih k,List.take_append];have e:(kc x).length=4:=rfl;rw [List.take_of_length_le (l:=kc x) (by omega),e,show (k+1)*4 - 4=k*4 by omega]
theorem xe (L:List Lf) (k:Nat):(L.drop k).flatMap kc=(L.flatMap kc).drop (k*4):=by
 induction L generalizing k with
 | nil=>simp
 | cons x L ih =>
   cases k with
   | zero=>simp
   | succ k =>
     rw [List.drop_succ_cons,List.flatMap_cons,ih k,List.drop_append];have e:(kc x).length=4:=rfl;rw [List.drop_of_length_le (l:=kc x) (by omega),e,show (k+1)*4 - 4=k*4 by omega];simp
theorem oW {w:World}{b o:Nat}{L:List Lf}(h:∀ i (hi:i < L.length),nr w b (o+i*4) L[i]) (j:Nat) (u:Value) (hj:(L.flatMap kc)[j]?=some u):w.cell? ⟨b,o+j,none⟩=some u:=by
 have hlt:j < L.length*4:=by
  rw [← nd];by_cases e:j < (L.flatMap kc).length
  ·exact e
  ·rw [List.getElem?_eq_none (by omega)] at hj;cases hj
 have hi:j / 4 < L.length:=by omega
 have hc:=h (j / 4) hi;have e:=vf L (j / 4) hi (j % 4) (by omega);rw [show j / 4*4+j % 4=j by omega,hj] at e;have hr:j % 4=0∨j % 4=1∨j % 4=2∨j % 4=3:=by omega
 have ho:o+j=o+j / 4*4+j % 4:=by omega
 rw [ho];rcases hr with h0 | h0 | h0 | h0
 ·rw [h0] at e ⊢;rw [Nat.add_zero,hc.c0];exact e.symm
 ·rw [h0] at e ⊢;rw [hc.c1];exact e.symm
 ·rw [h0] at e ⊢;rw [hc.c2];exact e.symm
 ·rw [h0] at e ⊢;rw [hc.c3];exact e.symm
theorem rf {w:World}{b o:Nat}{L:List Lf}(h:∀ i (hi:i < L.length),nr w b (o+i*4) L[i]) (k:Nat):∀ (j:Nat) (u:Value),((L.take k).flatMap kc)[j]?=some u→w.cell? ((⟨b,o,none⟩:Addr).add j)=some u:=by
 intro j u hj;rw [pS];refine oW h j u ?_;rw [wD,List.getElem?_take] at hj;split at hj
 ·exact hj
 ·cases hj
theorem rx {w:World}{b o:Nat}{L:List Lf}(h:∀ i (hi:i < L.length),nr w b (o+i*4) L[i]) (k:Nat):∀ (j:Nat) (u:Value),((L.drop k).flatMap kc)[j]?=some u→w.cell? ((⟨b,o+k*4,none⟩:Addr).add j)=some u:=by
 intro j u hj;rw [pS,Nat.add_assoc];refine oW h _ u ?_;rw [xe,List.getElem?_drop] at hj;exact hj
theorem wT (L:List Lf):∀ u∈L.flatMap kc,u.oneCell'=true:=by
 intro u hu;simp only [List.mem_flatMap,kc] at hu;obtain ⟨x,_,hx⟩:=hu;simp at hx
 rcases hx with rfl | rfl | rfl | rfl <;> rfl
theorem ky (w:World) (B:Nat) (hB:B≤w.heap.size):cf B (w.alloc (.cells #[] 141)) (.slice (some ⟨w.heap.size,0,none⟩) 0 0) [] :=
 ⟨rfl,.inr ⟨w.heap.size,0,#[],rfl,hB,heap_alloc_new w _,Nat.le_refl _,Nat.zero_le _,rfl,rfl⟩⟩
theorem kR (w:World) (ao:Option Addr) (n c:Nat) (L:List Lf) (ht:uk w ao n c L) (hS:qe L) (hp:∀ x∈L,x.p.length≤100000000000) (f:List UInt8) (hf:f.length≤100000000000) :
 Calls Tryz.prog 79 #[.agg #[.slice ao n c],.string (ak f)] w fun e w'=>e=.returned (eW (L.find? (fun x=>decide (f=x.p))))∧aa [] w w':=by
 have hn:=ht.1;subst hn;have hm:=ht.2.2.1;have hc:=ht.2.1;unfold maxLen at hm;have hle:=oo f L;have cp:=fun w' (hk:aa [] w w')=>jL w' ao L.length c L (ht.kept hk) hp f hf;rw [tF f L hS];obtain ⟨W0,hW0⟩:∃ W0,W0=(w.alloc (.cells #[.slice ao L.length c] 79)).alloc (.cells #[.string ⟨#[]⟩,.int .u64 0,.int .i64 0,.bool false] 141):=⟨_,rfl⟩;have hK0:aa [] w W0:=by rw [hW0];exact ((aa.refl [] w).alloc _).alloc _
 have q1:W0.heap[w.heap.size]?=some (.cells #[.slice ao L.length c] 79 (0,0)):=by
  rw [hW0];exact (Below.heap_alloc _ _ _ (by simp)).trans (heap_alloc_new w _)
 have q2:W0.heap[w.heap.size+1]?=some (.cells #[.string ⟨#[]⟩,.int .u64 0,.int .i64 0,.bool false] 141 (0,0)):=by
  rw [hW0];have:=heap_alloc_new (w.alloc (.cells #[.slice ao L.length c] 79)) (.cells #[.string ⟨#[]⟩,.int .u64 0,.int .i64 0,.bool false] 141)
  rw [World.size_alloc] at this;exact this
 have bT:=cell_of_one q1;have HL:Hid (∀ i (hi:i < L.length),∃ b o,ao=some ⟨b,o,none⟩∧nr w b (o+i*4) L[i]):=ht.2.2.2;clear hS hp ht;rcases hpl:a9 f L with ⟨i,there⟩
 rw [hpl] at cp hle;simp only at cp hle ⊢;obtain ⟨hle1,hle2⟩:=hle;cases there with
 | false =>
   simp only [Bool.false_eq_true,if_false];clear hle2 hpl;go_enter Tryz.func79,Tryz.ntmps79;(go_wp2_with fail);rw [← hW0];refine (cp _ hK0).mono ?_;rintro e w1 ⟨rfl,hK1⟩;have q6:=hK1.at q2 (by simp);have f6:=ai q6;have g0:=f6 0;have g1:=f6 1;have g2:=f6 2;have g3:=f6 3;obtain ⟨k0,k1,k2,k3⟩:=br q6;obtain ⟨s0,s1,s2,s3⟩:=jW q6 (.string ⟨#[]⟩) (.int .u64 0) (.int .i64 0) (.bool false);have hKw:=hK0.trans hK1 (by simp);clear q6 f6 q1 q2 hK0 hK1 cp bT hW0;(go_wp2_with fail);refine bodyPost_ret (v:=eW none) ?_ rfl ⟨rfl,rp hKw (Nat.le_succ _) _ _ _ _⟩;rw [results_cell_tmp rfl];unfold eW;go_simp
 | true =>
   have hi:=hle2 rfl;simp only [if_true];rw [List.getElem?_eq_getElem hi];obtain ⟨b,o,rfl,hx⟩:=HL.out i hi;generalize L[i]=x at *;clear hpl hle2;go_enter Tryz.func79,Tryz.ntmps79;(go_wp2_with fail);rw [← hW0];refine (cp _ hK0).mono ?_;rintro e w1 ⟨rfl,hK1⟩;have hKw:=hK0.trans hK1 (by simp);obtain ⟨y0,y1,y2,y3⟩:=hx.kept hKw;have bT1:=hK1.cell bT (by simp);have q6:=hK1.at q2 (by simp);have f6:=ai q6;have g0:=f6 0;have g1:=f6 1;have g2:=f6 2;have g3:=f6 3;obtain ⟨k0,k1,k2,k3⟩:=br q6;obtain ⟨s0,s1,s2,s3⟩:=jW q6 (.string (ak x.p)) (.int .u64 x.d) (.int .i64 x.r) (.bool x.g);clear q6 f6 q1 q2 hK0 hK1 cp bT hW0 hx;(go_wp2_with fail);refine bodyPost_ret (v:=eW (some x)) ?_ rfl ⟨rfl,rp hKw (Nat.le_succ _) _ _ _ _⟩;rw [results_cell_tmp rfl];unfold eW jm;go_simp
theorem cx {fn:Func}{p:Tmp}{ty:TypeId}(h:fn.results=#[.cell p ty]) (tmps:Array Value) (P:Program) (w:World) :
 (results fn tmps).run P w=((asAddr (tmps.getD p undef)).run P w).andThen fun a w₁=>(loadVar ty a).run P w₁:=by
 simp only [results,h];simp [Sem.run_bind,Result.andThen]
theorem cf.slice {B:Nat}{w:World}{ao:Option Addr}{n c:Nat}{L:List Lf}(h:cf B w (.slice ao n c) L):uk w ao n c L:=by
 obtain ⟨ao',c',e,hS⟩:=h.sl;cases e
 exact hS
theorem cf.set {B:Nat}{w:World}{v:Value}{L:List Lf}(h:cf B w v L) {b:Nat}(hb:b < B) (u:Value):cf B (w.setCell ⟨b,0,none⟩ u) v L :=
 aa.ownsRow (S:=[b]) ((aa.refl _ _).setCell (by simp) _) h (fun k hk hm=>by have:=(World.ownsRow.lt h k hk).1;simp at hm;omega)
theorem ek {w:World}{ops:Array Oper}{rest:List Oper}{o:Oper}{a:Act}{Q:Exit→Act→World→Prop}(hgd:o.guard=none) (s x:Operand)
 (hop:o.op=.call { callee:=.builtin .append,args:=#[s,x],argTypes:=#[77,77] })
 (B:Nat) (v:Value) (M:List Lf) (hs:a.eval s=v) (hO:cf B w v M) (ad:Addr) (m c:Nat) (N:List Lf) (hx:a.eval x=.slice (some ad) m c) (hm:m=N.length) (hc:∀ (j:Nat) (u:Value),(N.flatMap kc)[j]?=some u→w.cell? (ad.add j)=some u)
 (hlen:M.length+N.length≤1000000000000) (hB:B≤w.heap.size)
 (h:∀ v' w',cf B w' v' (M++N)→w.grownBy w' v.ownBlock→wpList Tryz.prog ops Q rest (a.put o.dst v') w'):wpList Tryz.prog ops Q (o :: rest) a w:=by
 subst hm;obtain ⟨i0,hi,hz0,hz1,hz2⟩:=info_parts oT;refine wpList_append_own w hgd s x 77 hop B 141 i0 (.agg #[.string ⟨#[]⟩,.int .u64 0,.int .i64 0,.bool false]) 4 40 Tryz.underlying77 hi hz0 hz1 hz2 rfl (by decide) v M.length (M.flatMap kc) hs hO ad N.length c (N.flatMap kc) hx (nd N) hc (wT N) (by unfold maxLen;omega) (by omega) hB ?_;intro v' w' h1 h2 _;refine h v' w' ?_ h2;unfold cf;rw [List.length_append,List.flatMap_append];exact h1
theorem bM {B:Nat}{a w w':World}{v:Value}{L:List Lf}(h:aa [] a w) (hO:cf B w v L) (hB:a.heap.size≤B) (hg:w.grownBy w' v.ownBlock):aa [] a w' :=
 h.grown hg fun k hk=>.inr (Nat.le_trans hB (World.ownsRow.lt hO k hk).1)
theorem ri (w:World) (ao:Option Addr) (n c:Nat) (L:List Lf) (ht:uk w ao n c L) (hnil:Dw ao c L) (hlen:L.length≤1000000) (hp:∀ x∈L,x.p.length≤100000000000) (x:Lf) (hf:x.p.length≤100000000000) :
 Calls Tryz.prog 143 #[.agg #[.slice ao n c],jm x] w fun e w'=>∃ ao' c',e=.returned (.agg #[.slice ao' (dh x L).length c'])∧cf w.heap.size w' (.slice ao' (dh x L).length c') (dh x L)∧aa [] w w':=by
 have hn:=ht.1;subst hn;have hm:=ht.2.2.1;have hc:=ht.2.1;unfold maxLen at hm;have hle:=oo x.p L;have cp:=fun w' (hk:aa [] w w')=>jL w' ao L.length c L (ht.kept hk) hp x.p hf;have hins:=xM x L;obtain ⟨i0,hi0,hz0,hz1,hz2⟩:=info_parts oT;obtain ⟨W0,hW0⟩:∃ W0,W0=((w.alloc (.cells #[.slice ao L.length c] 79)).alloc (.cells #[.string (ak x.p),.int .u64 x.d,.int .i64 x.r,.bool x.g] 141)).alloc (.cells #[.slice none 0 0] 79):=⟨_,rfl⟩;have hsz:W0.heap.size=w.heap.size+3:=by rw [hW0,World.size_alloc,World.size_alloc,World.size_alloc]
 have hK0:aa [] w W0:=by rw [hW0];exact (((aa.refl [] w).alloc _).alloc _).alloc _
 have q1:W0.heap[w.heap.size]?=some (.cells #[.slice ao L.length c] 79 (0,0)):=by
  rw [hW0];exact (Below.heap_alloc _ _ _ (by simp;omega)).trans ((Below.heap_alloc _ _ _ (by simp)).trans (heap_alloc_new w _))
 have q2:W0.heap[w.heap.size+1]?=some (.cells #[.string (ak x.p),.int .u64 x.d,.int .i64 x.r,.bool x.g] 141 (0,0)):=by
  rw [hW0];have:=heap_alloc_new (w.alloc (.cells #[.slice ao L.length c] 79)) (.cells #[.string (ak x.p),.int .u64 x.d,.int .i64 x.r,.bool x.g] 141)
  rw [World.size_alloc] at this;exact (Below.heap_alloc _ _ _ (by simp)).trans this
 have q3:W0.heap[w.heap.size+2]?=some (.cells #[.slice none 0 0] 79 (0,0)):=by
  rw [hW0];have:=heap_alloc_new ((w.alloc (.cells #[.slice ao L.length c] 79)).alloc (.cells #[.string (ak x.p),.int .u64 x.d,.int .i64 x.r,.bool x.g] 141)) (.cells #[.slice none 0 0] 79)
  rw [World.size_alloc,World.size_alloc] at this;exact this
 have bT:=cell_of_one q1;obtain ⟨x0,x1,x2,x3⟩:=br q2;rcases hnil with ⟨rfl,rfl,rfl⟩ | hne
 ·have HS:Hid (W0.heap.size=w.heap.size+3):=hsz;have ei:dh x []=[x]:=rfl;rw [ei];unfold jm;replace cp:∀ w',aa [] w w'→Calls Tryz.prog 120 #[.agg #[.slice none 0 0],.string (ak x.p)] w' fun e w'_1=>e=.returned (.tuple #[.int .i64 0,.bool false])∧aa [] w' w'_1:=cp;go_enter Tryz.func143,Tryz.ntmps143;(go_wp2_with fail);replace hW0:W0=((w.alloc (.cells #[.slice none 0 0] 79)).alloc (.cells #[.string (ak x.p),.int .u64 x.d,.int .i64 x.r,.bool x.g] 141)).alloc (.cells #[.slice none 0 0] 79):=hW0;rw [← hW0];refine (cp _ hK0).mono ?_;rintro e w1 ⟨rfl,hK1⟩;have hKw:=hK0.trans hK1 (by simp);have bT1:w1.cell? ⟨w.heap.size,0,none⟩=some (.slice none 0 0):=hK1.cell bT (by simp);have hA2:=(aa.refl [] w1).alloc (.cells #[] 141);have bT2:=hA2.cell bT1 (by simp);have hW1:w.heap.size+3≤w1.heap.size:=by have:=hK1.size;omega
  have hO0:=ky w1 (w.heap.size+3) hW1;have hK12:=hK1.trans hA2 (by simp);obtain ⟨z0,z1,z2,z3⟩:=br (hK12.at q2 (by simp));clear hW0 hsz bT x0 x1 x2 x3;have hO0':cf (w.heap.size+3) ((w1.alloc (.cells #[] 141)).alloc (.cells #[.string (ak x.p),.int .u64 x.d,.int .i64 x.r,.bool x.g] 141)) (.slice (some ⟨w1.heap.size,0,none⟩) 0 0) []:=World.ownsRow.alloc hO0 _
  go_wp2_with (first
   | (at_builtin;refine wpList_append_own_none rfl _ _ 77 rfl (w.heap.size+3) 141 i0 4 Tryz.underlying77 hi0 _ 0 [] rfl hO0 rfl ?_)
   | (at_builtin;refine ek rfl _ _ rfl (w.heap.size+3) _ [] rfl hO0' ⟨w1.heap.size+1,0,none⟩ 1 1 [x] rfl rfl ?e3 (by simp) (by simp;omega) ?e4))
  case e3 =>
   have:=kG (w1.alloc (.cells #[] 141)) x 141
   rw [World.size_alloc] at this;simpa using this
  case e4 =>
   intro v3 w3 hO3 hg3;have hK4:aa [] W0 w3:=bM (hK12.alloc _) hO0' (by rw [HS.out];omega) hg3;have hO3':cf (w.heap.size+3) w3 v3 [x]:=hO3;have bT4:w3.cell? ⟨w.heap.size,0,none⟩=some (.slice none 0 0):=hK4.cell (cell_of_one q1) (by simp);clear hg3 hO0 hO0' hO3;obtain ⟨ao',c',rfl,hSl⟩:=hO3'.sl;have q5:=hK4.at q3 (by simp);have f5:w3.frozen? ⟨w.heap.size+1+1,0,none⟩=false:=ai q5 0;have m5:w3.cell? ⟨w.heap.size+1+1,0,none⟩=some (.slice none 0 0):=cell_of_one q5;have s5:(w3.setCell ⟨w.heap.size+1+1,0,none⟩ (.slice ao' 1 c')).cell? ⟨w.heap.size+1+1,0,none⟩=some (.slice ao' 1 c'):=World.cell?_setCell_same' _ _ _ (by rw [m5];rfl)
   have HF:Hid (cf w.heap.size (w3.setCell ⟨w.heap.size+1+1,0,none⟩ (.slice ao' 1 c')) (.slice ao' 1 c') [x]∧aa [] w (w3.setCell ⟨w.heap.size+1+1,0,none⟩ (.slice ao' 1 c'))) :=
    ⟨(hO3'.set (by omega) _).mono (by omega),(hK0.trans hK4 (by simp)).setCell (.inr (by simp only;omega)) _⟩
   have HO:Hid (cf (w.heap.size+3) w3 (.slice ao' 1 c') [x]):=hO3';clear hSl q5 hO3';(go_wp2_with (at_builtin;refine wpList_append_own_none rfl _ _ 77 rfl (w.heap.size+3) 141 i0 4 Tryz.underlying77 hi0 _ 1 _ rfl HO.out rfl ?_));refine bodyPost_ret (v:=.agg #[.slice ao' 1 c']) ?_ rfl ⟨ao',c',rfl,HF.out.1,HF.out.2⟩;rw [cx rfl];go_simp
 ·obtain ⟨b,o,rfl,hcell⟩:=ht.some (List.length_pos_iff.2 hne);have HC:Hid (∀ i (hi:i < L.length),nr w b (o+i*4) L[i]):=hcell;clear hcell ht hp;rcases hpl:a9 x.p L with ⟨i,there⟩
  rw [hpl] at cp hle hins;simp only at cp hle hins;obtain ⟨hle1,hle2⟩:=hle;have HI:Hid (dh x L=L.take i++[x]++L.drop (if there=true then i+1 else i)):=hins;have hi1:(i:Int)≤L.length:=by omega
  clear hins hpl;unfold jm;cases there with
  | false =>
    go_enter Tryz.func143,Tryz.ntmps143;(go_wp2_with fail);rw [← hW0];refine (cp _ hK0).mono ?_;rintro e w1 ⟨rfl,hK1⟩;have hKw:=hK0.trans hK1 (by simp);have bT1:=hK1.cell bT (by simp);have z0:=hK1.cell x0 (by simp);have z1:=hK1.cell x1 (by simp);have z2:=hK1.cell x2 (by simp);have z3:=hK1.cell x3 (by simp);clear bT x0 x1 x2 x3;have hA2:=(aa.refl [] w1).alloc (.cells #[] 141);have bT2:=hA2.cell bT1 (by simp);have hW1:w.heap.size+3≤w1.heap.size:=by have:=hK1.size;omega
    have hO0:=ky w1 (w.heap.size+3) hW1;have hKw2:=hKw.trans hA2 (by simp);have hK12:=hK1.trans hA2 (by simp);have HS:Hid (W0.heap.size=w.heap.size+3):=hsz;clear hW0 hsz;go_wp2_with (at_builtin;refine ek rfl _ _ rfl (w.heap.size+3) _ [] rfl hO0 ⟨b,o,none⟩ i c (L.take i) rfl (by simp;omega) ?c1 (by simp;omega) (by simp;omega) ?c2)
    case c1=>exact rf (fun i hi=>(HC.out i hi).kept hKw2) i
    case c2 =>
     intro v2 w2 hO2 hg2;have hK3:aa [] W0 w2:=bM hK12 hO0 (by rw [HS.out];omega) hg2;clear hg2 hO0 hK12 hA2 bT2;obtain ⟨z0,z1,z2,z3⟩:=br (hK3.at q2 (by simp));have hN:w.heap.size+3≤w2.heap.size:=by rw [← HS.out];exact hK3.size
     have hO2':cf (w.heap.size+3) (w2.alloc (.cells #[.string (ak x.p),.int .u64 x.d,.int .i64 x.r,.bool x.g] 141)) v2 (L.take i):=World.ownsRow.alloc hO2 _;go_wp2_with (at_builtin;refine ek rfl _ _ rfl (w.heap.size+3) _ (L.take i) rfl hO2' ⟨w2.heap.size,0,none⟩ 1 1 [x] rfl rfl ?c3 (by simp;omega) (by simp;omega) ?c4)
     case c3=>simpa using kG w2 x _
     case c4 =>
      intro v3 w3 hO3 hg3;have hK4:aa [] W0 w3:=bM (hK3.alloc _) hO2' (by rw [HS.out];omega) hg3;have bT4:=hK4.cell (cell_of_one q1) (by simp);have f4:=ai (hK4.at q3 (by simp)) 0;have m4:=cell_of_one (hK4.at q3 (by simp));have hKw4:=hK0.trans hK4 (by simp);clear hg3 hO2 hO2' hK3;have hN4:w.heap.size+3≤w3.heap.size:=by have:=hK4.size;rw [HS.out] at this;exact this
      have HO3:Hid (cf (w.heap.size+3) w3 v3 (L.take i++[x])):=hO3;clear hO3;by_cases hci:c=i
      ·have HN:Hid (L.drop i=[]):=List.drop_of_length_le (by omega);go_wp2_with (at_builtin;refine ek rfl _ _ rfl (w.heap.size+3) _ (L.take i++[x]) rfl HO3.out ⟨b,o,none⟩ _ _ (L.drop i) rfl ?c7 ?c5 (by simp;omega) hN4 ?c6)
       case c7=>rw [HN.out];simp;omega
       case c5=>rw [HN.out];intro j u hj;simp at hj
       case c6 =>
        intro v4 w4 hO4 hg4;have hK5:aa [] W0 w4:=bM hK4 HO3.out (by rw [HS.out];omega) hg4;have HO4:Hid (cf (w.heap.size+3) w4 v4 (dh x L)):=by show cf _ _ _ _;rw [HI.out];simpa using hO4
        clear hg4 hO4;obtain ⟨ao',c',rfl,hSl⟩:=HO4.out.sl;have q5:=hK5.at q3 (by simp);have f5:w4.frozen? ⟨w.heap.size+1+1,0,none⟩=false:=ai q5 0;have m5:w4.cell? ⟨w.heap.size+1+1,0,none⟩=some (.slice none 0 0):=cell_of_one q5;have s5:(w4.setCell ⟨w.heap.size+1+1,0,none⟩ (.slice ao' (dh x L).length c')).cell? ⟨w.heap.size+1+1,0,none⟩=some (.slice ao' (dh x L).length c'):=World.cell?_setCell_same' _ _ _ (by rw [m5];rfl)
        have HF:Hid (cf w.heap.size (w4.setCell ⟨w.heap.size+1+1,0,none⟩ (.slice ao' (dh x L).length c')) (.slice ao' (dh x L).length c') (dh x L)∧aa [] w (w4.setCell ⟨w.heap.size+1+1,0,none⟩ (.slice ao' (dh x L).length c'))) :=
         ⟨(HO4.out.set (by omega) _).mono (by omega),(hK0.trans hK5 (by simp)).setCell (.inr (by simp only;omega)) _⟩
        clear hSl HO4 q5;(go_wp2_with fail);refine bodyPost_ret (v:=.agg #[.slice ao' (dh x L).length c']) ?_ rfl ⟨ao',c',rfl,HF.out.1,HF.out.2⟩;rw [cx rfl];go_simp
      ·go_wp2_with (at_builtin;refine ek rfl _ _ rfl (w.heap.size+3) _ (L.take i++[x]) rfl HO3.out ⟨b,o+i*4,none⟩ (L.length - i) (c - i) (L.drop i) rfl (by simp) ?c5 (by simp;omega) hN4 ?c6)
       case c5=>exact rx (fun i hi=>(HC.out i hi).kept hKw4) i
       case c6 =>
        intro v4 w4 hO4 hg4;have hK5:aa [] W0 w4:=bM hK4 HO3.out (by rw [HS.out];omega) hg4;have HO4:Hid (cf (w.heap.size+3) w4 v4 (dh x L)):=by show cf _ _ _ _;rw [HI.out];simpa using hO4
        clear hg4 hO4;obtain ⟨ao',c',rfl,hSl⟩:=HO4.out.sl;have q5:=hK5.at q3 (by simp);have f5:w4.frozen? ⟨w.heap.size+1+1,0,none⟩=false:=ai q5 0;have m5:w4.cell? ⟨w.heap.size+1+1,0,none⟩=some (.slice none 0 0):=cell_of_one q5;have s5:(w4.setCell ⟨w.heap.size+1+1,0,none⟩ (.slice ao' (dh x L).length c')).cell? ⟨w.heap.size+1+1,0,none⟩=some (.slice ao' (dh x L).length c'):=World.cell?_setCell_same' _ _ _ (by rw [m5];rfl)
        have HF:Hid (cf w.heap.size (w4.setCell ⟨w.heap.size+1+1,0,none⟩ (.slice ao' (dh x L).length c')) (.slice ao' (dh x L).length c') (dh x L)∧aa [] w (w4.setCell ⟨w.heap.size+1+1,0,none⟩ (.slice ao' (dh x L).length c'))) :=
         ⟨(HO4.out.set (by omega) _).mono (by omega),(hK0.trans hK5 (by simp)).setCell (.inr (by simp only;omega)) _⟩
        clear hSl HO4 q5;(go_wp2_with fail);refine bodyPost_ret (v:=.agg #[.slice ao' (dh x L).length c']) ?_ rfl ⟨ao',c',rfl,HF.out.1,HF.out.2⟩;rw [cx rfl];go_simp
  | true =>
    have hi2:=hle2 rfl;go_enter Tryz.func143,Tryz.ntmps143;(go_wp2_with fail);rw [← hW0];refine (cp _ hK0).mono ?_;rintro e w1 ⟨rfl,hK1⟩;have hKw:=hK0.trans hK1 (by simp);have bT1:=hK1.cell bT (by simp);have z0:=hK1.cell x0 (by simp);have z1:=hK1.cell x1 (by simp);have z2:=hK1.cell x2 (by simp);have z3:=hK1.cell x3 (by simp);clear bT x0 x1 x2 x3;have hA2:=(aa.refl [] w1).alloc (.cells #[] 141);have bT2:=hA2.cell bT1 (by simp);have hW1:w.heap.size+3≤w1.heap.size:=by have:=hK1.size;omega
    have hO0:=ky w1 (w.heap.size+3) hW1;have hKw2:=hKw.trans hA2 (by simp);have hK12:=hK1.trans hA2 (by simp);have HS:Hid (W0.heap.size=w.heap.size+3):=hsz;clear hW0 hsz;go_wp2_with (at_builtin;refine ek rfl _ _ rfl (w.heap.size+3) _ [] rfl hO0 ⟨b,o,none⟩ i c (L.take i) rfl (by simp;omega) ?c1 (by simp;omega) (by simp;omega) ?c2)
    case c1=>exact rf (fun i hi=>(HC.out i hi).kept hKw2) i
    case c2 =>
     intro v2 w2 hO2 hg2;have hK3:aa [] W0 w2:=bM hK12 hO0 (by rw [HS.out];omega) hg2;clear hg2 hO0 hK12 hA2 bT2;obtain ⟨z0,z1,z2,z3⟩:=br (hK3.at q2 (by simp));have hN:w.heap.size+3≤w2.heap.size:=by rw [← HS.out];exact hK3.size
     have hO2':cf (w.heap.size+3) (w2.alloc (.cells #[.string (ak x.p),.int .u64 x.d,.int .i64 x.r,.bool x.g] 141)) v2 (L.take i):=World.ownsRow.alloc hO2 _;go_wp2_with (at_builtin;refine ek rfl _ _ rfl (w.heap.size+3) _ (L.take i) rfl hO2' ⟨w2.heap.size,0,none⟩ 1 1 [x] rfl rfl ?c3 (by simp;omega) (by simp;omega) ?c4)
     case c3=>simpa using kG w2 x _
     case c4 =>
      intro v3 w3 hO3 hg3;have hK4:aa [] W0 w3:=bM (hK3.alloc _) hO2' (by rw [HS.out];omega) hg3;have bT4:=hK4.cell (cell_of_one q1) (by simp);have f4:=ai (hK4.at q3 (by simp)) 0;have m4:=cell_of_one (hK4.at q3 (by simp));have hKw4:=hK0.trans hK4 (by simp);clear hg3 hO2 hO2' hK3;have hN4:w.heap.size+3≤w3.heap.size:=by have:=hK4.size;rw [HS.out] at this;exact this
      have HO3:Hid (cf (w.heap.size+3) w3 v3 (L.take i++[x])):=hO3;clear hO3;by_cases hci:c=(i+1)
      ·have HN:Hid (L.drop (i+1)=[]):=List.drop_of_length_le (by omega);go_wp2_with (at_builtin;refine ek rfl _ _ rfl (w.heap.size+3) _ (L.take i++[x]) rfl HO3.out ⟨b,o,none⟩ _ _ (L.drop (i+1)) rfl ?c7 ?c5 (by simp;omega) hN4 ?c6)
       case c7=>rw [HN.out];simp;omega
       case c5=>rw [HN.out];intro j u hj;simp at hj
       case c6 =>
        intro v4 w4 hO4 hg4;have hK5:aa [] W0 w4:=bM hK4 HO3.out (by rw [HS.out];omega) hg4;have HO4:Hid (cf (w.heap.size+3) w4 v4 (dh x L)):=by show cf _ _ _ _;rw [HI.out];simpa using hO4
        clear hg4 hO4;obtain ⟨ao',c',rfl,hSl⟩:=HO4.out.sl;have q5:=hK5.at q3 (by simp);have f5:w4.frozen? ⟨w.heap.size+1+1,0,none⟩=false:=ai q5 0;have m5:w4.cell? ⟨w.heap.size+1+1,0,none⟩=some (.slice none 0 0):=cell_of_one q5;have s5:(w4.setCell ⟨w.heap.size+1+1,0,none⟩ (.slice ao' (dh x L).length c')).cell? ⟨w.heap.size+1+1,0,none⟩=some (.slice ao' (dh x L).length c'):=World.cell?_setCell_same' _ _ _ (by rw [m5];rfl)
        have HF:Hid (cf w.heap.size (w4.setCell ⟨w.heap.size+1+1,0,none⟩ (.slice ao' (dh x L).length c')) (.slice ao' (dh x L).length c') (dh x L)∧aa [] w (w4.setCell ⟨w.heap.size+1+1,0,none⟩ (.slice ao' (dh x L).length c'))) :=
         ⟨(HO4.out.set (by omega) _).mono (by omega),(hK0.trans hK5 (by simp)).setCell (.inr (by simp only;omega)) _⟩
        clear hSl HO4 q5;(go_wp2_with fail);refine bodyPost_ret (v:=.agg #[.slice ao' (dh x L).length c']) ?_ rfl ⟨ao',c',rfl,HF.out.1,HF.out.2⟩;rw [cx rfl];go_simp
      ·go_wp2_with (at_builtin;refine ek rfl _ _ rfl (w.heap.size+3) _ (L.take i++[x]) rfl HO3.out ⟨b,o+(i+1)*4,none⟩ (L.length - (i+1)) (c - (i+1)) (L.drop (i+1)) rfl (by simp) ?c5 (by simp;omega) hN4 ?c6)
       case c5=>exact rx (fun i hi=>(HC.out i hi).kept hKw4) (i+1)
       case c6 =>
        intro v4 w4 hO4 hg4;have hK5:aa [] W0 w4:=bM hK4 HO3.out (by rw [HS.out];omega) hg4;have HO4:Hid (cf (w.heap.size+3) w4 v4 (dh x L)):=by show cf _ _ _ _;rw [HI.out];simpa using hO4
        clear hg4 hO4;obtain ⟨ao',c',rfl,hSl⟩:=HO4.out.sl;have q5:=hK5.at q3 (by simp);have f5:w4.frozen? ⟨w.heap.size+1+1,0,none⟩=false:=ai q5 0;have m5:w4.cell? ⟨w.heap.size+1+1,0,none⟩=some (.slice none 0 0):=cell_of_one q5;have s5:(w4.setCell ⟨w.heap.size+1+1,0,none⟩ (.slice ao' (dh x L).length c')).cell? ⟨w.heap.size+1+1,0,none⟩=some (.slice ao' (dh x L).length c'):=World.cell?_setCell_same' _ _ _ (by rw [m5];rfl)
        have HF:Hid (cf w.heap.size (w4.setCell ⟨w.heap.size+1+1,0,none⟩ (.slice ao' (dh x L).length c')) (.slice ao' (dh x L).length c') (dh x L)∧aa [] w (w4.setCell ⟨w.heap.size+1+1,0,none⟩ (.slice ao' (dh x L).length c'))) :=
         ⟨(HO4.out.set (by omega) _).mono (by omega),(hK0.trans hK5 (by simp)).setCell (.inr (by simp only;omega)) _⟩
        clear hSl HO4 q5;(go_wp2_with fail);refine bodyPost_ret (v:=.agg #[.slice ao' (dh x L).length c']) ?_ rfl ⟨ao',c',rfl,HF.out.1,HF.out.2⟩;rw [cx rfl];go_simp
theorem vP (w:World) (ad:Addr) (x:Lf) (hf:x.p.length≤100000000000) :
 Calls Tryz.prog 143 #[.agg #[.slice (some ad) 0 0],jm x] w fun e w'=>∃ ao' c',e=.returned (.agg #[.slice ao' (dh x []).length c'])∧cf w.heap.size w' (.slice ao' (dh x []).length c') (dh x [])∧aa [] w w':=by
 have ht:uk w (some ad) 0 0 []:=⟨rfl,Nat.le_refl _,Nat.zero_le _,fun i hi=>by simp at hi⟩;have cp:=fun w' (hk:aa [] w w')=>jL w' (some ad) 0 0 [] (ht.kept hk) (fun x hx=>by simp at hx) x.p hf;obtain ⟨W0,hW0⟩:∃ W0,W0=((w.alloc (.cells #[.slice (some ad) 0 0] 79)).alloc (.cells #[.string (ak x.p),.int .u64 x.d,.int .i64 x.r,.bool x.g] 141)).alloc (.cells #[.slice none 0 0] 79):=⟨_,rfl⟩;have hsz:W0.heap.size=w.heap.size+3:=by rw [hW0,World.size_alloc,World.size_alloc,World.size_alloc]
 have hK0:aa [] w W0:=by rw [hW0];exact (((aa.refl [] w).alloc _).alloc _).alloc _
 have q1:W0.heap[w.heap.size]?=some (.cells #[.slice (some ad) 0 0] 79 (0,0)):=by
  rw [hW0];exact (Below.heap_alloc _ _ _ (by simp;omega)).trans ((Below.heap_alloc _ _ _ (by simp)).trans (heap_alloc_new w _))
 have q2:W0.heap[w.heap.size+1]?=some (.cells #[.string (ak x.p),.int .u64 x.d,.int .i64 x.r,.bool x.g] 141 (0,0)):=by
  rw [hW0];have:=heap_alloc_new (w.alloc (.cells #[.slice (some ad) 0 0] 79)) (.cells #[.string (ak x.p),.int .u64 x.d,.int .i64 x.r,.bool x.g] 141)
  rw [World.size_alloc] at this;exact (Below.heap_alloc _ _ _ (by simp)).trans this
 have q3:W0.heap[w.heap.size+2]?=some (.cells #[.slice none 0 0] 79 (0,0)):=by
  rw [hW0];have:=heap_alloc_new ((w.alloc (.cells #[.slice (some ad) 0 0] 79)).alloc (.cells #[.string (ak x.p),.int .u64 x.d,.int .i64 x.r,.bool x.g] 141)) (.cells #[.slice none 0 0] 79)
  rw [World.size_alloc,World.size_alloc] at this;exact this
 have bT:=cell_of_one q1;obtain ⟨x0,x1,x2,x3⟩:=br q2;have HS:Hid (W0.heap.size=w.heap.size+3):=hsz;have ei:dh x []=[x]:=rfl;rw [ei];unfold jm;replace cp:∀ w',aa [] w w'→Calls Tryz.prog 120 #[.agg #[.slice (some ad) 0 0],.string (ak x.p)] w' fun e w'_1=>e=.returned (.tuple #[.int .i64 0,.bool false])∧aa [] w' w'_1:=cp;go_enter Tryz.func143,Tryz.ntmps143;go_wp2_with fail
 rw [← hW0];refine (cp _ hK0).mono ?_;rintro e w1 ⟨rfl,hK1⟩;have hKw:=hK0.trans hK1 (by simp);have bT1:=hK1.cell bT (by simp);have z0:=hK1.cell x0 (by simp);have z1:=hK1.cell x1 (by simp);have z2:=hK1.cell x2 (by simp);have z3:=hK1.cell x3 (by simp);clear bT x0 x1 x2 x3;have hA2:=(aa.refl [] w1).alloc (.cells #[] 141);have bT2:=hA2.cell bT1 (by simp);have hW1:w.heap.size+3≤w1.heap.size:=by have:=hK1.size;omega
 have hO0:=ky w1 (w.heap.size+3) hW1;have hK12:=hK1.trans hA2 (by simp);clear hW0 hsz;go_wp2_with (at_builtin;refine ek rfl _ _ rfl (w.heap.size+3) _ [] rfl hO0 ad 0 0 [] rfl rfl (fun j u hj=>by simp at hj) (by simp) (by simp;omega) ?c2)
 case c2 =>
  intro v2 w2 hO2 hg2;have hK3:aa [] W0 w2:=bM hK12 hO0 (by rw [HS.out];omega) hg2;clear hg2 hO0 hK12 hA2 bT2;obtain ⟨z0,z1,z2,z3⟩:=br (hK3.at q2 (by simp));have hN:w.heap.size+3≤w2.heap.size:=by rw [← HS.out];exact hK3.size
  have hO2':cf (w.heap.size+3) (w2.alloc (.cells #[.string (ak x.p),.int .u64 x.d,.int .i64 x.r,.bool x.g] 141)) v2 []:=World.ownsRow.alloc hO2 _;go_wp2_with (at_builtin;refine ek rfl _ _ rfl (w.heap.size+3) _ [] rfl hO2' ⟨w2.heap.size,0,none⟩ 1 1 [x] rfl rfl ?c3 (by simp) (by simp;omega) ?c4)
  case c3=>simpa using kG w2 x _
  case c4 =>
   intro v3 w3 hO3 hg3;have hK4:aa [] W0 w3:=bM (hK3.alloc _) hO2' (by rw [HS.out];omega) hg3;have bT4:=hK4.cell (cell_of_one q1) (by simp);clear hg3 hO2 hO2' hK3;have hN4:w.heap.size+3≤w3.heap.size:=by have:=hK4.size;rw [HS.out] at this;exact this
   have HO3:Hid (cf (w.heap.size+3) w3 v3 [x]):=hO3;clear hO3;go_wp2_with (at_builtin;refine ek rfl _ _ rfl (w.heap.size+3) _ [x] rfl HO3.out ad 0 0 [] rfl rfl (fun j u hj=>by simp at hj) (by simp) hN4 ?c6)
   case c6 =>
    intro v4 w4 hO4 hg4;have hK5:aa [] W0 w4:=bM hK4 HO3.out (by rw [HS.out];omega) hg4;have HO4:Hid (cf (w.heap.size+3) w4 v4 [x]):=hO4;clear hg4 hO4;obtain ⟨ao',c',rfl,hSl⟩:=HO4.out.sl;have q5:=hK5.at q3 (by simp);have f5:w4.frozen? ⟨w.heap.size+1+1,0,none⟩=false:=ai q5 0;have m5:w4.cell? ⟨w.heap.size+1+1,0,none⟩=some (.slice none 0 0):=cell_of_one q5;have s5:(w4.setCell ⟨w.heap.size+1+1,0,none⟩ (.slice ao' 1 c')).cell? ⟨w.heap.size+1+1,0,none⟩=some (.slice ao' 1 c'):=World.cell?_setCell_same' _ _ _ (by rw [m5];rfl)
    have HF:Hid (cf w.heap.size (w4.setCell ⟨w.heap.size+1+1,0,none⟩ (.slice ao' 1 c')) (.slice ao' 1 c') [x]∧aa [] w (w4.setCell ⟨w.heap.size+1+1,0,none⟩ (.slice ao' 1 c'))) :=
     ⟨(HO4.out.set (by omega) _).mono (by omega),(hK0.trans hK5 (by simp)).setCell (.inr (by simp only;omega)) _⟩
    clear hSl HO4 q5;(go_wp2_with fail);refine bodyPost_ret (v:=.agg #[.slice ao' 1 c']) ?_ rfl ⟨ao',c',rfl,HF.out.1,HF.out.2⟩;rw [cx rfl];go_simp
def gQ (l:List Lf) (v:Value):Prop:=l=[]→v=.slice none 0 0∨∃ ad,v=.slice (some ad) 0 0
theorem sE (w:World) (ao:Option Addr) (n c:Nat) (L:List Lf) (ht:uk w ao n c L) (hnil:gQ L (.slice ao n c)) (hlen:L.length≤1000000) (hp:∀ x∈L,x.p.length≤100000000000) (x:Lf) (hf:x.p.length≤100000000000) :
 Calls Tryz.prog 143 #[.agg #[.slice ao n c],jm x] w fun e w'=>∃ ao' c',e=.returned (.agg #[.slice ao' (dh x L).length c'])∧cf w.heap.size w' (.slice ao' (dh x L).length c') (dh x L)∧aa [] w w':=by
 by_cases hL:L=[]
 ·rcases hnil hL with h | ⟨ad,h⟩
  ·cases h;exact ri w none 0 0 L ht (.inl ⟨rfl,rfl,hL⟩) hlen hp x hf
  ·cases h;subst hL;exact vP w ad x hf
 ·exact ri w ao n c L ht (.inr hL) hlen hp x hf
end Go.Proofs.YtgpnlidnbldiiaaGreat
