/-
  The image's eye: what a machine is read from. (Written by mk/mkeym.py.)
-/
import Derived.Test.YtddhmfildfdbdaaGreatW7r
import Derived.Test.YtddhmfildfdbdaaGreatW6r
import Derived.Test.YtddhmfildfdbdaaGreatW8r
namespace Go.Proofs.YtddhmfildfdbdaaGreat
open Go.RowKit
def BadR {α:Type}(R:Rdr α):Prop:=∀ e:Int,e≠0→(R ([],e)).2=([],e)
def NilR {α:Type}(R:Rdr α):Prop:=∀ l:List Int,(R (l,0)).2.2≠0→(R (l,0)).2.1=[]
theorem Cdc.badR {α:Type}{R:Rdr α}{ok:α→Prop}{b:α→List Int}(h:Cdc R ok b):BadR R:=fun e he=>h.bad e he
theorem Cdc.nilR {α:Type}{R:Rdr α}{ok:α→Prop}{b:α→List Int}(h:Cdc R ok b):NilR R:=fun l hl=>h.nil l hl
theorem bad_seqR {α β:Type}{A:Rdr α}{B:α→Rdr β}(hA:BadR A) (hB:∀ a,BadR (B a)):BadR (seqR A B):=fun e he=>by
 show (B (A ([],e)).1 (A ([],e)).2).2=_
 rw [hA e he]
 exact hB _ e he
theorem seq_bad3 {α β:Type}{A:Rdr α}{B:α→Rdr β}(hA:NilR A) (hB:∀ a,BadR (B a)) {l t:List Int}{x:α}{e:Int}(h:A (l,0)=(x,(t,e))) (he:e≠0):(seqR A B (l,0)).2.2=e:=by
 show (B (A (l,0)).1 (A (l,0)).2).2.2=e
 have hn:=hA l (by rw [h];exact he)
 rw [h] at hn
 obtain rfl:t=[]:=hn
 rw [h]
 show (B x ([],e)).2.2=e
 rw [hB x e he]
def imS5:Rdr (List Se × List Com):=seqR (lsR 16 seR) fun _=>lsR 1099511627776 coR
def imS4:Rdr (List Ep × List Se × List Com):=seqR (lsR 16 epR) fun _=>imS5
def imS3:Rdr (Int × List Ep × List Se × List Com):=seqR numR fun _=>imS4
def imS2:Rdr (Int × Int × List Ep × List Se × List Com):=seqR numR fun _=>imS3
def imS1:Rdr (Int × Int × Int × List Ep × List Se × List Com):=seqR numR fun _=>imS2
theorem imR_is (s:List Int × Int):imR s=((fun p:Int × Int × Int × List Ep × List Se × List Com=>(⟨p.1,p.2.1,p.2.2.1,p.2.2.2.1,p.2.2.2.2.1,p.2.2.2.2.2⟩:Pt)) (imS1 s).1,(imS1 s).2):=rfl
theorem cdc_eps:Cdc (lsR 16 epR) (fun L=>L.length≤16∧∀ x∈L,okEpI x) (bLs bEp):=cdc_ls cdc_ep ⟨0,[]⟩ 16 (by omega)
theorem cdc_ses:Cdc (lsR 16 seR) (fun L=>L.length≤16∧∀ x∈L,okSeI x) (bLs bSe):=cdc_ls cdc_se se0 16 (by omega)
theorem cdc_cos:Cdc (lsR 1099511627776 coR) (fun L=>L.length≤1099511627776∧∀ x∈L,okCoI x) (bLs bCo):=cdc_ls cdc_co com0 1099511627776 (by omega)
theorem bad_S5:BadR imS5:=bad_seqR cdc_ses.badR (fun _=>cdc_cos.badR)
theorem bad_S4:BadR imS4:=bad_seqR cdc_eps.badR (fun _=>bad_S5)
theorem bad_S3:BadR imS3:=bad_seqR cdc_num.badR (fun _=>bad_S4)
theorem bad_S2:BadR imS2:=bad_seqR cdc_num.badR (fun _=>bad_S3)
theorem im_parts {l l1:List Int}{al e1:Int}(h1:numR (l,0)=(al,(l1,e1))):(e1≠0→(imR (l,0)).2.2=e1)∧(e1=0→∀ sz l2 e2,numR (l1,0)=(sz,(l2,e2))→(e2≠0→(imR (l,0)).2.2=e2)∧(e2=0→∀ a l3 e3,numR (l2,0)=(a,(l3,e3))→(e3≠0→(imR (l,0)).2.2=e3)∧(e3=0→∀ es l4 e4,lsR 16 epR (l3,0)=(es,(l4,e4))→(e4≠0→(imR (l,0)).2.2=e4)∧(e4=0→∀ ss l5 e5,lsR 16 seR (l4,0)=(ss,(l5,e5))→(e5≠0→(imR (l,0)).2.2=e5)∧(e5=0→∀ cs l6 e6,lsR 1099511627776 coR (l5,0)=(cs,(l6,e6))→imR (l,0)=(⟨al,sz,a,es,ss,cs⟩,(l6,e6))))))):=by
 constructor
 ·intro he
  rw [imR_is]
  show (imS1 (l,0)).2.2=e1
  exact seq_bad3 cdc_num.nilR (fun _=>bad_S2) h1 he
 ·rintro rfl sz l2 e2 h2
  have g1:imS1 (l,0)=((al,(imS2 (l1,0)).1),(imS2 (l1,0)).2):=seq_goes h1
  constructor
  ·intro he
   rw [imR_is]
   show (imS1 (l,0)).2.2=e2
   rw [g1]
   show (imS2 (l1,0)).2.2=e2
   exact seq_bad3 cdc_num.nilR (fun _=>bad_S3) h2 he
  ·rintro rfl a l3 e3 h3
   have g2:imS2 (l1,0)=((sz,(imS3 (l2,0)).1),(imS3 (l2,0)).2):=seq_goes h2
   constructor
   ·intro he
    rw [imR_is]
    show (imS1 (l,0)).2.2=e3
    rw [g1]
    show (imS2 (l1,0)).2.2=e3
    rw [g2]
    show (imS3 (l2,0)).2.2=e3
    exact seq_bad3 cdc_num.nilR (fun _=>bad_S4) h3 he
   ·rintro rfl es l4 e4 h4
    have g3:imS3 (l2,0)=((a,(imS4 (l3,0)).1),(imS4 (l3,0)).2):=seq_goes h3
    constructor
    ·intro he
     rw [imR_is]
     show (imS1 (l,0)).2.2=e4
     rw [g1]
     show (imS2 (l1,0)).2.2=e4
     rw [g2]
     show (imS3 (l2,0)).2.2=e4
     rw [g3]
     show (imS4 (l3,0)).2.2=e4
     exact seq_bad3 cdc_eps.nilR (fun _=>bad_S5) h4 he
    ·rintro rfl ss l5 e5 h5
     have g4:imS4 (l3,0)=((es,(imS5 (l4,0)).1),(imS5 (l4,0)).2):=seq_goes h4
     constructor
     ·intro he
      rw [imR_is]
      show (imS1 (l,0)).2.2=e5
      rw [g1]
      show (imS2 (l1,0)).2.2=e5
      rw [g2]
      show (imS3 (l2,0)).2.2=e5
      rw [g3]
      show (imS4 (l3,0)).2.2=e5
      rw [g4]
      show (imS5 (l4,0)).2.2=e5
      exact seq_bad3 cdc_ses.nilR (fun _=>cdc_cos.badR) h5 he
     ·rintro rfl cs l6 e6 h6
      have g5:imS5 (l4,0)=((ss,(lsR 1099511627776 coR (l5,0)).1),(lsR 1099511627776 coR (l5,0)).2):=seq_goes h5
      simp only [imR_is,g1,g2,g3,g4,g5,h6]
theorem ls_less {α:Type}{one:Rdr α}{ok:α→Prop}{b:α→List Int}(h:Cdc one ok b) (z:α) (most:Nat) (hm:most≤1099511627776) {l l1:List Int}{x:List α}(ho:Oct l) (h1:lsR (most:Int) one (l,0)=(x,(l1,0))):l1.length < l.length :=
 ((cdc_ls h z most hm).eats (fun x=>by unfold bLs;rw [List.length_append];have:=encNum_pos (x.length:Int);omega)) l x l1 ho h1
theorem flat_ge {α:Type}(b:α→List Int) (k:Nat) (h:∀ x,k≤(b x).length) (L:List α):k*L.length≤(L.flatMap b).length:=by
 induction L with
 | nil=>simp
 | cons x L ih =>
   rw [List.flatMap_cons,List.length_append,List.length_cons,Nat.mul_succ]
   have:=h x
   omega
theorem cos_short {l l1:List Int}{cs:List Com}{e:Int}(ho:Oct l) (h1:lsR 1099511627776 coR (l,0)=(cs,(l1,e))) (he:e=0):3*cs.length≤l.length:=by
 subst he
 have h2:=(cdc_ls cdc_co com0 1099511627776 (by omega)).bwd l cs l1 ho h1
 rw [h2.2]
 have h3:=flat_ge bCo 3 (fun x=>by
  have a1:=encNum_pos x.b
  have a2:=bT_pos x.n
  have a3:=encNum_pos (x.c.length:Int)
  unfold bCo bLs
  simp only [List.length_append]
  omega) cs
 unfold bLs
 simp only [List.length_append]
 omega
theorem okT_len {t:List UInt8}(h:okT t=true):t.length≤255:=by simpa [okT] using h
theorem ver_parts {v:Vt}(h:okVer v):(v.p=[]∨okT v.p=true)∧(v.k=[]∨okComs v.k):=by
 obtain ⟨_,h⟩:=h
 unfold okG at h
 constructor
 ·(repeat' split at h) <;> first | (right;exact h.1.1) | (left;exact (congrArg Vt.p h.2).symm) | (left;exact congrArg Vt.p h) | (right;exact h.1)
 ·(repeat' split at h) <;> first | (left;exact (congrArg Vt.k h.2).symm) | (left;exact congrArg Vt.k h) | (right;exact h.1)
theorem okV_of {v:Vt}(h:okVer v):okV v:=by
 obtain ⟨h1,h2⟩:=ver_parts h
 refine ⟨?_,?_,fun x hx=>?_⟩
 ·rcases h1 with h1 | h1
  ·rw [h1];simp
  ·have:=okT_len h1;omega
 ·rcases h2 with h2 | h2
  ·rw [h2];simp
  ·have:=h2.1;omega
 ·rcases h2 with h2 | h2
  ·rw [h2] at hx;cases hx
  ·obtain ⟨_,_,h3,h4,h5⟩:=h2.2 x hx
   refine ⟨by have:=okT_len h3;omega,by omega,fun y hy=>?_⟩
   have:=okT_len (h5 y hy).1
   unfold okC;omega
theorem okSI {x:Se}(h:okSeI x):okS x:=⟨by have:=h.2.2.1;omega,okV_of h.2.2.2⟩
theorem okCI {x:Com}(h:okCoI x):SmallC x:=⟨by have:=h.2.2.1;omega,by have:=h.2.2.2.1;omega,fun y hy=>by have:=okT_len (h.2.2.2.2 y hy).1;omega⟩
def modA {α:Type}(f:α→α):Nat→List α→List α
 | _,[]=>[]
 | 0,x :: L=>f x :: L
 | j+1,x :: L=>x :: modA f j L
theorem modA_length {α:Type}(f:α→α) (j:Nat) (L:List α):(modA f j L).length=L.length:=by
 induction L generalizing j with
 | nil=>cases j <;> rfl
 | cons x L ih=>cases j <;> simp [modA,ih]
theorem modA_map {α β:Type}(f:α→α) (g:β→β) (p:α→β) (h:∀ x,p (f x)=g (p x)) (j:Nat) (L:List α):(modA f j L).map p=modA g j (L.map p):=by
 induction L generalizing j with
 | nil=>cases j <;> rfl
 | cons x L ih=>cases j <;> simp [modA,ih,h]
theorem modA_mem {α:Type}{f:α→α}{j:Nat}{L:List α}{y:α}(h:y∈modA f j L):y∈L∨∃ x∈L,y=f x:=by
 induction L generalizing j with
 | nil=>cases j <;> cases h
 | cons x L ih =>
   cases j with
   | zero =>
     rcases List.mem_cons.1 h with h | h
     ·exact .inr ⟨x,List.mem_cons_self ..,h⟩
     ·exact .inl (List.mem_cons_of_mem _ h)
   | succ j =>
     rcases List.mem_cons.1 h with h | h
     ·exact .inl (by rw [h];exact List.mem_cons_self ..)
     ·rcases ih h with h | ⟨z,hz,h⟩
      ·exact .inl (List.mem_cons_of_mem _ h)
      ·exact .inr ⟨z,List.mem_cons_of_mem _ hz,h⟩
def rvC (j:Nat) (x:Com):Com:=⟨(j:Int)+1,x.b,x.n,x.c⟩
def rvK (j:Nat) (x:Com × Value):Com × Value:=(rvC j x.1,x.2)
def revs:Nat→List Com→List Com
 | 0,L=>L
 | j+1,L=>modA (rvC j) j (revs j L)
theorem revs_length (j:Nat) (L:List Com):(revs j L).length=L.length:=by
 induction j with
 | zero=>rfl
 | succ j ih=>unfold revs;rw [modA_length,ih]
theorem revs_mem {j:Nat}{L:List Com}{y:Com}(h:y∈revs j L):∃ x∈L,y.n=x.n∧y.c=x.c∧y.b=x.b:=by
 induction j generalizing y with
 | zero=>exact ⟨y,h,rfl,rfl,rfl⟩
 | succ j ih =>
   unfold revs at h
   rcases modA_mem h with h | ⟨x,hx,rfl⟩
   ·exact ih h
   ·obtain ⟨z,hz,q⟩:=ih hx
    exact ⟨z,hz,q⟩
theorem flat_mod (K:List (Com × Value)) (j:Nat) (h:j < K.length):(K.flatMap coC).set (j*4) (.int .i64 ((j:Int)+1))=(modA (rvK j) j K).flatMap coC:=by
 have key:∀ (K:List (Com × Value)) (i m:Nat),i < K.length→(K.flatMap coC).set (i*4) (.int .i64 ((m:Int)+1))=(modA (rvK m) i K).flatMap coC:=by
  intro K
  induction K with
  | nil=>intro i m h;simp at h
  | cons x K ih =>
    intro i m h
    cases i with
    | zero=>simp [modA,coC,rvK,rvC]
    | succ i =>
      have h2:=ih i m (by simpa using h)
      have e:modA (rvK m) (i+1) (x :: K)=x :: modA (rvK m) i K:=rfl
      rw [e,List.flatMap_cons,List.flatMap_cons,← h2,List.set_append_right (h:=by simp [coC];omega)]
      congr 2
      simp [coC];omega
 exact key K j j h
theorem row_len {w:World}{B:Nat}{ao:Option Addr}{n c:Nat}{K:List (Com × Value)}(h:RowK B w (.slice ao n c) K):K.length=n:=by
 obtain ⟨_,h2⟩:=h
 rcases h2 with ⟨hv,hn⟩ | ⟨g,cap,cur,hv,_⟩
 ·cases hv;exact hn
 ·cases hv;rfl
theorem rowK_set {w:World}{B:Nat}{ao:Option Addr}{n c:Nat}{K:List (Com × Value)}(h:RowK B w (.slice ao n c) K) (ho:OwnK B w K) {j:Nat}(hj:j < n) :
 ∃ g r,ao=some ⟨g,0,none⟩∧B≤g∧n≤c∧c≤maxLen∧w.cell? ⟨g,j*4,none⟩=some (.int .i64 r)∧w.frozen? ⟨g,j*4,none⟩=false ∧
  ∀ w',w'=w.setCell ⟨g,j*4,none⟩ (.int .i64 ((j:Int)+1))→RowK B w' (.slice ao n c) (modA (rvK j) j K)∧OwnK B w' (modA (rvK j) j K)∧Kept [g] w w':=by
 have hl:=row_len h
 have h':=h
 obtain ⟨_,h2⟩:=h
 rcases h2 with ⟨hv,hn⟩ | ⟨g,cap,cur,hv,hg,hh,hn,hc,_⟩
 ·omega
 ·cases hv
  have hjK:j < K.length:=by omega
  have hb:(World.heap w)[g]?=some (.cells cur 76 (0,0)):=hh
  have hk:Kept [g] w (w.setCell ⟨g,j*4,none⟩ (.int .i64 ((j:Int)+1))):=kept_set w g (j*4) _
  refine ⟨g,K[j].1.r,rfl,hg,hn,hc,?_,World.ownsRow.frozenAt h' _,?_⟩
  ·rw [World.ownsRow.cellAt h' (j*4) (by omega)]
   have h9:=coC_get K j hjK 0 (by omega)
   simpa [coC] using h9
  ·rintro w' rfl
   have h3:=(World.ownsRow.stored h' (j*4) (.int .i64 ((j:Int)+1))).1
   rw [flat_mod K j hjK] at h3
   refine ⟨?_,fun x hx=>?_,hk⟩
   ·unfold RowK
    rw [modA_length]
    exact h3
   ·have h4:∃ y∈K,x.2=y.2∧x.1.c=y.1.c:=by
     rcases modA_mem hx with h | ⟨y,hy,rfl⟩
     ·exact ⟨x,h,rfl,rfl⟩
     ·exact ⟨y,hy,rfl,rfl⟩
    obtain ⟨y,hy,e1,e2⟩:=h4
    rw [e1,e2]
    exact row_typed hk (Ts:=[76]) (typed1 hb) (ho y hy) (by decide)
structure Em (w:World) (p:Nat) (F:List Nat) (W:World) (l:List Int):Prop where
 k:Kept (p :: F) w W
 e:W.cell? ⟨w.heap.size,0,none⟩=some (.pointer (some ⟨p,0,none⟩))
 d:Rd W p F l 0
 o:∀ k∈p :: F,k < w.heap.size
 z:w.heap.size < W.heap.size
theorem Em.call {w:World}{p:Nat}{F:List Nat}{W W':World}{l l':List Int}(h:Em w p F W l) (k:Kept (p :: F) W W') (hR:Rd W' p F l' 0):Em w p F W' l':=by
 have hs:∀ b,w.heap.size≤b→b ∉ p :: F:=fun b hb hm=>by have:=h.o b hm;omega
 exact ⟨h.k.trans k (fun i hi=>.inl hi),k.cell h.e (hs _ (Nat.le_refl _)),hR,h.o,Nat.lt_of_lt_of_le h.z k.size⟩
theorem Em.hi {w:World}{p:Nat}{F:List Nat}{W W':World}{l:List Int}{S:List Nat}(h:Em w p F W l) (k:Kept S W W') (hS:∀ b∈S,w.heap.size < b):Em w p F W' l:=by
 have hs:∀ b∈p :: F,b ∉ S:=fun b hb hm=>by have:=h.o b hb;have:=hS b hm;omega
 exact ⟨h.k.trans k (fun i hi=>.inr (Nat.le_of_lt (hS i hi))),k.cell h.e (fun hm=>absurd (hS _ hm) (Nat.lt_irrefl _)),Rd.kept k h.d (hs p (List.mem_cons_self ..)) (fun b hb=>hs b (List.mem_cons_of_mem _ hb)),h.o,Nat.lt_of_lt_of_le h.z k.size⟩
theorem Em.f {w:World}{p:Nat}{F:List Nat}{W:World}{l:List Int}(h:Em w p F W l):∀ k∈F,k < W.heap.size:=fun k hk=>by have:=h.o k (List.mem_cons_of_mem _ hk);have:=h.z;omega
noncomputable def mkP (x:Pt):Except Int Ma:=mkM x.al x.sz x.a x.es x.ss (revs x.cs.length x.cs)
theorem mkM_err {al sz a n:Int}{L:List Ep}{S:List Se}{cs:List Com}(h:mkM al sz a L S cs=.error n):n≠0:=by
 unfold mkM at h
 split at h
 ·cases h;decide
 split at h
 ·cases h;decide
 split at h
 ·cases h;decide
 split at h
 ·cases h;decide
 split at h
 ·cases h;decide
 ·split at h
  ·cases h;decide
  ·cases h
def EymP (p:Nat) (F:List Nat) (w:World) (q:Pt × (List Int × Int)) (r:Ending) (w':World):Prop :=
 Kept (p :: F) w w'∧((q.2.2≠0∧r=pncE q.2.2)∨(q.2.2=0∧q.2.1≠[]∧r=pncE 3)∨(q.2.2=0∧q.2.1=[]∧((∃ n,mkP q.1=.error n∧n≠0∧r=pncE n) ∨
  ∃ M W b u G,mkP q.1=.ok M∧Kept (p :: F) w W∧LiveM W w' G [] b u q.1.al q.1.sz.toNat M∧r=.returned (.pointer (some ⟨b,0,none⟩)))))
theorem EymP.bad {p:Nat}{F:List Nat}{w w':World}{q:Pt × (List Int × Int)}{e:Int}(hq:q.2.2=e) (he:e≠0) (hk:Kept (p :: F) w w'):EymP p F w q (pncE e) w':=by
 subst hq
 exact ⟨hk,.inl ⟨he,rfl⟩⟩
def IrI (w:World) (p:Nat) (F:List Nat) (Wc:World) (l:List Int) (B:Nat) (v:Value) (cs:List Com) (n:Nat) (iv:Value) (wr:World):Prop :=
 ∃ j:Nat,iv=.int .i64 (j:Int)∧j≤n∧Hid (∃ K,RowK B wr v K∧OwnK B wr K∧K.map Prod.fst=revs j cs)∧Hid (Em w p F wr l)∧Hid (Kept (p :: F) Wc wr)
theorem lsE_sl {B:Nat}{w:World}{v:Value}{L:List Ep}(h:LsE B w v L):∃ ao c X,v=.slice ao X.length c∧SlE w ao X.length c X∧X.map Prod.fst=L:=by
 obtain ⟨X,h1,h2,h3⟩:=h
 obtain ⟨ao,c,h4,h5⟩:=h1.sl h2
 exact ⟨ao,c,X,h4,h5,h3⟩
theorem lsS_sl {B:Nat}{w:World}{v:Value}{L:List Se}(h:LsS B w v L):∃ ao c X,v=.slice ao X.length c∧SlS w ao X.length c X∧X.map Prod.fst=L:=by
 obtain ⟨X,h1,h2,h3⟩:=h
 obtain ⟨ao,c,e,h4,h5,h6⟩:=h1.cells
 have hc:ao=none→c=0:=by
  rintro rfl
  obtain ⟨_,h'⟩:=h1
  rcases h' with ⟨hv,_⟩ | ⟨g,cap,cur,hv,_⟩
  ·rw [e] at hv;simp only [Value.slice.injEq] at hv;exact hv.2.2
  ·rw [e] at hv;simp at hv
 exact ⟨ao,c,X,e,⟨rfl,h4,h5,hc,h6,fun x hx=>(h2 x hx).ko⟩,h3⟩
theorem koO_sl {B:Nat}{w:World}{v:Value}{L:List Com}(h:∃ K,RowK B w v K∧OwnK B w K∧K.map Prod.fst=L):∃ ao c X,v=.slice ao X.length c∧SlK w ao X.length c X∧X.map Prod.fst=L:=by
 obtain ⟨X,h1,h2,h3⟩:=h
 obtain ⟨ao,c,h4,h5,_⟩:=h1.sl h2
 exact ⟨ao,c,X,h4,h5,h3⟩
end Go.Proofs.YtddhmfildfdbdaaGreat
