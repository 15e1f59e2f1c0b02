/-
  Texts of this claim that are laid as one: EnPur2, EnCdc, EnCdc2, EnFol, EnFolV.
-/
import Derived.Test.YtakafmejllilnaaGreatF11
import Derived.Test.YtakafmejllilnaaGreatF12
/-
 What is written,plainly: bytes,and whether it may be.
-/
namespace Go.Proofs.YtakafmejllilnaaGreat
def stepP (s:List Int × Int) (ok:Bool) (b:List Int):List Int × Int:=if s.2=0 then (if ok=true then (s.1++b,0) else ([],1)) else ([],s.2)
theorem stepP_trans (s:List Int × Int) (o1 o2:Bool) (b1 b2:List Int):stepP (stepP s o1 b1) o2 b2=stepP s (o1 && o2) (b1++b2):=by
 unfold stepP
 by_cases h:s.2=0
 ·rw [if_pos h,if_pos h]
  cases o1
  ·simp
  ·cases o2 <;> simp
 ·rw [if_neg h,if_neg h]
  simp [h]
def goodB (n:Int):Bool:=decide (0≤n∧n≤1099511627776)
def intsT (t:List UInt8):List Int:=strOf (str t)
def bT (t:List UInt8):List Int:=encNum t.length++intsT t
def okT (t:List UInt8):Bool:=decide (t.length≤255)
def bF (b:Bool):List Int:=[if b then 1 else 0]
theorem intsT_length (t:List UInt8):(intsT t).length=t.length:=len_str t
theorem pen_num (s:List Int × Int) (n:Int):penP.num s n=(n,stepP s (goodB n) (encNum n)):=by
 show (n,wrNum s.2 s.1 n)=_
 congr 1
 unfold wrNum stepP goodB
 by_cases h:s.2=0
 ·rw [if_pos h,if_pos h]
  by_cases h2:0≤n∧n≤1099511627776
  ·simp [h2]
  ·rw [if_neg h2,decide_eq_false h2];simp
 ·rw [if_neg h,if_neg h]
theorem pen_upTo (s:List Int × Int) (n t:Int):penP.upTo s n t=(if t < n then 0 else n,stepP s (goodB n && decide (n≤t)) (encNum n)):=by
 show (if t < n then _ else _)=_
 by_cases h:t < n
 ·rw [if_pos h,if_pos h,decide_eq_false (by omega)]
  congr 1
  unfold wrRefuse stepP
  by_cases h2:s.2=0
  ·rw [if_pos h2,if_pos h2];simp
  ·rw [if_neg h2,if_neg h2]
 ·rw [if_neg h,if_neg h,decide_eq_true (by omega),Bool.and_true]
  exact congrArg _ (congrArg Prod.snd (pen_num s n))
theorem pen_text (s:List Int × Int) (t:List UInt8):penP.text s t=(t,stepP s (okT t) (bT t)):=by
 show (t,if 255 < t.length then _ else _)=_
 congr 1
 by_cases h:255 < t.length
 ·rw [if_pos h,wrRun_failed (wrRefuse_ne s.2).2]
  unfold okT
  rw [decide_eq_false (by omega)]
  unfold stepP wrRefuse
  by_cases h2:s.2=0
  ·rw [if_pos h2,if_pos h2];simp
  ·rw [if_neg h2,if_neg h2]
 ·rw [if_neg h]
  unfold okT
  rw [decide_eq_true (by omega)]
  unfold stepP wrRun bT intsT
  rw [len_str]
  by_cases h2:s.2=0
  ·rw [if_pos h2,if_pos h2,if_pos (by omega)];simp
  ·rw [if_neg h2,if_neg h2]
theorem pen_flag (s:List Int × Int) (b:Bool):penP.flag s b=(b,stepP s true (bF b)):=by
 show (b,wrFlag s.2 s.1 b)=_
 congr 1
theorem pen_word (s:List Int × Int) (x:Int):penP.word s x=(x,stepP s true (hiB 8 x)):=by
 show (x,wrWord s.2 s.1 x)=_
 congr 1
def bC (c:Ch):List Int:=bT c.p++bF c.g++(if c.g=true then [] else hiB 8 c.d)
def namC (c:Ch):Ch:=⟨c.p,c.g,if c.g=true then 0 else c.d⟩
theorem pen_chg (s:List Int × Int) (c:Ch):chgP penP s c=(namC c,stepP s (okT c.p) (bC c)):=by
 unfold chgP namC bC
 rw [pen_text,pen_flag]
 obtain ⟨p,g,d⟩:=c
 cases g
 ·simp only [Bool.false_eq_true,if_false]
  rw [pen_word]
  simp only [stepP_trans,Bool.and_true,List.append_assoc]
 ·simp only [if_true,stepP_trans,Bool.and_true,List.append_nil]
theorem pen_map {α:Type}(one:List Int × Int→α→α × (List Int × Int)) (nam:α→α) (ok:α→Bool) (b:α→List Int) (h:∀ s x,one s x=(nam x,stepP s (ok x) (b x))) (s:List Int × Int) (L:List α) (hs:s.2≠0→s.1=[]) :
 mapP one s L=(L.map nam,stepP s (L.all ok) (L.flatMap b)):=by
 induction L generalizing s with
 | nil =>
   show ([],s)=_
   congr 1
   unfold stepP
   by_cases h2:s.2=0
   ·rw [if_pos h2];simp;exact Prod.ext rfl h2
   ·rw [if_neg h2];exact Prod.ext (hs h2) rfl
 | cons x L ih =>
   unfold mapP
   rw [h,ih]
   ·simp only [stepP_trans,List.map_cons,List.all_cons,List.flatMap_cons]
   ·intro h2
    unfold stepP at h2 ⊢
    split
    ·rename_i h3;rw [if_pos h3] at h2
     split
     ·rename_i h4;rw [if_pos h4] at h2;simp at h2
     ·rfl
    ·rfl
theorem stepP_nil (s:List Int × Int) (o:Bool) (b:List Int):(stepP s o b).2≠0→(stepP s o b).1=[]:=by
 intro h2
 unfold stepP at h2 ⊢
 split
 ·rename_i h3;rw [if_pos h3] at h2
  split
  ·rename_i h4;rw [if_pos h4] at h2;simp at h2
  ·rfl
 ·rfl
def bL {α:Type}(b:α→List Int) (most:Nat) (L:List α):List Int:=encNum L.length++(if L.length≤most then L.flatMap b else [])
def okL' {α:Type}(ok:α→Bool) (most:Nat) (L:List α):Bool:=decide (L.length≤most) && L.all ok
def namL {α:Type}(nam:α→α) (most:Nat) (L:List α):List α:=if L.length≤most then L.map nam else []
theorem pen_list {α:Type}(one:List Int × Int→α→α × (List Int × Int)) (nam:α→α) (ok:α→Bool) (b:α→List Int) (h:∀ s x,one s x=(nam x,stepP s (ok x) (b x))) (z:α) (s:List Int × Int) (L:List α) (most:Nat) (hm:most≤1000) :
 listP penP one z s L (most:Int)=(namL nam most L,stepP s (okL' ok most L) (bL b most L)):=by
 unfold listP namL okL' bL
 rw [pen_upTo]
 by_cases hl:L.length≤most
 ·have h1:¬ ((most:Int) < (L.length:Int)):=by omega
  have h2:goodB (L.length:Int)=true:=by unfold goodB;simp;omega
  simp only [if_neg h1,if_pos hl,h2,decide_eq_true hl,Int.toNat_natCast,padL_self]
  rw [pen_map one nam ok b h _ _ (stepP_nil _ _ _),stepP_trans]
  simp [hl]
 ·have h1:(most:Int) < (L.length:Int):=by omega
  have h3:decide ((L.length:Int)≤(most:Int))=false:=by simp;omega
  simp only [if_pos h1,if_neg hl,decide_eq_false hl,h3,Bool.and_false,Bool.false_and,Int.toNat_zero,padL_zero,mapP,List.append_nil]
def bCs (L:List Ch):List Int:=bL bC 64 L
def okCs (L:List Ch):Bool:=okL' (fun c=>okT c.p) 64 L
def namCs (L:List Ch):List Ch:=namL namC 64 L
theorem pen_chgs (s:List Int × Int) (L:List Ch):listP penP (chgP penP) ch0 s L 64=(namCs L,stepP s (okCs L) (bCs L)) :=
 pen_list (chgP penP) namC (fun c=>okT c.p) bC (fun s x=>pen_chg s x) ch0 s L 64 (by omega)
def bK (x:Com):List Int:=encNum x.r++encNum x.b++bT x.n++bCs x.c
def okKB (x:Com):Bool:=goodB x.r && goodB x.b && okT x.n && okCs x.c
def namK (x:Com):Com:=⟨x.r,x.b,x.n,namCs x.c⟩
theorem pen_com (s:List Int × Int) (x:Com):comP penP s x=(namK x,stepP s (okKB x) (bK x)):=by
 unfold comP comP1 namK okKB bK
 simp only [pen_num,pen_text,pen_chgs,stepP_trans,Bool.and_assoc,List.append_assoc]
def bKs (L:List Com):List Int:=bL bK 32 L
def okKs (L:List Com):Bool:=okL' okKB 32 L
def namKs (L:List Com):List Com:=namL namK 32 L
theorem pen_coms (s:List Int × Int) (L:List Com):listP penP (comP penP) com0 s L 32=(namKs L,stepP s (okKs L) (bKs L)) :=
 pen_list (comP penP) namK okKB bK (fun s x=>pen_com s x) com0 s L 32 (by omega)
def kR (r:Rq):Int:=if 7 < r.k then 0 else r.k
def kV (v:Vt):Int:=if 14 < v.c then 0 else v.c
def fR (r:Rq):List Int × Bool × Rq :=
 if kR r=0 then ([],true,⟨kR r,[],0,0,0,[],[],[],0,0,0⟩)
 else if kR r=1 then (bT r.n,okT r.n,⟨kR r,r.n,0,0,0,[],[],[],0,0,0⟩)
 else if kR r=2 then (encNum r.s++encNum r.q++encNum r.b++bT r.f++bCs r.c,goodB r.s && goodB r.q && goodB r.b && okT r.f && okCs r.c,⟨kR r,[],r.s,r.q,r.b,r.f,namCs r.c,[],0,0,0⟩)
 else if kR r=4 then (encNum r.s++encNum r.q++bT r.p,goodB r.s && goodB r.q && okT r.p,⟨kR r,[],r.s,r.q,0,[],[],r.p,0,0,0⟩)
 else if kR r=5 then (encNum r.s++encNum r.q++encNum r.fr++encNum r.mn,goodB r.s && goodB r.q && goodB r.fr && goodB r.mn,⟨kR r,[],r.s,r.q,0,[],[],[],r.fr,r.mn,0⟩)
 else if kR r=6∨kR r=7 then (encNum r.s++encNum r.q++encNum r.mb,goodB r.s && goodB r.q && goodB r.mb,⟨kR r,[],r.s,r.q,0,[],[],[],0,0,r.mb⟩)
 else (encNum r.s++encNum r.q,goodB r.s && goodB r.q,⟨kR r,[],r.s,r.q,0,[],[],[],0,0,0⟩)
def bR (r:Rq):List Int:=encNum r.k++(fR r).1
def okRB (r:Rq):Bool:=(goodB r.k && decide (r.k≤7)) && (fR r).2.1
theorem pen_req (s:List Int × Int) (r:Rq):reqP penP s r=((fR r).2.2,stepP s (okRB r) (bR r)):=by
 have hk:(penP.upTo s r.k 7).1=kR r:=by rw [pen_upTo];rfl
 unfold reqP reqK reqS reqA reqQ okRB bR fR
 rw [hk]
 simp only [pen_upTo,pen_num,pen_text,pen_chgs,stepP_trans,List.append_assoc,Bool.and_assoc]
 by_cases h0:kR r=0
 ·simp only [if_pos h0,Bool.and_true,List.append_nil]
 by_cases h1:kR r=1
 ·simp only [if_neg h0,if_pos h1]
 by_cases h2:kR r=2
 ·simp only [if_neg h0,if_neg h1,if_pos h2]
 by_cases h4:kR r=4
 ·simp only [if_neg h0,if_neg h1,if_neg h2,if_pos h4]
 by_cases h5:kR r=5
 ·simp only [if_neg h0,if_neg h1,if_neg h2,if_neg h4,if_pos h5]
 by_cases h6:kR r=6∨kR r=7
 ·simp only [if_neg h0,if_neg h1,if_neg h2,if_neg h4,if_neg h5,if_pos h6]
 ·simp only [if_neg h0,if_neg h1,if_neg h2,if_neg h4,if_neg h5,if_neg h6]
def fV (v:Vt):List Int × Bool × Vt :=
 if kV v=1 then (encNum v.s,goodB v.s,⟨kV v,v.s,0,[],0,[],0⟩)
 else if kV v=2∨kV v=4∨kV v=8 then (encNum v.r,goodB v.r,⟨kV v,0,v.r,[],0,[],0⟩)
 else if kV v=3 then (bT v.p++encNum v.r,okT v.p && goodB v.r,⟨kV v,0,v.r,v.p,0,[],0⟩)
 else if kV v=9 then (bT v.p++hiB 8 v.d++encNum v.r,okT v.p && goodB v.r,⟨kV v,0,v.r,v.p,v.d,[],0⟩)
 else if kV v=10 then (bT v.p,okT v.p,⟨kV v,0,0,v.p,0,[],0⟩)
 else if kV v=11 then (bKs v.k,okKs v.k,⟨kV v,0,0,[],0,namKs v.k,0⟩)
 else if kV v=12∨kV v=13∨kV v=14 then (encNum v.m,goodB v.m,⟨kV v,0,0,[],0,[],v.m⟩)
 else ([],true,⟨kV v,0,0,[],0,[],0⟩)
def bV (v:Vt):List Int:=encNum v.c++(fV v).1
def okVB (v:Vt):Bool:=(goodB v.c && decide (v.c≤14)) && (fV v).2.1
theorem pen_ver (s:List Int × Int) (v:Vt):verP penP s v=((fV v).2.2,stepP s (okVB v) (bV v)):=by
 have hk:(penP.upTo s v.c 14).1=kV v:=by rw [pen_upTo];rfl
 unfold verP verK verT okVB bV fV
 rw [hk]
 simp only [pen_upTo,pen_num,pen_text,pen_word,pen_coms,stepP_trans,List.append_assoc,Bool.and_assoc,Bool.true_and]
 by_cases h1:kV v=1
 ·simp only [if_pos h1]
 by_cases h2:kV v=2∨kV v=4∨kV v=8
 ·simp only [if_neg h1,if_pos h2]
 by_cases h3:kV v=3
 ·simp only [if_neg h1,if_neg h2,if_pos h3]
 by_cases h9:kV v=9
 ·simp only [if_neg h1,if_neg h2,if_neg h3,if_pos h9]
 by_cases h10:kV v=10
 ·simp only [if_neg h1,if_neg h2,if_neg h3,if_neg h9,if_pos h10]
 by_cases h11:kV v=11
 ·simp only [if_neg h1,if_neg h2,if_neg h3,if_neg h9,if_neg h10,if_pos h11]
 by_cases h12:kV v=12∨kV v=13∨kV v=14
 ·simp only [if_neg h1,if_neg h2,if_neg h3,if_neg h9,if_neg h10,if_neg h11,if_pos h12]
 ·simp only [if_neg h1,if_neg h2,if_neg h3,if_neg h9,if_neg h10,if_neg h11,if_neg h12,Bool.and_true,List.append_nil]
def mayR (r:Rq):Bool:=okRB r && decide ((fR r).2.2=r)
def mayV (v:Vt):Bool:=okVB v && decide ((fV v).2.2=v)
theorem stepP_ref (s:List Int × Int) (o:Bool) (b:List Int):wrRefuse (stepP s o b).2=stepP s false b:=by
 unfold stepP wrRefuse
 by_cases h:s.2=0
 ·rw [if_pos h,if_pos h]
  cases o <;> simp
 ·rw [if_neg h,if_neg h]
  simp [h]
theorem put_may (s:List Int × Int) (r:Rq):putS s r=stepP s (mayR r) (bR r):=by
 unfold putS mayR
 rw [pen_req]
 by_cases h:(fR r).2.2=r
 ·rw [if_pos h,decide_eq_true h,Bool.and_true]
 ·rw [if_neg h,decide_eq_false h,Bool.and_false]
  exact stepP_ref _ _ _
theorem toldS_may (s:List Int × Int) (v:Vt):toldS s v=stepP s (mayV v) (bV v):=by
 unfold toldS mayV
 rw [pen_ver]
 by_cases h:(fV v).2.2=v
 ·rw [if_pos h,decide_eq_true h,Bool.and_true]
 ·rw [if_neg h,decide_eq_false h,Bool.and_false]
  exact stepP_ref _ _ _
abbrev Rdr (α:Type):=List Int × Int→α × (List Int × Int)
structure Cdc {α:Type}(rd:Rdr α) (ok:α→Prop) (b:α→List Int):Prop where
 fwd:∀ x t,ok x→rd (b x++t,0)=(x,(t,0))
 bwd:∀ l x t,Oct l→rd (l,0)=(x,(t,0))→ok x∧l=b x++t
 bad:∀ e,e≠0→(rd ([],e)).2=([],e)
 nil:∀ l,(rd (l,0)).2.2≠0→(rd (l,0)).2.1=[]
def seqR {α β:Type}(A:Rdr α) (B:α→Rdr β):Rdr (α × β):=fun s=>(((A s).1,(B (A s).1 (A s).2).1),(B (A s).1 (A s).2).2)
def mapRd {α β:Type}(f:α→β) (A:Rdr α):Rdr β:=fun s=>(f (A s).1,(A s).2)
def retR {α:Type}(x:α):Rdr α:=fun s=>(x,s)
theorem Oct.right {a b:List Int}(h:Oct (a++b)):Oct b:=fun x hx=>h x (List.mem_append_right _ hx)
theorem Cdc.ret {α:Type}(x:α):Cdc (retR x) (fun y=>y=x) (fun _=>[]) :=
 ⟨fun y t h=>by subst h;rfl,fun l y t _ h=>by cases h;exact ⟨rfl,rfl⟩,fun e _=>rfl,fun l h=>absurd rfl h⟩
theorem Cdc.seq {α β:Type}{A:Rdr α}{B:α→Rdr β}{okA:α→Prop}{okB:α→β→Prop}{bA:α→List Int}{bB:α→β→List Int}(hA:Cdc A okA bA) (hB:∀ a,Cdc (B a) (okB a) (bB a)) :
 Cdc (seqR A B) (fun p=>okA p.1∧okB p.1 p.2) (fun p=>bA p.1++bB p.1 p.2):=by
 refine ⟨fun x t h=>?_,fun l x t ho h=>?_,fun e he=>?_,fun l h=>?_⟩
 ·have h1:=hA.fwd x.1 (bB x.1 x.2++t) h.1
  show (((A _).1,_),_)=_
  rw [List.append_assoc,h1,(hB x.1).fwd x.2 t h.2]
 ·have hx:x=((A (l,0)).1,(B (A (l,0)).1 (A (l,0)).2).1):=(congrArg Prod.fst h).symm
  have ht:(B (A (l,0)).1 (A (l,0)).2).2=(t,0):=congrArg Prod.snd h
  by_cases he:(A (l,0)).2.2=0
  ·have e1:A (l,0)=((A (l,0)).1,((A (l,0)).2.1,0)):=Prod.ext rfl (Prod.ext rfl he)
   obtain ⟨h1,h2⟩:=hA.bwd l _ _ ho e1
   have ho2:Oct (A (l,0)).2.1:=by rw [h2] at ho;exact ho.right
   have e2:(A (l,0)).2=((A (l,0)).2.1,0):=Prod.ext rfl he
   have e3:B (A (l,0)).1 ((A (l,0)).2.1,0)=((B (A (l,0)).1 (A (l,0)).2).1,(t,0)):=by rw [← e2];exact Prod.ext rfl ht
   obtain ⟨h3,h4⟩:=(hB _).bwd _ _ _ ho2 e3
   rw [hx]
   refine ⟨⟨h1,h3⟩,?_⟩
   rw [List.append_assoc,← h4]
   exact h2
  ·have e2:(A (l,0)).2=([],(A (l,0)).2.2):=Prod.ext (hA.nil l he) rfl
   rw [e2,(hB _).bad _ he] at ht
   exact absurd (congrArg Prod.snd ht) he
 ·show (B _ (A ([],e)).2).2=_
  rw [hA.bad e he]
  exact (hB _).bad e he
 ·show (B (A (l,0)).1 (A (l,0)).2).2.1=[]
  have h':(B (A (l,0)).1 (A (l,0)).2).2.2≠0:=h
  by_cases he:(A (l,0)).2.2=0
  ·have e2:(A (l,0)).2=((A (l,0)).2.1,0):=Prod.ext rfl he
   rw [e2] at h' ⊢
   exact (hB _).nil _ h'
  ·have e2:(A (l,0)).2=([],(A (l,0)).2.2):=Prod.ext (hA.nil l he) rfl
   rw [e2,(hB _).bad _ he]
theorem Cdc.map {α β:Type}{A:Rdr α}{ok:α→Prop}{b:α→List Int}(hA:Cdc A ok b) (f:α→β) (g:β→α) (hg:∀ a,ok a→g (f a)=a) :
 Cdc (mapRd f A) (fun y=>ok (g y)∧f (g y)=y) (fun y=>b (g y)):=by
 refine ⟨fun y t h=>?_,fun l y t ho h=>?_,fun e he=>hA.bad e he,fun l h=>hA.nil l h⟩
 ·show (f (A _).1,(A _).2)=_
  rw [hA.fwd (g y) t h.1]
  simp [h.2]
 ·have hy:f (A (l,0)).1=y:=congrArg Prod.fst h
  have ht:(A (l,0)).2=(t,0):=congrArg Prod.snd h
  obtain ⟨h1,h2⟩:=hA.bwd l (A (l,0)).1 t ho (Prod.ext rfl ht)
  have h3:=hg _ h1
  rw [hy] at h3
  rw [h3]
  exact ⟨⟨h1,hy⟩,h2⟩
theorem Cdc.imp {α:Type}{A A':Rdr α}{ok ok':α→Prop}{b b':α→List Int}(h:Cdc A ok b) (hA:∀ s,A' s=A s) (ho:∀ x,ok' x↔ok x) (hb:∀ x,ok x→b' x=b x):Cdc A' ok' b':=by
 refine ⟨fun x t hx=>?_,fun l x t hl hx=>?_,fun e he=>?_,fun l hl=>?_⟩
 ·rw [hA,hb x ((ho x).1 hx)];exact h.fwd x t ((ho x).1 hx)
 ·rw [hA] at hx
  obtain ⟨h1,h2⟩:=h.bwd l x t hl hx
  exact ⟨(ho x).2 h1,by rw [hb x h1];exact h2⟩
 ·rw [hA];exact h.bad e he
 ·rw [hA] at hl ⊢;exact h.nil l hl
def numR:Rdr Int:=fun s=>eyeP.num s 0
def upR (t:Int):Rdr Int:=fun s=>eyeP.upTo s 0 t
def textR:Rdr (List UInt8):=fun s=>eyeP.text s []
def flagR:Rdr Bool:=fun s=>eyeP.flag s false
def wordR:Rdr Int:=fun s=>eyeP.word s 0
theorem good_iff (n:Int):goodB n=true↔0≤n∧n≤1099511627776:=by unfold goodB;simp
theorem rdNumE_ok {l rest:List Int}{x:Int}(ho:Oct l) (h:rdNumE 0 l=(0,x,rest)):(0≤x∧x≤1099511627776)∧l=encNum x++rest:=by
 unfold rdNumE at h
 rw [if_pos rfl] at h
 obtain ⟨h1,h2,h3⟩:=rdNum_one x l rest ho h
 exact ⟨⟨h1,h2⟩,h3⟩
theorem rdNumE_enc (n:Int) (t:List Int) (h:goodB n=true):rdNumE 0 (encNum n++t)=(0,n,t):=by
 have:=(good_iff n).1 h
 unfold rdNumE;rw [if_pos rfl];exact rdNum_enc n t this.1 this.2
theorem rdNumE_bad (e:Int) (he:e≠0) (l:List Int):rdNumE e l=(e,0,[]):=by unfold rdNumE;rw [if_neg he]
theorem rdNumE_nil (l:List Int) (h:(rdNumE 0 l).1≠0):(rdNumE 0 l).2=(0,[]):=by
 unfold rdNumE at h ⊢
 rw [if_pos rfl] at h ⊢
 rcases rdN_shape 6 0 0 l with ⟨h1,_⟩ | ⟨_,h1⟩
 ·exact absurd h1 h
 ·exact h1
theorem cdc_num:Cdc numR (fun n=>goodB n=true) encNum:=by
 refine ⟨fun x t h=>?_,fun l x t ho h=>?_,fun e he=>?_,fun l h=>?_⟩
 ·show ((rdNumE 0 (encNum x++t)).2.1,((rdNumE 0 (encNum x++t)).2.2,(rdNumE 0 (encNum x++t)).1))=_
  rw [rdNumE_enc x t h]
 ·have h':((rdNumE 0 l).2.1,((rdNumE 0 l).2.2,(rdNumE 0 l).1))=(x,(t,0)):=h
  have e:rdNumE 0 l=(0,x,t):=by
   simp only [Prod.mk.injEq] at h'
   exact Prod.ext h'.2.2 (Prod.ext h'.1 h'.2.1)
  obtain ⟨h1,h2⟩:=rdNumE_ok ho e
  exact ⟨(good_iff x).2 h1,h2⟩
 ·show ((rdNumE e []).2.2,(rdNumE e []).1)=_
  rw [rdNumE_bad e he]
 ·show (rdNumE 0 l).2.2=[]
  rw [rdNumE_nil l h]
theorem cdc_up (t:Int) (ht:0≤t):Cdc (upR t) (fun n=>goodB n=true∧n≤t) encNum:=by
 have hU:∀ s,upR t s=if t < (rdNumE s.2 s.1).2.1 then (0,([],rdRefE (rdNumE s.2 s.1).1)) else ((rdNumE s.2 s.1).2.1,((rdNumE s.2 s.1).2.2,(rdNumE s.2 s.1).1)):=fun _=>rfl
 refine ⟨fun x u h=>?_,fun l x u ho h=>?_,fun e he=>?_,fun l h=>?_⟩
 ·rw [hU]
  show (if t < (rdNumE 0 (encNum x++u)).2.1 then _ else _)=_
  rw [rdNumE_enc x u h.1,if_neg (by show ¬ t < x;omega)]
 ·rw [hU] at h
  have h':(if t < (rdNumE 0 l).2.1 then (0,([],rdRefE (rdNumE 0 l).1)) else ((rdNumE 0 l).2.1,((rdNumE 0 l).2.2,(rdNumE 0 l).1)))=((x,(u,0)):Int × (List Int × Int)):=h
  by_cases hc:t < (rdNumE 0 l).2.1
  ·rw [if_pos hc] at h'
   simp only [Prod.mk.injEq] at h'
   exfalso
   have:=h'.2.2
   unfold rdRefE at this
   split at this
   ·simp at this
   ·contradiction
  ·rw [if_neg hc] at h'
   simp only [Prod.mk.injEq] at h'
   have e:rdNumE 0 l=(0,x,u):=Prod.ext h'.2.2 (Prod.ext h'.1 h'.2.1)
   obtain ⟨h1,h2⟩:=rdNumE_ok ho e
   exact ⟨⟨(good_iff x).2 h1,by rw [h'.1] at hc;omega⟩,h2⟩
 ·have hU0:upR t ([],e)=if t < (rdNumE e []).2.1 then (0,([],rdRefE (rdNumE e []).1)) else ((rdNumE e []).2.1,((rdNumE e []).2.2,(rdNumE e []).1)):=hU ([],e)
  rw [hU0,rdNumE_bad e he,if_neg (by show ¬ t < 0;omega)]
 ·have hU0:upR t (l,0)=if t < (rdNumE 0 l).2.1 then (0,([],rdRefE (rdNumE 0 l).1)) else ((rdNumE 0 l).2.1,((rdNumE 0 l).2.2,(rdNumE 0 l).1)):=hU (l,0)
  rw [hU0] at h ⊢
  by_cases hc:t < (rdNumE 0 l).2.1
  ·rw [if_pos hc]
  ·rw [if_neg hc] at h ⊢
   show (rdNumE 0 l).2.2=[]
   rw [rdNumE_nil l h]
theorem u8s_ints (t:List UInt8):u8s (intsT t)=t:=by
 have h:=strB_strOf (str t)
 rw [strB_u8s] at h
 exact str_inj h
theorem ints_u8s {d:List Int}(h:Oct d):intsT (u8s d)=d:=by
 unfold intsT strOf u8s
 rw [str_data,List.map_map]
 conv=>rhs;rw [← List.map_id d]
 apply List.map_congr_left
 intro x hx
 have:=h x hx
 simp
 omega
theorem rdRunE_cases (l:List Int) (ho:Oct l):(∃ d rest,rdRunE 0 255 l=(0,d,rest)∧d.length≤255∧l=encNum d.length++d++rest)∨(∃ e,e≠0∧rdRunE 0 255 l=(e,[],[])):=by
 obtain ⟨q,hq⟩:∃ q,q=rdNumE 0 l:=⟨_,rfl⟩
 obtain ⟨e1,x,rest⟩:=q
 have hr:=rdRunE_num (most:=255) hq.symm
 by_cases he:e1=0
 ·subst he
  obtain ⟨h1,h2⟩:=rdNumE_ok ho hq.symm
  by_cases h3:255 < x
  ·right
   exact ⟨3,by decide,by rw [hr,if_neg (by simp),if_pos h3]⟩
  ·by_cases h4:(rest.length:Int) < x
   ·right
    exact ⟨2,by decide,by rw [hr,if_neg (by simp),if_neg h3,if_pos h4]⟩
   ·left
    have hl:(rest.take x.toNat).length=x.toNat:=by rw [List.length_take];omega
    refine ⟨rest.take x.toNat,rest.drop x.toNat,by rw [hr,if_neg (by simp),if_neg h3,if_neg h4],by omega,?_⟩
    rw [hl,List.append_assoc,List.take_append_drop,show ((x.toNat:Nat):Int)=x by omega]
    exact h2
 ·right
  exact ⟨e1,he,by rw [hr,if_pos he]⟩
theorem cdc_text:Cdc textR (fun t=>okT t=true) bT:=by
 have hT:∀ s,textR s=(u8s (rdRunE s.2 255 s.1).2.1,((rdRunE s.2 255 s.1).2.2,(rdRunE s.2 255 s.1).1)):=fun _=>rfl
 refine ⟨fun x u h=>?_,fun l x u ho h=>?_,fun e he=>?_,fun l h=>?_⟩
 ·have hx:x.length≤255:=by unfold okT at h;simpa using h
  rw [hT]
  show (u8s (rdRunE 0 255 (bT x++u)).2.1,((rdRunE 0 255 (bT x++u)).2.2,(rdRunE 0 255 (bT x++u)).1))=_
  have hl:=intsT_length x
  have hr:=rdRunE_num (most:=255) (rdNumE_enc (x.length:Int) (intsT x++u) (by unfold goodB;simp;omega))
  unfold bT
  rw [List.append_assoc,hr,if_neg (by simp),if_neg (by omega),if_neg (by simp;omega)]
  have e1:(intsT x++u).take (x.length:Int).toNat=intsT x:=by rw [Int.toNat_natCast,← hl];simp
  have e2:(intsT x++u).drop (x.length:Int).toNat=u:=by rw [Int.toNat_natCast,← hl];simp
  simp only [e1,e2,u8s_ints]
 ·rw [hT] at h
  rcases rdRunE_cases l ho with ⟨d,rest,h1,h2,h3⟩ | ⟨e,he,h1⟩
  ·have h':(u8s (rdRunE 0 255 l).2.1,((rdRunE 0 255 l).2.2,(rdRunE 0 255 l).1))=(x,(u,0)):=h
   rw [h1] at h'
   simp only [Prod.mk.injEq] at h'
   have hod:Oct d:=by rw [h3] at ho;intro y hy;exact ho y (by simp [hy])
   have hxl:x.length=d.length:=by rw [← h'.1];simp [u8s]
   refine ⟨by unfold okT;simp;omega,?_⟩
   unfold bT
   rw [hxl,← h'.1,ints_u8s hod,← h'.2.1]
   exact h3
  ·have h':(u8s (rdRunE 0 255 l).2.1,((rdRunE 0 255 l).2.2,(rdRunE 0 255 l).1))=(x,(u,0)):=h
   rw [h1] at h'
   simp only [Prod.mk.injEq] at h'
   exact absurd h'.2.2 he
 ·rw [hT]
  show ((rdRunE e 255 []).2.2,(rdRunE e 255 []).1)=_
  unfold rdRunE;rw [if_neg he]
 ·rw [hT] at h ⊢
  show (rdRunE 0 255 l).2.2=[]
  have h':(rdRunE 0 255 l).1≠0:=h
  unfold rdRunE rdRun at h' ⊢
  rw [if_pos rfl] at h' ⊢
  split
  ·rfl
  ·rename_i h1
   rw [if_neg h1] at h'
   split
   ·rfl
   ·rename_i h2
    rw [if_neg h2] at h'
    split
    ·rfl
    ·rename_i h3
     rw [if_neg h3] at h'
     exact absurd rfl h'
theorem rdFlag_cons (d:Int) (l:List Int):rdFlag (d :: l)=if 1 < d then (4,false,[]) else (0,d==1,l):=rfl
theorem cdc_flag:Cdc flagR (fun _=>True) bF:=by
 have hF:∀ s,flagR s=((rdFlagE s.2 s.1).2.1,((rdFlagE s.2 s.1).2.2,(rdFlagE s.2 s.1).1)):=fun _=>rfl
 refine ⟨fun x u _=>?_,fun l x u ho h=>?_,fun e he=>?_,fun l h=>?_⟩
 ·rw [hF]
  cases x <;> simp [rdFlagE,rdFlag,bF]
 ·rw [hF] at h
  have h':((rdFlagE 0 l).2.1,((rdFlagE 0 l).2.2,(rdFlagE 0 l).1))=(x,(u,0)):=h
  refine ⟨trivial,?_⟩
  unfold rdFlagE at h'
  rw [if_pos rfl] at h'
  cases l with
  | nil=>simp [rdFlag] at h'
  | cons d l =>
    have hd:=ho.head
    rw [rdFlag_cons] at h'
    by_cases hd1:1 < d
    ·rw [if_pos hd1] at h';simp at h'
    ·rw [if_neg hd1] at h'
     simp only [Prod.mk.injEq] at h'
     obtain ⟨h1,h2,_⟩:=h'
     subst h2
     have:d=0∨d=1:=by omega
     rcases this with rfl | rfl
     ·have:x=false:=by rw [← h1];decide
      subst this;rfl
     ·have:x=true:=by rw [← h1];decide
      subst this;rfl
 ·rw [hF]
  show ((rdFlagE e []).2.2,(rdFlagE e []).1)=_
  unfold rdFlagE;rw [if_neg he]
 ·rw [hF] at h ⊢
  show (rdFlagE 0 l).2.2=[]
  have h':(rdFlagE 0 l).1≠0:=h
  unfold rdFlagE at h' ⊢
  rw [if_pos rfl] at h' ⊢
  cases l with
  | nil=>rfl
  | cons d l =>
    rw [rdFlag_cons] at h' ⊢
    split
    ·rfl
    ·rename_i h1;rw [if_neg h1] at h';exact absurd rfl h'
theorem hiB8 (x:Int):hiB 8 x=[x / 72057594037927936 % 256,x / 281474976710656 % 256,x / 1099511627776 % 256,x / 4294967296 % 256,x / 16777216 % 256,x / 65536 % 256,x / 256 % 256,x % 256]:=by
 simp [hiB,List.range,List.range.loop]
theorem rdHi_hiB8 (x:Int) (h0:0≤x) (h1:x≤18446744073709551615):rdHi (hiB 8 x)=x:=by
 rw [hiB8]
 simp only [rdHi,List.foldl_cons,List.foldl_nil]
 omega
theorem hiB8_rdHi (l:List Int) (h:l.length=8) (ho:Oct l):(0≤rdHi l∧rdHi l≤18446744073709551615)∧hiB 8 (rdHi l)=l:=by
 match l,h with
 | [a,b,c,d,e,f,g,i],_ =>
   have ha:=ho a (by simp);have hb:=ho b (by simp);have hc:=ho c (by simp);have hd:=ho d (by simp)
   have he:=ho e (by simp);have hf:=ho f (by simp);have hg:=ho g (by simp);have hi:=ho i (by simp)
   have er:rdHi [a,b,c,d,e,f,g,i]=a*72057594037927936+b*281474976710656+c*1099511627776+d*4294967296+e*16777216+f*65536+g*256+i:=by
    simp only [rdHi,List.foldl_cons,List.foldl_nil]
    omega
   rw [er,hiB8]
   refine ⟨by omega,?_⟩
   simp only [List.cons.injEq,and_true]
   omega
theorem cdc_word:Cdc wordR (fun x=>0≤x∧x≤18446744073709551615) (hiB 8):=by
 have hW:∀ s,wordR s=((rdWordE s.2 s.1).2.1,((rdWordE s.2 s.1).2.2,(rdWordE s.2 s.1).1)):=fun _=>rfl
 refine ⟨fun x u hx=>?_,fun l x u ho h=>?_,fun e he=>?_,fun l h=>?_⟩
 ·rw [hW]
  have h8:=hiB_length 8 x
  have e:rdWordE 0 (hiB 8 x++u)=(0,x,u):=by
   unfold rdWordE rdWord
   rw [if_pos rfl,if_neg (by simp;omega),List.take_append_of_le_length (by omega),List.drop_append_of_le_length (by omega),List.take_of_length_le (by omega),List.drop_eq_nil_of_le (by omega),rdHi_hiB8 x hx.1 hx.2]
   rfl
  simp only [e]
 ·rw [hW] at h
  have h':((rdWordE 0 l).2.1,((rdWordE 0 l).2.2,(rdWordE 0 l).1))=(x,(u,0)):=h
  unfold rdWordE rdWord at h'
  rw [if_pos rfl] at h'
  split at h'
  ·simp at h'
  ·rename_i h8
   simp only [Prod.mk.injEq] at h'
   have hl:(l.take 8).length=8:=by rw [List.length_take];omega
   obtain ⟨h1,h2⟩:=hiB8_rdHi (l.take 8) hl (ho.take 8)
   rw [h'.1] at h1 h2
   refine ⟨h1,?_⟩
   rw [h2,← h'.2.1,List.take_append_drop]
 ·rw [hW]
  show ((rdWordE e []).2.2,(rdWordE e []).1)=_
  unfold rdWordE;rw [if_neg he]
 ·rw [hW] at h ⊢
  show (rdWordE 0 l).2.2=[]
  have h':(rdWordE 0 l).1≠0:=h
  unfold rdWordE rdWord at h' ⊢
  rw [if_pos rfl] at h' ⊢
  split
  ·rfl
  ·rename_i h8;rw [if_neg h8] at h';exact absurd rfl h'
def okChg (c:Ch):Prop:=okT c.p=true∧(if c.g=true then c.d=0 else 0≤c.d∧c.d≤18446744073709551615)
def chgR:Rdr Ch:=fun s=>chgP eyeP s ch0
theorem cdc_chg:Cdc chgR okChg bC:=by
 have h1:∀ g:Bool,Cdc (if g=true then retR (0:Int) else wordR) (fun d=>if g=true then d=0 else 0≤d∧d≤18446744073709551615) (fun d=>if g=true then [] else hiB 8 d):=fun g=>by
  cases g
  ·exact cdc_word.imp (fun _=>rfl) (fun x=>Iff.rfl) (fun x _=>rfl)
  ·exact (Cdc.ret (0:Int)).imp (fun _=>rfl) (fun x=>Iff.rfl) (fun x _=>rfl)
 have h:=(cdc_text.seq (fun _=>cdc_flag.seq h1)).map (fun p=>(⟨p.1,p.2.1,p.2.2⟩:Ch)) (fun c=>(c.p,(c.g,c.d))) (fun a _=>rfl)
 refine h.imp (fun s=>?_) (fun c=>?_) (fun c _=>?_)
 ·show chgP eyeP s ch0=_
  unfold chgP
  show (if (flagR (textR s).2).1=true then _ else _)=_
  cases hf:(flagR (textR s).2).1
  ·simp only [Bool.false_eq_true,if_false]
   unfold mapRd seqR
   simp only [hf,Bool.false_eq_true,if_false]
   rfl
  ·simp only [if_true]
   unfold mapRd seqR
   simp only [hf,if_true]
   rfl
 ·unfold okChg
  constructor
  ·exact fun ⟨h1,h2⟩=>⟨⟨h1,trivial,h2⟩,rfl⟩
  ·exact fun ⟨⟨h1,_,h2⟩,_⟩=>⟨h1,h2⟩
 ·unfold bC
  rw [List.append_assoc]
def repR {α:Type}(one:Rdr α):Nat→Rdr (List α)
 | 0=>retR []
 | n+1=>mapRd (fun p=>p.1 :: p.2) (seqR one (fun _=>repR one n))
theorem rep_map {α:Type}(one:List Int × Int→α→α × (List Int × Int)) (z:α) (n:Nat) (s:List Int × Int):mapP one s (List.replicate n z)=repR (fun s=>one s z) n s:=by
 induction n generalizing s with
 | zero=>rfl
 | succ n ih =>
   rw [List.replicate_succ]
   unfold mapP
   rw [ih]
   rfl
theorem cdc_rep {α:Type}{one:Rdr α}{ok:α→Prop}{b:α→List Int}(h:Cdc one ok b) (z:α) (n:Nat):Cdc (repR one n) (fun L=>L.length=n∧∀ x∈L,ok x) (fun L=>L.flatMap b):=by
 induction n with
 | zero =>
   refine (Cdc.ret ([]:List α)).imp (fun _=>rfl) (fun L=>?_) (fun L h=>by subst h;rfl)
   constructor
   ·exact fun ⟨h1,_⟩=>List.eq_nil_of_length_eq_zero h1
   ·intro h;subst h;exact ⟨rfl,by simp⟩
 | succ n ih =>
   have h2:=(h.seq (fun _=>ih)).map (fun p=>p.1 :: p.2) (fun L=>(L.headD z,L.tail)) (fun a _=>rfl)
   refine h2.imp (fun _=>rfl) (fun L=>?_) (fun L hL=>?_)
   ·constructor
    ·intro ⟨h3,h4⟩
     match L,h3 with
     | x :: L,h3 =>
       exact ⟨⟨h4 x (by simp),by simpa using h3,fun y hy=>h4 y (by simp at hy ⊢;exact .inr hy)⟩,rfl⟩
    ·intro ⟨⟨h3,h4,h5⟩,h6⟩
     match L,h6 with
     | x :: L,_ =>
       refine ⟨by simpa using h4,fun y hy=>?_⟩
       rcases List.mem_cons.1 hy with rfl | hy
       ·exact h3
       ·exact h5 y hy
   ·obtain ⟨_,h6⟩:=hL
    match L,h6 with
    | x :: L,_=>rfl
theorem cdc_list {α:Type}{one:List Int × Int→α→α × (List Int × Int)}{z:α}{ok:α→Prop}{b:α→List Int}(h:Cdc (fun s=>one s z) ok b) (most:Nat) (hm:most≤1000) :
 Cdc (fun s=>listP eyeP one z s [] (most:Int)) (fun L=>L.length≤most∧∀ x∈L,ok x) (fun L=>encNum L.length++L.flatMap b):=by
 have h2:=((cdc_up (most:Int) (by omega)).seq (fun n=>cdc_rep h z n.toNat)).map (fun p=>p.2) (fun L=>((L.length:Int),L)) (fun a ha=>by
  obtain ⟨⟨h1,_⟩,h3,_⟩:=ha
  have:=(good_iff a.1).1 h1
  refine Prod.ext ?_ rfl
  show (a.2.length:Int)=a.1
  omega)
 refine h2.imp (fun s=>?_) (fun L=>?_) (fun L _=>rfl)
 ·show listP eyeP one z s [] (most:Int)=_
  unfold listP
  rw [padL_nil,rep_map]
  rfl
 ·constructor
  ·intro ⟨h3,h4⟩
   exact ⟨⟨⟨(good_iff _).2 (by omega),by show (L.length:Int)≤_;omega⟩,by show L.length=(L.length:Int).toNat;omega,h4⟩,rfl⟩
  ·intro ⟨⟨⟨_,h3⟩,_,h4⟩,_⟩
   exact ⟨by have h3':(L.length:Int)≤(most:Int):=h3;omega,h4⟩
def okChgs (L:List Ch):Prop:=L.length≤64∧∀ c∈L,okChg c
def chgsR:Rdr (List Ch):=fun s=>listP eyeP (chgP eyeP) ch0 s [] 64
theorem cdc_chgs:Cdc chgsR okChgs bCs:=by
 refine (cdc_list (one:=chgP eyeP) (z:=ch0) cdc_chg 64 (by omega)).imp (fun _=>rfl) (fun _=>Iff.rfl) (fun L h=>?_)
 unfold bCs bL
 rw [if_pos h.1]
def okCom (x:Com):Prop:=goodB x.r=true∧goodB x.b=true∧okT x.n=true∧okChgs x.c
def comR:Rdr Com:=fun s=>comP eyeP s com0
theorem cdc_com:Cdc comR okCom bK:=by
 have h:=(cdc_num.seq (fun _=>cdc_num.seq (fun _=>cdc_text.seq (fun _=>cdc_chgs)))).map (fun p=>(⟨p.1,p.2.1,p.2.2.1,p.2.2.2⟩:Com)) (fun x=>(x.r,(x.b,(x.n,x.c)))) (fun a _=>rfl)
 refine h.imp (fun s=>rfl) (fun x=>?_) (fun x _=>?_)
 ·constructor
  ·exact fun h=>⟨h,rfl⟩
  ·exact fun h=>h.1
 ·unfold bK
  simp only [List.append_assoc]
def okComs (L:List Com):Prop:=L.length≤32∧∀ x∈L,okCom x
def comsR:Rdr (List Com):=fun s=>listP eyeP (comP eyeP) com0 s [] 32
theorem cdc_coms:Cdc comsR okComs bKs:=by
 refine (cdc_list (one:=comP eyeP) (z:=com0) cdc_com 32 (by omega)).imp (fun _=>rfl) (fun _=>Iff.rfl) (fun L h=>?_)
 unfold bKs bL
 rw [if_pos h.1]
def rdF (k:Int):Rdr Rq :=
 if k=0 then retR ⟨k,[],0,0,0,[],[],[],0,0,0⟩
 else if k=1 then mapRd (fun n=>⟨k,n,0,0,0,[],[],[],0,0,0⟩) textR
 else if k=2 then mapRd (fun p=>⟨k,[],p.1,p.2.1,p.2.2.1,p.2.2.2.1,p.2.2.2.2,[],0,0,0⟩) (seqR numR fun _=>seqR numR fun _=>seqR numR fun _=>seqR textR fun _=>chgsR)
 else if k=4 then mapRd (fun p=>⟨k,[],p.1,p.2.1,0,[],[],p.2.2,0,0,0⟩) (seqR numR fun _=>seqR numR fun _=>textR)
 else if k=5 then mapRd (fun p=>⟨k,[],p.1,p.2.1,0,[],[],[],p.2.2.1,p.2.2.2,0⟩) (seqR numR fun _=>seqR numR fun _=>seqR numR fun _=>numR)
 else if k=6∨k=7 then mapRd (fun p=>⟨k,[],p.1,p.2.1,0,[],[],[],0,0,p.2.2⟩) (seqR numR fun _=>seqR numR fun _=>numR)
 else mapRd (fun p=>⟨k,[],p.1,p.2,0,[],[],[],0,0,0⟩) (seqR numR fun _=>numR)
def bF' (k:Int) (r:Rq):List Int :=
 if k=0 then [] else if k=1 then bT r.n else if k=2 then encNum r.s++(encNum r.q++(encNum r.b++(bT r.f++bCs r.c)))
 else if k=4 then encNum r.s++(encNum r.q++bT r.p) else if k=5 then encNum r.s++(encNum r.q++(encNum r.fr++encNum r.mn))
 else if k=6∨k=7 then encNum r.s++(encNum r.q++encNum r.mb) else encNum r.s++encNum r.q
def okF' (k:Int) (r:Rq):Prop :=
 if k=0 then r=⟨k,[],0,0,0,[],[],[],0,0,0⟩
 else if k=1 then okT r.n=true∧(⟨k,r.n,0,0,0,[],[],[],0,0,0⟩:Rq)=r
 else if k=2 then (goodB r.s=true∧goodB r.q=true∧goodB r.b=true∧okT r.f=true∧okChgs r.c)∧(⟨k,[],r.s,r.q,r.b,r.f,r.c,[],0,0,0⟩:Rq)=r
 else if k=4 then (goodB r.s=true∧goodB r.q=true∧okT r.p=true)∧(⟨k,[],r.s,r.q,0,[],[],r.p,0,0,0⟩:Rq)=r
 else if k=5 then (goodB r.s=true∧goodB r.q=true∧goodB r.fr=true∧goodB r.mn=true)∧(⟨k,[],r.s,r.q,0,[],[],[],r.fr,r.mn,0⟩:Rq)=r
 else if k=6∨k=7 then (goodB r.s=true∧goodB r.q=true∧goodB r.mb=true)∧(⟨k,[],r.s,r.q,0,[],[],[],0,0,r.mb⟩:Rq)=r
 else (goodB r.s=true∧goodB r.q=true)∧(⟨k,[],r.s,r.q,0,[],[],[],0,0,0⟩:Rq)=r
theorem cdc_F (k:Int):Cdc (rdF k) (okF' k) (bF' k):=by
 unfold rdF okF' bF'
 by_cases h0:k=0
 ·simp only [if_pos h0]
  exact Cdc.ret _
 by_cases h1:k=1
 ·simp only [if_neg h0,if_pos h1]
  exact cdc_text.map _ (fun r:Rq=>r.n) (fun a _=>rfl)
 by_cases h2:k=2
 ·simp only [if_neg h0,if_neg h1,if_pos h2]
  exact (cdc_num.seq (fun _=>cdc_num.seq (fun _=>cdc_num.seq (fun _=>cdc_text.seq (fun _=>cdc_chgs))))).map _ (fun r:Rq=>(r.s,(r.q,(r.b,(r.f,r.c))))) (fun a _=>rfl)
 by_cases h4:k=4
 ·simp only [if_neg h0,if_neg h1,if_neg h2,if_pos h4]
  exact (cdc_num.seq (fun _=>cdc_num.seq (fun _=>cdc_text))).map _ (fun r:Rq=>(r.s,(r.q,r.p))) (fun a _=>rfl)
 by_cases h5:k=5
 ·simp only [if_neg h0,if_neg h1,if_neg h2,if_neg h4,if_pos h5]
  exact (cdc_num.seq (fun _=>cdc_num.seq (fun _=>cdc_num.seq (fun _=>cdc_num)))).map _ (fun r:Rq=>(r.s,(r.q,(r.fr,r.mn)))) (fun a _=>rfl)
 by_cases h6:k=6∨k=7
 ·simp only [if_neg h0,if_neg h1,if_neg h2,if_neg h4,if_neg h5,if_pos h6]
  exact (cdc_num.seq (fun _=>cdc_num.seq (fun _=>cdc_num))).map _ (fun r:Rq=>(r.s,(r.q,r.mb))) (fun a _=>rfl)
 ·simp only [if_neg h0,if_neg h1,if_neg h2,if_neg h4,if_neg h5,if_neg h6]
  exact (cdc_num.seq (fun _=>cdc_num)).map _ (fun r:Rq=>(r.s,r.q)) (fun a _=>rfl)
theorem okF_k {k:Int}{r:Rq}(h:okF' k r):r.k=k:=by
 unfold okF' at h
 split at h
 ·rw [h]
 all_goals (repeat' split at h)
 all_goals (rw [← h.2])
def okReq (r:Rq):Prop:=(goodB r.k=true∧r.k≤7)∧okF' r.k r
def reqR:Rdr Rq:=fun s=>reqP eyeP s rq0
theorem cdc_req:Cdc reqR okReq (fun r=>encNum r.k++bF' r.k r):=by
 have h:=((cdc_up 7 (by omega)).seq cdc_F).map (fun p=>p.2) (fun r=>(r.k,r)) (fun a ha=>Prod.ext (okF_k ha.2) rfl)
 refine h.imp (fun s=>?_) (fun r=>?_) (fun r _=>rfl)
 ·show reqP eyeP s rq0=(rdF (upR 7 s).1 (upR 7 s).2)
  have hk:reqK eyeP s rq0=(upR 7 s).1:=rfl
  unfold reqP
  rw [hk]
  unfold rdF
  generalize hkk:(upR 7 s).1=k
  by_cases h0:k=0
  ·simp only [if_pos h0];rfl
  by_cases h1:k=1
  ·simp only [if_neg h0,if_pos h1];rfl
  by_cases h2:k=2
  ·simp only [if_neg h0,if_neg h1,if_pos h2];rfl
  by_cases h4:k=4
  ·simp only [if_neg h0,if_neg h1,if_neg h2,if_pos h4];rfl
  by_cases h5:k=5
  ·simp only [if_neg h0,if_neg h1,if_neg h2,if_neg h4,if_pos h5];rfl
  by_cases h6:k=6∨k=7
  ·simp only [if_neg h0,if_neg h1,if_neg h2,if_neg h4,if_neg h5,if_pos h6];rfl
  ·simp only [if_neg h0,if_neg h1,if_neg h2,if_neg h4,if_neg h5,if_neg h6];rfl
 ·constructor
  ·exact fun h=>⟨h,rfl⟩
  ·exact fun h=>h.1
def rdG (k:Int):Rdr Vt :=
 if k=1 then mapRd (fun x=>⟨k,x,0,[],0,[],0⟩) numR
 else if k=2∨k=4∨k=8 then mapRd (fun x=>⟨k,0,x,[],0,[],0⟩) numR
 else if k=3 then mapRd (fun p=>⟨k,0,p.2,p.1,0,[],0⟩) (seqR textR fun _=>numR)
 else if k=9 then mapRd (fun p=>⟨k,0,p.2.2,p.1,p.2.1,[],0⟩) (seqR textR fun _=>seqR wordR fun _=>numR)
 else if k=10 then mapRd (fun p=>⟨k,0,0,p,0,[],0⟩) textR
 else if k=11 then mapRd (fun p=>⟨k,0,0,[],0,p,0⟩) comsR
 else if k=12∨k=13∨k=14 then mapRd (fun x=>⟨k,0,0,[],0,[],x⟩) numR
 else retR ⟨k,0,0,[],0,[],0⟩
def bG (k:Int) (v:Vt):List Int :=
 if k=1 then encNum v.s else if k=2∨k=4∨k=8 then encNum v.r else if k=3 then bT v.p++encNum v.r else if k=9 then bT v.p++(hiB 8 v.d++encNum v.r)
 else if k=10 then bT v.p else if k=11 then bKs v.k else if k=12∨k=13∨k=14 then encNum v.m else []
def okG (k:Int) (v:Vt):Prop :=
 if k=1 then goodB v.s=true∧(⟨k,v.s,0,[],0,[],0⟩:Vt)=v
 else if k=2∨k=4∨k=8 then goodB v.r=true∧(⟨k,0,v.r,[],0,[],0⟩:Vt)=v
 else if k=3 then (okT v.p=true∧goodB v.r=true)∧(⟨k,0,v.r,v.p,0,[],0⟩:Vt)=v
 else if k=9 then (okT v.p=true∧(0≤v.d∧v.d≤18446744073709551615)∧goodB v.r=true)∧(⟨k,0,v.r,v.p,v.d,[],0⟩:Vt)=v
 else if k=10 then okT v.p=true∧(⟨k,0,0,v.p,0,[],0⟩:Vt)=v
 else if k=11 then okComs v.k∧(⟨k,0,0,[],0,v.k,0⟩:Vt)=v
 else if k=12∨k=13∨k=14 then goodB v.m=true∧(⟨k,0,0,[],0,[],v.m⟩:Vt)=v
 else v=⟨k,0,0,[],0,[],0⟩
theorem cdc_G (k:Int):Cdc (rdG k) (okG k) (bG k):=by
 unfold rdG okG bG
 by_cases h1:k=1
 ·simp only [if_pos h1]
  exact cdc_num.map _ (fun v:Vt=>v.s) (fun a _=>rfl)
 by_cases h2:k=2∨k=4∨k=8
 ·simp only [if_neg h1,if_pos h2]
  exact cdc_num.map _ (fun v:Vt=>v.r) (fun a _=>rfl)
 by_cases h3:k=3
 ·simp only [if_neg h1,if_neg h2,if_pos h3]
  exact (cdc_text.seq (fun _=>cdc_num)).map _ (fun v:Vt=>(v.p,v.r)) (fun a _=>rfl)
 by_cases h9:k=9
 ·simp only [if_neg h1,if_neg h2,if_neg h3,if_pos h9]
  exact (cdc_text.seq (fun _=>cdc_word.seq (fun _=>cdc_num))).map _ (fun v:Vt=>(v.p,(v.d,v.r))) (fun a _=>rfl)
 by_cases h10:k=10
 ·simp only [if_neg h1,if_neg h2,if_neg h3,if_neg h9,if_pos h10]
  exact cdc_text.map _ (fun v:Vt=>v.p) (fun a _=>rfl)
 by_cases h11:k=11
 ·simp only [if_neg h1,if_neg h2,if_neg h3,if_neg h9,if_neg h10,if_pos h11]
  exact cdc_coms.map _ (fun v:Vt=>v.k) (fun a _=>rfl)
 by_cases h12:k=12∨k=13∨k=14
 ·simp only [if_neg h1,if_neg h2,if_neg h3,if_neg h9,if_neg h10,if_neg h11,if_pos h12]
  exact cdc_num.map _ (fun v:Vt=>v.m) (fun a _=>rfl)
 ·simp only [if_neg h1,if_neg h2,if_neg h3,if_neg h9,if_neg h10,if_neg h11,if_neg h12]
  exact Cdc.ret _
theorem okG_k {k:Int}{v:Vt}(h:okG k v):v.c=k:=by
 unfold okG at h
 repeat' split at h
 all_goals first | (rw [← h.2]) | (rw [h])
def okVer (v:Vt):Prop:=(goodB v.c=true∧v.c≤14)∧okG v.c v
def verR:Rdr Vt:=fun s=>verP eyeP s vt0
theorem cdc_ver:Cdc verR okVer (fun v=>encNum v.c++bG v.c v):=by
 have h:=((cdc_up 14 (by omega)).seq cdc_G).map (fun p=>p.2) (fun v=>(v.c,v)) (fun a ha=>Prod.ext (okG_k ha.2) rfl)
 refine h.imp (fun s=>?_) (fun r=>?_) (fun r _=>rfl)
 ·show verP eyeP s vt0=(rdG (upR 14 s).1 (upR 14 s).2)
  have hk:verK eyeP s vt0=(upR 14 s).1:=rfl
  unfold verP
  rw [hk]
  unfold rdG
  generalize hkk:(upR 14 s).1=k
  by_cases h1:k=1
  ·simp only [if_pos h1];rfl
  by_cases h2:k=2∨k=4∨k=8
  ·simp only [if_neg h1,if_pos h2];rfl
  by_cases h3:k=3
  ·simp only [if_neg h1,if_neg h2,if_pos h3];rfl
  by_cases h9:k=9
  ·simp only [if_neg h1,if_neg h2,if_neg h3,if_pos h9];rfl
  by_cases h10:k=10
  ·simp only [if_neg h1,if_neg h2,if_neg h3,if_neg h9,if_pos h10];rfl
  by_cases h11:k=11
  ·simp only [if_neg h1,if_neg h2,if_neg h3,if_neg h9,if_neg h10,if_pos h11];rfl
  by_cases h12:k=12∨k=13∨k=14
  ·simp only [if_neg h1,if_neg h2,if_neg h3,if_neg h9,if_neg h10,if_neg h11,if_pos h12];rfl
  ·simp only [if_neg h1,if_neg h2,if_neg h3,if_neg h9,if_neg h10,if_neg h11,if_neg h12];rfl
 ·constructor
  ·exact fun h=>⟨h,rfl⟩
  ·exact fun h=>h.1
def U64c (L:List Ch):Prop:=∀ c∈L,0≤c.d∧c.d≤18446744073709551615
theorem chg_iff (c:Ch) (h:0≤c.d∧c.d≤18446744073709551615):okChg c↔okT c.p=true∧namC c=c:=by
 obtain ⟨p,g,d⟩:=c
 unfold okChg namC
 cases g
 ·simp only [Bool.false_eq_true,if_false]
  exact ⟨fun h1=>⟨h1.1,by trivial⟩,fun h1=>⟨h1.1,h⟩⟩
 ·simp only [if_true,Ch.mk.injEq,true_and]
  exact ⟨fun h1=>⟨h1.1,h1.2.symm⟩,fun h1=>⟨h1.1,h1.2.symm⟩⟩
theorem okChg_u {c:Ch}(h:okChg c):0≤c.d∧c.d≤18446744073709551615:=by
 obtain ⟨_,h2⟩:=h
 split at h2
 ·rw [h2];omega
 ·exact h2
theorem map_same {α:Type}(f:α→α) (L:List α):L.map f=L↔∀ x∈L,f x=x:=by
 induction L with
 | nil=>simp
 | cons x L ih=>simp [ih]
theorem chgs_iff (L:List Ch) (h:U64c L):okChgs L↔okCs L=true∧namCs L=L:=by
 unfold okChgs okCs namCs okL' namL
 by_cases hl:L.length≤64
 ·simp only [hl,true_and,decide_true,Bool.true_and,List.all_eq_true,if_true,map_same]
  constructor
  ·exact fun h1=>⟨fun x hx=>((chg_iff x (h x hx)).1 (h1 x hx)).1,fun x hx=>((chg_iff x (h x hx)).1 (h1 x hx)).2⟩
  ·exact fun h1 x hx=>(chg_iff x (h x hx)).2 ⟨h1.1 x hx,h1.2 x hx⟩
 ·simp [hl]
theorem com_iff (x:Com) (h:U64c x.c):okCom x↔okKB x=true∧namK x=x:=by
 obtain ⟨r,b,n,c⟩:=x
 unfold okCom okKB namK
 simp only [Bool.and_eq_true,Com.mk.injEq,true_and]
 rw [chgs_iff c h]
 constructor
 ·exact fun ⟨h1,h2,h3,h4,h5⟩=>⟨⟨⟨⟨h1,h2⟩,h3⟩,h4⟩,h5⟩
 ·exact fun ⟨⟨⟨⟨h1,h2⟩,h3⟩,h4⟩,h5⟩=>⟨h1,h2,h3,h4,h5⟩
theorem coms_iff (L:List Com) (h:∀ x∈L,U64c x.c):okComs L↔okKs L=true∧namKs L=L:=by
 unfold okComs okKs namKs okL' namL
 by_cases hl:L.length≤32
 ·simp only [hl,true_and,decide_true,Bool.true_and,List.all_eq_true,if_true,map_same]
  constructor
  ·exact fun h1=>⟨fun x hx=>((com_iff x (h x hx)).1 (h1 x hx)).1,fun x hx=>((com_iff x (h x hx)).1 (h1 x hx)).2⟩
  ·exact fun h1 x hx=>(com_iff x (h x hx)).2 ⟨h1.1 x hx,h1.2 x hx⟩
 ·simp [hl]
theorem okChgs_u {L:List Ch}(h:okChgs L):U64c L:=fun c hc=>okChg_u (h.2 c hc)
theorem rq_eq {k k':Int}{n n':List UInt8}{s s' q q' b b':Int}{f f':List UInt8}{c c':List Ch}{p p':List UInt8}{fr fr' mn mn' mb mb':Int} :
 (⟨k,n,s,q,b,f,c,p,fr,mn,mb⟩:Rq)=⟨k',n',s',q',b',f',c',p',fr',mn',mb'⟩↔k=k'∧n=n'∧s=s'∧q=q'∧b=b'∧f=f'∧c=c'∧p=p'∧fr=fr'∧mn=mn'∧mb=mb':=by
 rw [Rq.mk.injEq]
theorem may_ok (r:Rq) (h:U64c r.c):mayR r=true↔okReq r:=by
 unfold mayR okRB okReq
 simp only [Bool.and_eq_true,decide_eq_true_eq]
 by_cases hk:r.k≤7
 ·have ek:kR r=r.k:=by unfold kR;rw [if_neg (by omega)]
  unfold fR okF'
  rw [ek]
  obtain ⟨k,n,s,q,b,f,c,p,fr,mn,mb⟩:=r
  simp only at *
  have hc:=chgs_iff c h
  by_cases h0:k=0
  ·simp only [if_pos h0,and_true,hk]
   constructor
   ·exact fun ⟨h1,h2⟩=>⟨h1,h2.symm⟩
   ·exact fun ⟨h1,h2⟩=>⟨h1,h2.symm⟩
  by_cases h1:k=1
  ·simp only [if_neg h0,if_pos h1,hk,and_true,and_assoc]
  by_cases h2:k=2
  ·simp only [if_neg h0,if_neg h1,if_pos h2,hk,and_true,Bool.and_eq_true,rq_eq,true_and]
   rw [hc]
   constructor
   ·rintro ⟨⟨g0,⟨⟨⟨g1,g2⟩,g3⟩,g4⟩,g5⟩,g6,g7,g8⟩
    exact ⟨g0,⟨g1,g2,g3,g4,g5,g7⟩,g6,g8⟩
   ·rintro ⟨g0,⟨g1,g2,g3,g4,g5,g7⟩,g6,g8⟩
    exact ⟨⟨g0,⟨⟨⟨g1,g2⟩,g3⟩,g4⟩,g5⟩,g6,g7,g8⟩
  by_cases h4:k=4
  ·simp only [if_neg h0,if_neg h1,if_neg h2,if_pos h4,hk,and_true,Bool.and_eq_true,and_assoc]
  by_cases h5:k=5
  ·simp only [if_neg h0,if_neg h1,if_neg h2,if_neg h4,if_pos h5,hk,and_true,Bool.and_eq_true,and_assoc]
  by_cases h6:k=6∨k=7
  ·simp only [if_neg h0,if_neg h1,if_neg h2,if_neg h4,if_neg h5,if_pos h6,hk,and_true,Bool.and_eq_true,and_assoc]
  ·simp only [if_neg h0,if_neg h1,if_neg h2,if_neg h4,if_neg h5,if_neg h6,hk,and_true,Bool.and_eq_true,and_assoc]
 ·simp [hk]
theorem okReq_u {r:Rq}(h:okReq r):U64c r.c:=by
 obtain ⟨_,h2⟩:=h
 unfold okF' at h2
 intro c hc
 split at h2
 ·rw [h2] at hc;cases hc
 split at h2
 ·rw [← h2.2] at hc;cases hc
 split at h2
 ·exact okChgs_u h2.1.2.2.2.2 c hc
 split at h2
 ·rw [← h2.2] at hc;cases hc
 split at h2
 ·rw [← h2.2] at hc;cases hc
 split at h2
 ·rw [← h2.2] at hc;cases hc
 ·rw [← h2.2] at hc;cases hc
theorem ok_bytes {r:Rq}(h:okReq r):bR r=encNum r.k++bF' r.k r:=by
 have ek:kR r=r.k:=by unfold kR;rw [if_neg (by have:=h.1.2;omega)]
 unfold bR fR bF'
 rw [ek]
 split
 ·rfl
 split
 ·rfl
 split
 ·simp only [List.append_assoc]
 split
 ·simp only [List.append_assoc]
 split
 ·simp only [List.append_assoc]
 split
 ·simp only [List.append_assoc]
 ·rfl
theorem cdcR:Cdc reqR okReq bR:=cdc_req.imp (fun _=>rfl) (fun _=>Iff.rfl) (fun _ h=>ok_bytes h)
theorem dec_enc {r:Rq}(h:okReq r):decR (bR r)=(r,0):=by
 have h1:reqP eyeP (bR r,0) rq0=(r,([],0)):=by have:=cdcR.fwd r [] h;rw [List.append_nil] at this;exact this
 unfold decR takeR
 rw [h1]
 rfl
theorem dec_told {l:List Int}{q:Rq}(ho:Oct l) (h:decR l=(q,0)):okReq q∧l=bR q:=by
 unfold decR at h
 by_cases he:endE (reqP eyeP (l,0) rq0).2=0
 ·rw [if_pos he] at h
  have hz:(reqP eyeP (l,0) rq0).2.2=0:=by
   unfold endE at he
   split at he
   ·assumption
   ·exact he
  have hl:(reqP eyeP (l,0) rq0).2.1=[]:=by
   unfold endE at he
   rw [if_pos hz] at he
   split at he
   ·exact List.eq_nil_of_length_eq_zero (by assumption)
   ·simp at he
  have hq:takeR (l,0)=q:=congrArg Prod.fst h
  unfold takeR at hq
  rw [if_pos hz] at hq
  have:=cdcR.bwd l q [] ho (Prod.ext hq (Prod.ext hl hz))
  rw [List.append_nil] at this
  exact this
 ·rw [if_neg he] at h
  exact absurd (congrArg Prod.snd h) he
theorem bR_begins {a b:Rq}(ha:okReq a) (hb:okReq b) {t:List Int}(h:bR b=bR a++t):a=b:=by
 have h1:=cdcR.fwd a t ha
 have h2:=cdcR.fwd b [] hb
 rw [List.append_nil,h,h1] at h2
 exact congrArg Prod.fst h2
theorem enc_one (r:Rq):putS ([],0) r=if mayR r=true then (bR r,0) else ([],1):=by
 rw [put_may];rfl
theorem enc_len (f:Nat) (n:Int):(enc f n).length≤f+1:=enc_length f n
def U64v (v:Vt):Prop:=(0≤v.d∧v.d≤18446744073709551615)∧∀ x∈v.k,U64c x.c
theorem vt_eq {c c' s s' r r':Int}{p p':List UInt8}{d d':Int}{k k':List Com}{m m':Int} :
 (⟨c,s,r,p,d,k,m⟩:Vt)=⟨c',s',r',p',d',k',m'⟩↔c=c'∧s=s'∧r=r'∧p=p'∧d=d'∧k=k'∧m=m':=by
 rw [Vt.mk.injEq]
theorem may_okV (v:Vt) (h:U64v v):mayV v=true↔okVer v:=by
 unfold mayV okVB okVer
 simp only [Bool.and_eq_true,decide_eq_true_eq]
 by_cases hk:v.c≤14
 ·have ek:kV v=v.c:=by unfold kV;rw [if_neg (by omega)]
  unfold fV okG
  rw [ek]
  obtain ⟨c,s,r,p,d,k,m⟩:=v
  simp only at *
  have hd:=h.1
  have hc:=coms_iff k h.2
  simp only at hd
  by_cases h1:c=1
  ·simp only [if_pos h1,hk,and_true,and_assoc]
  by_cases h2:c=2∨c=4∨c=8
  ·simp only [if_neg h1,if_pos h2,hk,and_true,and_assoc]
  by_cases h3:c=3
  ·simp only [if_neg h1,if_neg h2,if_pos h3,hk,and_true,Bool.and_eq_true,and_assoc]
  by_cases h9:c=9
  ·simp only [if_neg h1,if_neg h2,if_neg h3,if_pos h9,hk,hd,and_true,true_and,Bool.and_eq_true,and_assoc]
  by_cases h10:c=10
  ·simp only [if_neg h1,if_neg h2,if_neg h3,if_neg h9,if_pos h10,hk,and_true,and_assoc]
  by_cases h11:c=11
  ·simp only [if_neg h1,if_neg h2,if_neg h3,if_neg h9,if_neg h10,if_pos h11,hk,and_true,vt_eq,true_and]
   rw [hc]
   constructor
   ·rintro ⟨⟨g0,g1⟩,g2,g3,g4,g5,g6,g7⟩
    exact ⟨g0,⟨g1,g6⟩,g2,g3,g4,g5,g7⟩
   ·rintro ⟨g0,⟨g1,g6⟩,g2,g3,g4,g5,g7⟩
    exact ⟨⟨g0,g1⟩,g2,g3,g4,g5,g6,g7⟩
  by_cases h12:c=12∨c=13∨c=14
  ·simp only [if_neg h1,if_neg h2,if_neg h3,if_neg h9,if_neg h10,if_neg h11,if_pos h12,hk,and_true,and_assoc]
  ·simp only [if_neg h1,if_neg h2,if_neg h3,if_neg h9,if_neg h10,if_neg h11,if_neg h12,hk,and_true]
   constructor
   ·exact fun ⟨h1,h2⟩=>⟨h1,h2.symm⟩
   ·exact fun ⟨h1,h2⟩=>⟨h1,h2.symm⟩
 ·simp [hk]
theorem ok_bytesV {v:Vt}(h:okVer v):bV v=encNum v.c++bG v.c v:=by
 have ek:kV v=v.c:=by unfold kV;rw [if_neg (by have:=h.1.2;omega)]
 unfold bV fV bG
 rw [ek]
 split
 ·rfl
 split
 ·rfl
 split
 ·rfl
 split
 ·simp only [List.append_assoc]
 split
 ·rfl
 split
 ·rfl
 split
 ·rfl
 ·rfl
theorem cdcV:Cdc verR okVer bV:=cdc_ver.imp (fun _=>rfl) (fun _=>Iff.rfl) (fun _ h=>ok_bytesV h)
theorem decV_enc {v:Vt}(h:okVer v):decV (bV v)=(v,0):=by
 have h1:verP eyeP (bV v,0) vt0=(v,([],0)):=by have:=cdcV.fwd v [] h;rw [List.append_nil] at this;exact this
 unfold decV heardV
 rw [h1]
 rfl
theorem bV_one {a b:Vt}(ha:okVer a) (hb:okVer b) (h:bV a=bV b):a=b:=by
 have h1:=cdcV.fwd a [] ha
 have h2:=cdcV.fwd b [] hb
 rw [List.append_nil] at h1 h2
 rw [h,h2] at h1
 exact (congrArg Prod.fst h1).symm
theorem encV_one (v:Vt):toldS ([],0) v=if mayV v=true then (bV v,0) else ([],1):=by
 rw [toldS_may];rfl
end Go.Proofs.YtakafmejllilnaaGreat
