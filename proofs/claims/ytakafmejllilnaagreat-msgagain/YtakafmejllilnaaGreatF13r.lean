/-
  Texts laid as one.
-/
import Derived.Test.YtakafmejllilnaaGreatF11r
import Derived.Test.YtakafmejllilnaaGreatF12r
/-
 What is written,plainly: bytes,and whether it may be.
-/
namespace Go.Proofs.YtakafmejllilnaaGreat
def bg (s:List Int × Int) (ok:Bool) (b:List Int):List Int × Int:=if s.2=0 then (if ok=true then (s.1++b,0) else ([],1)) else ([],s.2)
theorem dh (s:List Int × Int) (o1 o2:Bool) (b1 b2:List Int):bg (bg s o1 b1) o2 b2=bg s (o1 && o2) (b1++b2):=by
 unfold bg;by_cases h:s.2=0
 ·rw [if_pos h,if_pos h];cases o1
  ·simp
  ·cases o2 <;> simp
 ·rw [if_neg h,if_neg h];simp [h]
def ah (n:Int):Bool:=decide (0≤n∧n≤1099511627776)
def ii (t:List UInt8):List Int:=dD (ae t)
def bT (t:List UInt8):List Int:=ap t.length++ii t
def eS (t:List UInt8):Bool:=decide (t.length≤255)
def bF (b:Bool):List Int:=[if b then 1 else 0]
theorem jb (t:List UInt8):(ii t).length=t.length:=mr t
theorem iU (s:List Int × Int) (n:Int):bS.num s n=(n,bg s (ah n) (ap n)):=by
 show (n,dU s.2 s.1 n)=_;congr 1
 unfold dU bg ah;by_cases h:s.2=0
 ·rw [if_pos h,if_pos h];by_cases h2:0≤n∧n≤1099511627776
  ·simp [h2]
  ·rw [if_neg h2,decide_eq_false h2];simp
 ·rw [if_neg h,if_neg h]
theorem gr (s:List Int × Int) (n t:Int):bS.upTo s n t=(if t < n then 0 else n,bg s (ah n && decide (n≤t)) (ap n)):=by
 show (if t < n then _ else _)=_;by_cases h:t < n
 ·rw [if_pos h,if_pos h,decide_eq_false (by omega)];congr 1
  unfold bh bg;by_cases h2:s.2=0
  ·rw [if_pos h2,if_pos h2];simp
  ·rw [if_neg h2,if_neg h2]
 ·rw [if_neg h,if_neg h,decide_eq_true (by omega),Bool.and_true];exact congrArg _ (congrArg Prod.snd (iU s n))
theorem iJ (s:List Int × Int) (t:List UInt8):bS.text s t=(t,bg s (eS t) (bT t)):=by
 show (t,if 255 < t.length then _ else _)=_;congr 1
 by_cases h:255 < t.length
 ·rw [if_pos h,i5 (eA s.2).2];unfold eS;rw [decide_eq_false (by omega)];unfold bg bh;by_cases h2:s.2=0
  ·rw [if_pos h2,if_pos h2];simp
  ·rw [if_neg h2,if_neg h2]
 ·rw [if_neg h];unfold eS;rw [decide_eq_true (by omega)];unfold bg bI bT ii;rw [mr];by_cases h2:s.2=0
  ·rw [if_pos h2,if_pos h2,if_pos (by omega)];simp
  ·rw [if_neg h2,if_neg h2]
theorem sI (s:List Int × Int) (b:Bool):bS.flag s b=(b,bg s true (bF b)):=by
 show (b,dc s.2 s.1 b)=_;congr 1
theorem mV (s:List Int × Int) (x:Int):bS.word s x=(x,bg s true (dR 8 x)):=by
 show (x,eE s.2 s.1 x)=_;congr 1
def bC (c:Ch):List Int:=bT c.p++bF c.g++(if c.g=true then [] else dR 8 c.d)
def pY (c:Ch):Ch:=⟨c.p,c.g,if c.g=true then 0 else c.d⟩
theorem tX (s:List Int × Int) (c:Ch):bz bS s c=(pY c,bg s (eS c.p) (bC c)):=by
 unfold bz pY bC;rw [iJ,sI];obtain ⟨p,g,d⟩:=c;cases g
 ·simp only [Bool.false_eq_true,if_false];rw [mV];simp only [dh,Bool.and_true,List.append_assoc]
 ·simp only [if_true,dh,Bool.and_true,List.append_nil]
theorem tY {α:Type}(one:List Int × Int→α→α × (List Int × Int)) (nam:α→α) (ok:α→Bool) (b:α→List Int) (h:∀ s x,one s x=(nam x,bg s (ok x) (b x))) (s:List Int × Int) (L:List α) (hs:s.2≠0→s.1=[]) :
 cf one s L=(L.map nam,bg s (L.all ok) (L.flatMap b)):=by
 induction L generalizing s with
 | nil =>
   show ([],s)=_;congr 1
   unfold bg;by_cases h2:s.2=0
   ·rw [if_pos h2];simp;exact Prod.ext rfl h2
   ·rw [if_neg h2];exact Prod.ext (hs h2) rfl
 | cons x L ih =>
   unfold cf;rw [h,ih]
   ·simp only [dh,List.map_cons,List.all_cons,List.flatMap_cons]
   ·intro h2;unfold bg at h2 ⊢;split
    ·rename_i h3;rw [if_pos h3] at h2
     split
     ·rename_i h4;rw [if_pos h4] at h2;simp at h2
     ·rfl
    ·rfl
theorem qz (s:List Int × Int) (o:Bool) (b:List Int):(bg s o b).2≠0→(bg s o b).1=[]:=by
 intro h2;unfold bg at h2 ⊢;split
 ·rename_i h3;rw [if_pos h3] at h2
  split
  ·rename_i h4;rw [if_pos h4] at h2;simp at h2
  ·rfl
 ·rfl
def bL {α:Type}(b:α→List Int) (most:Nat) (L:List α):List Int:=ap L.length++(if L.length≤most then L.flatMap b else [])
def ql {α:Type}(ok:α→Bool) (most:Nat) (L:List α):Bool:=decide (L.length≤most) && L.all ok
def qe {α:Type}(nam:α→α) (most:Nat) (L:List α):List α:=if L.length≤most then L.map nam else []
theorem nw {α:Type}(one:List Int × Int→α→α × (List Int × Int)) (nam:α→α) (ok:α→Bool) (b:α→List Int) (h:∀ s x,one s x=(nam x,bg s (ok x) (b x))) (z:α) (s:List Int × Int) (L:List α) (most:Nat) (hm:most≤1000) :
 aP bS one z s L (most:Int)=(qe nam most L,bg s (ql ok most L) (bL b most L)):=by
 unfold aP qe ql bL;rw [gr];by_cases hl:L.length≤most
 ·have h1:¬ ((most:Int) < (L.length:Int)):=by omega
  have h2:ah (L.length:Int)=true:=by unfold ah;simp;omega
  simp only [if_neg h1,if_pos hl,h2,decide_eq_true hl,Int.toNat_natCast,qr];rw [tY one nam ok b h _ _ (qz _ _ _),dh];simp [hl]
 ·have h1:(most:Int) < (L.length:Int):=by omega
  have h3:decide ((L.length:Int)≤(most:Int))=false:=by simp;omega
  simp only [if_pos h1,if_neg hl,decide_eq_false hl,h3,Bool.and_false,Bool.false_and,Int.toNat_zero,qu,cf,List.append_nil]
def uD (L:List Ch):List Int:=bL bC 64 L
def rE (L:List Ch):Bool:=ql (fun c=>eS c.p) 64 L
def mP (L:List Ch):List Ch:=qe pY 64 L
theorem mT (s:List Int × Int) (L:List Ch):aP bS (bz bS) fd s L 64=(mP L,bg s (rE L) (uD L)) :=
 nw (bz bS) pY (fun c=>eS c.p) bC (fun s x=>tX s x) fd s L 64 (by omega)
def bK (x:bW):List Int:=ap x.r++ap x.b++bT x.n++uD x.c
def qd (x:bW):Bool:=ah x.r && ah x.b && eS x.n && rE x.c
def pz (x:bW):bW:=⟨x.r,x.b,x.n,mP x.c⟩
theorem ue (s:List Int × Int) (x:bW):cn bS s x=(pz x,bg s (qd x) (bK x)):=by
 unfold cn pl pz qd bK;simp only [iU,iJ,mT,dh,Bool.and_assoc,List.append_assoc]
def vq (L:List bW):List Int:=bL bK 32 L
def uP (L:List bW):Bool:=ql qd 32 L
def po (L:List bW):List bW:=qe pz 32 L
theorem r2 (s:List Int × Int) (L:List bW):aP bS (cn bS) dp s L 32=(po L,bg s (uP L) (vq L)) :=
 nw (cn bS) pz qd bK (fun s x=>ue s x) dp s L 32 (by omega)
def kR (r:Rq):Int:=if 7 < r.k then 0 else r.k
def kV (v:Vt):Int:=if 14 < v.c then 0 else v.c
def fR (r:Rq):List Int × Bool × Rq :=
 if kR r=0 then ([],true,⟨kR r,[],0,0,0,[],[],[],0,0,0⟩)
 else if kR r=1 then (bT r.n,eS r.n,⟨kR r,r.n,0,0,0,[],[],[],0,0,0⟩)
 else if kR r=2 then (ap r.s++ap r.q++ap r.b++bT r.f++uD r.c,ah r.s && ah r.q && ah r.b && eS r.f && rE r.c,⟨kR r,[],r.s,r.q,r.b,r.f,mP r.c,[],0,0,0⟩)
 else if kR r=4 then (ap r.s++ap r.q++bT r.p,ah r.s && ah r.q && eS r.p,⟨kR r,[],r.s,r.q,0,[],[],r.p,0,0,0⟩)
 else if kR r=5 then (ap r.s++ap r.q++ap r.fr++ap r.mn,ah r.s && ah r.q && ah r.fr && ah r.mn,⟨kR r,[],r.s,r.q,0,[],[],[],r.fr,r.mn,0⟩)
 else if kR r=6∨kR r=7 then (ap r.s++ap r.q++ap r.mb,ah r.s && ah r.q && ah r.mb,⟨kR r,[],r.s,r.q,0,[],[],[],0,0,r.mb⟩)
 else (ap r.s++ap r.q,ah r.s && ah r.q,⟨kR r,[],r.s,r.q,0,[],[],[],0,0,0⟩)
def bR (r:Rq):List Int:=ap r.k++(fR r).1
def um (r:Rq):Bool:=(ah r.k && decide (r.k≤7)) && (fR r).2.1
theorem tu (s:List Int × Int) (r:Rq):aT bS s r=((fR r).2.2,bg s (um r) (bR r)):=by
 have hk:(bS.upTo s r.k 7).1=kR r:=by rw [gr];rfl
 unfold aT dB et fF fB um bR fR;rw [hk];simp only [gr,iU,iJ,mT,dh,List.append_assoc,Bool.and_assoc];by_cases h0:kR r=0
 ·simp only [if_pos h0,Bool.and_true,List.append_nil]
 by_cases h1:kR r=1
 ·simp only [if_neg h0,if_pos h1]
 by_cases h2:kR r=2
 ·simp only [if_neg h0,if_neg h1,if_pos h2]
 by_cases h4:kR r=4
 ·simp only [if_neg h0,if_neg h1,if_neg h2,if_pos h4]
 by_cases h5:kR r=5
 ·simp only [if_neg h0,if_neg h1,if_neg h2,if_neg h4,if_pos h5]
 by_cases h6:kR r=6∨kR r=7
 ·simp only [if_neg h0,if_neg h1,if_neg h2,if_neg h4,if_neg h5,if_pos h6]
 ·simp only [if_neg h0,if_neg h1,if_neg h2,if_neg h4,if_neg h5,if_neg h6]
def fV (v:Vt):List Int × Bool × Vt :=
 if kV v=1 then (ap v.s,ah v.s,⟨kV v,v.s,0,[],0,[],0⟩)
 else if kV v=2∨kV v=4∨kV v=8 then (ap v.r,ah v.r,⟨kV v,0,v.r,[],0,[],0⟩)
 else if kV v=3 then (bT v.p++ap v.r,eS v.p && ah v.r,⟨kV v,0,v.r,v.p,0,[],0⟩)
 else if kV v=9 then (bT v.p++dR 8 v.d++ap v.r,eS v.p && ah v.r,⟨kV v,0,v.r,v.p,v.d,[],0⟩)
 else if kV v=10 then (bT v.p,eS v.p,⟨kV v,0,0,v.p,0,[],0⟩)
 else if kV v=11 then (vq v.k,uP v.k,⟨kV v,0,0,[],0,po v.k,0⟩)
 else if kV v=12∨kV v=13∨kV v=14 then (ap v.m,ah v.m,⟨kV v,0,0,[],0,[],v.m⟩)
 else ([],true,⟨kV v,0,0,[],0,[],0⟩)
def bV (v:Vt):List Int:=ap v.c++(fV v).1
def t5 (v:Vt):Bool:=(ah v.c && decide (v.c≤14)) && (fV v).2.1
theorem th (s:List Int × Int) (v:Vt):aH bS s v=((fV v).2.2,bg s (t5 v) (bV v)):=by
 have hk:(bS.upTo s v.c 14).1=kV v:=by rw [gr];rfl
 unfold aH ch co t5 bV fV;rw [hk];simp only [gr,iU,iJ,mV,r2,dh,List.append_assoc,Bool.and_assoc,Bool.true_and];by_cases h1:kV v=1
 ·simp only [if_pos h1]
 by_cases h2:kV v=2∨kV v=4∨kV v=8
 ·simp only [if_neg h1,if_pos h2]
 by_cases h3:kV v=3
 ·simp only [if_neg h1,if_neg h2,if_pos h3]
 by_cases h9:kV v=9
 ·simp only [if_neg h1,if_neg h2,if_neg h3,if_pos h9]
 by_cases h10:kV v=10
 ·simp only [if_neg h1,if_neg h2,if_neg h3,if_neg h9,if_pos h10]
 by_cases h11:kV v=11
 ·simp only [if_neg h1,if_neg h2,if_neg h3,if_neg h9,if_neg h10,if_pos h11]
 by_cases h12:kV v=12∨kV v=13∨kV v=14
 ·simp only [if_neg h1,if_neg h2,if_neg h3,if_neg h9,if_neg h10,if_neg h11,if_pos h12]
 ·simp only [if_neg h1,if_neg h2,if_neg h3,if_neg h9,if_neg h10,if_neg h11,if_neg h12,Bool.and_true,List.append_nil]
def fe (r:Rq):Bool:=um r && decide ((fR r).2.2=r)
def jc (v:Vt):Bool:=t5 v && decide ((fV v).2.2=v)
theorem lM (s:List Int × Int) (o:Bool) (b:List Int):bh (bg s o b).2=bg s false b:=by
 unfold bg bh;by_cases h:s.2=0
 ·rw [if_pos h,if_pos h];cases o <;> simp
 ·rw [if_neg h,if_neg h];simp [h]
theorem j1 (s:List Int × Int) (r:Rq):gv s r=bg s (fe r) (bR r):=by
 unfold gv fe;rw [tu];by_cases h:(fR r).2.2=r
 ·rw [if_pos h,decide_eq_true h,Bool.and_true]
 ·rw [if_neg h,decide_eq_false h,Bool.and_false];exact lM _ _ _
theorem jz (s:List Int × Int) (v:Vt):ew s v=bg s (jc v) (bV v):=by
 unfold ew jc;rw [th];by_cases h:(fV v).2.2=v
 ·rw [if_pos h,decide_eq_true h,Bool.and_true]
 ·rw [if_neg h,decide_eq_false h,Bool.and_false];exact lM _ _ _
abbrev gh (α:Type):=List Int × Int→α × (List Int × Int)
structure eQ {α:Type}(rd:gh α) (ok:α→Prop) (b:α→List Int):Prop where
 fwd:∀ x t,ok x→rd (b x++t,0)=(x,(t,0))
 bwd:∀ l x t,bi l→rd (l,0)=(x,(t,0))→ok x∧l=b x++t
 bad:∀ e,e≠0→(rd ([],e)).2=([],e)
 nil:∀ l,(rd (l,0)).2.2≠0→(rd (l,0)).2.1=[]
def eF {α β:Type}(A:gh α) (B:α→gh β):gh (α × β):=fun s=>(((A s).1,(B (A s).1 (A s).2).1),(B (A s).1 (A s).2).2)
def da {α β:Type}(f:α→β) (A:gh α):gh β:=fun s=>(f (A s).1,(A s).2)
def pG {α:Type}(x:α):gh α:=fun s=>(x,s)
theorem bi.right {a b:List Int}(h:bi (a++b)):bi b:=fun x hx=>h x (List.mem_append_right _ hx)
theorem eQ.ret {α:Type}(x:α):eQ (pG x) (fun y=>y=x) (fun _=>[]) :=
 ⟨fun y t h=>by subst h;rfl,fun l y t _ h=>by cases h;exact ⟨rfl,rfl⟩,fun e _=>rfl,fun l h=>absurd rfl h⟩
theorem eQ.seq {α β:Type}{A:gh α}{B:α→gh β}{okA:α→Prop}{okB:α→β→Prop}{bA:α→List Int}{bB:α→β→List Int}(hA:eQ A okA bA) (hB:∀ a,eQ (B a) (okB a) (bB a)) :
 eQ (eF A B) (fun p=>okA p.1∧okB p.1 p.2) (fun p=>bA p.1++bB p.1 p.2):=by
 refine ⟨fun x t h=>?_,fun l x t ho h=>?_,fun e he=>?_,fun l h=>?_⟩
 ·have h1:=hA.fwd x.1 (bB x.1 x.2++t) h.1;show (((A _).1,_),_)=_;rw [List.append_assoc,h1,(hB x.1).fwd x.2 t h.2]
 ·have hx:x=((A (l,0)).1,(B (A (l,0)).1 (A (l,0)).2).1):=(congrArg Prod.fst h).symm;have ht:(B (A (l,0)).1 (A (l,0)).2).2=(t,0):=congrArg Prod.snd h;by_cases he:(A (l,0)).2.2=0
  ·have e1:A (l,0)=((A (l,0)).1,((A (l,0)).2.1,0)):=Prod.ext rfl (Prod.ext rfl he);obtain ⟨h1,h2⟩:=hA.bwd l _ _ ho e1;have ho2:bi (A (l,0)).2.1:=by rw [h2] at ho;exact ho.right
   have e2:(A (l,0)).2=((A (l,0)).2.1,0):=Prod.ext rfl he;have e3:B (A (l,0)).1 ((A (l,0)).2.1,0)=((B (A (l,0)).1 (A (l,0)).2).1,(t,0)):=by rw [← e2];exact Prod.ext rfl ht
   obtain ⟨h3,h4⟩:=(hB _).bwd _ _ _ ho2 e3;rw [hx];refine ⟨⟨h1,h3⟩,?_⟩;rw [List.append_assoc,← h4];exact h2
  ·have e2:(A (l,0)).2=([],(A (l,0)).2.2):=Prod.ext (hA.nil l he) rfl;rw [e2,(hB _).bad _ he] at ht;exact absurd (congrArg Prod.snd ht) he
 ·show (B _ (A ([],e)).2).2=_;rw [hA.bad e he];exact (hB _).bad e he
 ·show (B (A (l,0)).1 (A (l,0)).2).2.1=[];have h':(B (A (l,0)).1 (A (l,0)).2).2.2≠0:=h;by_cases he:(A (l,0)).2.2=0
  ·have e2:(A (l,0)).2=((A (l,0)).2.1,0):=Prod.ext rfl he;rw [e2] at h' ⊢;exact (hB _).nil _ h'
  ·have e2:(A (l,0)).2=([],(A (l,0)).2.2):=Prod.ext (hA.nil l he) rfl;rw [e2,(hB _).bad _ he]
theorem eQ.map {α β:Type}{A:gh α}{ok:α→Prop}{b:α→List Int}(hA:eQ A ok b) (f:α→β) (g:β→α) (hg:∀ a,ok a→g (f a)=a) :
 eQ (da f A) (fun y=>ok (g y)∧f (g y)=y) (fun y=>b (g y)):=by
 refine ⟨fun y t h=>?_,fun l y t ho h=>?_,fun e he=>hA.bad e he,fun l h=>hA.nil l h⟩
 ·show (f (A _).1,(A _).2)=_;rw [hA.fwd (g y) t h.1];simp [h.2]
 ·have hy:f (A (l,0)).1=y:=congrArg Prod.fst h;have ht:(A (l,0)).2=(t,0):=congrArg Prod.snd h;obtain ⟨h1,h2⟩:=hA.bwd l (A (l,0)).1 t ho (Prod.ext rfl ht);have h3:=hg _ h1;rw [hy] at h3;rw [h3];exact ⟨⟨h1,hy⟩,h2⟩
theorem eQ.imp {α:Type}{A A':gh α}{ok ok':α→Prop}{b b':α→List Int}(h:eQ A ok b) (hA:∀ s,A' s=A s) (ho:∀ x,ok' x↔ok x) (hb:∀ x,ok x→b' x=b x):eQ A' ok' b':=by
 refine ⟨fun x t hx=>?_,fun l x t hl hx=>?_,fun e he=>?_,fun l hl=>?_⟩
 ·rw [hA,hb x ((ho x).1 hx)];exact h.fwd x t ((ho x).1 hx)
 ·rw [hA] at hx;obtain ⟨h1,h2⟩:=h.bwd l x t hl hx;exact ⟨(ho x).2 h1,by rw [hb x h1];exact h2⟩
 ·rw [hA];exact h.bad e he
 ·rw [hA] at hl ⊢;exact h.nil l hl
def az:gh Int:=fun s=>ag.num s 0
def j5 (t:Int):gh Int:=fun s=>ag.upTo s 0 t
def ik:gh (List UInt8):=fun s=>ag.text s []
def oY:gh Bool:=fun s=>ag.flag s false
def pk:gh Int:=fun s=>ag.word s 0
theorem aZ (n:Int):ah n=true↔0≤n∧n≤1099511627776:=by unfold ah;simp
theorem gJ {l rest:List Int}{x:Int}(ho:bi l) (h:an 0 l=(0,x,rest)):(0≤x∧x≤1099511627776)∧l=ap x++rest:=by
 unfold an at h;rw [if_pos rfl] at h;obtain ⟨h1,h2,h3⟩:=fw x l rest ho h;exact ⟨⟨h1,h2⟩,h3⟩
theorem fW (n:Int) (t:List Int) (h:ah n=true):an 0 (ap n++t)=(0,n,t):=by
 have:=(aZ n).1 h
 unfold an;rw [if_pos rfl];exact qq n t this.1 this.2
theorem eV (e:Int) (he:e≠0) (l:List Int):an e l=(e,0,[]):=by unfold an;rw [if_neg he]
theorem iE (l:List Int) (h:(an 0 l).1≠0):(an 0 l).2=(0,[]):=by
 unfold an at h ⊢;rw [if_pos rfl] at h ⊢;rcases en 6 0 0 l with ⟨h1,_⟩ | ⟨_,h1⟩
 ·exact absurd h1 h
 ·exact h1
theorem aG:eQ az (fun n=>ah n=true) ap:=by
 refine ⟨fun x t h=>?_,fun l x t ho h=>?_,fun e he=>?_,fun l h=>?_⟩
 ·show ((an 0 (ap x++t)).2.1,((an 0 (ap x++t)).2.2,(an 0 (ap x++t)).1))=_;rw [fW x t h]
 ·have h':((an 0 l).2.1,((an 0 l).2.2,(an 0 l).1))=(x,(t,0)):=h
  have e:an 0 l=(0,x,t):=by
   simp only [Prod.mk.injEq] at h';exact Prod.ext h'.2.2 (Prod.ext h'.1 h'.2.1)
  obtain ⟨h1,h2⟩:=gJ ho e;exact ⟨(aZ x).2 h1,h2⟩
 ·show ((an e []).2.2,(an e []).1)=_;rw [eV e he]
 ·show (an 0 l).2.2=[];rw [iE l h]
theorem mz (t:Int) (ht:0≤t):eQ (j5 t) (fun n=>ah n=true∧n≤t) ap:=by
 have hU:∀ s,j5 t s=if t < (an s.2 s.1).2.1 then (0,([],aO (an s.2 s.1).1)) else ((an s.2 s.1).2.1,((an s.2 s.1).2.2,(an s.2 s.1).1)):=fun _=>rfl
 refine ⟨fun x u h=>?_,fun l x u ho h=>?_,fun e he=>?_,fun l h=>?_⟩
 ·rw [hU];show (if t < (an 0 (ap x++u)).2.1 then _ else _)=_;rw [fW x u h.1,if_neg (by show ¬ t < x;omega)]
 ·rw [hU] at h;have h':(if t < (an 0 l).2.1 then (0,([],aO (an 0 l).1)) else ((an 0 l).2.1,((an 0 l).2.2,(an 0 l).1)))=((x,(u,0)):Int × (List Int × Int)):=h;by_cases hc:t < (an 0 l).2.1
  ·rw [if_pos hc] at h';simp only [Prod.mk.injEq] at h';exfalso
   have:=h'.2.2
   unfold aO at this;split at this
   ·simp at this
   ·contradiction
  ·rw [if_neg hc] at h';simp only [Prod.mk.injEq] at h';have e:an 0 l=(0,x,u):=Prod.ext h'.2.2 (Prod.ext h'.1 h'.2.1);obtain ⟨h1,h2⟩:=gJ ho e;exact ⟨⟨(aZ x).2 h1,by rw [h'.1] at hc;omega⟩,h2⟩
 ·have hU0:j5 t ([],e)=if t < (an e []).2.1 then (0,([],aO (an e []).1)) else ((an e []).2.1,((an e []).2.2,(an e []).1)):=hU ([],e)
  rw [hU0,eV e he,if_neg (by show ¬ t < 0;omega)]
 ·have hU0:j5 t (l,0)=if t < (an 0 l).2.1 then (0,([],aO (an 0 l).1)) else ((an 0 l).2.1,((an 0 l).2.2,(an 0 l).1)):=hU (l,0)
  rw [hU0] at h ⊢;by_cases hc:t < (an 0 l).2.1
  ·rw [if_pos hc]
  ·rw [if_neg hc] at h ⊢;show (an 0 l).2.2=[];rw [iE l h]
theorem sn (t:List UInt8):rN (ii t)=t:=by
 have h:=ov (ae t);rw [rA] at h;exact uA h
theorem qM {d:List Int}(h:bi d):ii (rN d)=d:=by
 unfold ii dD rN;rw [aY,List.map_map];conv=>rhs;rw [← List.map_id d]
 apply List.map_congr_left
 intro x hx;have:=h x hx
 simp
 omega
theorem lZ (l:List Int) (ho:bi l):(∃ d rest,av 0 255 l=(0,d,rest)∧d.length≤255∧l=ap d.length++d++rest)∨(∃ e,e≠0∧av 0 255 l=(e,[],[])):=by
 obtain ⟨q,hq⟩:∃ q,q=an 0 l:=⟨_,rfl⟩;obtain ⟨e1,x,rest⟩:=q;have hr:=eo (most:=255) hq.symm;by_cases he:e1=0
 ·subst he;obtain ⟨h1,h2⟩:=gJ ho hq.symm;by_cases h3:255 < x
  ·right
   exact ⟨3,by decide,by rw [hr,if_neg (by simp),if_pos h3]⟩
  ·by_cases h4:(rest.length:Int) < x
   ·right
    exact ⟨2,by decide,by rw [hr,if_neg (by simp),if_neg h3,if_pos h4]⟩
   ·left
    have hl:(rest.take x.toNat).length=x.toNat:=by rw [List.length_take];omega
    refine ⟨rest.take x.toNat,rest.drop x.toNat,by rw [hr,if_neg (by simp),if_neg h3,if_neg h4],by omega,?_⟩;rw [hl,List.append_assoc,List.take_append_drop,show ((x.toNat:Nat):Int)=x by omega];exact h2
 ·right
  exact ⟨e1,he,by rw [hr,if_pos he]⟩
theorem dE:eQ ik (fun t=>eS t=true) bT:=by
 have hT:∀ s,ik s=(rN (av s.2 255 s.1).2.1,((av s.2 255 s.1).2.2,(av s.2 255 s.1).1)):=fun _=>rfl;refine ⟨fun x u h=>?_,fun l x u ho h=>?_,fun e he=>?_,fun l h=>?_⟩
 ·have hx:x.length≤255:=by unfold eS at h;simpa using h
  rw [hT];show (rN (av 0 255 (bT x++u)).2.1,((av 0 255 (bT x++u)).2.2,(av 0 255 (bT x++u)).1))=_;have hl:=jb x;have hr:=eo (most:=255) (fW (x.length:Int) (ii x++u) (by unfold ah;simp;omega));unfold bT;rw [List.append_assoc,hr,if_neg (by simp),if_neg (by omega),if_neg (by simp;omega)];have e1:(ii x++u).take (x.length:Int).toNat=ii x:=by rw [Int.toNat_natCast,← hl];simp
  have e2:(ii x++u).drop (x.length:Int).toNat=u:=by rw [Int.toNat_natCast,← hl];simp
  simp only [e1,e2,sn]
 ·rw [hT] at h;rcases lZ l ho with ⟨d,rest,h1,h2,h3⟩ | ⟨e,he,h1⟩
  ·have h':(rN (av 0 255 l).2.1,((av 0 255 l).2.2,(av 0 255 l).1))=(x,(u,0)):=h;rw [h1] at h';simp only [Prod.mk.injEq] at h';have hod:bi d:=by rw [h3] at ho;intro y hy;exact ho y (by simp [hy])
   have hxl:x.length=d.length:=by rw [← h'.1];simp [rN]
   refine ⟨by unfold eS;simp;omega,?_⟩;unfold bT;rw [hxl,← h'.1,qM hod,← h'.2.1];exact h3
  ·have h':(rN (av 0 255 l).2.1,((av 0 255 l).2.2,(av 0 255 l).1))=(x,(u,0)):=h;rw [h1] at h';simp only [Prod.mk.injEq] at h';exact absurd h'.2.2 he
 ·rw [hT];show ((av e 255 []).2.2,(av e 255 []).1)=_;unfold av;rw [if_neg he]
 ·rw [hT] at h ⊢;show (av 0 255 l).2.2=[];have h':(av 0 255 l).1≠0:=h;unfold av bE at h' ⊢;rw [if_pos rfl] at h' ⊢;split
  ·rfl
  ·rename_i h1
   rw [if_neg h1] at h';split
   ·rfl
   ·rename_i h2
    rw [if_neg h2] at h';split
    ·rfl
    ·rename_i h3
     rw [if_neg h3] at h';exact absurd rfl h'
theorem jC (d:Int) (l:List Int):cr (d :: l)=if 1 < d then (4,false,[]) else (0,d==1,l):=rfl
theorem sU:eQ oY (fun _=>True) bF:=by
 have hF:∀ s,oY s=((aM s.2 s.1).2.1,((aM s.2 s.1).2.2,(aM s.2 s.1).1)):=fun _=>rfl;refine ⟨fun x u _=>?_,fun l x u ho h=>?_,fun e he=>?_,fun l h=>?_⟩
 ·rw [hF];cases x <;> simp [aM,cr,bF]
 ·rw [hF] at h;have h':((aM 0 l).2.1,((aM 0 l).2.2,(aM 0 l).1))=(x,(u,0)):=h;refine ⟨trivial,?_⟩;unfold aM at h';rw [if_pos rfl] at h';cases l with
  | nil=>simp [cr] at h'
  | cons d l =>
    have hd:=ho.head;rw [jC] at h';by_cases hd1:1 < d
    ·rw [if_pos hd1] at h';simp at h'
    ·rw [if_neg hd1] at h';simp only [Prod.mk.injEq] at h';obtain ⟨h1,h2,_⟩:=h';subst h2;have:d=0∨d=1:=by omega
     rcases this with rfl | rfl
     ·have:x=false:=by rw [← h1];decide
      subst this;rfl
     ·have:x=true:=by rw [← h1];decide
      subst this;rfl
 ·rw [hF];show ((aM e []).2.2,(aM e []).1)=_;unfold aM;rw [if_neg he]
 ·rw [hF] at h ⊢;show (aM 0 l).2.2=[];have h':(aM 0 l).1≠0:=h;unfold aM at h' ⊢;rw [if_pos rfl] at h' ⊢;cases l with
  | nil=>rfl
  | cons d l =>
    rw [jC] at h' ⊢;split
    ·rfl
    ·rename_i h1;rw [if_neg h1] at h';exact absurd rfl h'
theorem xh (x:Int):dR 8 x=[x / 72057594037927936 % 256,x / 281474976710656 % 256,x / 1099511627776 % 256,x / 4294967296 % 256,x / 16777216 % 256,x / 65536 % 256,x / 256 % 256,x % 256]:=by
 simp [dR,List.range,List.range.loop]
theorem qj (x:Int) (h0:0≤x) (h1:x≤18446744073709551615):bs (dR 8 x)=x:=by
 rw [xh];simp only [bs,List.foldl_cons,List.foldl_nil];omega
theorem qh (l:List Int) (h:l.length=8) (ho:bi l):(0≤bs l∧bs l≤18446744073709551615)∧dR 8 (bs l)=l:=by
 match l,h with
 | [a,b,c,d,e,f,g,i],_ =>
   have ha:=ho a (by simp);have hb:=ho b (by simp);have hc:=ho c (by simp);have hd:=ho d (by simp);have he:=ho e (by simp);have hf:=ho f (by simp);have hg:=ho g (by simp);have hi:=ho i (by simp)
   have er:bs [a,b,c,d,e,f,g,i]=a*72057594037927936+b*281474976710656+c*1099511627776+d*4294967296+e*16777216+f*65536+g*256+i:=by
    simp only [bs,List.foldl_cons,List.foldl_nil];omega
   rw [er,xh];refine ⟨by omega,?_⟩;simp only [List.cons.injEq,and_true];omega
theorem nM:eQ pk (fun x=>0≤x∧x≤18446744073709551615) (dR 8):=by
 have hW:∀ s,pk s=((aN s.2 s.1).2.1,((aN s.2 s.1).2.2,(aN s.2 s.1).1)):=fun _=>rfl;refine ⟨fun x u hx=>?_,fun l x u ho h=>?_,fun e he=>?_,fun l h=>?_⟩
 ·rw [hW];have h8:=a5 8 x
  have e:aN 0 (dR 8 x++u)=(0,x,u):=by
   unfold aN cY;rw [if_pos rfl,if_neg (by simp;omega),List.take_append_of_le_length (by omega),List.drop_append_of_le_length (by omega),List.take_of_length_le (by omega),List.drop_eq_nil_of_le (by omega),qj x hx.1 hx.2];rfl
  simp only [e]
 ·rw [hW] at h;have h':((aN 0 l).2.1,((aN 0 l).2.2,(aN 0 l).1))=(x,(u,0)):=h;unfold aN cY at h';rw [if_pos rfl] at h';split at h'
  ·simp at h'
  ·rename_i h8
   simp only [Prod.mk.injEq] at h';have hl:(l.take 8).length=8:=by rw [List.length_take];omega
   obtain ⟨h1,h2⟩:=qh (l.take 8) hl (ho.take 8);rw [h'.1] at h1 h2;refine ⟨h1,?_⟩;rw [h2,← h'.2.1,List.take_append_drop]
 ·rw [hW];show ((aN e []).2.2,(aN e []).1)=_;unfold aN;rw [if_neg he]
 ·rw [hW] at h ⊢;show (aN 0 l).2.2=[];have h':(aN 0 l).1≠0:=h;unfold aN cY at h' ⊢;rw [if_pos rfl] at h' ⊢;split
  ·rfl
  ·rename_i h8;rw [if_neg h8] at h';exact absurd rfl h'
def jD (c:Ch):Prop:=eS c.p=true∧(if c.g=true then c.d=0 else 0≤c.d∧c.d≤18446744073709551615)
def dq:gh Ch:=fun s=>bz ag s fd
theorem lV:eQ dq jD bC:=by
 have h1:∀ g:Bool,eQ (if g=true then pG (0:Int) else pk) (fun d=>if g=true then d=0 else 0≤d∧d≤18446744073709551615) (fun d=>if g=true then [] else dR 8 d):=fun g=>by
  cases g
  ·exact nM.imp (fun _=>rfl) (fun x=>Iff.rfl) (fun x _=>rfl)
  ·exact (eQ.ret (0:Int)).imp (fun _=>rfl) (fun x=>Iff.rfl) (fun x _=>rfl)
 have h:=(dE.seq (fun _=>sU.seq h1)).map (fun p=>(⟨p.1,p.2.1,p.2.2⟩:Ch)) (fun c=>(c.p,(c.g,c.d))) (fun a _=>rfl);refine h.imp (fun s=>?_) (fun c=>?_) (fun c _=>?_)
 ·show bz ag s fd=_;unfold bz;show (if (oY (ik s).2).1=true then _ else _)=_;cases hf:(oY (ik s).2).1
  ·simp only [Bool.false_eq_true,if_false];unfold da eF;simp only [hf,Bool.false_eq_true,if_false];rfl
  ·simp only [if_true];unfold da eF;simp only [hf,if_true];rfl
 ·unfold jD;constructor
  ·exact fun ⟨h1,h2⟩=>⟨⟨h1,trivial,h2⟩,rfl⟩
  ·exact fun ⟨⟨h1,_,h2⟩,_⟩=>⟨h1,h2⟩
 ·unfold bC;rw [List.append_assoc]
def bP {α:Type}(one:gh α):Nat→gh (List α)
 | 0=>pG []
 | n+1=>da (fun p=>p.1 :: p.2) (eF one (fun _=>bP one n))
theorem tC {α:Type}(one:List Int × Int→α→α × (List Int × Int)) (z:α) (n:Nat) (s:List Int × Int):cf one s (List.replicate n z)=bP (fun s=>one s z) n s:=by
 induction n generalizing s with
 | zero=>rfl
 | succ n ih =>
   rw [List.replicate_succ];unfold cf;rw [ih];rfl
theorem pn {α:Type}{one:gh α}{ok:α→Prop}{b:α→List Int}(h:eQ one ok b) (z:α) (n:Nat):eQ (bP one n) (fun L=>L.length=n∧∀ x∈L,ok x) (fun L=>L.flatMap b):=by
 induction n with
 | zero =>
   refine (eQ.ret ([]:List α)).imp (fun _=>rfl) (fun L=>?_) (fun L h=>by subst h;rfl);constructor
   ·exact fun ⟨h1,_⟩=>List.eq_nil_of_length_eq_zero h1
   ·intro h;subst h;exact ⟨rfl,by simp⟩
 | succ n ih =>
   have h2:=(h.seq (fun _=>ih)).map (fun p=>p.1 :: p.2) (fun L=>(L.headD z,L.tail)) (fun a _=>rfl);refine h2.imp (fun _=>rfl) (fun L=>?_) (fun L hL=>?_)
   ·constructor
    ·intro ⟨h3,h4⟩;match L,h3 with
     | x :: L,h3 =>
       exact ⟨⟨h4 x (by simp),by simpa using h3,fun y hy=>h4 y (by simp at hy ⊢;exact .inr hy)⟩,rfl⟩
    ·intro ⟨⟨h3,h4,h5⟩,h6⟩;match L,h6 with
     | x :: L,_ =>
       refine ⟨by simpa using h4,fun y hy=>?_⟩;rcases List.mem_cons.1 hy with rfl | hy
       ·exact h3
       ·exact h5 y hy
   ·obtain ⟨_,h6⟩:=hL;match L,h6 with
    | x :: L,_=>rfl
theorem nJ {α:Type}{one:List Int × Int→α→α × (List Int × Int)}{z:α}{ok:α→Prop}{b:α→List Int}(h:eQ (fun s=>one s z) ok b) (most:Nat) (hm:most≤1000) :
 eQ (fun s=>aP ag one z s [] (most:Int)) (fun L=>L.length≤most∧∀ x∈L,ok x) (fun L=>ap L.length++L.flatMap b):=by
 have h2:=((mz (most:Int) (by omega)).seq (fun n=>pn h z n.toNat)).map (fun p=>p.2) (fun L=>((L.length:Int),L)) (fun a ha=>by
  obtain ⟨⟨h1,_⟩,h3,_⟩:=ha;have:=(aZ a.1).1 h1
  refine Prod.ext ?_ rfl;show (a.2.length:Int)=a.1;omega)
 refine h2.imp (fun s=>?_) (fun L=>?_) (fun L _=>rfl)
 ·show aP ag one z s [] (most:Int)=_;unfold aP;rw [kP,tC];rfl
 ·constructor
  ·intro ⟨h3,h4⟩;exact ⟨⟨⟨(aZ _).2 (by omega),by show (L.length:Int)≤_;omega⟩,by show L.length=(L.length:Int).toNat;omega,h4⟩,rfl⟩
  ·intro ⟨⟨⟨_,h3⟩,_,h4⟩,_⟩;exact ⟨by have h3':(L.length:Int)≤(most:Int):=h3;omega,h4⟩
def fP (L:List Ch):Prop:=L.length≤64∧∀ c∈L,jD c
def ve:gh (List Ch):=fun s=>aP ag (bz ag) fd s [] 64
theorem mR:eQ ve fP uD:=by
 refine (nJ (one:=bz ag) (z:=fd) lV 64 (by omega)).imp (fun _=>rfl) (fun _=>Iff.rfl) (fun L h=>?_);unfold uD bL;rw [if_pos h.1]
def kr (x:bW):Prop:=ah x.r=true∧ah x.b=true∧eS x.n=true∧fP x.c
def la:gh bW:=fun s=>cn ag s dp
theorem lU:eQ la kr bK:=by
 have h:=(aG.seq (fun _=>aG.seq (fun _=>dE.seq (fun _=>mR)))).map (fun p=>(⟨p.1,p.2.1,p.2.2.1,p.2.2.2⟩:bW)) (fun x=>(x.r,(x.b,(x.n,x.c)))) (fun a _=>rfl);refine h.imp (fun s=>rfl) (fun x=>?_) (fun x _=>?_)
 ·constructor
  ·exact fun h=>⟨h,rfl⟩
  ·exact fun h=>h.1
 ·unfold bK;simp only [List.append_assoc]
def iy (L:List bW):Prop:=L.length≤32∧∀ x∈L,kr x
def vi:gh (List bW):=fun s=>aP ag (cn ag) dp s [] 32
theorem qW:eQ vi iy vq:=by
 refine (nJ (one:=cn ag) (z:=dp) lU 32 (by omega)).imp (fun _=>rfl) (fun _=>Iff.rfl) (fun L h=>?_);unfold vq bL;rw [if_pos h.1]
def xv (k:Int):gh Rq :=
 if k=0 then pG ⟨k,[],0,0,0,[],[],[],0,0,0⟩
 else if k=1 then da (fun n=>⟨k,n,0,0,0,[],[],[],0,0,0⟩) ik
 else if k=2 then da (fun p=>⟨k,[],p.1,p.2.1,p.2.2.1,p.2.2.2.1,p.2.2.2.2,[],0,0,0⟩) (eF az fun _=>eF az fun _=>eF az fun _=>eF ik fun _=>ve)
 else if k=4 then da (fun p=>⟨k,[],p.1,p.2.1,0,[],[],p.2.2,0,0,0⟩) (eF az fun _=>eF az fun _=>ik)
 else if k=5 then da (fun p=>⟨k,[],p.1,p.2.1,0,[],[],[],p.2.2.1,p.2.2.2,0⟩) (eF az fun _=>eF az fun _=>eF az fun _=>az)
 else if k=6∨k=7 then da (fun p=>⟨k,[],p.1,p.2.1,0,[],[],[],0,0,p.2.2⟩) (eF az fun _=>eF az fun _=>az)
 else da (fun p=>⟨k,[],p.1,p.2,0,[],[],[],0,0,0⟩) (eF az fun _=>az)
def vk (k:Int) (r:Rq):List Int :=
 if k=0 then [] else if k=1 then bT r.n else if k=2 then ap r.s++(ap r.q++(ap r.b++(bT r.f++uD r.c)))
 else if k=4 then ap r.s++(ap r.q++bT r.p) else if k=5 then ap r.s++(ap r.q++(ap r.fr++ap r.mn))
 else if k=6∨k=7 then ap r.s++(ap r.q++ap r.mb) else ap r.s++ap r.q
def lj (k:Int) (r:Rq):Prop :=
 if k=0 then r=⟨k,[],0,0,0,[],[],[],0,0,0⟩
 else if k=1 then eS r.n=true∧(⟨k,r.n,0,0,0,[],[],[],0,0,0⟩:Rq)=r
 else if k=2 then (ah r.s=true∧ah r.q=true∧ah r.b=true∧eS r.f=true∧fP r.c)∧(⟨k,[],r.s,r.q,r.b,r.f,r.c,[],0,0,0⟩:Rq)=r
 else if k=4 then (ah r.s=true∧ah r.q=true∧eS r.p=true)∧(⟨k,[],r.s,r.q,0,[],[],r.p,0,0,0⟩:Rq)=r
 else if k=5 then (ah r.s=true∧ah r.q=true∧ah r.fr=true∧ah r.mn=true)∧(⟨k,[],r.s,r.q,0,[],[],[],r.fr,r.mn,0⟩:Rq)=r
 else if k=6∨k=7 then (ah r.s=true∧ah r.q=true∧ah r.mb=true)∧(⟨k,[],r.s,r.q,0,[],[],[],0,0,r.mb⟩:Rq)=r
 else (ah r.s=true∧ah r.q=true)∧(⟨k,[],r.s,r.q,0,[],[],[],0,0,0⟩:Rq)=r
theorem xe (k:Int):eQ (xv k) (lj k) (vk k):=by
 unfold xv lj vk;by_cases h0:k=0
 ·simp only [if_pos h0];exact eQ.ret _
 by_cases h1:k=1
 ·simp only [if_neg h0,if_pos h1];exact dE.map _ (fun r:Rq=>r.n) (fun a _=>rfl)
 by_cases h2:k=2
 ·simp only [if_neg h0,if_neg h1,if_pos h2];exact (aG.seq (fun _=>aG.seq (fun _=>aG.seq (fun _=>dE.seq (fun _=>mR))))).map _ (fun r:Rq=>(r.s,(r.q,(r.b,(r.f,r.c))))) (fun a _=>rfl)
 by_cases h4:k=4
 ·simp only [if_neg h0,if_neg h1,if_neg h2,if_pos h4];exact (aG.seq (fun _=>aG.seq (fun _=>dE))).map _ (fun r:Rq=>(r.s,(r.q,r.p))) (fun a _=>rfl)
 by_cases h5:k=5
 ·simp only [if_neg h0,if_neg h1,if_neg h2,if_neg h4,if_pos h5];exact (aG.seq (fun _=>aG.seq (fun _=>aG.seq (fun _=>aG)))).map _ (fun r:Rq=>(r.s,(r.q,(r.fr,r.mn)))) (fun a _=>rfl)
 by_cases h6:k=6∨k=7
 ·simp only [if_neg h0,if_neg h1,if_neg h2,if_neg h4,if_neg h5,if_pos h6];exact (aG.seq (fun _=>aG.seq (fun _=>aG))).map _ (fun r:Rq=>(r.s,(r.q,r.mb))) (fun a _=>rfl)
 ·simp only [if_neg h0,if_neg h1,if_neg h2,if_neg h4,if_neg h5,if_neg h6];exact (aG.seq (fun _=>aG)).map _ (fun r:Rq=>(r.s,r.q)) (fun a _=>rfl)
theorem ww {k:Int}{r:Rq}(h:lj k r):r.k=k:=by
 unfold lj at h;split at h
 ·rw [h]
 all_goals (repeat' split at h)
 all_goals (rw [← h.2])
def ff (r:Rq):Prop:=(ah r.k=true∧r.k≤7)∧lj r.k r
def mA:gh Rq:=fun s=>aT ag s cl
theorem t9:eQ mA ff (fun r=>ap r.k++vk r.k r):=by
 have h:=((mz 7 (by omega)).seq xe).map (fun p=>p.2) (fun r=>(r.k,r)) (fun a ha=>Prod.ext (ww ha.2) rfl);refine h.imp (fun s=>?_) (fun r=>?_) (fun r _=>rfl)
 ·show aT ag s cl=(xv (j5 7 s).1 (j5 7 s).2);have hk:dB ag s cl=(j5 7 s).1:=rfl;unfold aT;rw [hk];unfold xv;generalize hkk:(j5 7 s).1=k;by_cases h0:k=0
  ·simp only [if_pos h0];rfl
  by_cases h1:k=1
  ·simp only [if_neg h0,if_pos h1];rfl
  by_cases h2:k=2
  ·simp only [if_neg h0,if_neg h1,if_pos h2];rfl
  by_cases h4:k=4
  ·simp only [if_neg h0,if_neg h1,if_neg h2,if_pos h4];rfl
  by_cases h5:k=5
  ·simp only [if_neg h0,if_neg h1,if_neg h2,if_neg h4,if_pos h5];rfl
  by_cases h6:k=6∨k=7
  ·simp only [if_neg h0,if_neg h1,if_neg h2,if_neg h4,if_neg h5,if_pos h6];rfl
  ·simp only [if_neg h0,if_neg h1,if_neg h2,if_neg h4,if_neg h5,if_neg h6];rfl
 ·constructor
  ·exact fun h=>⟨h,rfl⟩
  ·exact fun h=>h.1
def xx (k:Int):gh Vt :=
 if k=1 then da (fun x=>⟨k,x,0,[],0,[],0⟩) az
 else if k=2∨k=4∨k=8 then da (fun x=>⟨k,0,x,[],0,[],0⟩) az
 else if k=3 then da (fun p=>⟨k,0,p.2,p.1,0,[],0⟩) (eF ik fun _=>az)
 else if k=9 then da (fun p=>⟨k,0,p.2.2,p.1,p.2.1,[],0⟩) (eF ik fun _=>eF pk fun _=>az)
 else if k=10 then da (fun p=>⟨k,0,0,p,0,[],0⟩) ik
 else if k=11 then da (fun p=>⟨k,0,0,[],0,p,0⟩) vi
 else if k=12∨k=13∨k=14 then da (fun x=>⟨k,0,0,[],0,[],x⟩) az
 else pG ⟨k,0,0,[],0,[],0⟩
def bG (k:Int) (v:Vt):List Int :=
 if k=1 then ap v.s else if k=2∨k=4∨k=8 then ap v.r else if k=3 then bT v.p++ap v.r else if k=9 then bT v.p++(dR 8 v.d++ap v.r)
 else if k=10 then bT v.p else if k=11 then vq v.k else if k=12∨k=13∨k=14 then ap v.m else []
def sY (k:Int) (v:Vt):Prop :=
 if k=1 then ah v.s=true∧(⟨k,v.s,0,[],0,[],0⟩:Vt)=v
 else if k=2∨k=4∨k=8 then ah v.r=true∧(⟨k,0,v.r,[],0,[],0⟩:Vt)=v
 else if k=3 then (eS v.p=true∧ah v.r=true)∧(⟨k,0,v.r,v.p,0,[],0⟩:Vt)=v
 else if k=9 then (eS v.p=true∧(0≤v.d∧v.d≤18446744073709551615)∧ah v.r=true)∧(⟨k,0,v.r,v.p,v.d,[],0⟩:Vt)=v
 else if k=10 then eS v.p=true∧(⟨k,0,0,v.p,0,[],0⟩:Vt)=v
 else if k=11 then iy v.k∧(⟨k,0,0,[],0,v.k,0⟩:Vt)=v
 else if k=12∨k=13∨k=14 then ah v.m=true∧(⟨k,0,0,[],0,[],v.m⟩:Vt)=v
 else v=⟨k,0,0,[],0,[],0⟩
theorem xj (k:Int):eQ (xx k) (sY k) (bG k):=by
 unfold xx sY bG;by_cases h1:k=1
 ·simp only [if_pos h1];exact aG.map _ (fun v:Vt=>v.s) (fun a _=>rfl)
 by_cases h2:k=2∨k=4∨k=8
 ·simp only [if_neg h1,if_pos h2];exact aG.map _ (fun v:Vt=>v.r) (fun a _=>rfl)
 by_cases h3:k=3
 ·simp only [if_neg h1,if_neg h2,if_pos h3];exact (dE.seq (fun _=>aG)).map _ (fun v:Vt=>(v.p,v.r)) (fun a _=>rfl)
 by_cases h9:k=9
 ·simp only [if_neg h1,if_neg h2,if_neg h3,if_pos h9];exact (dE.seq (fun _=>nM.seq (fun _=>aG))).map _ (fun v:Vt=>(v.p,(v.d,v.r))) (fun a _=>rfl)
 by_cases h10:k=10
 ·simp only [if_neg h1,if_neg h2,if_neg h3,if_neg h9,if_pos h10];exact dE.map _ (fun v:Vt=>v.p) (fun a _=>rfl)
 by_cases h11:k=11
 ·simp only [if_neg h1,if_neg h2,if_neg h3,if_neg h9,if_neg h10,if_pos h11];exact qW.map _ (fun v:Vt=>v.k) (fun a _=>rfl)
 by_cases h12:k=12∨k=13∨k=14
 ·simp only [if_neg h1,if_neg h2,if_neg h3,if_neg h9,if_neg h10,if_neg h11,if_pos h12];exact aG.map _ (fun v:Vt=>v.m) (fun a _=>rfl)
 ·simp only [if_neg h1,if_neg h2,if_neg h3,if_neg h9,if_neg h10,if_neg h11,if_neg h12];exact eQ.ret _
theorem wQ {k:Int}{v:Vt}(h:sY k v):v.c=k:=by
 unfold sY at h;repeat' split at h
 all_goals first | (rw [← h.2]) | (rw [h])
def fH (v:Vt):Prop:=(ah v.c=true∧v.c≤14)∧sY v.c v
def qA:gh Vt:=fun s=>aH ag s bD
theorem ui:eQ qA fH (fun v=>ap v.c++bG v.c v):=by
 have h:=((mz 14 (by omega)).seq xj).map (fun p=>p.2) (fun v=>(v.c,v)) (fun a ha=>Prod.ext (wQ ha.2) rfl);refine h.imp (fun s=>?_) (fun r=>?_) (fun r _=>rfl)
 ·show aH ag s bD=(xx (j5 14 s).1 (j5 14 s).2);have hk:ch ag s bD=(j5 14 s).1:=rfl;unfold aH;rw [hk];unfold xx;generalize hkk:(j5 14 s).1=k;by_cases h1:k=1
  ·simp only [if_pos h1];rfl
  by_cases h2:k=2∨k=4∨k=8
  ·simp only [if_neg h1,if_pos h2];rfl
  by_cases h3:k=3
  ·simp only [if_neg h1,if_neg h2,if_pos h3];rfl
  by_cases h9:k=9
  ·simp only [if_neg h1,if_neg h2,if_neg h3,if_pos h9];rfl
  by_cases h10:k=10
  ·simp only [if_neg h1,if_neg h2,if_neg h3,if_neg h9,if_pos h10];rfl
  by_cases h11:k=11
  ·simp only [if_neg h1,if_neg h2,if_neg h3,if_neg h9,if_neg h10,if_pos h11];rfl
  by_cases h12:k=12∨k=13∨k=14
  ·simp only [if_neg h1,if_neg h2,if_neg h3,if_neg h9,if_neg h10,if_neg h11,if_pos h12];rfl
  ·simp only [if_neg h1,if_neg h2,if_neg h3,if_neg h9,if_neg h10,if_neg h11,if_neg h12];rfl
 ·constructor
  ·exact fun h=>⟨h,rfl⟩
  ·exact fun h=>h.1
def fI (L:List Ch):Prop:=∀ c∈L,0≤c.d∧c.d≤18446744073709551615
theorem l3 (c:Ch) (h:0≤c.d∧c.d≤18446744073709551615):jD c↔eS c.p=true∧pY c=c:=by
 obtain ⟨p,g,d⟩:=c;unfold jD pY;cases g
 ·simp only [Bool.false_eq_true,if_false];exact ⟨fun h1=>⟨h1.1,by trivial⟩,fun h1=>⟨h1.1,h⟩⟩
 ·simp only [if_true,Ch.mk.injEq,true_and];exact ⟨fun h1=>⟨h1.1,h1.2.symm⟩,fun h1=>⟨h1.1,h1.2.symm⟩⟩
theorem ud {c:Ch}(h:jD c):0≤c.d∧c.d≤18446744073709551615:=by
 obtain ⟨_,h2⟩:=h;split at h2
 ·rw [h2];omega
 ·exact h2
theorem nr {α:Type}(f:α→α) (L:List α):L.map f=L↔∀ x∈L,f x=x:=by
 induction L with
 | nil=>simp
 | cons x L ih=>simp [ih]
theorem mH (L:List Ch) (h:fI L):fP L↔rE L=true∧mP L=L:=by
 unfold fP rE mP ql qe;by_cases hl:L.length≤64
 ·simp only [hl,true_and,decide_true,Bool.true_and,List.all_eq_true,if_true,nr];constructor
  ·exact fun h1=>⟨fun x hx=>((l3 x (h x hx)).1 (h1 x hx)).1,fun x hx=>((l3 x (h x hx)).1 (h1 x hx)).2⟩
  ·exact fun h1 x hx=>(l3 x (h x hx)).2 ⟨h1.1 x hx,h1.2 x hx⟩
 ·simp [hl]
theorem mu (x:bW) (h:fI x.c):kr x↔qd x=true∧pz x=x:=by
 obtain ⟨r,b,n,c⟩:=x;unfold kr qd pz;simp only [Bool.and_eq_true,bW.mk.injEq,true_and];rw [mH c h];constructor
 ·exact fun ⟨h1,h2,h3,h4,h5⟩=>⟨⟨⟨⟨h1,h2⟩,h3⟩,h4⟩,h5⟩
 ·exact fun ⟨⟨⟨⟨h1,h2⟩,h3⟩,h4⟩,h5⟩=>⟨h1,h2,h3,h4,h5⟩
theorem rr (L:List bW) (h:∀ x∈L,fI x.c):iy L↔uP L=true∧po L=L:=by
 unfold iy uP po ql qe;by_cases hl:L.length≤32
 ·simp only [hl,true_and,decide_true,Bool.true_and,List.all_eq_true,if_true,nr];constructor
  ·exact fun h1=>⟨fun x hx=>((mu x (h x hx)).1 (h1 x hx)).1,fun x hx=>((mu x (h x hx)).1 (h1 x hx)).2⟩
  ·exact fun h1 x hx=>(mu x (h x hx)).2 ⟨h1.1 x hx,h1.2 x hx⟩
 ·simp [hl]
theorem mQ {L:List Ch}(h:fP L):fI L:=fun c hc=>ud (h.2 c hc)
theorem jQ {k k':Int}{n n':List UInt8}{s s' q q' b b':Int}{f f':List UInt8}{c c':List Ch}{p p':List UInt8}{fr fr' mn mn' mb mb':Int} :
 (⟨k,n,s,q,b,f,c,p,fr,mn,mb⟩:Rq)=⟨k',n',s',q',b',f',c',p',fr',mn',mb'⟩↔k=k'∧n=n'∧s=s'∧q=q'∧b=b'∧f=f'∧c=c'∧p=p'∧fr=fr'∧mn=mn'∧mb=mb':=by
 rw [Rq.mk.injEq]
theorem oz (r:Rq) (h:fI r.c):fe r=true↔ff r:=by
 unfold fe um ff;simp only [Bool.and_eq_true,decide_eq_true_eq];by_cases hk:r.k≤7
 ·have ek:kR r=r.k:=by unfold kR;rw [if_neg (by omega)]
  unfold fR lj;rw [ek];obtain ⟨k,n,s,q,b,f,c,p,fr,mn,mb⟩:=r;simp only at *;have hc:=mH c h;by_cases h0:k=0
  ·simp only [if_pos h0,and_true,hk];constructor
   ·exact fun ⟨h1,h2⟩=>⟨h1,h2.symm⟩
   ·exact fun ⟨h1,h2⟩=>⟨h1,h2.symm⟩
  by_cases h1:k=1
  ·simp only [if_neg h0,if_pos h1,hk,and_true,and_assoc]
  by_cases h2:k=2
  ·simp only [if_neg h0,if_neg h1,if_pos h2,hk,and_true,Bool.and_eq_true,jQ,true_and];rw [hc];constructor
   ·rintro ⟨⟨g0,⟨⟨⟨g1,g2⟩,g3⟩,g4⟩,g5⟩,g6,g7,g8⟩;exact ⟨g0,⟨g1,g2,g3,g4,g5,g7⟩,g6,g8⟩
   ·rintro ⟨g0,⟨g1,g2,g3,g4,g5,g7⟩,g6,g8⟩;exact ⟨⟨g0,⟨⟨⟨g1,g2⟩,g3⟩,g4⟩,g5⟩,g6,g7,g8⟩
  by_cases h4:k=4
  ·simp only [if_neg h0,if_neg h1,if_neg h2,if_pos h4,hk,and_true,Bool.and_eq_true,and_assoc]
  by_cases h5:k=5
  ·simp only [if_neg h0,if_neg h1,if_neg h2,if_neg h4,if_pos h5,hk,and_true,Bool.and_eq_true,and_assoc]
  by_cases h6:k=6∨k=7
  ·simp only [if_neg h0,if_neg h1,if_neg h2,if_neg h4,if_neg h5,if_pos h6,hk,and_true,Bool.and_eq_true,and_assoc]
  ·simp only [if_neg h0,if_neg h1,if_neg h2,if_neg h4,if_neg h5,if_neg h6,hk,and_true,Bool.and_eq_true,and_assoc]
 ·simp [hk]
theorem pb {r:Rq}(h:ff r):fI r.c:=by
 obtain ⟨_,h2⟩:=h;unfold lj at h2;intro c hc;split at h2
 ·rw [h2] at hc;cases hc
 split at h2
 ·rw [← h2.2] at hc;cases hc
 split at h2
 ·exact mQ h2.1.2.2.2.2 c hc
 split at h2
 ·rw [← h2.2] at hc;cases hc
 split at h2
 ·rw [← h2.2] at hc;cases hc
 split at h2
 ·rw [← h2.2] at hc;cases hc
 ·rw [← h2.2] at hc;cases hc
theorem nD {r:Rq}(h:ff r):bR r=ap r.k++vk r.k r:=by
 have ek:kR r=r.k:=by unfold kR;rw [if_neg (by have:=h.1.2;omega)]
 unfold bR fR vk;rw [ek];split
 ·rfl
 split
 ·rfl
 split
 ·simp only [List.append_assoc]
 split
 ·simp only [List.append_assoc]
 split
 ·simp only [List.append_assoc]
 split
 ·simp only [List.append_assoc]
 ·rfl
theorem wX:eQ mA ff bR:=t9.imp (fun _=>rfl) (fun _=>Iff.rfl) (fun _ h=>nD h)
theorem pf (r:Rq):gv ([],0) r=if fe r=true then (bR r,0) else ([],1):=by
 rw [j1];rfl
def qp (v:Vt):Prop:=(0≤v.d∧v.d≤18446744073709551615)∧∀ x∈v.k,fI x.c
theorem iR {c c' s s' r r':Int}{p p':List UInt8}{d d':Int}{k k':List bW}{m m':Int} :
 (⟨c,s,r,p,d,k,m⟩:Vt)=⟨c',s',r',p',d',k',m'⟩↔c=c'∧s=s'∧r=r'∧p=p'∧d=d'∧k=k'∧m=m':=by
 rw [Vt.mk.injEq]
theorem o5 (v:Vt) (h:qp v):jc v=true↔fH v:=by
 unfold jc t5 fH;simp only [Bool.and_eq_true,decide_eq_true_eq];by_cases hk:v.c≤14
 ·have ek:kV v=v.c:=by unfold kV;rw [if_neg (by omega)]
  unfold fV sY;rw [ek];obtain ⟨c,s,r,p,d,k,m⟩:=v;simp only at *;have hd:=h.1;have hc:=rr k h.2;simp only at hd;by_cases h1:c=1
  ·simp only [if_pos h1,hk,and_true,and_assoc]
  by_cases h2:c=2∨c=4∨c=8
  ·simp only [if_neg h1,if_pos h2,hk,and_true,and_assoc]
  by_cases h3:c=3
  ·simp only [if_neg h1,if_neg h2,if_pos h3,hk,and_true,Bool.and_eq_true,and_assoc]
  by_cases h9:c=9
  ·simp only [if_neg h1,if_neg h2,if_neg h3,if_pos h9,hk,hd,and_true,true_and,Bool.and_eq_true,and_assoc]
  by_cases h10:c=10
  ·simp only [if_neg h1,if_neg h2,if_neg h3,if_neg h9,if_pos h10,hk,and_true,and_assoc]
  by_cases h11:c=11
  ·simp only [if_neg h1,if_neg h2,if_neg h3,if_neg h9,if_neg h10,if_pos h11,hk,and_true,iR,true_and];rw [hc];constructor
   ·rintro ⟨⟨g0,g1⟩,g2,g3,g4,g5,g6,g7⟩;exact ⟨g0,⟨g1,g6⟩,g2,g3,g4,g5,g7⟩
   ·rintro ⟨g0,⟨g1,g6⟩,g2,g3,g4,g5,g7⟩;exact ⟨⟨g0,g1⟩,g2,g3,g4,g5,g6,g7⟩
  by_cases h12:c=12∨c=13∨c=14
  ·simp only [if_neg h1,if_neg h2,if_neg h3,if_neg h9,if_neg h10,if_neg h11,if_pos h12,hk,and_true,and_assoc]
  ·simp only [if_neg h1,if_neg h2,if_neg h3,if_neg h9,if_neg h10,if_neg h11,if_neg h12,hk,and_true];constructor
   ·exact fun ⟨h1,h2⟩=>⟨h1,h2.symm⟩
   ·exact fun ⟨h1,h2⟩=>⟨h1,h2.symm⟩
 ·simp [hk]
theorem lm {v:Vt}(h:fH v):bV v=ap v.c++bG v.c v:=by
 have ek:kV v=v.c:=by unfold kV;rw [if_neg (by have:=h.1.2;omega)]
 unfold bV fV bG;rw [ek];split
 ·rfl
 split
 ·rfl
 split
 ·rfl
 split
 ·simp only [List.append_assoc]
 split
 ·rfl
 split
 ·rfl
 split
 ·rfl
 ·rfl
theorem xA:eQ qA fH bV:=ui.imp (fun _=>rfl) (fun _=>Iff.rfl) (fun _ h=>lm h)
theorem nj (v:Vt):ew ([],0) v=if jc v=true then (bV v,0) else ([],1):=by
 rw [jz];rfl
end Go.Proofs.YtakafmejllilnaaGreat
