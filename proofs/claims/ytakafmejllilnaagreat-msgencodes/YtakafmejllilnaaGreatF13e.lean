/-
  Texts laid as one.
-/
import Derived.Test.YtakafmejllilnaaGreatF11e
import Derived.Test.YtakafmejllilnaaGreatF12e
/-
 What is written,plainly: bytes,and whether it may be.
-/
namespace Go.Proofs.YtakafmejllilnaaGreat
def aX (s:List Int × Int) (ok:Bool) (b:List Int):List Int × Int:=if s.2=0 then (if ok=true then (s.1++b,0) else ([],1)) else ([],s.2)
theorem dc (s:List Int × Int) (o1 o2:Bool) (b1 b2:List Int):aX (aX s o1 b1) o2 b2=aX s (o1 && o2) (b1++b2):=by
 unfold aX;by_cases h:s.2=0
 ·rw [if_pos h,if_pos h];cases o1
  ·simp
  ·cases o2 <;> simp
 ·rw [if_neg h,if_neg h];simp [h]
def aj (n:Int):Bool:=decide (0≤n∧n≤1099511627776)
def fG (t:List UInt8):List Int:=dg (ac t)
def bT (t:List UInt8):List Int:=ag t.length++fG t
def dY (t:List UInt8):Bool:=decide (t.length≤255)
def bF (b:Bool):List Int:=[if b then 1 else 0]
theorem fN (t:List UInt8):(fG t).length=t.length:=lD t
theorem iP (s:List Int × Int) (n:Int):bP.num s n=(n,aX s (aj n) (ag n)):=by
 show (n,dM s.2 s.1 n)=_;congr 1
 unfold dM aX aj;by_cases h:s.2=0
 ·rw [if_pos h,if_pos h];by_cases h2:0≤n∧n≤1099511627776
  ·simp [h2]
  ·rw [if_neg h2,decide_eq_false h2];simp
 ·rw [if_neg h,if_neg h]
theorem gm (s:List Int × Int) (n t:Int):bP.upTo s n t=(if t < n then 0 else n,aX s (aj n && decide (n≤t)) (ag n)):=by
 show (if t < n then _ else _)=_;by_cases h:t < n
 ·rw [if_pos h,if_pos h,decide_eq_false (by omega)];congr 1
  unfold aY aX;by_cases h2:s.2=0
  ·rw [if_pos h2,if_pos h2];simp
  ·rw [if_neg h2,if_neg h2]
 ·rw [if_neg h,if_neg h,decide_eq_true (by omega),Bool.and_true];exact congrArg _ (congrArg Prod.snd (iP s n))
theorem iO (s:List Int × Int) (t:List UInt8):bP.text s t=(t,aX s (dY t) (bT t)):=by
 show (t,if 255 < t.length then _ else _)=_;congr 1
 by_cases h:255 < t.length
 ·rw [if_pos h,iC (en s.2).2];unfold dY;rw [decide_eq_false (by omega)];unfold aX aY;by_cases h2:s.2=0
  ·rw [if_pos h2,if_pos h2];simp
  ·rw [if_neg h2,if_neg h2]
 ·rw [if_neg h];unfold dY;rw [decide_eq_true (by omega)];unfold aX bD bT fG;rw [lD];by_cases h2:s.2=0
  ·rw [if_pos h2,if_pos h2,if_pos (by omega)];simp
  ·rw [if_neg h2,if_neg h2]
theorem rp (s:List Int × Int) (b:Bool):bP.flag s b=(b,aX s true (bF b)):=by
 show (b,cQ s.2 s.1 b)=_;congr 1
theorem nk (s:List Int × Int) (x:Int):bP.word s x=(x,aX s true (dA 8 x)):=by
 show (x,ex s.2 s.1 x)=_;congr 1
def bC (c:Ch):List Int:=bT c.p++bF c.g++(if c.g=true then [] else dA 8 c.d)
def pI (c:Ch):Ch:=⟨c.p,c.g,if c.g=true then 0 else c.d⟩
theorem sN (s:List Int × Int) (c:Ch):bQ bP s c=(pI c,aX s (dY c.p) (bC c)):=by
 unfold bQ pI bC;rw [iO,rp];obtain ⟨p,g,d⟩:=c;cases g
 ·simp only [Bool.false_eq_true,if_false];rw [nk];simp only [dc,Bool.and_true,List.append_assoc]
 ·simp only [if_true,dc,Bool.and_true,List.append_nil]
theorem sO {α:Type}(one:List Int × Int→α→α × (List Int × Int)) (nam:α→α) (ok:α→Bool) (b:α→List Int) (h:∀ s x,one s x=(nam x,aX s (ok x) (b x))) (s:List Int × Int) (L:List α) (hs:s.2≠0→s.1=[]) :
 cj one s L=(L.map nam,aX s (L.all ok) (L.flatMap b)):=by
 induction L generalizing s with
 | nil =>
   show ([],s)=_;congr 1
   unfold aX;by_cases h2:s.2=0
   ·rw [if_pos h2];simp;exact Prod.ext rfl h2
   ·rw [if_neg h2];exact Prod.ext (hs h2) rfl
 | cons x L ih =>
   unfold cj;rw [h,ih]
   ·simp only [dc,List.map_cons,List.all_cons,List.flatMap_cons]
   ·intro h2;unfold aX at h2 ⊢;split
    ·rename_i h3;rw [if_pos h3] at h2
     split
     ·rename_i h4;rw [if_pos h4] at h2;simp at h2
     ·rfl
    ·rfl
theorem qp (s:List Int × Int) (o:Bool) (b:List Int):(aX s o b).2≠0→(aX s o b).1=[]:=by
 intro h2;unfold aX at h2 ⊢;split
 ·rename_i h3;rw [if_pos h3] at h2
  split
  ·rename_i h4;rw [if_pos h4] at h2;simp at h2
  ·rfl
 ·rfl
def bL {α:Type}(b:α→List Int) (most:Nat) (L:List α):List Int:=ag L.length++(if L.length≤most then L.flatMap b else [])
def qx {α:Type}(ok:α→Bool) (most:Nat) (L:List α):Bool:=decide (L.length≤most) && L.all ok
def qi {α:Type}(nam:α→α) (most:Nat) (L:List α):List α:=if L.length≤most then L.map nam else []
theorem mH {α:Type}(one:List Int × Int→α→α × (List Int × Int)) (nam:α→α) (ok:α→Bool) (b:α→List Int) (h:∀ s x,one s x=(nam x,aX s (ok x) (b x))) (z:α) (s:List Int × Int) (L:List α) (most:Nat) (hm:most≤1000) :
 aW bP one z s L (most:Int)=(qi nam most L,aX s (qx ok most L) (bL b most L)):=by
 unfold aW qi qx bL;rw [gm];by_cases hl:L.length≤most
 ·have h1:¬ ((most:Int) < (L.length:Int)):=by omega
  have h2:aj (L.length:Int)=true:=by unfold aj;simp;omega
  simp only [if_neg h1,if_pos hl,h2,decide_eq_true hl,Int.toNat_natCast,qk];rw [sO one nam ok b h _ _ (qp _ _ _),dc];simp [hl]
 ·have h1:(most:Int) < (L.length:Int):=by omega
  have h3:decide ((L.length:Int)≤(most:Int))=false:=by simp;omega
  simp only [if_pos h1,if_neg hl,decide_eq_false hl,h3,Bool.and_false,Bool.false_and,Int.toNat_zero,pL,cj,List.append_nil]
def np (L:List Ch):List Int:=bL bC 64 L
def rr (L:List Ch):Bool:=qx (fun c=>dY c.p) 64 L
def nc (L:List Ch):List Ch:=qi pI 64 L
theorem nA (s:List Int × Int) (L:List Ch):aW bP (bQ bP) fY s L 64=(nc L,aX s (rr L) (np L)) :=
 mH (bQ bP) pI (fun c=>dY c.p) bC (fun s x=>sN s x) fY s L 64 (by omega)
def bK (x:ch):List Int:=ag x.r++ag x.b++bT x.n++np x.c
def pC (x:ch):Bool:=aj x.r && aj x.b && dY x.n && rr x.c
def pO (x:ch):ch:=⟨x.r,x.b,x.n,nc x.c⟩
theorem ui (s:List Int × Int) (x:ch):dl bP s x=(pO x,aX s (pC x) (bK x)):=by
 unfold dl su pO pC bK;simp only [iP,iO,nA,dc,Bool.and_assoc,List.append_assoc]
def qy (L:List ch):List Int:=bL bK 32 L
def tz (L:List ch):Bool:=qx pC 32 L
def pc (L:List ch):List ch:=qi pO 32 L
theorem qW (s:List Int × Int) (L:List ch):aW bP (dl bP) eR s L 32=(pc L,aX s (tz L) (qy L)) :=
 mH (dl bP) pO pC bK (fun s x=>ui s x) eR s L 32 (by omega)
def kR (r:Rq):Int:=if 7 < r.k then 0 else r.k
def kV (v:Vt):Int:=if 14 < v.c then 0 else v.c
def fR (r:Rq):List Int × Bool × Rq :=
 if kR r=0 then ([],true,⟨kR r,[],0,0,0,[],[],[],0,0,0⟩)
 else if kR r=1 then (bT r.n,dY r.n,⟨kR r,r.n,0,0,0,[],[],[],0,0,0⟩)
 else if kR r=2 then (ag r.s++ag r.q++ag r.b++bT r.f++np r.c,aj r.s && aj r.q && aj r.b && dY r.f && rr r.c,⟨kR r,[],r.s,r.q,r.b,r.f,nc r.c,[],0,0,0⟩)
 else if kR r=4 then (ag r.s++ag r.q++bT r.p,aj r.s && aj r.q && dY r.p,⟨kR r,[],r.s,r.q,0,[],[],r.p,0,0,0⟩)
 else if kR r=5 then (ag r.s++ag r.q++ag r.fr++ag r.mn,aj r.s && aj r.q && aj r.fr && aj r.mn,⟨kR r,[],r.s,r.q,0,[],[],[],r.fr,r.mn,0⟩)
 else if kR r=6∨kR r=7 then (ag r.s++ag r.q++ag r.mb,aj r.s && aj r.q && aj r.mb,⟨kR r,[],r.s,r.q,0,[],[],[],0,0,r.mb⟩)
 else (ag r.s++ag r.q,aj r.s && aj r.q,⟨kR r,[],r.s,r.q,0,[],[],[],0,0,0⟩)
def bR (r:Rq):List Int:=ag r.k++(fR r).1
def tV (r:Rq):Bool:=(aj r.k && decide (r.k≤7)) && (fR r).2.1
theorem uy (s:List Int × Int) (r:Rq):ba bP s r=((fR r).2.2,aX s (tV r) (bR r)):=by
 have hk:(bP.upTo s r.k 7).1=kR r:=by rw [gm];rfl
 unfold ba eI fm iN iW tV bR fR;rw [hk];simp only [gm,iP,iO,nA,dc,List.append_assoc,Bool.and_assoc];by_cases h0:kR r=0
 ·simp only [if_pos h0,Bool.and_true,List.append_nil]
 by_cases h1:kR r=1
 ·simp only [if_neg h0,if_pos h1]
 by_cases h2:kR r=2
 ·simp only [if_neg h0,if_neg h1,if_pos h2]
 by_cases h4:kR r=4
 ·simp only [if_neg h0,if_neg h1,if_neg h2,if_pos h4]
 by_cases h5:kR r=5
 ·simp only [if_neg h0,if_neg h1,if_neg h2,if_neg h4,if_pos h5]
 by_cases h6:kR r=6∨kR r=7
 ·simp only [if_neg h0,if_neg h1,if_neg h2,if_neg h4,if_neg h5,if_pos h6]
 ·simp only [if_neg h0,if_neg h1,if_neg h2,if_neg h4,if_neg h5,if_neg h6]
def fV (v:Vt):List Int × Bool × Vt :=
 if kV v=1 then (ag v.s,aj v.s,⟨kV v,v.s,0,[],0,[],0⟩)
 else if kV v=2∨kV v=4∨kV v=8 then (ag v.r,aj v.r,⟨kV v,0,v.r,[],0,[],0⟩)
 else if kV v=3 then (bT v.p++ag v.r,dY v.p && aj v.r,⟨kV v,0,v.r,v.p,0,[],0⟩)
 else if kV v=9 then (bT v.p++dA 8 v.d++ag v.r,dY v.p && aj v.r,⟨kV v,0,v.r,v.p,v.d,[],0⟩)
 else if kV v=10 then (bT v.p,dY v.p,⟨kV v,0,0,v.p,0,[],0⟩)
 else if kV v=11 then (qy v.k,tz v.k,⟨kV v,0,0,[],0,pc v.k,0⟩)
 else if kV v=12∨kV v=13∨kV v=14 then (ag v.m,aj v.m,⟨kV v,0,0,[],0,[],v.m⟩)
 else ([],true,⟨kV v,0,0,[],0,[],0⟩)
def bV (v:Vt):List Int:=ag v.c++(fV v).1
def ul (v:Vt):Bool:=(aj v.c && decide (v.c≤14)) && (fV v).2.1
theorem tB (s:List Int × Int) (v:Vt):aP bP s v=((fV v).2.2,aX s (ul v) (bV v)):=by
 have hk:(bP.upTo s v.c 14).1=kV v:=by rw [gm];rfl
 unfold aP dz dG ul bV fV;rw [hk];simp only [gm,iP,iO,nk,qW,dc,List.append_assoc,Bool.and_assoc,Bool.true_and];by_cases h1:kV v=1
 ·simp only [if_pos h1]
 by_cases h2:kV v=2∨kV v=4∨kV v=8
 ·simp only [if_neg h1,if_pos h2]
 by_cases h3:kV v=3
 ·simp only [if_neg h1,if_neg h2,if_pos h3]
 by_cases h9:kV v=9
 ·simp only [if_neg h1,if_neg h2,if_neg h3,if_pos h9]
 by_cases h10:kV v=10
 ·simp only [if_neg h1,if_neg h2,if_neg h3,if_neg h9,if_pos h10]
 by_cases h11:kV v=11
 ·simp only [if_neg h1,if_neg h2,if_neg h3,if_neg h9,if_neg h10,if_pos h11]
 by_cases h12:kV v=12∨kV v=13∨kV v=14
 ·simp only [if_neg h1,if_neg h2,if_neg h3,if_neg h9,if_neg h10,if_neg h11,if_pos h12]
 ·simp only [if_neg h1,if_neg h2,if_neg h3,if_neg h9,if_neg h10,if_neg h11,if_neg h12,Bool.and_true,List.append_nil]
def ff (r:Rq):Bool:=tV r && decide ((fR r).2.2=r)
def i4 (v:Vt):Bool:=ul v && decide ((fV v).2.2=v)
theorem la (s:List Int × Int) (o:Bool) (b:List Int):aY (aX s o b).2=aX s false b:=by
 unfold aX aY;by_cases h:s.2=0
 ·rw [if_pos h,if_pos h];cases o <;> simp
 ·rw [if_neg h,if_neg h];simp [h]
theorem jF (s:List Int × Int) (r:Rq):go s r=aX s (ff r) (bR r):=by
 unfold go ff;rw [uy];by_cases h:(fR r).2.2=r
 ·rw [if_pos h,decide_eq_true h,Bool.and_true]
 ·rw [if_neg h,decide_eq_false h,Bool.and_false];exact la _ _ _
theorem ja (s:List Int × Int) (v:Vt):es s v=aX s (i4 v) (bV v):=by
 unfold es i4;rw [tB];by_cases h:(fV v).2.2=v
 ·rw [if_pos h,decide_eq_true h,Bool.and_true]
 ·rw [if_neg h,decide_eq_false h,Bool.and_false];exact la _ _ _
abbrev gg (α:Type):=List Int × Int→α × (List Int × Int)
structure fa {α:Type}(rd:gg α) (ok:α→Prop) (b:α→List Int):Prop where
 fwd:∀ x t,ok x→rd (b x++t,0)=(x,(t,0))
 bwd:∀ l x t,bh l→rd (l,0)=(x,(t,0))→ok x∧l=b x++t
 bad:∀ e,e≠0→(rd ([],e)).2=([],e)
 nil:∀ l,(rd (l,0)).2.2≠0→(rd (l,0)).2.1=[]
def eA {α β:Type}(A:gg α) (B:α→gg β):gg (α × β):=fun s=>(((A s).1,(B (A s).1 (A s).2).1),(B (A s).1 (A s).2).2)
def cL {α β:Type}(f:α→β) (A:gg α):gg β:=fun s=>(f (A s).1,(A s).2)
def pS {α:Type}(x:α):gg α:=fun s=>(x,s)
theorem bh.right {a b:List Int}(h:bh (a++b)):bh b:=fun x hx=>h x (List.mem_append_right _ hx)
theorem fa.ret {α:Type}(x:α):fa (pS x) (fun y=>y=x) (fun _=>[]) :=
 ⟨fun y t h=>by subst h;rfl,fun l y t _ h=>by cases h;exact ⟨rfl,rfl⟩,fun e _=>rfl,fun l h=>absurd rfl h⟩
theorem fa.seq {α β:Type}{A:gg α}{B:α→gg β}{okA:α→Prop}{okB:α→β→Prop}{bA:α→List Int}{bB:α→β→List Int}(hA:fa A okA bA) (hB:∀ a,fa (B a) (okB a) (bB a)) :
 fa (eA A B) (fun p=>okA p.1∧okB p.1 p.2) (fun p=>bA p.1++bB p.1 p.2):=by
 refine ⟨fun x t h=>?_,fun l x t ho h=>?_,fun e he=>?_,fun l h=>?_⟩
 ·have h1:=hA.fwd x.1 (bB x.1 x.2++t) h.1;show (((A _).1,_),_)=_;rw [List.append_assoc,h1,(hB x.1).fwd x.2 t h.2]
 ·have hx:x=((A (l,0)).1,(B (A (l,0)).1 (A (l,0)).2).1):=(congrArg Prod.fst h).symm;have ht:(B (A (l,0)).1 (A (l,0)).2).2=(t,0):=congrArg Prod.snd h;by_cases he:(A (l,0)).2.2=0
  ·have e1:A (l,0)=((A (l,0)).1,((A (l,0)).2.1,0)):=Prod.ext rfl (Prod.ext rfl he);obtain ⟨h1,h2⟩:=hA.bwd l _ _ ho e1;have ho2:bh (A (l,0)).2.1:=by rw [h2] at ho;exact ho.right
   have e2:(A (l,0)).2=((A (l,0)).2.1,0):=Prod.ext rfl he;have e3:B (A (l,0)).1 ((A (l,0)).2.1,0)=((B (A (l,0)).1 (A (l,0)).2).1,(t,0)):=by rw [← e2];exact Prod.ext rfl ht
   obtain ⟨h3,h4⟩:=(hB _).bwd _ _ _ ho2 e3;rw [hx];refine ⟨⟨h1,h3⟩,?_⟩;rw [List.append_assoc,← h4];exact h2
  ·have e2:(A (l,0)).2=([],(A (l,0)).2.2):=Prod.ext (hA.nil l he) rfl;rw [e2,(hB _).bad _ he] at ht;exact absurd (congrArg Prod.snd ht) he
 ·show (B _ (A ([],e)).2).2=_;rw [hA.bad e he];exact (hB _).bad e he
 ·show (B (A (l,0)).1 (A (l,0)).2).2.1=[];have h':(B (A (l,0)).1 (A (l,0)).2).2.2≠0:=h;by_cases he:(A (l,0)).2.2=0
  ·have e2:(A (l,0)).2=((A (l,0)).2.1,0):=Prod.ext rfl he;rw [e2] at h' ⊢;exact (hB _).nil _ h'
  ·have e2:(A (l,0)).2=([],(A (l,0)).2.2):=Prod.ext (hA.nil l he) rfl;rw [e2,(hB _).bad _ he]
theorem fa.map {α β:Type}{A:gg α}{ok:α→Prop}{b:α→List Int}(hA:fa A ok b) (f:α→β) (g:β→α) (hg:∀ a,ok a→g (f a)=a) :
 fa (cL f A) (fun y=>ok (g y)∧f (g y)=y) (fun y=>b (g y)):=by
 refine ⟨fun y t h=>?_,fun l y t ho h=>?_,fun e he=>hA.bad e he,fun l h=>hA.nil l h⟩
 ·show (f (A _).1,(A _).2)=_;rw [hA.fwd (g y) t h.1];simp [h.2]
 ·have hy:f (A (l,0)).1=y:=congrArg Prod.fst h;have ht:(A (l,0)).2=(t,0):=congrArg Prod.snd h;obtain ⟨h1,h2⟩:=hA.bwd l (A (l,0)).1 t ho (Prod.ext rfl ht);have h3:=hg _ h1;rw [hy] at h3;rw [h3];exact ⟨⟨h1,hy⟩,h2⟩
theorem fa.imp {α:Type}{A A':gg α}{ok ok':α→Prop}{b b':α→List Int}(h:fa A ok b) (hA:∀ s,A' s=A s) (ho:∀ x,ok' x↔ok x) (hb:∀ x,ok x→b' x=b x):fa A' ok' b':=by
 refine ⟨fun x t hx=>?_,fun l x t hl hx=>?_,fun e he=>?_,fun l hl=>?_⟩
 ·rw [hA,hb x ((ho x).1 hx)];exact h.fwd x t ((ho x).1 hx)
 ·rw [hA] at hx;obtain ⟨h1,h2⟩:=h.bwd l x t hl hx;exact ⟨(ho x).2 h1,by rw [hb x h1];exact h2⟩
 ·rw [hA];exact h.bad e he
 ·rw [hA] at hl ⊢;exact h.nil l hl
def aw:gg Int:=fun s=>bI.num s 0
def kl (t:Int):gg Int:=fun s=>bI.upTo s 0 t
def gU:gg (List UInt8):=fun s=>bI.text s []
def pn:gg Bool:=fun s=>bI.flag s false
def o8:gg Int:=fun s=>bI.word s 0
theorem aG (n:Int):aj n=true↔0≤n∧n≤1099511627776:=by unfold aj;simp
theorem gQ {l rest:List Int}{x:Int}(ho:bh l) (h:an 0 l=(0,x,rest)):(0≤x∧x≤1099511627776)∧l=ag x++rest:=by
 unfold an at h;rw [if_pos rfl] at h;obtain ⟨h1,h2,h3⟩:=i2 x l rest ho h;exact ⟨⟨h1,h2⟩,h3⟩
theorem fS (n:Int) (t:List Int) (h:aj n=true):an 0 (ag n++t)=(0,n,t):=by
 have:=(aG n).1 h
 unfold an;rw [if_pos rfl];exact qv n t this.1 this.2
theorem eY (e:Int) (he:e≠0) (l:List Int):an e l=(e,0,[]):=by unfold an;rw [if_neg he]
theorem ig (l:List Int) (h:(an 0 l).1≠0):(an 0 l).2=(0,[]):=by
 unfold an at h ⊢;rw [if_pos rfl] at h ⊢;rcases gE 6 0 0 l with ⟨h1,_⟩ | ⟨_,h1⟩
 ·exact absurd h1 h
 ·exact h1
theorem aF:fa aw (fun n=>aj n=true) ag:=by
 refine ⟨fun x t h=>?_,fun l x t ho h=>?_,fun e he=>?_,fun l h=>?_⟩
 ·show ((an 0 (ag x++t)).2.1,((an 0 (ag x++t)).2.2,(an 0 (ag x++t)).1))=_;rw [fS x t h]
 ·have h':((an 0 l).2.1,((an 0 l).2.2,(an 0 l).1))=(x,(t,0)):=h
  have e:an 0 l=(0,x,t):=by
   simp only [Prod.mk.injEq] at h';exact Prod.ext h'.2.2 (Prod.ext h'.1 h'.2.1)
  obtain ⟨h1,h2⟩:=gQ ho e;exact ⟨(aG x).2 h1,h2⟩
 ·show ((an e []).2.2,(an e []).1)=_;rw [eY e he]
 ·show (an 0 l).2.2=[];rw [ig l h]
theorem ma (t:Int) (ht:0≤t):fa (kl t) (fun n=>aj n=true∧n≤t) ag:=by
 have hU:∀ s,kl t s=if t < (an s.2 s.1).2.1 then (0,([],cf (an s.2 s.1).1)) else ((an s.2 s.1).2.1,((an s.2 s.1).2.2,(an s.2 s.1).1)):=fun _=>rfl
 refine ⟨fun x u h=>?_,fun l x u ho h=>?_,fun e he=>?_,fun l h=>?_⟩
 ·rw [hU];show (if t < (an 0 (ag x++u)).2.1 then _ else _)=_;rw [fS x u h.1,if_neg (by show ¬ t < x;omega)]
 ·rw [hU] at h;have h':(if t < (an 0 l).2.1 then (0,([],cf (an 0 l).1)) else ((an 0 l).2.1,((an 0 l).2.2,(an 0 l).1)))=((x,(u,0)):Int × (List Int × Int)):=h;by_cases hc:t < (an 0 l).2.1
  ·rw [if_pos hc] at h';simp only [Prod.mk.injEq] at h';exfalso
   have:=h'.2.2
   unfold cf at this;split at this
   ·simp at this
   ·contradiction
  ·rw [if_neg hc] at h';simp only [Prod.mk.injEq] at h';have e:an 0 l=(0,x,u):=Prod.ext h'.2.2 (Prod.ext h'.1 h'.2.1);obtain ⟨h1,h2⟩:=gQ ho e;exact ⟨⟨(aG x).2 h1,by rw [h'.1] at hc;omega⟩,h2⟩
 ·have hU0:kl t ([],e)=if t < (an e []).2.1 then (0,([],cf (an e []).1)) else ((an e []).2.1,((an e []).2.2,(an e []).1)):=hU ([],e)
  rw [hU0,eY e he,if_neg (by show ¬ t < 0;omega)]
 ·have hU0:kl t (l,0)=if t < (an 0 l).2.1 then (0,([],cf (an 0 l).1)) else ((an 0 l).2.1,((an 0 l).2.2,(an 0 l).1)):=hU (l,0)
  rw [hU0] at h ⊢;by_cases hc:t < (an 0 l).2.1
  ·rw [if_pos hc]
  ·rw [if_neg hc] at h ⊢;show (an 0 l).2.2=[];rw [ig l h]
theorem r9 (t:List UInt8):rq (fG t)=t:=by
 have h:=oc (ac t);rw [sc] at h;exact t5 h
theorem rY {d:List Int}(h:bh d):fG (rq d)=d:=by
 unfold fG dg rq;rw [aU,List.map_map];conv=>rhs;rw [← List.map_id d]
 apply List.map_congr_left
 intro x hx;have:=h x hx
 simp
 omega
theorem lP (l:List Int) (ho:bh l):(∃ d rest,aA 0 255 l=(0,d,rest)∧d.length≤255∧l=ag d.length++d++rest)∨(∃ e,e≠0∧aA 0 255 l=(e,[],[])):=by
 obtain ⟨q,hq⟩:∃ q,q=an 0 l:=⟨_,rfl⟩;obtain ⟨e1,x,rest⟩:=q;have hr:=fW (most:=255) hq.symm;by_cases he:e1=0
 ·subst he;obtain ⟨h1,h2⟩:=gQ ho hq.symm;by_cases h3:255 < x
  ·right
   exact ⟨3,by decide,by rw [hr,if_neg (by simp),if_pos h3]⟩
  ·by_cases h4:(rest.length:Int) < x
   ·right
    exact ⟨2,by decide,by rw [hr,if_neg (by simp),if_neg h3,if_pos h4]⟩
   ·left
    have hl:(rest.take x.toNat).length=x.toNat:=by rw [List.length_take];omega
    refine ⟨rest.take x.toNat,rest.drop x.toNat,by rw [hr,if_neg (by simp),if_neg h3,if_neg h4],by omega,?_⟩;rw [hl,List.append_assoc,List.take_append_drop,show ((x.toNat:Nat):Int)=x by omega];exact h2
 ·right
  exact ⟨e1,he,by rw [hr,if_pos he]⟩
theorem ep:fa gU (fun t=>dY t=true) bT:=by
 have hT:∀ s,gU s=(rq (aA s.2 255 s.1).2.1,((aA s.2 255 s.1).2.2,(aA s.2 255 s.1).1)):=fun _=>rfl;refine ⟨fun x u h=>?_,fun l x u ho h=>?_,fun e he=>?_,fun l h=>?_⟩
 ·have hx:x.length≤255:=by unfold dY at h;simpa using h
  rw [hT];show (rq (aA 0 255 (bT x++u)).2.1,((aA 0 255 (bT x++u)).2.2,(aA 0 255 (bT x++u)).1))=_;have hl:=fN x;have hr:=fW (most:=255) (fS (x.length:Int) (fG x++u) (by unfold aj;simp;omega));unfold bT;rw [List.append_assoc,hr,if_neg (by simp),if_neg (by omega),if_neg (by simp;omega)];have e1:(fG x++u).take (x.length:Int).toNat=fG x:=by rw [Int.toNat_natCast,← hl];simp
  have e2:(fG x++u).drop (x.length:Int).toNat=u:=by rw [Int.toNat_natCast,← hl];simp
  simp only [e1,e2,r9]
 ·rw [hT] at h;rcases lP l ho with ⟨d,rest,h1,h2,h3⟩ | ⟨e,he,h1⟩
  ·have h':(rq (aA 0 255 l).2.1,((aA 0 255 l).2.2,(aA 0 255 l).1))=(x,(u,0)):=h;rw [h1] at h';simp only [Prod.mk.injEq] at h';have hod:bh d:=by rw [h3] at ho;intro y hy;exact ho y (by simp [hy])
   have hxl:x.length=d.length:=by rw [← h'.1];simp [rq]
   refine ⟨by unfold dY;simp;omega,?_⟩;unfold bT;rw [hxl,← h'.1,rY hod,← h'.2.1];exact h3
  ·have h':(rq (aA 0 255 l).2.1,((aA 0 255 l).2.2,(aA 0 255 l).1))=(x,(u,0)):=h;rw [h1] at h';simp only [Prod.mk.injEq] at h';exact absurd h'.2.2 he
 ·rw [hT];show ((aA e 255 []).2.2,(aA e 255 []).1)=_;unfold aA;rw [if_neg he]
 ·rw [hT] at h ⊢;show (aA 0 255 l).2.2=[];have h':(aA 0 255 l).1≠0:=h;unfold aA bv at h' ⊢;rw [if_pos rfl] at h' ⊢;split
  ·rfl
  ·rename_i h1
   rw [if_neg h1] at h';split
   ·rfl
   ·rename_i h2
    rw [if_neg h2] at h';split
    ·rfl
    ·rename_i h3
     rw [if_neg h3] at h';exact absurd rfl h'
theorem jt (d:Int) (l:List Int):dj (d :: l)=if 1 < d then (4,false,[]) else (0,d==1,l):=rfl
theorem rA:fa pn (fun _=>True) bF:=by
 have hF:∀ s,pn s=((aZ s.2 s.1).2.1,((aZ s.2 s.1).2.2,(aZ s.2 s.1).1)):=fun _=>rfl;refine ⟨fun x u _=>?_,fun l x u ho h=>?_,fun e he=>?_,fun l h=>?_⟩
 ·rw [hF];cases x <;> simp [aZ,dj,bF]
 ·rw [hF] at h;have h':((aZ 0 l).2.1,((aZ 0 l).2.2,(aZ 0 l).1))=(x,(u,0)):=h;refine ⟨trivial,?_⟩;unfold aZ at h';rw [if_pos rfl] at h';cases l with
  | nil=>simp [dj] at h'
  | cons d l =>
    have hd:=ho.head;rw [jt] at h';by_cases hd1:1 < d
    ·rw [if_pos hd1] at h';simp at h'
    ·rw [if_neg hd1] at h';simp only [Prod.mk.injEq] at h';obtain ⟨h1,h2,_⟩:=h';subst h2;have:d=0∨d=1:=by omega
     rcases this with rfl | rfl
     ·have:x=false:=by rw [← h1];decide
      subst this;rfl
     ·have:x=true:=by rw [← h1];decide
      subst this;rfl
 ·rw [hF];show ((aZ e []).2.2,(aZ e []).1)=_;unfold aZ;rw [if_neg he]
 ·rw [hF] at h ⊢;show (aZ 0 l).2.2=[];have h':(aZ 0 l).1≠0:=h;unfold aZ at h' ⊢;rw [if_pos rfl] at h' ⊢;cases l with
  | nil=>rfl
  | cons d l =>
    rw [jt] at h' ⊢;split
    ·rfl
    ·rename_i h1;rw [if_neg h1] at h';exact absurd rfl h'
theorem wu (x:Int):dA 8 x=[x / 72057594037927936 % 256,x / 281474976710656 % 256,x / 1099511627776 % 256,x / 4294967296 % 256,x / 16777216 % 256,x / 65536 % 256,x / 256 % 256,x % 256]:=by
 simp [dA,List.range,List.range.loop]
theorem pW (x:Int) (h0:0≤x) (h1:x≤18446744073709551615):cg (dA 8 x)=x:=by
 rw [wu];simp only [cg,List.foldl_cons,List.foldl_nil];omega
theorem qb (l:List Int) (h:l.length=8) (ho:bh l):(0≤cg l∧cg l≤18446744073709551615)∧dA 8 (cg l)=l:=by
 match l,h with
 | [a,b,c,d,e,f,g,i],_ =>
   have ha:=ho a (by simp);have hb:=ho b (by simp);have hc:=ho c (by simp);have hd:=ho d (by simp);have he:=ho e (by simp);have hf:=ho f (by simp);have hg:=ho g (by simp);have hi:=ho i (by simp)
   have er:cg [a,b,c,d,e,f,g,i]=a*72057594037927936+b*281474976710656+c*1099511627776+d*4294967296+e*16777216+f*65536+g*256+i:=by
    simp only [cg,List.foldl_cons,List.foldl_nil];omega
   rw [er,wu];refine ⟨by omega,?_⟩;simp only [List.cons.injEq,and_true];omega
theorem mE:fa o8 (fun x=>0≤x∧x≤18446744073709551615) (dA 8):=by
 have hW:∀ s,o8 s=((aV s.2 s.1).2.1,((aV s.2 s.1).2.2,(aV s.2 s.1).1)):=fun _=>rfl;refine ⟨fun x u hx=>?_,fun l x u ho h=>?_,fun e he=>?_,fun l h=>?_⟩
 ·rw [hW];have h8:=bp 8 x
  have e:aV 0 (dA 8 x++u)=(0,x,u):=by
   unfold aV dk;rw [if_pos rfl,if_neg (by simp;omega),List.take_append_of_le_length (by omega),List.drop_append_of_le_length (by omega),List.take_of_length_le (by omega),List.drop_eq_nil_of_le (by omega),pW x hx.1 hx.2];rfl
  simp only [e]
 ·rw [hW] at h;have h':((aV 0 l).2.1,((aV 0 l).2.2,(aV 0 l).1))=(x,(u,0)):=h;unfold aV dk at h';rw [if_pos rfl] at h';split at h'
  ·simp at h'
  ·rename_i h8
   simp only [Prod.mk.injEq] at h';have hl:(l.take 8).length=8:=by rw [List.length_take];omega
   obtain ⟨h1,h2⟩:=qb (l.take 8) hl (ho.take 8);rw [h'.1] at h1 h2;refine ⟨h1,?_⟩;rw [h2,← h'.2.1,List.take_append_drop]
 ·rw [hW];show ((aV e []).2.2,(aV e []).1)=_;unfold aV;rw [if_neg he]
 ·rw [hW] at h ⊢;show (aV 0 l).2.2=[];have h':(aV 0 l).1≠0:=h;unfold aV dk at h' ⊢;rw [if_pos rfl] at h' ⊢;split
  ·rfl
  ·rename_i h8;rw [if_neg h8] at h';exact absurd rfl h'
def jo (c:Ch):Prop:=dY c.p=true∧(if c.g=true then c.d=0 else 0≤c.d∧c.d≤18446744073709551615)
def xK:gg Ch:=fun s=>bQ bI s fY
theorem tw:fa xK jo bC:=by
 have h1:∀ g:Bool,fa (if g=true then pS (0:Int) else o8) (fun d=>if g=true then d=0 else 0≤d∧d≤18446744073709551615) (fun d=>if g=true then [] else dA 8 d):=fun g=>by
  cases g
  ·exact mE.imp (fun _=>rfl) (fun x=>Iff.rfl) (fun x _=>rfl)
  ·exact (fa.ret (0:Int)).imp (fun _=>rfl) (fun x=>Iff.rfl) (fun x _=>rfl)
 have h:=(ep.seq (fun _=>rA.seq h1)).map (fun p=>(⟨p.1,p.2.1,p.2.2⟩:Ch)) (fun c=>(c.p,(c.g,c.d))) (fun a _=>rfl);refine h.imp (fun s=>?_) (fun c=>?_) (fun c _=>?_)
 ·show bQ bI s fY=_;unfold bQ;show (if (pn (gU s).2).1=true then _ else _)=_;cases hf:(pn (gU s).2).1
  ·simp only [Bool.false_eq_true,if_false];unfold cL eA;simp only [hf,Bool.false_eq_true,if_false];rfl
  ·simp only [if_true];unfold cL eA;simp only [hf,if_true];rfl
 ·unfold jo;constructor
  ·exact fun ⟨h1,h2⟩=>⟨⟨h1,trivial,h2⟩,rfl⟩
  ·exact fun ⟨⟨h1,_,h2⟩,_⟩=>⟨h1,h2⟩
 ·unfold bC;rw [List.append_assoc]
def dy {α:Type}(one:gg α):Nat→gg (List α)
 | 0=>pS []
 | n+1=>cL (fun p=>p.1 :: p.2) (eA one (fun _=>dy one n))
theorem sI {α:Type}(one:List Int × Int→α→α × (List Int × Int)) (z:α) (n:Nat) (s:List Int × Int):cj one s (List.replicate n z)=dy (fun s=>one s z) n s:=by
 induction n generalizing s with
 | zero=>rfl
 | succ n ih =>
   rw [List.replicate_succ];unfold cj;rw [ih];rfl
theorem o3 {α:Type}{one:gg α}{ok:α→Prop}{b:α→List Int}(h:fa one ok b) (z:α) (n:Nat):fa (dy one n) (fun L=>L.length=n∧∀ x∈L,ok x) (fun L=>L.flatMap b):=by
 induction n with
 | zero =>
   refine (fa.ret ([]:List α)).imp (fun _=>rfl) (fun L=>?_) (fun L h=>by subst h;rfl);constructor
   ·exact fun ⟨h1,_⟩=>List.eq_nil_of_length_eq_zero h1
   ·intro h;subst h;exact ⟨rfl,by simp⟩
 | succ n ih =>
   have h2:=(h.seq (fun _=>ih)).map (fun p=>p.1 :: p.2) (fun L=>(L.headD z,L.tail)) (fun a _=>rfl);refine h2.imp (fun _=>rfl) (fun L=>?_) (fun L hL=>?_)
   ·constructor
    ·intro ⟨h3,h4⟩;match L,h3 with
     | x :: L,h3 =>
       exact ⟨⟨h4 x (by simp),by simpa using h3,fun y hy=>h4 y (by simp at hy ⊢;exact .inr hy)⟩,rfl⟩
    ·intro ⟨⟨h3,h4,h5⟩,h6⟩;match L,h6 with
     | x :: L,_ =>
       refine ⟨by simpa using h4,fun y hy=>?_⟩;rcases List.mem_cons.1 hy with rfl | hy
       ·exact h3
       ·exact h5 y hy
   ·obtain ⟨_,h6⟩:=hL;match L,h6 with
    | x :: L,_=>rfl
theorem nz {α:Type}{one:List Int × Int→α→α × (List Int × Int)}{z:α}{ok:α→Prop}{b:α→List Int}(h:fa (fun s=>one s z) ok b) (most:Nat) (hm:most≤1000) :
 fa (fun s=>aW bI one z s [] (most:Int)) (fun L=>L.length≤most∧∀ x∈L,ok x) (fun L=>ag L.length++L.flatMap b):=by
 have h2:=((ma (most:Int) (by omega)).seq (fun n=>o3 h z n.toNat)).map (fun p=>p.2) (fun L=>((L.length:Int),L)) (fun a ha=>by
  obtain ⟨⟨h1,_⟩,h3,_⟩:=ha;have:=(aG a.1).1 h1
  refine Prod.ext ?_ rfl;show (a.2.length:Int)=a.1;omega)
 refine h2.imp (fun s=>?_) (fun L=>?_) (fun L _=>rfl)
 ·show aW bI one z s [] (most:Int)=_;unfold aW;rw [q4,sI];rfl
 ·constructor
  ·intro ⟨h3,h4⟩;exact ⟨⟨⟨(aG _).2 (by omega),by show (L.length:Int)≤_;omega⟩,by show L.length=(L.length:Int).toNat;omega,h4⟩,rfl⟩
  ·intro ⟨⟨⟨_,h3⟩,_,h4⟩,_⟩;exact ⟨by have h3':(L.length:Int)≤(most:Int):=h3;omega,h4⟩
def eZ (L:List Ch):Prop:=L.length≤64∧∀ c∈L,jo c
def uY:gg (List Ch):=fun s=>aW bI (bQ bI) fY s [] 64
theorem my:fa uY eZ np:=by
 refine (nz (one:=bQ bI) (z:=fY) tw 64 (by omega)).imp (fun _=>rfl) (fun _=>Iff.rfl) (fun L h=>?_);unfold np bL;rw [if_pos h.1]
def kh (x:ch):Prop:=aj x.r=true∧aj x.b=true∧dY x.n=true∧eZ x.c
def xG:gg ch:=fun s=>dl bI s eR
theorem sW:fa xG kh bK:=by
 have h:=(aF.seq (fun _=>aF.seq (fun _=>ep.seq (fun _=>my)))).map (fun p=>(⟨p.1,p.2.1,p.2.2.1,p.2.2.2⟩:ch)) (fun x=>(x.r,(x.b,(x.n,x.c)))) (fun a _=>rfl);refine h.imp (fun s=>rfl) (fun x=>?_) (fun x _=>?_)
 ·constructor
  ·exact fun h=>⟨h,rfl⟩
  ·exact fun h=>h.1
 ·unfold bK;simp only [List.append_assoc]
def gu (L:List ch):Prop:=L.length≤32∧∀ x∈L,kh x
def uT:gg (List ch):=fun s=>aW bI (dl bI) eR s [] 32
theorem so:fa uT gu qy:=by
 refine (nz (one:=dl bI) (z:=eR) sW 32 (by omega)).imp (fun _=>rfl) (fun _=>Iff.rfl) (fun L h=>?_);unfold qy bL;rw [if_pos h.1]
def xi (k:Int):gg Rq :=
 if k=0 then pS ⟨k,[],0,0,0,[],[],[],0,0,0⟩
 else if k=1 then cL (fun n=>⟨k,n,0,0,0,[],[],[],0,0,0⟩) gU
 else if k=2 then cL (fun p=>⟨k,[],p.1,p.2.1,p.2.2.1,p.2.2.2.1,p.2.2.2.2,[],0,0,0⟩) (eA aw fun _=>eA aw fun _=>eA aw fun _=>eA gU fun _=>uY)
 else if k=4 then cL (fun p=>⟨k,[],p.1,p.2.1,0,[],[],p.2.2,0,0,0⟩) (eA aw fun _=>eA aw fun _=>gU)
 else if k=5 then cL (fun p=>⟨k,[],p.1,p.2.1,0,[],[],[],p.2.2.1,p.2.2.2,0⟩) (eA aw fun _=>eA aw fun _=>eA aw fun _=>aw)
 else if k=6∨k=7 then cL (fun p=>⟨k,[],p.1,p.2.1,0,[],[],[],0,0,p.2.2⟩) (eA aw fun _=>eA aw fun _=>aw)
 else cL (fun p=>⟨k,[],p.1,p.2,0,[],[],[],0,0,0⟩) (eA aw fun _=>aw)
def uJ (k:Int) (r:Rq):List Int :=
 if k=0 then [] else if k=1 then bT r.n else if k=2 then ag r.s++(ag r.q++(ag r.b++(bT r.f++np r.c)))
 else if k=4 then ag r.s++(ag r.q++bT r.p) else if k=5 then ag r.s++(ag r.q++(ag r.fr++ag r.mn))
 else if k=6∨k=7 then ag r.s++(ag r.q++ag r.mb) else ag r.s++ag r.q
def jW (k:Int) (r:Rq):Prop :=
 if k=0 then r=⟨k,[],0,0,0,[],[],[],0,0,0⟩
 else if k=1 then dY r.n=true∧(⟨k,r.n,0,0,0,[],[],[],0,0,0⟩:Rq)=r
 else if k=2 then (aj r.s=true∧aj r.q=true∧aj r.b=true∧dY r.f=true∧eZ r.c)∧(⟨k,[],r.s,r.q,r.b,r.f,r.c,[],0,0,0⟩:Rq)=r
 else if k=4 then (aj r.s=true∧aj r.q=true∧dY r.p=true)∧(⟨k,[],r.s,r.q,0,[],[],r.p,0,0,0⟩:Rq)=r
 else if k=5 then (aj r.s=true∧aj r.q=true∧aj r.fr=true∧aj r.mn=true)∧(⟨k,[],r.s,r.q,0,[],[],[],r.fr,r.mn,0⟩:Rq)=r
 else if k=6∨k=7 then (aj r.s=true∧aj r.q=true∧aj r.mb=true)∧(⟨k,[],r.s,r.q,0,[],[],[],0,0,r.mb⟩:Rq)=r
 else (aj r.s=true∧aj r.q=true)∧(⟨k,[],r.s,r.q,0,[],[],[],0,0,0⟩:Rq)=r
theorem wM (k:Int):fa (xi k) (jW k) (uJ k):=by
 unfold xi jW uJ;by_cases h0:k=0
 ·simp only [if_pos h0];exact fa.ret _
 by_cases h1:k=1
 ·simp only [if_neg h0,if_pos h1];exact ep.map _ (fun r:Rq=>r.n) (fun a _=>rfl)
 by_cases h2:k=2
 ·simp only [if_neg h0,if_neg h1,if_pos h2];exact (aF.seq (fun _=>aF.seq (fun _=>aF.seq (fun _=>ep.seq (fun _=>my))))).map _ (fun r:Rq=>(r.s,(r.q,(r.b,(r.f,r.c))))) (fun a _=>rfl)
 by_cases h4:k=4
 ·simp only [if_neg h0,if_neg h1,if_neg h2,if_pos h4];exact (aF.seq (fun _=>aF.seq (fun _=>ep))).map _ (fun r:Rq=>(r.s,(r.q,r.p))) (fun a _=>rfl)
 by_cases h5:k=5
 ·simp only [if_neg h0,if_neg h1,if_neg h2,if_neg h4,if_pos h5];exact (aF.seq (fun _=>aF.seq (fun _=>aF.seq (fun _=>aF)))).map _ (fun r:Rq=>(r.s,(r.q,(r.fr,r.mn)))) (fun a _=>rfl)
 by_cases h6:k=6∨k=7
 ·simp only [if_neg h0,if_neg h1,if_neg h2,if_neg h4,if_neg h5,if_pos h6];exact (aF.seq (fun _=>aF.seq (fun _=>aF))).map _ (fun r:Rq=>(r.s,(r.q,r.mb))) (fun a _=>rfl)
 ·simp only [if_neg h0,if_neg h1,if_neg h2,if_neg h4,if_neg h5,if_neg h6];exact (aF.seq (fun _=>aF)).map _ (fun r:Rq=>(r.s,r.q)) (fun a _=>rfl)
theorem wU {k:Int}{r:Rq}(h:jW k r):r.k=k:=by
 unfold jW at h;split at h
 ·rw [h]
 all_goals (repeat' split at h)
 all_goals (rw [← h.2])
def eF (r:Rq):Prop:=(aj r.k=true∧r.k≤7)∧jW r.k r
def lI:gg Rq:=fun s=>ba bI s fd
theorem uC:fa lI eF (fun r=>ag r.k++uJ r.k r):=by
 have h:=((ma 7 (by omega)).seq wM).map (fun p=>p.2) (fun r=>(r.k,r)) (fun a ha=>Prod.ext (wU ha.2) rfl);refine h.imp (fun s=>?_) (fun r=>?_) (fun r _=>rfl)
 ·show ba bI s fd=(xi (kl 7 s).1 (kl 7 s).2);have hk:eI bI s fd=(kl 7 s).1:=rfl;unfold ba;rw [hk];unfold xi;generalize hkk:(kl 7 s).1=k;by_cases h0:k=0
  ·simp only [if_pos h0];rfl
  by_cases h1:k=1
  ·simp only [if_neg h0,if_pos h1];rfl
  by_cases h2:k=2
  ·simp only [if_neg h0,if_neg h1,if_pos h2];rfl
  by_cases h4:k=4
  ·simp only [if_neg h0,if_neg h1,if_neg h2,if_pos h4];rfl
  by_cases h5:k=5
  ·simp only [if_neg h0,if_neg h1,if_neg h2,if_neg h4,if_pos h5];rfl
  by_cases h6:k=6∨k=7
  ·simp only [if_neg h0,if_neg h1,if_neg h2,if_neg h4,if_neg h5,if_pos h6];rfl
  ·simp only [if_neg h0,if_neg h1,if_neg h2,if_neg h4,if_neg h5,if_neg h6];rfl
 ·constructor
  ·exact fun h=>⟨h,rfl⟩
  ·exact fun h=>h.1
def xj (k:Int):gg Vt :=
 if k=1 then cL (fun x=>⟨k,x,0,[],0,[],0⟩) aw
 else if k=2∨k=4∨k=8 then cL (fun x=>⟨k,0,x,[],0,[],0⟩) aw
 else if k=3 then cL (fun p=>⟨k,0,p.2,p.1,0,[],0⟩) (eA gU fun _=>aw)
 else if k=9 then cL (fun p=>⟨k,0,p.2.2,p.1,p.2.1,[],0⟩) (eA gU fun _=>eA o8 fun _=>aw)
 else if k=10 then cL (fun p=>⟨k,0,0,p,0,[],0⟩) gU
 else if k=11 then cL (fun p=>⟨k,0,0,[],0,p,0⟩) uT
 else if k=12∨k=13∨k=14 then cL (fun x=>⟨k,0,0,[],0,[],x⟩) aw
 else pS ⟨k,0,0,[],0,[],0⟩
def bG (k:Int) (v:Vt):List Int :=
 if k=1 then ag v.s else if k=2∨k=4∨k=8 then ag v.r else if k=3 then bT v.p++ag v.r else if k=9 then bT v.p++(dA 8 v.d++ag v.r)
 else if k=10 then bT v.p else if k=11 then qy v.k else if k=12∨k=13∨k=14 then ag v.m else []
def sn (k:Int) (v:Vt):Prop :=
 if k=1 then aj v.s=true∧(⟨k,v.s,0,[],0,[],0⟩:Vt)=v
 else if k=2∨k=4∨k=8 then aj v.r=true∧(⟨k,0,v.r,[],0,[],0⟩:Vt)=v
 else if k=3 then (dY v.p=true∧aj v.r=true)∧(⟨k,0,v.r,v.p,0,[],0⟩:Vt)=v
 else if k=9 then (dY v.p=true∧(0≤v.d∧v.d≤18446744073709551615)∧aj v.r=true)∧(⟨k,0,v.r,v.p,v.d,[],0⟩:Vt)=v
 else if k=10 then dY v.p=true∧(⟨k,0,0,v.p,0,[],0⟩:Vt)=v
 else if k=11 then gu v.k∧(⟨k,0,0,[],0,v.k,0⟩:Vt)=v
 else if k=12∨k=13∨k=14 then aj v.m=true∧(⟨k,0,0,[],0,[],v.m⟩:Vt)=v
 else v=⟨k,0,0,[],0,[],0⟩
theorem xe (k:Int):fa (xj k) (sn k) (bG k):=by
 unfold xj sn bG;by_cases h1:k=1
 ·simp only [if_pos h1];exact aF.map _ (fun v:Vt=>v.s) (fun a _=>rfl)
 by_cases h2:k=2∨k=4∨k=8
 ·simp only [if_neg h1,if_pos h2];exact aF.map _ (fun v:Vt=>v.r) (fun a _=>rfl)
 by_cases h3:k=3
 ·simp only [if_neg h1,if_neg h2,if_pos h3];exact (ep.seq (fun _=>aF)).map _ (fun v:Vt=>(v.p,v.r)) (fun a _=>rfl)
 by_cases h9:k=9
 ·simp only [if_neg h1,if_neg h2,if_neg h3,if_pos h9];exact (ep.seq (fun _=>mE.seq (fun _=>aF))).map _ (fun v:Vt=>(v.p,(v.d,v.r))) (fun a _=>rfl)
 by_cases h10:k=10
 ·simp only [if_neg h1,if_neg h2,if_neg h3,if_neg h9,if_pos h10];exact ep.map _ (fun v:Vt=>v.p) (fun a _=>rfl)
 by_cases h11:k=11
 ·simp only [if_neg h1,if_neg h2,if_neg h3,if_neg h9,if_neg h10,if_pos h11];exact so.map _ (fun v:Vt=>v.k) (fun a _=>rfl)
 by_cases h12:k=12∨k=13∨k=14
 ·simp only [if_neg h1,if_neg h2,if_neg h3,if_neg h9,if_neg h10,if_neg h11,if_pos h12];exact aF.map _ (fun v:Vt=>v.m) (fun a _=>rfl)
 ·simp only [if_neg h1,if_neg h2,if_neg h3,if_neg h9,if_neg h10,if_neg h11,if_neg h12];exact fa.ret _
theorem wZ {k:Int}{v:Vt}(h:sn k v):v.c=k:=by
 unfold sn at h;repeat' split at h
 all_goals first | (rw [← h.2]) | (rw [h])
def fi (v:Vt):Prop:=(aj v.c=true∧v.c≤14)∧sn v.c v
def p4:gg Vt:=fun s=>aP bI s eq
theorem t7:fa p4 fi (fun v=>ag v.c++bG v.c v):=by
 have h:=((ma 14 (by omega)).seq xe).map (fun p=>p.2) (fun v=>(v.c,v)) (fun a ha=>Prod.ext (wZ ha.2) rfl);refine h.imp (fun s=>?_) (fun r=>?_) (fun r _=>rfl)
 ·show aP bI s eq=(xj (kl 14 s).1 (kl 14 s).2);have hk:dz bI s eq=(kl 14 s).1:=rfl;unfold aP;rw [hk];unfold xj;generalize hkk:(kl 14 s).1=k;by_cases h1:k=1
  ·simp only [if_pos h1];rfl
  by_cases h2:k=2∨k=4∨k=8
  ·simp only [if_neg h1,if_pos h2];rfl
  by_cases h3:k=3
  ·simp only [if_neg h1,if_neg h2,if_pos h3];rfl
  by_cases h9:k=9
  ·simp only [if_neg h1,if_neg h2,if_neg h3,if_pos h9];rfl
  by_cases h10:k=10
  ·simp only [if_neg h1,if_neg h2,if_neg h3,if_neg h9,if_pos h10];rfl
  by_cases h11:k=11
  ·simp only [if_neg h1,if_neg h2,if_neg h3,if_neg h9,if_neg h10,if_pos h11];rfl
  by_cases h12:k=12∨k=13∨k=14
  ·simp only [if_neg h1,if_neg h2,if_neg h3,if_neg h9,if_neg h10,if_neg h11,if_pos h12];rfl
  ·simp only [if_neg h1,if_neg h2,if_neg h3,if_neg h9,if_neg h10,if_neg h11,if_neg h12];rfl
 ·constructor
  ·exact fun h=>⟨h,rfl⟩
  ·exact fun h=>h.1
def ei (L:List Ch):Prop:=∀ c∈L,0≤c.d∧c.d≤18446744073709551615
theorem lA (c:Ch) (h:0≤c.d∧c.d≤18446744073709551615):jo c↔dY c.p=true∧pI c=c:=by
 obtain ⟨p,g,d⟩:=c;unfold jo pI;cases g
 ·simp only [Bool.false_eq_true,if_false];exact ⟨fun h1=>⟨h1.1,by trivial⟩,fun h1=>⟨h1.1,h⟩⟩
 ·simp only [if_true,Ch.mk.injEq,true_and];exact ⟨fun h1=>⟨h1.1,h1.2.symm⟩,fun h1=>⟨h1.1,h1.2.symm⟩⟩
theorem uI {c:Ch}(h:jo c):0≤c.d∧c.d≤18446744073709551615:=by
 obtain ⟨_,h2⟩:=h;split at h2
 ·rw [h2];omega
 ·exact h2
theorem mL {α:Type}(f:α→α) (L:List α):L.map f=L↔∀ x∈L,f x=x:=by
 induction L with
 | nil=>simp
 | cons x L ih=>simp [ih]
theorem nb (L:List Ch) (h:ei L):eZ L↔rr L=true∧nc L=L:=by
 unfold eZ rr nc qx qi;by_cases hl:L.length≤64
 ·simp only [hl,true_and,decide_true,Bool.true_and,List.all_eq_true,if_true,mL];constructor
  ·exact fun h1=>⟨fun x hx=>((lA x (h x hx)).1 (h1 x hx)).1,fun x hx=>((lA x (h x hx)).1 (h1 x hx)).2⟩
  ·exact fun h1 x hx=>(lA x (h x hx)).2 ⟨h1.1 x hx,h1.2 x hx⟩
 ·simp [hl]
theorem lN (x:ch) (h:ei x.c):kh x↔pC x=true∧pO x=x:=by
 obtain ⟨r,b,n,c⟩:=x;unfold kh pC pO;simp only [Bool.and_eq_true,ch.mk.injEq,true_and];rw [nb c h];constructor
 ·exact fun ⟨h1,h2,h3,h4,h5⟩=>⟨⟨⟨⟨h1,h2⟩,h3⟩,h4⟩,h5⟩
 ·exact fun ⟨⟨⟨⟨h1,h2⟩,h3⟩,h4⟩,h5⟩=>⟨h1,h2,h3,h4,h5⟩
theorem rR (L:List ch) (h:∀ x∈L,ei x.c):gu L↔tz L=true∧pc L=L:=by
 unfold gu tz pc qx qi;by_cases hl:L.length≤32
 ·simp only [hl,true_and,decide_true,Bool.true_and,List.all_eq_true,if_true,mL];constructor
  ·exact fun h1=>⟨fun x hx=>((lN x (h x hx)).1 (h1 x hx)).1,fun x hx=>((lN x (h x hx)).1 (h1 x hx)).2⟩
  ·exact fun h1 x hx=>(lN x (h x hx)).2 ⟨h1.1 x hx,h1.2 x hx⟩
 ·simp [hl]
theorem nd {L:List Ch}(h:eZ L):ei L:=fun c hc=>uI (h.2 c hc)
theorem jq {k k':Int}{n n':List UInt8}{s s' q q' b b':Int}{f f':List UInt8}{c c':List Ch}{p p':List UInt8}{fr fr' mn mn' mb mb':Int} :
 (⟨k,n,s,q,b,f,c,p,fr,mn,mb⟩:Rq)=⟨k',n',s',q',b',f',c',p',fr',mn',mb'⟩↔k=k'∧n=n'∧s=s'∧q=q'∧b=b'∧f=f'∧c=c'∧p=p'∧fr=fr'∧mn=mn'∧mb=mb':=by
 rw [Rq.mk.injEq]
theorem nQ (r:Rq) (h:ei r.c):ff r=true↔eF r:=by
 unfold ff tV eF;simp only [Bool.and_eq_true,decide_eq_true_eq];by_cases hk:r.k≤7
 ·have ek:kR r=r.k:=by unfold kR;rw [if_neg (by omega)]
  unfold fR jW;rw [ek];obtain ⟨k,n,s,q,b,f,c,p,fr,mn,mb⟩:=r;simp only at *;have hc:=nb c h;by_cases h0:k=0
  ·simp only [if_pos h0,and_true,hk];constructor
   ·exact fun ⟨h1,h2⟩=>⟨h1,h2.symm⟩
   ·exact fun ⟨h1,h2⟩=>⟨h1,h2.symm⟩
  by_cases h1:k=1
  ·simp only [if_neg h0,if_pos h1,hk,and_true,and_assoc]
  by_cases h2:k=2
  ·simp only [if_neg h0,if_neg h1,if_pos h2,hk,and_true,Bool.and_eq_true,jq,true_and];rw [hc];constructor
   ·rintro ⟨⟨g0,⟨⟨⟨g1,g2⟩,g3⟩,g4⟩,g5⟩,g6,g7,g8⟩;exact ⟨g0,⟨g1,g2,g3,g4,g5,g7⟩,g6,g8⟩
   ·rintro ⟨g0,⟨g1,g2,g3,g4,g5,g7⟩,g6,g8⟩;exact ⟨⟨g0,⟨⟨⟨g1,g2⟩,g3⟩,g4⟩,g5⟩,g6,g7,g8⟩
  by_cases h4:k=4
  ·simp only [if_neg h0,if_neg h1,if_neg h2,if_pos h4,hk,and_true,Bool.and_eq_true,and_assoc]
  by_cases h5:k=5
  ·simp only [if_neg h0,if_neg h1,if_neg h2,if_neg h4,if_pos h5,hk,and_true,Bool.and_eq_true,and_assoc]
  by_cases h6:k=6∨k=7
  ·simp only [if_neg h0,if_neg h1,if_neg h2,if_neg h4,if_neg h5,if_pos h6,hk,and_true,Bool.and_eq_true,and_assoc]
  ·simp only [if_neg h0,if_neg h1,if_neg h2,if_neg h4,if_neg h5,if_neg h6,hk,and_true,Bool.and_eq_true,and_assoc]
 ·simp [hk]
theorem pl {r:Rq}(h:eF r):ei r.c:=by
 obtain ⟨_,h2⟩:=h;unfold jW at h2;intro c hc;split at h2
 ·rw [h2] at hc;cases hc
 split at h2
 ·rw [← h2.2] at hc;cases hc
 split at h2
 ·exact nd h2.1.2.2.2.2 c hc
 split at h2
 ·rw [← h2.2] at hc;cases hc
 split at h2
 ·rw [← h2.2] at hc;cases hc
 split at h2
 ·rw [← h2.2] at hc;cases hc
 ·rw [← h2.2] at hc;cases hc
theorem j1 {r:Rq}(h:eF r):bR r=ag r.k++uJ r.k r:=by
 have ek:kR r=r.k:=by unfold kR;rw [if_neg (by have:=h.1.2;omega)]
 unfold bR fR uJ;rw [ek];split
 ·rfl
 split
 ·rfl
 split
 ·simp only [List.append_assoc]
 split
 ·simp only [List.append_assoc]
 split
 ·simp only [List.append_assoc]
 split
 ·simp only [List.append_assoc]
 ·rfl
theorem wW:fa lI eF bR:=uC.imp (fun _=>rfl) (fun _=>Iff.rfl) (fun _ h=>j1 h)
theorem oZ (r:Rq):go ([],0) r=if ff r=true then (bR r,0) else ([],1):=by
 rw [jF];rfl
def lU (v:Vt):Prop:=(0≤v.d∧v.d≤18446744073709551615)∧∀ x∈v.k,ei x.c
theorem iL {c c' s s' r r':Int}{p p':List UInt8}{d d':Int}{k k':List ch}{m m':Int} :
 (⟨c,s,r,p,d,k,m⟩:Vt)=⟨c',s',r',p',d',k',m'⟩↔c=c'∧s=s'∧r=r'∧p=p'∧d=d'∧k=k'∧m=m':=by
 rw [Vt.mk.injEq]
theorem pd (v:Vt) (h:lU v):i4 v=true↔fi v:=by
 unfold i4 ul fi;simp only [Bool.and_eq_true,decide_eq_true_eq];by_cases hk:v.c≤14
 ·have ek:kV v=v.c:=by unfold kV;rw [if_neg (by omega)]
  unfold fV sn;rw [ek];obtain ⟨c,s,r,p,d,k,m⟩:=v;simp only at *;have hd:=h.1;have hc:=rR k h.2;simp only at hd;by_cases h1:c=1
  ·simp only [if_pos h1,hk,and_true,and_assoc]
  by_cases h2:c=2∨c=4∨c=8
  ·simp only [if_neg h1,if_pos h2,hk,and_true,and_assoc]
  by_cases h3:c=3
  ·simp only [if_neg h1,if_neg h2,if_pos h3,hk,and_true,Bool.and_eq_true,and_assoc]
  by_cases h9:c=9
  ·simp only [if_neg h1,if_neg h2,if_neg h3,if_pos h9,hk,hd,and_true,true_and,Bool.and_eq_true,and_assoc]
  by_cases h10:c=10
  ·simp only [if_neg h1,if_neg h2,if_neg h3,if_neg h9,if_pos h10,hk,and_true,and_assoc]
  by_cases h11:c=11
  ·simp only [if_neg h1,if_neg h2,if_neg h3,if_neg h9,if_neg h10,if_pos h11,hk,and_true,iL,true_and];rw [hc];constructor
   ·rintro ⟨⟨g0,g1⟩,g2,g3,g4,g5,g6,g7⟩;exact ⟨g0,⟨g1,g6⟩,g2,g3,g4,g5,g7⟩
   ·rintro ⟨g0,⟨g1,g6⟩,g2,g3,g4,g5,g7⟩;exact ⟨⟨g0,g1⟩,g2,g3,g4,g5,g6,g7⟩
  by_cases h12:c=12∨c=13∨c=14
  ·simp only [if_neg h1,if_neg h2,if_neg h3,if_neg h9,if_neg h10,if_neg h11,if_pos h12,hk,and_true,and_assoc]
  ·simp only [if_neg h1,if_neg h2,if_neg h3,if_neg h9,if_neg h10,if_neg h11,if_neg h12,hk,and_true];constructor
   ·exact fun ⟨h1,h2⟩=>⟨h1,h2.symm⟩
   ·exact fun ⟨h1,h2⟩=>⟨h1,h2.symm⟩
 ·simp [hk]
theorem i5 {v:Vt}(h:fi v):bV v=ag v.c++bG v.c v:=by
 have ek:kV v=v.c:=by unfold kV;rw [if_neg (by have:=h.1.2;omega)]
 unfold bV fV bG;rw [ek];split
 ·rfl
 split
 ·rfl
 split
 ·rfl
 split
 ·simp only [List.append_assoc]
 split
 ·rfl
 split
 ·rfl
 split
 ·rfl
 ·rfl
theorem xz:fa p4 fi bV:=t7.imp (fun _=>rfl) (fun _=>Iff.rfl) (fun _ h=>i5 h)
theorem nC (v:Vt):es ([],0) v=if i4 v=true then (bV v,0) else ([],1):=by
 rw [ja];rfl
end Go.Proofs.YtakafmejllilnaaGreat
