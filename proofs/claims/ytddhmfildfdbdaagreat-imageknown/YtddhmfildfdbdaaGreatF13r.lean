/-
  Texts of this claim that are laid as one: EnPur2, EnCdc, EnCdc2, EnFol, EnFolV.
-/
import Derived.Test.YtddhmfildfdbdaaGreatF11r
import Derived.Test.YtddhmfildfdbdaaGreatF12r
/-
 What is written,plainly: bytes,and whether it may be.
-/
namespace Go.Proofs.YtddhmfildfdbdaaGreat
def goodB (n:Int):Bool:=decide (0≤n∧n≤1099511627776)
def intsT (t:List UInt8):List Int:=strOf (str t)
def bT (t:List UInt8):List Int:=encNum t.length++intsT t
def okT (t:List UInt8):Bool:=decide (t.length≤255)
def bF (b:Bool):List Int:=[if b then 1 else 0]
theorem intsT_length (t:List UInt8):(intsT t).length=t.length:=len_str t
def bC (c:Ch):List Int:=bT c.p++bF c.g++(if c.g=true then [] else hiB 8 c.d)
def namC (c:Ch):Ch:=⟨c.p,c.g,if c.g=true then 0 else c.d⟩
def bL {α:Type}(b:α→List Int) (most:Nat) (L:List α):List Int:=encNum L.length++(if L.length≤most then L.flatMap b else [])
def okL' {α:Type}(ok:α→Bool) (most:Nat) (L:List α):Bool:=decide (L.length≤most) && L.all ok
def namL {α:Type}(nam:α→α) (most:Nat) (L:List α):List α:=if L.length≤most then L.map nam else []
def bCs (L:List Ch):List Int:=bL bC 64 L
def okCs (L:List Ch):Bool:=okL' (fun c=>okT c.p) 64 L
def namCs (L:List Ch):List Ch:=namL namC 64 L
def bK (x:Com):List Int:=encNum x.r++encNum x.b++bT x.n++bCs x.c
def okKB (x:Com):Bool:=goodB x.r && goodB x.b && okT x.n && okCs x.c
def namK (x:Com):Com:=⟨x.r,x.b,x.n,namCs x.c⟩
def bKs (L:List Com):List Int:=bL bK 32 L
def okKs (L:List Com):Bool:=okL' okKB 32 L
def namKs (L:List Com):List Com:=namL namK 32 L
def kV (v:Vt):Int:=if 14 < v.c then 0 else v.c
def fV (v:Vt):List Int × Bool × Vt :=
 if kV v=1 then (encNum v.s,goodB v.s,⟨kV v,v.s,0,[],0,[],0⟩)
 else if kV v=2∨kV v=4∨kV v=8 then (encNum v.r,goodB v.r,⟨kV v,0,v.r,[],0,[],0⟩)
 else if kV v=3 then (bT v.p++encNum v.r,okT v.p && goodB v.r,⟨kV v,0,v.r,v.p,0,[],0⟩)
 else if kV v=9 then (bT v.p++hiB 8 v.d++encNum v.r,okT v.p && goodB v.r,⟨kV v,0,v.r,v.p,v.d,[],0⟩)
 else if kV v=10 then (bT v.p,okT v.p,⟨kV v,0,0,v.p,0,[],0⟩)
 else if kV v=11 then (bKs v.k,okKs v.k,⟨kV v,0,0,[],0,namKs v.k,0⟩)
 else if kV v=12∨kV v=13∨kV v=14 then (encNum v.m,goodB v.m,⟨kV v,0,0,[],0,[],v.m⟩)
 else ([],true,⟨kV v,0,0,[],0,[],0⟩)
def bV (v:Vt):List Int:=encNum v.c++(fV v).1
abbrev Rdr (α:Type):=List Int × Int→α × (List Int × Int)
theorem rdRunE_num {most e e1 x:Int}{l rest:List Int}(h:rdNumE e l=(e1,x,rest)) :
 rdRunE e most l=if e1≠0 then (e1,[],[]) else if most < x then (3,[],[]) else if (rest.length:Int) < x then (2,[],[]) else (0,rest.take x.toNat,rest.drop x.toNat):=by
 unfold rdRunE
 unfold rdNumE at h
 by_cases he:e=0
 ·rw [if_pos he] at h ⊢;exact rdRun_num h
 ·rw [if_neg he] at h ⊢
  cases h
  rw [if_pos he]
structure Cdc {α:Type}(rd:Rdr α) (ok:α→Prop) (b:α→List Int):Prop where
 fwd:∀ x t,ok x→rd (b x++t,0)=(x,(t,0))
 bwd:∀ l x t,Oct l→rd (l,0)=(x,(t,0))→ok x∧l=b x++t
 bad:∀ e,e≠0→(rd ([],e)).2=([],e)
 nil:∀ l,(rd (l,0)).2.2≠0→(rd (l,0)).2.1=[]
def seqR {α β:Type}(A:Rdr α) (B:α→Rdr β):Rdr (α × β):=fun s=>(((A s).1,(B (A s).1 (A s).2).1),(B (A s).1 (A s).2).2)
def mapRd {α β:Type}(f:α→β) (A:Rdr α):Rdr β:=fun s=>(f (A s).1,(A s).2)
def retR {α:Type}(x:α):Rdr α:=fun s=>(x,s)
theorem Oct.right {a b:List Int}(h:Oct (a++b)):Oct b:=fun x hx=>h x (List.mem_append_right _ hx)
theorem Cdc.ret {α:Type}(x:α):Cdc (retR x) (fun y=>y=x) (fun _=>[]) :=
 ⟨fun y t h=>by subst h;rfl,fun l y t _ h=>by cases h;exact ⟨rfl,rfl⟩,fun e _=>rfl,fun l h=>absurd rfl h⟩
theorem Cdc.seq {α β:Type}{A:Rdr α}{B:α→Rdr β}{okA:α→Prop}{okB:α→β→Prop}{bA:α→List Int}{bB:α→β→List Int}(hA:Cdc A okA bA) (hB:∀ a,Cdc (B a) (okB a) (bB a)) :
 Cdc (seqR A B) (fun p=>okA p.1∧okB p.1 p.2) (fun p=>bA p.1++bB p.1 p.2):=by
 refine ⟨fun x t h=>?_,fun l x t ho h=>?_,fun e he=>?_,fun l h=>?_⟩
 ·have h1:=hA.fwd x.1 (bB x.1 x.2++t) h.1
  show (((A _).1,_),_)=_
  rw [List.append_assoc,h1,(hB x.1).fwd x.2 t h.2]
 ·have hx:x=((A (l,0)).1,(B (A (l,0)).1 (A (l,0)).2).1):=(congrArg Prod.fst h).symm
  have ht:(B (A (l,0)).1 (A (l,0)).2).2=(t,0):=congrArg Prod.snd h
  by_cases he:(A (l,0)).2.2=0
  ·have e1:A (l,0)=((A (l,0)).1,((A (l,0)).2.1,0)):=Prod.ext rfl (Prod.ext rfl he)
   obtain ⟨h1,h2⟩:=hA.bwd l _ _ ho e1
   have ho2:Oct (A (l,0)).2.1:=by rw [h2] at ho;exact ho.right
   have e2:(A (l,0)).2=((A (l,0)).2.1,0):=Prod.ext rfl he
   have e3:B (A (l,0)).1 ((A (l,0)).2.1,0)=((B (A (l,0)).1 (A (l,0)).2).1,(t,0)):=by rw [← e2];exact Prod.ext rfl ht
   obtain ⟨h3,h4⟩:=(hB _).bwd _ _ _ ho2 e3
   rw [hx]
   refine ⟨⟨h1,h3⟩,?_⟩
   rw [List.append_assoc,← h4]
   exact h2
  ·have e2:(A (l,0)).2=([],(A (l,0)).2.2):=Prod.ext (hA.nil l he) rfl
   rw [e2,(hB _).bad _ he] at ht
   exact absurd (congrArg Prod.snd ht) he
 ·show (B _ (A ([],e)).2).2=_
  rw [hA.bad e he]
  exact (hB _).bad e he
 ·show (B (A (l,0)).1 (A (l,0)).2).2.1=[]
  have h':(B (A (l,0)).1 (A (l,0)).2).2.2≠0:=h
  by_cases he:(A (l,0)).2.2=0
  ·have e2:(A (l,0)).2=((A (l,0)).2.1,0):=Prod.ext rfl he
   rw [e2] at h' ⊢
   exact (hB _).nil _ h'
  ·have e2:(A (l,0)).2=([],(A (l,0)).2.2):=Prod.ext (hA.nil l he) rfl
   rw [e2,(hB _).bad _ he]
theorem Cdc.map {α β:Type}{A:Rdr α}{ok:α→Prop}{b:α→List Int}(hA:Cdc A ok b) (f:α→β) (g:β→α) (hg:∀ a,ok a→g (f a)=a) :
 Cdc (mapRd f A) (fun y=>ok (g y)∧f (g y)=y) (fun y=>b (g y)):=by
 refine ⟨fun y t h=>?_,fun l y t ho h=>?_,fun e he=>hA.bad e he,fun l h=>hA.nil l h⟩
 ·show (f (A _).1,(A _).2)=_
  rw [hA.fwd (g y) t h.1]
  simp [h.2]
 ·have hy:f (A (l,0)).1=y:=congrArg Prod.fst h
  have ht:(A (l,0)).2=(t,0):=congrArg Prod.snd h
  obtain ⟨h1,h2⟩:=hA.bwd l (A (l,0)).1 t ho (Prod.ext rfl ht)
  have h3:=hg _ h1
  rw [hy] at h3
  rw [h3]
  exact ⟨⟨h1,hy⟩,h2⟩
theorem Cdc.imp {α:Type}{A A':Rdr α}{ok ok':α→Prop}{b b':α→List Int}(h:Cdc A ok b) (hA:∀ s,A' s=A s) (ho:∀ x,ok' x↔ok x) (hb:∀ x,ok x→b' x=b x):Cdc A' ok' b':=by
 refine ⟨fun x t hx=>?_,fun l x t hl hx=>?_,fun e he=>?_,fun l hl=>?_⟩
 ·rw [hA,hb x ((ho x).1 hx)];exact h.fwd x t ((ho x).1 hx)
 ·rw [hA] at hx
  obtain ⟨h1,h2⟩:=h.bwd l x t hl hx
  exact ⟨(ho x).2 h1,by rw [hb x h1];exact h2⟩
 ·rw [hA];exact h.bad e he
 ·rw [hA] at hl ⊢;exact h.nil l hl
def numR:Rdr Int:=fun s=>eyeP.num s 0
def upR (t:Int):Rdr Int:=fun s=>eyeP.upTo s 0 t
def textR:Rdr (List UInt8):=fun s=>eyeP.text s []
def flagR:Rdr Bool:=fun s=>eyeP.flag s false
def wordR:Rdr Int:=fun s=>eyeP.word s 0
theorem good_iff (n:Int):goodB n=true↔0≤n∧n≤1099511627776:=by unfold goodB;simp
theorem rdNumE_ok {l rest:List Int}{x:Int}(ho:Oct l) (h:rdNumE 0 l=(0,x,rest)):(0≤x∧x≤1099511627776)∧l=encNum x++rest:=by
 unfold rdNumE at h
 rw [if_pos rfl] at h
 obtain ⟨h1,h2,h3⟩:=rdNum_one x l rest ho h
 exact ⟨⟨h1,h2⟩,h3⟩
theorem rdNumE_enc (n:Int) (t:List Int) (h:goodB n=true):rdNumE 0 (encNum n++t)=(0,n,t):=by
 have:=(good_iff n).1 h
 unfold rdNumE;rw [if_pos rfl];exact rdNum_enc n t this.1 this.2
theorem rdNumE_bad (e:Int) (he:e≠0) (l:List Int):rdNumE e l=(e,0,[]):=by unfold rdNumE;rw [if_neg he]
theorem rdNumE_nil (l:List Int) (h:(rdNumE 0 l).1≠0):(rdNumE 0 l).2=(0,[]):=by
 unfold rdNumE at h ⊢
 rw [if_pos rfl] at h ⊢
 rcases rdN_shape 6 0 0 l with ⟨h1,_⟩ | ⟨_,h1⟩
 ·exact absurd h1 h
 ·exact h1
theorem cdc_num:Cdc numR (fun n=>goodB n=true) encNum:=by
 refine ⟨fun x t h=>?_,fun l x t ho h=>?_,fun e he=>?_,fun l h=>?_⟩
 ·show ((rdNumE 0 (encNum x++t)).2.1,((rdNumE 0 (encNum x++t)).2.2,(rdNumE 0 (encNum x++t)).1))=_
  rw [rdNumE_enc x t h]
 ·have h':((rdNumE 0 l).2.1,((rdNumE 0 l).2.2,(rdNumE 0 l).1))=(x,(t,0)):=h
  have e:rdNumE 0 l=(0,x,t):=by
   simp only [Prod.mk.injEq] at h'
   exact Prod.ext h'.2.2 (Prod.ext h'.1 h'.2.1)
  obtain ⟨h1,h2⟩:=rdNumE_ok ho e
  exact ⟨(good_iff x).2 h1,h2⟩
 ·show ((rdNumE e []).2.2,(rdNumE e []).1)=_
  rw [rdNumE_bad e he]
 ·show (rdNumE 0 l).2.2=[]
  rw [rdNumE_nil l h]
theorem cdc_up (t:Int) (ht:0≤t):Cdc (upR t) (fun n=>goodB n=true∧n≤t) encNum:=by
 have hU:∀ s,upR t s=if t < (rdNumE s.2 s.1).2.1 then (0,([],rdRefE (rdNumE s.2 s.1).1)) else ((rdNumE s.2 s.1).2.1,((rdNumE s.2 s.1).2.2,(rdNumE s.2 s.1).1)):=fun _=>rfl
 refine ⟨fun x u h=>?_,fun l x u ho h=>?_,fun e he=>?_,fun l h=>?_⟩
 ·rw [hU]
  show (if t < (rdNumE 0 (encNum x++u)).2.1 then _ else _)=_
  rw [rdNumE_enc x u h.1,if_neg (by show ¬ t < x;omega)]
 ·rw [hU] at h
  have h':(if t < (rdNumE 0 l).2.1 then (0,([],rdRefE (rdNumE 0 l).1)) else ((rdNumE 0 l).2.1,((rdNumE 0 l).2.2,(rdNumE 0 l).1)))=((x,(u,0)):Int × (List Int × Int)):=h
  by_cases hc:t < (rdNumE 0 l).2.1
  ·rw [if_pos hc] at h'
   simp only [Prod.mk.injEq] at h'
   exfalso
   have:=h'.2.2
   unfold rdRefE at this
   split at this
   ·simp at this
   ·contradiction
  ·rw [if_neg hc] at h'
   simp only [Prod.mk.injEq] at h'
   have e:rdNumE 0 l=(0,x,u):=Prod.ext h'.2.2 (Prod.ext h'.1 h'.2.1)
   obtain ⟨h1,h2⟩:=rdNumE_ok ho e
   exact ⟨⟨(good_iff x).2 h1,by rw [h'.1] at hc;omega⟩,h2⟩
 ·have hU0:upR t ([],e)=if t < (rdNumE e []).2.1 then (0,([],rdRefE (rdNumE e []).1)) else ((rdNumE e []).2.1,((rdNumE e []).2.2,(rdNumE e []).1)):=hU ([],e)
  rw [hU0,rdNumE_bad e he,if_neg (by show ¬ t < 0;omega)]
 ·have hU0:upR t (l,0)=if t < (rdNumE 0 l).2.1 then (0,([],rdRefE (rdNumE 0 l).1)) else ((rdNumE 0 l).2.1,((rdNumE 0 l).2.2,(rdNumE 0 l).1)):=hU (l,0)
  rw [hU0] at h ⊢
  by_cases hc:t < (rdNumE 0 l).2.1
  ·rw [if_pos hc]
  ·rw [if_neg hc] at h ⊢
   show (rdNumE 0 l).2.2=[]
   rw [rdNumE_nil l h]
theorem u8s_ints (t:List UInt8):u8s (intsT t)=t:=by
 have h:=strB_strOf (str t)
 rw [strB_u8s] at h
 exact str_inj h
theorem ints_u8s {d:List Int}(h:Oct d):intsT (u8s d)=d:=by
 unfold intsT strOf u8s
 rw [str_data,List.map_map]
 conv=>rhs;rw [← List.map_id d]
 apply List.map_congr_left
 intro x hx
 have:=h x hx
 simp
 omega
theorem rdRunE_cases (l:List Int) (ho:Oct l):(∃ d rest,rdRunE 0 255 l=(0,d,rest)∧d.length≤255∧l=encNum d.length++d++rest)∨(∃ e,e≠0∧rdRunE 0 255 l=(e,[],[])):=by
 obtain ⟨q,hq⟩:∃ q,q=rdNumE 0 l:=⟨_,rfl⟩
 obtain ⟨e1,x,rest⟩:=q
 have hr:=rdRunE_num (most:=255) hq.symm
 by_cases he:e1=0
 ·subst he
  obtain ⟨h1,h2⟩:=rdNumE_ok ho hq.symm
  by_cases h3:255 < x
  ·right
   exact ⟨3,by decide,by rw [hr,if_neg (by simp),if_pos h3]⟩
  ·by_cases h4:(rest.length:Int) < x
   ·right
    exact ⟨2,by decide,by rw [hr,if_neg (by simp),if_neg h3,if_pos h4]⟩
   ·left
    have hl:(rest.take x.toNat).length=x.toNat:=by rw [List.length_take];omega
    refine ⟨rest.take x.toNat,rest.drop x.toNat,by rw [hr,if_neg (by simp),if_neg h3,if_neg h4],by omega,?_⟩
    rw [hl,List.append_assoc,List.take_append_drop,show ((x.toNat:Nat):Int)=x by omega]
    exact h2
 ·right
  exact ⟨e1,he,by rw [hr,if_pos he]⟩
theorem cdc_text:Cdc textR (fun t=>okT t=true) bT:=by
 have hT:∀ s,textR s=(u8s (rdRunE s.2 255 s.1).2.1,((rdRunE s.2 255 s.1).2.2,(rdRunE s.2 255 s.1).1)):=fun _=>rfl
 refine ⟨fun x u h=>?_,fun l x u ho h=>?_,fun e he=>?_,fun l h=>?_⟩
 ·have hx:x.length≤255:=by unfold okT at h;simpa using h
  rw [hT]
  show (u8s (rdRunE 0 255 (bT x++u)).2.1,((rdRunE 0 255 (bT x++u)).2.2,(rdRunE 0 255 (bT x++u)).1))=_
  have hl:=intsT_length x
  have hr:=rdRunE_num (most:=255) (rdNumE_enc (x.length:Int) (intsT x++u) (by unfold goodB;simp;omega))
  unfold bT
  rw [List.append_assoc,hr,if_neg (by simp),if_neg (by omega),if_neg (by simp;omega)]
  have e1:(intsT x++u).take (x.length:Int).toNat=intsT x:=by rw [Int.toNat_natCast,← hl];simp
  have e2:(intsT x++u).drop (x.length:Int).toNat=u:=by rw [Int.toNat_natCast,← hl];simp
  simp only [e1,e2,u8s_ints]
 ·rw [hT] at h
  rcases rdRunE_cases l ho with ⟨d,rest,h1,h2,h3⟩ | ⟨e,he,h1⟩
  ·have h':(u8s (rdRunE 0 255 l).2.1,((rdRunE 0 255 l).2.2,(rdRunE 0 255 l).1))=(x,(u,0)):=h
   rw [h1] at h'
   simp only [Prod.mk.injEq] at h'
   have hod:Oct d:=by rw [h3] at ho;intro y hy;exact ho y (by simp [hy])
   have hxl:x.length=d.length:=by rw [← h'.1];simp [u8s]
   refine ⟨by unfold okT;simp;omega,?_⟩
   unfold bT
   rw [hxl,← h'.1,ints_u8s hod,← h'.2.1]
   exact h3
  ·have h':(u8s (rdRunE 0 255 l).2.1,((rdRunE 0 255 l).2.2,(rdRunE 0 255 l).1))=(x,(u,0)):=h
   rw [h1] at h'
   simp only [Prod.mk.injEq] at h'
   exact absurd h'.2.2 he
 ·rw [hT]
  show ((rdRunE e 255 []).2.2,(rdRunE e 255 []).1)=_
  unfold rdRunE;rw [if_neg he]
 ·rw [hT] at h ⊢
  show (rdRunE 0 255 l).2.2=[]
  have h':(rdRunE 0 255 l).1≠0:=h
  unfold rdRunE rdRun at h' ⊢
  rw [if_pos rfl] at h' ⊢
  split
  ·rfl
  ·rename_i h1
   rw [if_neg h1] at h'
   split
   ·rfl
   ·rename_i h2
    rw [if_neg h2] at h'
    split
    ·rfl
    ·rename_i h3
     rw [if_neg h3] at h'
     exact absurd rfl h'
theorem rdFlag_cons (d:Int) (l:List Int):rdFlag (d :: l)=if 1 < d then (4,false,[]) else (0,d==1,l):=rfl
theorem cdc_flag:Cdc flagR (fun _=>True) bF:=by
 have hF:∀ s,flagR s=((rdFlagE s.2 s.1).2.1,((rdFlagE s.2 s.1).2.2,(rdFlagE s.2 s.1).1)):=fun _=>rfl
 refine ⟨fun x u _=>?_,fun l x u ho h=>?_,fun e he=>?_,fun l h=>?_⟩
 ·rw [hF]
  cases x <;> simp [rdFlagE,rdFlag,bF]
 ·rw [hF] at h
  have h':((rdFlagE 0 l).2.1,((rdFlagE 0 l).2.2,(rdFlagE 0 l).1))=(x,(u,0)):=h
  refine ⟨trivial,?_⟩
  unfold rdFlagE at h'
  rw [if_pos rfl] at h'
  cases l with
  | nil=>simp [rdFlag] at h'
  | cons d l =>
    have hd:=ho.head
    rw [rdFlag_cons] at h'
    by_cases hd1:1 < d
    ·rw [if_pos hd1] at h';simp at h'
    ·rw [if_neg hd1] at h'
     simp only [Prod.mk.injEq] at h'
     obtain ⟨h1,h2,_⟩:=h'
     subst h2
     have:d=0∨d=1:=by omega
     rcases this with rfl | rfl
     ·have:x=false:=by rw [← h1];decide
      subst this;rfl
     ·have:x=true:=by rw [← h1];decide
      subst this;rfl
 ·rw [hF]
  show ((rdFlagE e []).2.2,(rdFlagE e []).1)=_
  unfold rdFlagE;rw [if_neg he]
 ·rw [hF] at h ⊢
  show (rdFlagE 0 l).2.2=[]
  have h':(rdFlagE 0 l).1≠0:=h
  unfold rdFlagE at h' ⊢
  rw [if_pos rfl] at h' ⊢
  cases l with
  | nil=>rfl
  | cons d l =>
    rw [rdFlag_cons] at h' ⊢
    split
    ·rfl
    ·rename_i h1;rw [if_neg h1] at h';exact absurd rfl h'
theorem hiB8 (x:Int):hiB 8 x=[x / 72057594037927936 % 256,x / 281474976710656 % 256,x / 1099511627776 % 256,x / 4294967296 % 256,x / 16777216 % 256,x / 65536 % 256,x / 256 % 256,x % 256]:=by
 simp [hiB,List.range,List.range.loop]
theorem rdHi_hiB8 (x:Int) (h0:0≤x) (h1:x≤18446744073709551615):rdHi (hiB 8 x)=x:=by
 rw [hiB8]
 simp only [rdHi,List.foldl_cons,List.foldl_nil]
 omega
theorem hiB8_rdHi (l:List Int) (h:l.length=8) (ho:Oct l):(0≤rdHi l∧rdHi l≤18446744073709551615)∧hiB 8 (rdHi l)=l:=by
 match l,h with
 | [a,b,c,d,e,f,g,i],_ =>
   have ha:=ho a (by simp);have hb:=ho b (by simp);have hc:=ho c (by simp);have hd:=ho d (by simp)
   have he:=ho e (by simp);have hf:=ho f (by simp);have hg:=ho g (by simp);have hi:=ho i (by simp)
   have er:rdHi [a,b,c,d,e,f,g,i]=a*72057594037927936+b*281474976710656+c*1099511627776+d*4294967296+e*16777216+f*65536+g*256+i:=by
    simp only [rdHi,List.foldl_cons,List.foldl_nil]
    omega
   rw [er,hiB8]
   refine ⟨by omega,?_⟩
   simp only [List.cons.injEq,and_true]
   omega
theorem cdc_word:Cdc wordR (fun x=>0≤x∧x≤18446744073709551615) (hiB 8):=by
 have hW:∀ s,wordR s=((rdWordE s.2 s.1).2.1,((rdWordE s.2 s.1).2.2,(rdWordE s.2 s.1).1)):=fun _=>rfl
 refine ⟨fun x u hx=>?_,fun l x u ho h=>?_,fun e he=>?_,fun l h=>?_⟩
 ·rw [hW]
  have h8:=hiB_length 8 x
  have e:rdWordE 0 (hiB 8 x++u)=(0,x,u):=by
   unfold rdWordE rdWord
   rw [if_pos rfl,if_neg (by simp;omega),List.take_append_of_le_length (by omega),List.drop_append_of_le_length (by omega),List.take_of_length_le (by omega),List.drop_eq_nil_of_le (by omega),rdHi_hiB8 x hx.1 hx.2]
   rfl
  simp only [e]
 ·rw [hW] at h
  have h':((rdWordE 0 l).2.1,((rdWordE 0 l).2.2,(rdWordE 0 l).1))=(x,(u,0)):=h
  unfold rdWordE rdWord at h'
  rw [if_pos rfl] at h'
  split at h'
  ·simp at h'
  ·rename_i h8
   simp only [Prod.mk.injEq] at h'
   have hl:(l.take 8).length=8:=by rw [List.length_take];omega
   obtain ⟨h1,h2⟩:=hiB8_rdHi (l.take 8) hl (ho.take 8)
   rw [h'.1] at h1 h2
   refine ⟨h1,?_⟩
   rw [h2,← h'.2.1,List.take_append_drop]
 ·rw [hW]
  show ((rdWordE e []).2.2,(rdWordE e []).1)=_
  unfold rdWordE;rw [if_neg he]
 ·rw [hW] at h ⊢
  show (rdWordE 0 l).2.2=[]
  have h':(rdWordE 0 l).1≠0:=h
  unfold rdWordE rdWord at h' ⊢
  rw [if_pos rfl] at h' ⊢
  split
  ·rfl
  ·rename_i h8;rw [if_neg h8] at h';exact absurd rfl h'
def okChg (c:Ch):Prop:=okT c.p=true∧(if c.g=true then c.d=0 else 0≤c.d∧c.d≤18446744073709551615)
def chgR:Rdr Ch:=fun s=>chgP eyeP s ch0
theorem cdc_chg:Cdc chgR okChg bC:=by
 have h1:∀ g:Bool,Cdc (if g=true then retR (0:Int) else wordR) (fun d=>if g=true then d=0 else 0≤d∧d≤18446744073709551615) (fun d=>if g=true then [] else hiB 8 d):=fun g=>by
  cases g
  ·exact cdc_word.imp (fun _=>rfl) (fun x=>Iff.rfl) (fun x _=>rfl)
  ·exact (Cdc.ret (0:Int)).imp (fun _=>rfl) (fun x=>Iff.rfl) (fun x _=>rfl)
 have h:=(cdc_text.seq (fun _=>cdc_flag.seq h1)).map (fun p=>(⟨p.1,p.2.1,p.2.2⟩:Ch)) (fun c=>(c.p,(c.g,c.d))) (fun a _=>rfl)
 refine h.imp (fun s=>?_) (fun c=>?_) (fun c _=>?_)
 ·show chgP eyeP s ch0=_
  unfold chgP
  show (if (flagR (textR s).2).1=true then _ else _)=_
  cases hf:(flagR (textR s).2).1
  ·simp only [Bool.false_eq_true,if_false]
   unfold mapRd seqR
   simp only [hf,Bool.false_eq_true,if_false]
   rfl
  ·simp only [if_true]
   unfold mapRd seqR
   simp only [hf,if_true]
   rfl
 ·unfold okChg
  constructor
  ·exact fun ⟨h1,h2⟩=>⟨⟨h1,trivial,h2⟩,rfl⟩
  ·exact fun ⟨⟨h1,_,h2⟩,_⟩=>⟨h1,h2⟩
 ·unfold bC
  rw [List.append_assoc]
def repR {α:Type}(one:Rdr α):Nat→Rdr (List α)
 | 0=>retR []
 | n+1=>mapRd (fun p=>p.1 :: p.2) (seqR one (fun _=>repR one n))
theorem rep_map {α:Type}(one:List Int × Int→α→α × (List Int × Int)) (z:α) (n:Nat) (s:List Int × Int):mapP one s (List.replicate n z)=repR (fun s=>one s z) n s:=by
 induction n generalizing s with
 | zero=>rfl
 | succ n ih =>
   rw [List.replicate_succ]
   unfold mapP
   rw [ih]
   rfl
theorem cdc_rep {α:Type}{one:Rdr α}{ok:α→Prop}{b:α→List Int}(h:Cdc one ok b) (z:α) (n:Nat):Cdc (repR one n) (fun L=>L.length=n∧∀ x∈L,ok x) (fun L=>L.flatMap b):=by
 induction n with
 | zero =>
   refine (Cdc.ret ([]:List α)).imp (fun _=>rfl) (fun L=>?_) (fun L h=>by subst h;rfl)
   constructor
   ·exact fun ⟨h1,_⟩=>List.eq_nil_of_length_eq_zero h1
   ·intro h;subst h;exact ⟨rfl,by simp⟩
 | succ n ih =>
   have h2:=(h.seq (fun _=>ih)).map (fun p=>p.1 :: p.2) (fun L=>(L.headD z,L.tail)) (fun a _=>rfl)
   refine h2.imp (fun _=>rfl) (fun L=>?_) (fun L hL=>?_)
   ·constructor
    ·intro ⟨h3,h4⟩
     match L,h3 with
     | x :: L,h3 =>
       exact ⟨⟨h4 x (by simp),by simpa using h3,fun y hy=>h4 y (by simp at hy ⊢;exact .inr hy)⟩,rfl⟩
    ·intro ⟨⟨h3,h4,h5⟩,h6⟩
     match L,h6 with
     | x :: L,_ =>
       refine ⟨by simpa using h4,fun y hy=>?_⟩
       rcases List.mem_cons.1 hy with rfl | hy
       ·exact h3
       ·exact h5 y hy
   ·obtain ⟨_,h6⟩:=hL
    match L,h6 with
    | x :: L,_=>rfl
theorem cdc_list {α:Type}{one:List Int × Int→α→α × (List Int × Int)}{z:α}{ok:α→Prop}{b:α→List Int}(h:Cdc (fun s=>one s z) ok b) (most:Nat) (hm:most≤1000) :
 Cdc (fun s=>listP eyeP one z s [] (most:Int)) (fun L=>L.length≤most∧∀ x∈L,ok x) (fun L=>encNum L.length++L.flatMap b):=by
 have h2:=((cdc_up (most:Int) (by omega)).seq (fun n=>cdc_rep h z n.toNat)).map (fun p=>p.2) (fun L=>((L.length:Int),L)) (fun a ha=>by
  obtain ⟨⟨h1,_⟩,h3,_⟩:=ha
  have:=(good_iff a.1).1 h1
  refine Prod.ext ?_ rfl
  show (a.2.length:Int)=a.1
  omega)
 refine h2.imp (fun s=>?_) (fun L=>?_) (fun L _=>rfl)
 ·show listP eyeP one z s [] (most:Int)=_
  unfold listP
  rw [padL_nil,rep_map]
  rfl
 ·constructor
  ·intro ⟨h3,h4⟩
   exact ⟨⟨⟨(good_iff _).2 (by omega),by show (L.length:Int)≤_;omega⟩,by show L.length=(L.length:Int).toNat;omega,h4⟩,rfl⟩
  ·intro ⟨⟨⟨_,h3⟩,_,h4⟩,_⟩
   exact ⟨by have h3':(L.length:Int)≤(most:Int):=h3;omega,h4⟩
def okChgs (L:List Ch):Prop:=L.length≤64∧∀ c∈L,okChg c
def chgsR:Rdr (List Ch):=fun s=>listP eyeP (chgP eyeP) ch0 s [] 64
theorem cdc_chgs:Cdc chgsR okChgs bCs:=by
 refine (cdc_list (one:=chgP eyeP) (z:=ch0) cdc_chg 64 (by omega)).imp (fun _=>rfl) (fun _=>Iff.rfl) (fun L h=>?_)
 unfold bCs bL
 rw [if_pos h.1]
def okCom (x:Com):Prop:=goodB x.r=true∧goodB x.b=true∧okT x.n=true∧okChgs x.c
def comR:Rdr Com:=fun s=>comP eyeP s com0
theorem cdc_com:Cdc comR okCom bK:=by
 have h:=(cdc_num.seq (fun _=>cdc_num.seq (fun _=>cdc_text.seq (fun _=>cdc_chgs)))).map (fun p=>(⟨p.1,p.2.1,p.2.2.1,p.2.2.2⟩:Com)) (fun x=>(x.r,(x.b,(x.n,x.c)))) (fun a _=>rfl)
 refine h.imp (fun s=>rfl) (fun x=>?_) (fun x _=>?_)
 ·constructor
  ·exact fun h=>⟨h,rfl⟩
  ·exact fun h=>h.1
 ·unfold bK
  simp only [List.append_assoc]
def okComs (L:List Com):Prop:=L.length≤32∧∀ x∈L,okCom x
def comsR:Rdr (List Com):=fun s=>listP eyeP (comP eyeP) com0 s [] 32
theorem cdc_coms:Cdc comsR okComs bKs:=by
 refine (cdc_list (one:=comP eyeP) (z:=com0) cdc_com 32 (by omega)).imp (fun _=>rfl) (fun _=>Iff.rfl) (fun L h=>?_)
 unfold bKs bL
 rw [if_pos h.1]
def rdG (k:Int):Rdr Vt :=
 if k=1 then mapRd (fun x=>⟨k,x,0,[],0,[],0⟩) numR
 else if k=2∨k=4∨k=8 then mapRd (fun x=>⟨k,0,x,[],0,[],0⟩) numR
 else if k=3 then mapRd (fun p=>⟨k,0,p.2,p.1,0,[],0⟩) (seqR textR fun _=>numR)
 else if k=9 then mapRd (fun p=>⟨k,0,p.2.2,p.1,p.2.1,[],0⟩) (seqR textR fun _=>seqR wordR fun _=>numR)
 else if k=10 then mapRd (fun p=>⟨k,0,0,p,0,[],0⟩) textR
 else if k=11 then mapRd (fun p=>⟨k,0,0,[],0,p,0⟩) comsR
 else if k=12∨k=13∨k=14 then mapRd (fun x=>⟨k,0,0,[],0,[],x⟩) numR
 else retR ⟨k,0,0,[],0,[],0⟩
def bG (k:Int) (v:Vt):List Int :=
 if k=1 then encNum v.s else if k=2∨k=4∨k=8 then encNum v.r else if k=3 then bT v.p++encNum v.r else if k=9 then bT v.p++(hiB 8 v.d++encNum v.r)
 else if k=10 then bT v.p else if k=11 then bKs v.k else if k=12∨k=13∨k=14 then encNum v.m else []
def okG (k:Int) (v:Vt):Prop :=
 if k=1 then goodB v.s=true∧(⟨k,v.s,0,[],0,[],0⟩:Vt)=v
 else if k=2∨k=4∨k=8 then goodB v.r=true∧(⟨k,0,v.r,[],0,[],0⟩:Vt)=v
 else if k=3 then (okT v.p=true∧goodB v.r=true)∧(⟨k,0,v.r,v.p,0,[],0⟩:Vt)=v
 else if k=9 then (okT v.p=true∧(0≤v.d∧v.d≤18446744073709551615)∧goodB v.r=true)∧(⟨k,0,v.r,v.p,v.d,[],0⟩:Vt)=v
 else if k=10 then okT v.p=true∧(⟨k,0,0,v.p,0,[],0⟩:Vt)=v
 else if k=11 then okComs v.k∧(⟨k,0,0,[],0,v.k,0⟩:Vt)=v
 else if k=12∨k=13∨k=14 then goodB v.m=true∧(⟨k,0,0,[],0,[],v.m⟩:Vt)=v
 else v=⟨k,0,0,[],0,[],0⟩
theorem cdc_G (k:Int):Cdc (rdG k) (okG k) (bG k):=by
 unfold rdG okG bG
 by_cases h1:k=1
 ·simp only [if_pos h1]
  exact cdc_num.map _ (fun v:Vt=>v.s) (fun a _=>rfl)
 by_cases h2:k=2∨k=4∨k=8
 ·simp only [if_neg h1,if_pos h2]
  exact cdc_num.map _ (fun v:Vt=>v.r) (fun a _=>rfl)
 by_cases h3:k=3
 ·simp only [if_neg h1,if_neg h2,if_pos h3]
  exact (cdc_text.seq (fun _=>cdc_num)).map _ (fun v:Vt=>(v.p,v.r)) (fun a _=>rfl)
 by_cases h9:k=9
 ·simp only [if_neg h1,if_neg h2,if_neg h3,if_pos h9]
  exact (cdc_text.seq (fun _=>cdc_word.seq (fun _=>cdc_num))).map _ (fun v:Vt=>(v.p,(v.d,v.r))) (fun a _=>rfl)
 by_cases h10:k=10
 ·simp only [if_neg h1,if_neg h2,if_neg h3,if_neg h9,if_pos h10]
  exact cdc_text.map _ (fun v:Vt=>v.p) (fun a _=>rfl)
 by_cases h11:k=11
 ·simp only [if_neg h1,if_neg h2,if_neg h3,if_neg h9,if_neg h10,if_pos h11]
  exact cdc_coms.map _ (fun v:Vt=>v.k) (fun a _=>rfl)
 by_cases h12:k=12∨k=13∨k=14
 ·simp only [if_neg h1,if_neg h2,if_neg h3,if_neg h9,if_neg h10,if_neg h11,if_pos h12]
  exact cdc_num.map _ (fun v:Vt=>v.m) (fun a _=>rfl)
 ·simp only [if_neg h1,if_neg h2,if_neg h3,if_neg h9,if_neg h10,if_neg h11,if_neg h12]
  exact Cdc.ret _
theorem okG_k {k:Int}{v:Vt}(h:okG k v):v.c=k:=by
 unfold okG at h
 repeat' split at h
 all_goals first | (rw [← h.2]) | (rw [h])
def okVer (v:Vt):Prop:=(goodB v.c=true∧v.c≤14)∧okG v.c v
def verR:Rdr Vt:=fun s=>verP eyeP s vt0
theorem cdc_ver:Cdc verR okVer (fun v=>encNum v.c++bG v.c v):=by
 have h:=((cdc_up 14 (by omega)).seq cdc_G).map (fun p=>p.2) (fun v=>(v.c,v)) (fun a ha=>Prod.ext (okG_k ha.2) rfl)
 refine h.imp (fun s=>?_) (fun r=>?_) (fun r _=>rfl)
 ·show verP eyeP s vt0=(rdG (upR 14 s).1 (upR 14 s).2)
  have hk:verK eyeP s vt0=(upR 14 s).1:=rfl
  unfold verP
  rw [hk]
  unfold rdG
  generalize hkk:(upR 14 s).1=k
  by_cases h1:k=1
  ·simp only [if_pos h1];rfl
  by_cases h2:k=2∨k=4∨k=8
  ·simp only [if_neg h1,if_pos h2];rfl
  by_cases h3:k=3
  ·simp only [if_neg h1,if_neg h2,if_pos h3];rfl
  by_cases h9:k=9
  ·simp only [if_neg h1,if_neg h2,if_neg h3,if_pos h9];rfl
  by_cases h10:k=10
  ·simp only [if_neg h1,if_neg h2,if_neg h3,if_neg h9,if_pos h10];rfl
  by_cases h11:k=11
  ·simp only [if_neg h1,if_neg h2,if_neg h3,if_neg h9,if_neg h10,if_pos h11];rfl
  by_cases h12:k=12∨k=13∨k=14
  ·simp only [if_neg h1,if_neg h2,if_neg h3,if_neg h9,if_neg h10,if_neg h11,if_pos h12];rfl
  ·simp only [if_neg h1,if_neg h2,if_neg h3,if_neg h9,if_neg h10,if_neg h11,if_neg h12];rfl
 ·constructor
  ·exact fun h=>⟨h,rfl⟩
  ·exact fun h=>h.1
theorem ok_bytesV {v:Vt}(h:okVer v):bV v=encNum v.c++bG v.c v:=by
 have ek:kV v=v.c:=by unfold kV;rw [if_neg (by have:=h.1.2;omega)]
 unfold bV fV bG
 rw [ek]
 split
 ·rfl
 split
 ·rfl
 split
 ·rfl
 split
 ·simp only [List.append_assoc]
 split
 ·rfl
 split
 ·rfl
 split
 ·rfl
 ·rfl
theorem cdcV:Cdc verR okVer bV:=cdc_ver.imp (fun _=>rfl) (fun _=>Iff.rfl) (fun _ h=>ok_bytesV h)
end Go.Proofs.YtddhmfildfdbdaaGreat
