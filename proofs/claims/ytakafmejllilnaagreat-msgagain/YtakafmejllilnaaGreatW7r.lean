/-
  Texts laid as one.
-/
import Derived.Test.YtakafmejllilnaaGreatF13r
import Derived.Test.YtakafmejllilnaaGreatW8r
import Derived.Test.YtakafmejllilnaaGreatF11r
import Derived.Test.YtakafmejllilnaaGreatF5r
import Derived.Test.YtakafmejllilnaaGreatW0r
set_option maxHeartbeats 2000000
/-
 Messages,plainly: which fields a Kind has,their bytes,what is read of bytes.
-/
namespace Go.Proofs.YtakafmejllilnaaGreat
structure Vo where
 s:Int
 b:Int
 v:Rq
deriving DecidableEq
structure Ms where
 k:Int
 f:Int
 t:Int
 b:Int
 s:Int
 m:Int
 v:Rq
 l:List Vo
 i:List Int
 n:Int
 r:Vt
deriving DecidableEq
def gC:Ms:=⟨0,0,0,0,0,0,cl,[],[],0,bD⟩
def ia:Fd→Ms→Ms→Ms
 | .B,m,x=>{ m with b:=x.b }
 | .S,m,x=>{ m with s:=x.s }
 | .T,m,x=>{ m with m:=x.m }
 | .V,m,x=>{ m with v:=x.v }
 | .L,m,x=>{ m with l:=x.l }
 | .I,m,x=>{ m with i:=x.i }
 | .N,m,x=>{ m with n:=x.n }
 | .R,m,x=>{ m with r:=x.r }
def jJ:List Fd→Ms→Ms→Ms
 | [],m,_=>m
 | f :: fs,m,x=>jJ fs (ia f m x) x
def bX (k f t:Int):Ms:={ gC with k:=k,f:=f,t:=t }
def own (x:Ms):Ms:=jJ (bc x.k) (bX x.k x.f x.t) x
def wZ (v:Vo):List Int:=ap v.s++(ap v.b++bR v.v)
def lh (v:Vo):Prop:=ah v.s=true∧ah v.b=true∧ff v.v
def gi:Fd→Ms→List Int
 | .B,x=>ap x.b
 | .S,x=>ap x.s
 | .T,x=>ap x.m
 | .V,x=>bR x.v
 | .L,x=>ap x.l.length++x.l.flatMap wZ
 | .I,x=>ap x.i.length++x.i
 | .N,x=>ap x.n
 | .R,x=>bV x.r
def fp:Fd→Ms→Prop
 | .B,x=>ah x.b=true
 | .S,x=>ah x.s=true
 | .T,x=>ah x.m=true
 | .V,x=>ff x.v
 | .L,x=>x.l.length≤4096∧∀ v∈x.l,lh v
 | .I,x=>x.i.length≤524288∧bi x.i
 | .N,x=>ah x.n=true
 | .R,x=>fH x.r
def cJ:Fd→Ms→Ms→Prop
 | .B,x,y=>x.b=y.b
 | .S,x,y=>x.s=y.s
 | .T,x,y=>x.m=y.m
 | .V,x,y=>x.v=y.v
 | .L,x,y=>x.l=y.l
 | .I,x,y=>x.i=y.i
 | .N,x,y=>x.n=y.n
 | .R,x,y=>x.r=y.r
theorem uR {f:Fd}{x y:Ms}(h:cJ f x y):gi f x=gi f y:=by cases f <;> simp only [cJ] at h <;> simp only [gi,h]
theorem kv {f:Fd}{x y:Ms}(h:cJ f x y):fp f x↔fp f y:=by cases f <;> simp only [cJ] at h <;> simp only [fp,h]
theorem lD {f:Fd}(m:Ms) {x y:Ms}(h:cJ f x y):ia f m x=ia f m y:=by cases f <;> simp only [cJ] at h <;> simp only [ia,h]
theorem ix (f:Fd) (x:Ms):cJ f x x:=by cases f <;> rfl
theorem iz {f:Fd}{x y:Ms}(h:cJ f x y):cJ f y x:=by cases f <;> exact Eq.symm h
theorem ck {f:Fd}{x y z:Ms}(h:cJ f x y) (k:cJ f y z):cJ f x z:=by cases f <;> exact Eq.trans h k
theorem jZ (f:Fd) (m x:Ms):cJ f (ia f m x) x:=by cases f <;> rfl
theorem mU {f g:Fd}(h:g≠f) (m x:Ms):cJ g (ia f m x) m:=by cases f <;> cases g <;> first | rfl | exact absurd rfl h
theorem p6 (f:Fd) (m x:Ms):(ia f m x).k=m.k∧(ia f m x).f=m.f∧(ia f m x).t=m.t:=by cases f <;> exact ⟨rfl,rfl,rfl⟩
theorem gW {g:Fd}(fs:List Fd) (h:g ∉ fs) (m x:Ms):cJ g (jJ fs m x) m:=by
 induction fs generalizing m with
 | nil=>exact ix g m
 | cons f fs ih =>
   exact ck (ih (fun hm=>h (List.mem_cons_of_mem _ hm)) (ia f m x)) (mU (fun e=>h (by rw [e];exact List.mem_cons_self ..)) m x)
theorem rT {g:Fd}(fs:List Fd) (h:g∈fs) (hn:fs.Nodup) (m x:Ms):cJ g (jJ fs m x) x:=by
 induction fs generalizing m with
 | nil=>cases h
 | cons f fs ih =>
   obtain ⟨h1,h2⟩:=List.nodup_cons.1 hn;rcases List.mem_cons.1 h with rfl | h3
   ·exact ck (gW fs h1 _ x) (jZ _ m x)
   ·exact ih h3 h2 _
theorem km (fs:List Fd) (m x:Ms):(jJ fs m x).k=m.k∧(jJ fs m x).f=m.f∧(jJ fs m x).t=m.t:=by
 induction fs generalizing m with
 | nil=>exact ⟨rfl,rfl,rfl⟩
 | cons f fs ih =>
   obtain ⟨h1,h2,h3⟩:=ih (ia f m x);obtain ⟨g1,g2,g3⟩:=p6 f m x;exact ⟨h1.trans g1,h2.trans g2,h3.trans g3⟩
theorem re {x y:Ms}(hk:x.k=y.k) (hf:x.f=y.f) (ht:x.t=y.t) (h:∀ f,cJ f x y):x=y:=by
 obtain ⟨k,f,t,b,s,m,v,l,i,n,r⟩:=x;obtain ⟨k',f',t',b',s',m',v',l',i',n',r'⟩:=y;have hB:b=b':=h .B;have hS:s=s':=h .S;have hT:m=m':=h .T;have hV:v=v':=h .V;have hL:l=l':=h .L;have hI:i=i':=h .I;have hN:n=n':=h .N;have hR:r=r':=h .R;simp only at hk hf ht;subst hk hf ht hB hS hT hV hL hI hN hR;rfl
def eB:gh Vo:=da (fun p=>(⟨p.1,p.2.1,p.2.2⟩:Vo)) (eF az fun _=>eF az fun _=>mA)
theorem gx:eQ eB lh wZ:=by
 have h:=(aG.seq (fun _=>aG.seq (fun _=>wX))).map (fun p=>(⟨p.1,p.2.1,p.2.2⟩:Vo)) (fun x=>(x.s,(x.b,x.v))) (fun a _=>rfl);exact h.imp (fun _=>rfl) (fun x=>⟨fun h=>⟨h,rfl⟩,fun h=>h.1⟩) (fun _ _=>rfl)
def gm:gh (List Vo):=da Prod.snd (eF (j5 4096) (fun n=>bP eB n.toNat))
theorem uW:eQ gm (fun L=>L.length≤4096∧∀ x∈L,lh x) (fun L=>ap L.length++L.flatMap wZ):=by
 have h2:=((mz (4096:Int) (by omega)).seq (fun n=>pn gx ⟨0,0,cl⟩ n.toNat)).map (fun p=>p.2) (fun L=>((L.length:Int),L)) (fun a ha=>by
  obtain ⟨⟨h1,_⟩,h3,_⟩:=ha;have:=(aZ a.1).1 h1
  refine Prod.ext ?_ rfl;show (a.2.length:Int)=a.1;omega)
 refine h2.imp (fun s=>rfl) (fun L=>?_) (fun L _=>rfl);constructor
 ·intro ⟨h3,h4⟩;exact ⟨⟨⟨(aZ _).2 (by omega),by show (L.length:Int)≤_;omega⟩,by show L.length=(L.length:Int).toNat;omega,h4⟩,rfl⟩
 ·intro ⟨⟨⟨_,h3⟩,_,h4⟩,_⟩;exact ⟨by have h3':(L.length:Int)≤(4096:Int):=h3;omega,h4⟩
def oA:gh (List Int):=fun s=>((av s.2 524288 s.1).2.1,((av s.2 524288 s.1).2.2,(av s.2 524288 s.1).1))
theorem ut:eQ oA (fun L=>L.length≤524288∧bi L) (fun L=>ap L.length++L):=by
 have hT:∀ s,oA s=((av s.2 524288 s.1).2.1,((av s.2 524288 s.1).2.2,(av s.2 524288 s.1).1)):=fun _=>rfl;refine ⟨fun x u hx=>?_,fun l x u ho h=>?_,fun e he=>?_,fun l h=>?_⟩
 ·rw [hT];show ((av 0 524288 (ap x.length++x++u)).2.1,((av 0 524288 (ap x.length++x++u)).2.2,(av 0 524288 (ap x.length++x++u)).1))=_;have hr:=eo (most:=524288) (fW (x.length:Int) (x++u) (by have:=hx.1;unfold ah;simp;omega));rw [List.append_assoc,hr,if_neg (by simp),if_neg (by have:=hx.1;omega),if_neg (by simp;omega)];have e1:(x++u).take (x.length:Int).toNat=x:=by rw [Int.toNat_natCast];simp
  have e2:(x++u).drop (x.length:Int).toNat=u:=by rw [Int.toNat_natCast];simp
  simp only [e1,e2]
 ·rw [hT] at h;have h':((av 0 524288 l).2.1,((av 0 524288 l).2.2,(av 0 524288 l).1))=(x,(u,0)):=h;obtain ⟨q,hq⟩:∃ q,q=an 0 l:=⟨_,rfl⟩;obtain ⟨e1,y,rest⟩:=q;have hr:=eo (most:=524288) hq.symm;rw [hr] at h';by_cases he:e1=0
  ·subst he;obtain ⟨h1,h2⟩:=gJ ho hq.symm;rw [if_neg (by simp)] at h';by_cases h3:(524288:Int) < y
   ·rw [if_pos h3] at h';simp at h'
   ·rw [if_neg h3] at h';by_cases h4:(rest.length:Int) < y
    ·rw [if_pos h4] at h';simp at h'
    ·rw [if_neg h4] at h';simp only [Prod.mk.injEq,and_true] at h';obtain ⟨rfl,rfl⟩:=h';have hl:(rest.take y.toNat).length=y.toNat:=by rw [List.length_take];omega
     have hor:bi rest:=by rw [h2] at ho;exact ho.right
     refine ⟨⟨by omega,hor.take _⟩,?_⟩;rw [hl,List.append_assoc,List.take_append_drop,show ((y.toNat:Nat):Int)=y by omega];exact h2
  ·rw [if_pos he] at h';simp only [Prod.mk.injEq] at h';exact absurd h'.2.2 he
 ·rw [hT];show ((av e 524288 []).2.2,(av e 524288 []).1)=_;unfold av;rw [if_neg he]
 ·rw [hT] at h ⊢;show (av 0 524288 l).2.2=[];have h':(av 0 524288 l).1≠0:=h;unfold av bE at h' ⊢;rw [if_pos rfl] at h' ⊢;split
  ·rfl
  ·rename_i h1
   rw [if_neg h1] at h';split
   ·rfl
   ·rename_i h2
    rw [if_neg h2] at h';split
    ·rfl
    ·rename_i h3
     rw [if_neg h3] at h';exact absurd rfl h'
def gw:Fd→Ms→gh Ms
 | .B,m=>da (fun x=>{ m with b:=x }) az
 | .S,m=>da (fun x=>{ m with s:=x }) az
 | .T,m=>da (fun x=>{ m with m:=x }) az
 | .V,m=>da (fun x=>{ m with v:=x }) mA
 | .L,m=>da (fun x=>{ m with l:=x }) gm
 | .I,m=>da (fun x=>{ m with i:=x }) oA
 | .N,m=>da (fun x=>{ m with n:=x }) az
 | .R,m=>da (fun x=>{ m with r:=x }) qA
theorem l7 (f:Fd) (m:Ms):eQ (gw f m) (fun x=>fp f x∧ia f m x=x) (gi f):=by
 cases f
 ·exact aG.map (fun x=>{ m with b:=x }) Ms.b (fun _ _=>rfl)
 ·exact aG.map (fun x=>{ m with s:=x }) Ms.s (fun _ _=>rfl)
 ·exact aG.map (fun x=>{ m with m:=x }) Ms.m (fun _ _=>rfl)
 ·exact wX.map (fun x=>{ m with v:=x }) Ms.v (fun _ _=>rfl)
 ·exact uW.map (fun x=>{ m with l:=x }) Ms.l (fun _ _=>rfl)
 ·exact ut.map (fun x=>{ m with i:=x }) Ms.i (fun _ _=>rfl)
 ·exact aG.map (fun x=>{ m with n:=x }) Ms.n (fun _ _=>rfl)
 ·exact xA.map (fun x=>{ m with r:=x }) Ms.r (fun _ _=>rfl)
def aU:List Fd→Ms→gh Ms
 | [],m=>pG m
 | f :: fs,m=>fun s=>aU fs (gw f m s).1 (gw f m s).2
theorem uX (fs:List Fd) (hn:fs.Nodup) (m:Ms):eQ (aU fs m) (fun x=>(∀ f∈fs,fp f x)∧jJ fs m x=x) (fun x=>fs.flatMap fun f=>gi f x):=by
 induction fs generalizing m with
 | nil =>
   refine (eQ.ret m).imp (fun _=>rfl) (fun x=>?_) (fun _ _=>rfl);exact ⟨fun h=>h.2.symm,fun h=>⟨(fun _ h=>by cases h),h.symm⟩⟩
 | cons f fs ih =>
   obtain ⟨h1,h2⟩:=List.nodup_cons.1 hn
   have h:=((l7 f m).seq (fun m1=>ih h2 m1)).map Prod.snd (fun x=>(ia f m x,x)) (fun a ha=>by
    obtain ⟨⟨_,ha1⟩,_,ha2⟩:=ha;refine Prod.ext ?_ rfl;show ia f m a.2=a.1;have h3:=gW (g:=f) fs h1 a.1 a.2;rw [ha2] at h3;rw [lD m h3,ha1])
   refine h.imp (fun _=>rfl) (fun x=>?_) (fun x _=>?_)
   ·have e1:=jZ f m x;constructor
    ·rintro ⟨h3,h4⟩;exact ⟨⟨⟨(kv e1).2 (h3 f (List.mem_cons_self ..)),lD m e1⟩,fun g hg=>h3 g (List.mem_cons_of_mem _ hg),h4⟩,rfl⟩
    ·rintro ⟨⟨⟨h3,_⟩,h4,h5⟩,_⟩;refine ⟨fun g hg=>?_,h5⟩;rcases List.mem_cons.1 hg with rfl | hg
     ·exact (kv e1).1 h3
     ·exact h4 g hg
   ·show (f :: fs).flatMap (fun f=>gi f x)=gi f (ia f m x)++_;rw [List.flatMap_cons,uR (jZ f m x)]
def bl:gh Int:=fun s=>if bc (az s).1=[] then ((az s).1,([],aO (az s).2.2)) else az s
theorem tN:eQ bl (fun k=>ah k=true∧bc k≠[]) ap:=by
 have hU:∀ s,bl s=if bc (az s).1=[] then ((az s).1,([],aO (az s).2.2)) else az s:=fun _=>rfl
 refine ⟨fun x u h=>?_,fun l x u ho h=>?_,fun e he=>?_,fun l h=>?_⟩
 ·rw [hU,aG.fwd x u h.1,if_neg h.2]
 ·rw [hU] at h;split at h
  ·simp only [Prod.mk.injEq] at h;exfalso
   have:=h.2.2
   unfold aO at this;split at this
   ·simp at this
   ·contradiction
  ·rename_i h1
   have h2:=aG.bwd l x u ho h;rw [h] at h1;exact ⟨⟨h2.1,h1⟩,h2.2⟩
 ·rw [hU]
  have e0:bc (az ([],e)).1=[]:=by
   show bc (an e []).2.1=[];rw [eV e he];show bc 0=[];decide
  rw [if_pos e0];have e1:(az ([],e)).2.2=e:=by rw [aG.bad e he]
  show ([],aO (az ([],e)).2.2)=_;rw [e1];unfold aO;rw [if_neg he]
 ·rw [hU] at h ⊢;split
  ·rfl
  ·rename_i h1
   rw [if_neg h1] at h;exact aG.nil l h
def dM:gh Ms:=da (fun p=>p.2.2.2) (eF bl fun k=>eF az fun f=>eF az fun t=>aU (bc k) (bX k f t))
def fX (x:Ms):Prop:=ah x.k=true∧bc x.k≠[]∧ah x.f=true∧ah x.t=true∧(∀ f∈bc x.k,fp f x)∧own x=x
def bM (x:Ms):List Int:=ap x.k++(ap x.f++(ap x.t++(bc x.k).flatMap fun f=>gi f x))
theorem wh:eQ dM fX bM:=by
 have h:=(tN.seq (fun k=>aG.seq (fun f=>aG.seq (fun t=>uX (bc k) (gQ k) (bX k f t))))).map (fun p=>p.2.2.2) (fun x=>(x.k,(x.f,(x.t,x)))) (fun a ha=>by
  obtain ⟨_,_,_,_,ha⟩:=ha;obtain ⟨h1,h2,h3⟩:=km (bc a.1) (bX a.1 a.2.1 a.2.2.1) a.2.2.2;rw [ha] at h1 h2 h3;exact Prod.ext h1 (Prod.ext h2 (Prod.ext h3 rfl)))
 refine h.imp (fun _=>rfl) (fun x=>?_) (fun _ _=>rfl);unfold fX own;constructor
 ·rintro ⟨h1,h2,h3,h4,h5,h6⟩;exact ⟨⟨⟨h1,h2⟩,h3,h4,h5,h6⟩,rfl⟩
 ·rintro ⟨⟨⟨h1,h2⟩,h3,h4,h5,h6⟩,_⟩;exact ⟨h1,h2,h3,h4,h5,h6⟩
def aF (n:Int):Bool:=(decide (0≤n) && decide (n < 15)) || (decide (100≤n) && decide (n≤199))
def ja:Int→List Vo→Bool
 | _,[]=>true
 | p,v :: L=>decide (p < v.s) && ja v.s L
def ol (x:Ms):Prop:=bc x.k≠[]∧aF x.f=true∧aF x.t=true∧(∀ f∈bc x.k,fp f x)∧ja (-1) x.l=true∧own x=x
theorem lJ {n:Int}(h:aF n=true):ah n=true:=by
 unfold aF at h;simp only [Bool.or_eq_true,Bool.and_eq_true,decide_eq_true_eq] at h;exact (aZ n).2 (by omega)
theorem je {x:Ms}(h:ol x):fX x:=by
 obtain ⟨h1,h2,h3,h4,_,h5⟩:=h;have:=kz h1
 exact ⟨(aZ _).2 (by omega),h1,lJ h2,lJ h3,h4,h5⟩
abbrev St:=List Int × Int
def Nl (s:St):Prop:=s.2≠0→s.1=[]
def eJ {α:Type}(one:St→α × St):Nat→St→List α × St
 | 0,s=>([],s)
 | n+1,s=>if (eJ one n s).2.2=0 then ((eJ one n s).1++[(one (eJ one n s).2).1],(one (eJ one n s).2).2) else eJ one n s
theorem dG {α:Type}(one:St→α × St) (s:St) (i:Nat) (h:(eJ one i s).2.2≠0):∀ n,i≤n→eJ one n s=eJ one i s:=by
 intro n hn;induction n with
 | zero=>rw [show i=0 by omega]
 | succ n ih =>
   by_cases e:i=n+1
   ·rw [e]
   ·have h1:=ih (by omega);rw [eJ,h1,if_neg h]
theorem uC {α:Type}(one:St→α→α × St) (z:α) (hb:∀ e,e≠0→(one ([],e) z).2=([],e)) (hn:∀ s,Nl s→Nl (one s z).2) (n:Nat) (s:St) (hs:Nl s) :
 (cf one s (List.replicate n z)).2=(eJ (fun s=>one s z) n s).2∧((eJ (fun s=>one s z) n s).2.2=0→(cf one s (List.replicate n z)).1=(eJ (fun s=>one s z) n s).1)∧Nl (eJ (fun s=>one s z) n s).2:=by
 induction n with
 | zero=>exact ⟨rfl,fun _=>rfl,hs⟩
 | succ n ih =>
   obtain ⟨h1,h2,h3⟩:=ih;rw [List.replicate_succ',jo,eJ];simp only [h1];by_cases he:(eJ (fun s=>one s z) n s).2.2=0
   ·rw [if_pos he];exact ⟨rfl,fun _=>by rw [h2 he],hn _ h3⟩
   ·rw [if_neg he];have e0:=h3 he;have e1:(eJ (fun s=>one s z) n s).2=([],(eJ (fun s=>one s z) n s).2.2):=Prod.ext e0 rfl;refine ⟨?_,fun h=>absurd h he,h3⟩;rw [e1];exact hb _ he
theorem d8 {α:Type}{rd:gh α}{ok:α→Prop}{b:α→List Int}(h:eQ rd ok b) (s:St) (hs:Nl s):Nl (rd s).2:=by
 intro hne;by_cases he:s.2=0
 ·have e:s=(s.1,0):=Prod.ext rfl he;rw [e] at hne ⊢;exact h.nil _ hne
 ·have e:s=([],s.2):=Prod.ext (hs he) rfl;rw [e,h.bad _ he]
def fK {α:Type}(one:St→α × St) (most:Int) (s:St):List α × St :=
 if most < (ag.num s 0).1 then ([],([],aO (ag.num s 0).2.2)) else eJ one (ag.num s 0).1.toNat (ag.num s 0).2
theorem lX {α:Type}(one:St→α→α × St) (z:α) {ok:α→Prop}{b:α→List Int}(hc:eQ (fun s=>one s z) ok b) (most:Int) (s:St) (hs:Nl s) :
 (aP ag one z s [] most).2=(fK (fun s=>one s z) most s).2∧((fK (fun s=>one s z) most s).2.2=0→(aP ag one z s [] most).1=(fK (fun s=>one s z) most s).1):=by
 have hs1:Nl (ag.num s 0).2:=d8 aG s hs;unfold aP fK;by_cases hm:most < (ag.num s 0).1
 ·have hm':most < (an s.2 s.1).2.1:=hm;have e:ag.upTo s (([]:List α).length:Int) most=(0,([],aO (an s.2 s.1).1)):=by show (if _ then _ else _)=_;rw [if_pos hm']
  rw [if_pos hm,e];simp only [kP];exact ⟨rfl,fun _=>rfl⟩
 ·have hm':¬ most < (an s.2 s.1).2.1:=hm;have e:ag.upTo s (([]:List α).length:Int) most=ag.num s 0:=by show (if _ then _ else _)=_;rw [if_neg hm'];rfl
  rw [if_neg hm,e,kP];have h:=uC one z (fun e he=>hc.bad e he) (fun s h=>d8 hc s h) (ag.num s 0).1.toNat (ag.num s 0).2 hs1;exact ⟨h.1,h.2.1⟩
open Go.RowKit
def bn (B p:Nat) (w:World) (s:St):Prop:=RR w B p s.1 s.2∧s.1.length≤1000000000
theorem bn.nl {B p:Nat}{w:World}{s:St}(h:bn B p w s):Nl s:=by
 obtain ⟨⟨_,_,_,_,_,_,_,h6⟩,_⟩:=h;exact h6
theorem bn.oct {B p:Nat}{w:World}{s:St}(h:bn B p w s):bi s.1:=by
 obtain ⟨⟨_,_,_,_,_,_,h5,_⟩,_⟩:=h;exact h5
theorem bn.lt {B p:Nat}{w:World}{s:St}(h:bn B p w s):p < w.heap.size∧B≤p:=by
 obtain ⟨⟨_,_,h1,_,_,h4,_,_⟩,_⟩:=h;exact ⟨bZ h1,h4⟩
theorem bn.fail {B p:Nat}{w:World}{s:St}(h:bn B p w s):w.cell? ⟨p,1,none⟩=some (.int .i64 s.2):=by
 obtain ⟨⟨_,_,h1,_⟩,_⟩:=h;exact h1.cells.2.1
theorem bn.kept {S:List Nat}{B p:Nat}{w w':World}{s:St}(h:bn B p w s) (k:ab S w w') (hp:p ∉ S) (hS:∀ i∈S,B≤i):bn B p w' s:=⟨RR.kept k h.1 hp hS,h.2⟩
def wK (B p:Nat) (w:World) (q:Value × St) (r:Ending) (w':World):Prop:=r=.returned q.1∧bn B p w' q.2∧ab [p] w w'
theorem aD (B p:Nat) (w:World) (s:St) (h:bn B p w s):Calls Tryz.prog 42 #[.pointer (some ⟨p,0,none⟩)] w (wK B p w (.int .i64 (ag.num s 0).1,(ag.num s 0).2)) :=
 (iu w B p s.1 s.2 h.1).mono (fun _ _ hr=>⟨hr.1,⟨hr.2.1,Nat.le_trans fM h.2⟩,hr.2.2⟩)
theorem fi (B p:Nat) (w:World) (s:St) (h:bn B p w s):Calls Tryz.prog 80 #[.pointer (some ⟨p,0,none⟩),.int .i64 255] w (wK B p w (.string (ae (ag.text s []).1),(ag.text s []).2)) :=
 (nX w B p s.1 s.2 255 h.1 h.2).mono (fun _ _ hr=>⟨hr.1,⟨hr.2.1,Nat.le_trans (by
   show (av s.2 255 s.1).2.2.length≤s.1.length;unfold av;split
   ·exact gk.2
   ·simp) h.2⟩,hr.2.2⟩)
theorem td (B p:Nat) (w:World) (s:St) (h:bn B p w s):Calls Tryz.prog 101 #[.pointer (some ⟨p,0,none⟩)] w (wK B p w (.bool (ag.flag s false).1,(ag.flag s false).2)) :=
 (mX w B p s.1 s.2 h.1).mono (fun _ _ hr=>⟨hr.1,⟨hr.2.1,Nat.le_trans (by
   show (aM s.2 s.1).2.2.length≤s.1.length;unfold aM;split
   ·cases s.1 with
    | nil=>simp [cr]
    | cons d l=>by_cases hd:1 < d <;> simp [cr,hd]
   ·simp) h.2⟩,hr.2.2⟩)
theorem pu (B p:Nat) (w:World) (s:St) (h:bn B p w s):Calls Tryz.prog 83 #[.pointer (some ⟨p,0,none⟩)] w (wK B p w (.int .u64 (ag.word s 0).1,(ag.word s 0).2)) :=
 (nF w B p s.1 s.2 h.1).mono (fun _ _ hr=>⟨hr.1,⟨hr.2.1,Nat.le_trans (by
   show (aN s.2 s.1).2.2.length≤s.1.length;unfold aN;split
   ·unfold cY;split <;> simp
   ·simp) h.2⟩,hr.2.2⟩)
theorem eT (B p:Nat) (w:World) (s:St) (h:bn B p w s):Calls Tryz.prog 43 #[.pointer (some ⟨p,0,none⟩)] w (wK B p w (.tuple #[],([],aO s.2))) :=
 (k9 w B p s.1 s.2 h.1).mono (fun _ _ hr=>⟨hr.1,⟨hr.2.1,Nat.zero_le _⟩,hr.2.2⟩)
theorem vE (B p:Nat) (w:World) (s:St) (h:bn B p w s):Calls Tryz.prog 48 #[.pointer (some ⟨p,0,none⟩)] w fun r w'=>r=.returned (.int .i64 (gc s))∧w=w':=ox w B p s.1 s.2 h.1
theorem iT {α:Type}(one:St→α × St) (s:St):∀ n,(eJ one n s).1.length≤n
 | 0=>by simp [eJ]
 | n+1=>by
   have:=iT one s n
   rw [eJ];split
   ·simp;omega
   ·omega
theorem ph {B p:Nat}{w w':World}{v:Value}{L:List Ch}(h:aL B w v L) (k:ab [p] w w') (hp:p < B):aL B w' v L :=
 k.ownsRow h (fun i hi hm=>by have:=(World.ownsRow.lt h i hi).1;simp at hm;omega)
def xR (B p:Nat) (w:World) (q:List Ch × St) (r:Ending) (w':World):Prop:=∃ v,r=.returned v∧aL w.heap.size w' v q.1∧bn B p w' q.2∧ab [p] w w'
def xL (B p:Nat) (w:World) (s1:St) (N:Nat) (lv iv:Value) (wr:World):Prop :=
 ∃ (i:Nat) (L:List Ch) (st:St),iv=.int .i64 (i:Int)∧i≤N∧Hid (aL w.heap.size wr lv L)∧Hid (bn B p wr st)∧Hid (ab [p] w wr)∧Hid (eJ dq i s1=(L,st))
theorem fD (e:Int):aO e≠0:=by unfold aO;split <;> omega
theorem me (w:World) (B p:Nat) (l:List Int) (e most:Int) (hr:RR w B p l e) (hl:l.length≤1000000000) :
 Calls Tryz.prog 82 #[.pointer (some ⟨p,0,none⟩),.int .i64 most] w fun r w'=>∃ a n c,r=.returned (.slice a n c)∧Sl w' a n c (av e most l).2.1∧(∀ k∈bO a,w.heap.size≤k)∧RR w' B p (av e most l).2.2 (av e most l).1∧ab [p] w w':=by
 have HR:Hid (RR w B p l e):=hr;have hoct:bi l:=by obtain ⟨_,_,_,_,_,_,h5,_⟩:=hr;exact h5
 clear hr;go_enter Tryz.func82,Tryz.ntmps82;go_wp2_with fail
 refine (iu _ B _ l e HR.out).mono ?_;rintro _ w1 ⟨rfl,hR1,hk1⟩;obtain ⟨⟨e1,x,rest⟩,hE⟩:∃ E,an e l=E:=⟨_,rfl⟩;have hsh0:rest.length≤l.length:=by have h9:=fM (e:=e) (l:=l);rw [hE] at h9;exact h9
 rw [hE] at hR1 ⊢;have hrun:=eo (most:=most) hE;have hx:e1=0→0≤x∧x≤1099511627776:=by intro h;subst h;exact mJ hoct hE
 have HR1:Hid (RR w1 B p rest e1):=hR1;obtain ⟨ao,c,c0,c1,c3,hc,hc2,HS,HA,H3⟩:=HR1.out.cells;clear hE hR1;by_cases he1:e1=0
 ·subst he1;obtain ⟨hx0,hx1⟩:=hx rfl;by_cases hbig:most < x
  ·have HE:Hid (av e most l=(3,[],[])):=by show av e most l=_;rw [hrun,if_neg (by simp),if_pos hbig]
   clear hrun;(go_wp2_with fail);refine (cv _ B _ rest 0 _ HR1.out).mono ?_;rw [dL];rintro _ w2 ⟨rfl,hR2,hk2⟩;obtain ⟨ao2,cc2,d0,d1,d3,_⟩:=hR2.cells;have HR2:Hid (RR w2 B p [] 3):=hR2;clear hR2;go_wp2
   go_ret
   rw [HE.out];exact ⟨none,0,0,rfl,Sl.nil _,by simp [bO],HR2.out,hk1.trans hk2 (by simp)⟩
  ·by_cases hsh:(rest.length:Int) < x
   ·have HE:Hid (av e most l=(2,[],[])):=by show av e most l=_;rw [hrun,if_neg (by simp),if_neg hbig,if_pos hsh]
    clear hrun;(go_wp2_with fail);refine (cv _ B _ rest 0 _ HR1.out).mono ?_;rw [dL];rintro _ w2 ⟨rfl,hR2,hk2⟩;obtain ⟨ao2,cc2,d0,d1,d3,_⟩:=hR2.cells;have HR2:Hid (RR w2 B p [] 2):=hR2;clear hR2;go_wp2
    go_ret
    rw [HE.out];exact ⟨none,0,0,rfl,Sl.nil _,by simp [bO],HR2.out,hk1.trans hk2 (by simp)⟩
   ·have HE:Hid (av e most l=(0,rest.take x.toNat,rest.drop x.toNat)):=by show av e most l=_;rw [hrun,if_neg (by simp),if_neg hbig,if_neg hsh]
    clear hrun hx;obtain ⟨k,rfl⟩:=Int.eq_ofNat_of_zero_le hx0;have hkr:k≤rest.length:=by omega
    have hsl:Sl w1 ao k c (rest.take k):=HS.out.take hkr;(go_wp2_with fail);refine (gZ _ _ _ _ _ hsl (by omega)).mono ?_;rintro _ w2 ⟨v2,rfl,hO2,hf2,hk2⟩;obtain ⟨a2,n2,c2,rfl,hs2,hb2⟩:=ef hO2;have hlt:p < w1.heap.size:=HR1.out.lt;have HR2:Hid (RR w2 B p rest 0):=RR.kept hk2 HR1.out (by simp) (by simp);have HA2:Hid (gq w2 p (.slice ao rest.length c) 0):=hk2.at HA.out (by simp);have HS2:Hid (Sl w2 ao rest.length c rest):=Sl.kept hk2 HS.out (by simp);obtain ⟨d0,d1,d3⟩:=HA2.out.cells;have hsz1:w.heap.size≤w1.heap.size:=hk1.size;have hfr:∀ k∈bO a2,w1.heap.size≤k:=fun k hk=>hf2 k (hb2 k hk).2
    have HFIN:Hid (∀ a' m c',m=rest.length - k→((a'=ao∧c'=0∧c=k)∨(a'=Option.map (fun x=>x.add k) ao∧c'=c - k)) →
     ∃ a n cc,(Ending.returned (.slice a2 n2 c2):Ending)=.returned (.slice a n cc)∧Sl (w2.setCell ⟨p,0,none⟩ (.slice a' m c')) a n cc (rest.take k)∧(∀ k∈bO a,w.heap.size≤k)∧RR (w2.setCell ⟨p,0,none⟩ (.slice a' m c')) B p (rest.drop k) 0∧ab [p] w (w2.setCell ⟨p,0,none⟩ (.slice a' m c'))):=by
     intro a' m c' hm hv;have h7:=RR.cut HR2.out HS2.out HA2.out H3.out hkr a' m c' hm hv;refine ⟨a2,n2,c2,rfl,Sl.kept h7.2 hs2 (fun j hj hm'=>?_),(fun j hj=>Nat.le_trans hsz1 (hfr j hj)),h7.1,(hk1.trans hk2 (by simp)).trans h7.2 (by simp)⟩;have:=hfr j hj
     simp at hm';omega
    clear hO2 hs2 hf2 hb2 hfr hsl c0 c1 c3;go_wp2
    ·go_ret
     rw [HE.out];exact HFIN.out _ _ _ (by omega) (.inl ⟨rfl,rfl,by omega⟩)
    ·go_ret
     rw [HE.out];exact HFIN.out _ _ _ (by omega) (.inr ⟨rfl,rfl⟩)
 ·have HE:Hid (av e most l=(e1,[],[])):=by show av e most l=_;rw [hrun,if_pos he1]
  have hb:(e1==0)=false:=by simp [he1]
  have hl2:rest=[]:=by obtain ⟨_,_,_,_,_,_,_,h6⟩:=HR1.out;exact h6 he1
  subst hl2;clear hrun hx;go_wp2
  go_ret
  rw [HE.out];exact ⟨none,0,0,rfl,Sl.nil _,by simp [bO],HR1.out,hk1⟩
theorem li (w:World) (B p:Nat) (l:List Int) (e most:Int) (hr:RR w B p l e) (hl:l.length≤1000000000) :
 Calls Tryz.prog 46 #[.pointer (some ⟨p,0,none⟩),.int .i64 most] w fun r w'=>∃ a n c,r=.returned (.slice a n c)∧Sl w' a n c (av e most l).2.1∧(∀ k∈bO a,w.heap.size≤k)∧RR w' B p (av e most l).2.2 (av e most l).1∧ab [p] w w':=by
 have HR:Hid (RR w B p l e):=hr;clear hr;go_enter Tryz.func46,Tryz.ntmps46;go_wp2_with fail
 refine (me _ B _ l e most HR.out hl).mono ?_;rintro _ w1 ⟨a,n,c,rfl,h1,hn1,h2,h3⟩;have H1:Hid (Sl w1 a n c (av e most l).2.1):=h1;have H2:Hid (RR w1 B p (av e most l).2.2 (av e most l).1):=h2;have HN1:=aa hn1;clear h1 h2 hn1;go_wp2
 go_ret
 exact ⟨a,n,c,rfl,H1.out,HN1.out,H2.out,h3⟩
theorem rG (B p:Nat) (w:World) (s:St) (h:bn B p w s):Calls Tryz.prog 46 #[.pointer (some ⟨p,0,none⟩),.int .i64 524288] w fun r w'=>∃ a n c,r=.returned (.slice a n c)∧Sl w' a n c (oA s).1∧(∀ k∈bO a,w.heap.size≤k)∧bn B p w' (oA s).2∧ab [p] w w':=by
 refine (li w B p s.1 s.2 524288 h.1 h.2).mono ?_;rintro r w' ⟨a,n,c,h1,h2,h3,h4,h5⟩;refine ⟨a,n,c,h1,h2,h3,⟨h4,Nat.le_trans ?_ h.2⟩,h5⟩;show (av s.2 524288 s.1).2.2.length≤s.1.length;unfold av;split
 ·exact gk.2
 ·simp
end Go.Proofs.YtakafmejllilnaaGreat
