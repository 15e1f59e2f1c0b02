/-
  Messages, plainly: which fields a Kind has, their bytes, what is read of bytes.
-/
import Derived.Test.YtakafmejllilnaaGreatF13
import Derived.Test.YtakafmejllilnaaGreatMsShp
namespace Go.Proofs.YtakafmejllilnaaGreat
structure Vo where
 s:Int
 b:Int
 v:Rq
deriving DecidableEq
structure Ms where
 k:Int
 f:Int
 t:Int
 b:Int
 s:Int
 m:Int
 v:Rq
 l:List Vo
 i:List Int
 n:Int
 r:Vt
deriving DecidableEq
def ms0:Ms:=⟨0,0,0,0,0,0,rq0,[],[],0,vt0⟩
def setF:Fd→Ms→Ms→Ms
 | .B,m,x=>{ m with b:=x.b }
 | .S,m,x=>{ m with s:=x.s }
 | .T,m,x=>{ m with m:=x.m }
 | .V,m,x=>{ m with v:=x.v }
 | .L,m,x=>{ m with l:=x.l }
 | .I,m,x=>{ m with i:=x.i }
 | .N,m,x=>{ m with n:=x.n }
 | .R,m,x=>{ m with r:=x.r }
def setFs:List Fd→Ms→Ms→Ms
 | [],m,_=>m
 | f :: fs,m,x=>setFs fs (setF f m x) x
def bare (k f t:Int):Ms:={ ms0 with k:=k,f:=f,t:=t }
def own (x:Ms):Ms:=setFs (shp x.k) (bare x.k x.f x.t) x
def bVo (v:Vo):List Int:=encNum v.s++(encNum v.b++bR v.v)
def okVo (v:Vo):Prop:=goodB v.s=true∧goodB v.b=true∧okReq v.v
def getB:Fd→Ms→List Int
 | .B,x=>encNum x.b
 | .S,x=>encNum x.s
 | .T,x=>encNum x.m
 | .V,x=>bR x.v
 | .L,x=>encNum x.l.length++x.l.flatMap bVo
 | .I,x=>encNum x.i.length++x.i
 | .N,x=>encNum x.n
 | .R,x=>bV x.r
def okFd:Fd→Ms→Prop
 | .B,x=>goodB x.b=true
 | .S,x=>goodB x.s=true
 | .T,x=>goodB x.m=true
 | .V,x=>okReq x.v
 | .L,x=>x.l.length≤4096∧∀ v∈x.l,okVo v
 | .I,x=>x.i.length≤524288∧Oct x.i
 | .N,x=>goodB x.n=true
 | .R,x=>okVer x.r
def sameF:Fd→Ms→Ms→Prop
 | .B,x,y=>x.b=y.b
 | .S,x,y=>x.s=y.s
 | .T,x,y=>x.m=y.m
 | .V,x,y=>x.v=y.v
 | .L,x,y=>x.l=y.l
 | .I,x,y=>x.i=y.i
 | .N,x,y=>x.n=y.n
 | .R,x,y=>x.r=y.r
theorem sameF_b {f:Fd}{x y:Ms}(h:sameF f x y):getB f x=getB f y:=by cases f <;> simp only [sameF] at h <;> simp only [getB,h]
theorem sameF_ok {f:Fd}{x y:Ms}(h:sameF f x y):okFd f x↔okFd f y:=by cases f <;> simp only [sameF] at h <;> simp only [okFd,h]
theorem sameF_set {f:Fd}(m:Ms) {x y:Ms}(h:sameF f x y):setF f m x=setF f m y:=by cases f <;> simp only [sameF] at h <;> simp only [setF,h]
theorem sameF_refl (f:Fd) (x:Ms):sameF f x x:=by cases f <;> rfl
theorem sameF_symm {f:Fd}{x y:Ms}(h:sameF f x y):sameF f y x:=by cases f <;> exact Eq.symm h
theorem sameF_trans {f:Fd}{x y z:Ms}(h:sameF f x y) (k:sameF f y z):sameF f x z:=by cases f <;> exact Eq.trans h k
theorem setF_at (f:Fd) (m x:Ms):sameF f (setF f m x) x:=by cases f <;> rfl
theorem setF_off {f g:Fd}(h:g≠f) (m x:Ms):sameF g (setF f m x) m:=by cases f <;> cases g <;> first | rfl | exact absurd rfl h
theorem setF_head (f:Fd) (m x:Ms):(setF f m x).k=m.k∧(setF f m x).f=m.f∧(setF f m x).t=m.t:=by cases f <;> exact ⟨rfl,rfl,rfl⟩
theorem setFs_off {g:Fd}(fs:List Fd) (h:g ∉ fs) (m x:Ms):sameF g (setFs fs m x) m:=by
 induction fs generalizing m with
 | nil=>exact sameF_refl g m
 | cons f fs ih =>
   exact sameF_trans (ih (fun hm=>h (List.mem_cons_of_mem _ hm)) (setF f m x)) (setF_off (fun e=>h (by rw [e];exact List.mem_cons_self ..)) m x)
theorem setFs_at {g:Fd}(fs:List Fd) (h:g∈fs) (hn:fs.Nodup) (m x:Ms):sameF g (setFs fs m x) x:=by
 induction fs generalizing m with
 | nil=>cases h
 | cons f fs ih =>
   obtain ⟨h1,h2⟩:=List.nodup_cons.1 hn
   rcases List.mem_cons.1 h with rfl | h3
   ·exact sameF_trans (setFs_off fs h1 _ x) (setF_at _ m x)
   ·exact ih h3 h2 _
theorem setFs_head (fs:List Fd) (m x:Ms):(setFs fs m x).k=m.k∧(setFs fs m x).f=m.f∧(setFs fs m x).t=m.t:=by
 induction fs generalizing m with
 | nil=>exact ⟨rfl,rfl,rfl⟩
 | cons f fs ih =>
   obtain ⟨h1,h2,h3⟩:=ih (setF f m x)
   obtain ⟨g1,g2,g3⟩:=setF_head f m x
   exact ⟨h1.trans g1,h2.trans g2,h3.trans g3⟩
theorem ms_ext {x y:Ms}(hk:x.k=y.k) (hf:x.f=y.f) (ht:x.t=y.t) (h:∀ f,sameF f x y):x=y:=by
 obtain ⟨k,f,t,b,s,m,v,l,i,n,r⟩:=x
 obtain ⟨k',f',t',b',s',m',v',l',i',n',r'⟩:=y
 have hB:b=b':=h .B
 have hS:s=s':=h .S
 have hT:m=m':=h .T
 have hV:v=v':=h .V
 have hL:l=l':=h .L
 have hI:i=i':=h .I
 have hN:n=n':=h .N
 have hR:r=r':=h .R
 simp only at hk hf ht
 subst hk hf ht hB hS hT hV hL hI hN hR
 rfl
def voR:Rdr Vo:=mapRd (fun p=>(⟨p.1,p.2.1,p.2.2⟩:Vo)) (seqR numR fun _=>seqR numR fun _=>reqR)
theorem cdc_vo:Cdc voR okVo bVo:=by
 have h:=(cdc_num.seq (fun _=>cdc_num.seq (fun _=>cdcR))).map (fun p=>(⟨p.1,p.2.1,p.2.2⟩:Vo)) (fun x=>(x.s,(x.b,x.v))) (fun a _=>rfl)
 exact h.imp (fun _=>rfl) (fun x=>⟨fun h=>⟨h,rfl⟩,fun h=>h.1⟩) (fun _ _=>rfl)
def vosR:Rdr (List Vo):=mapRd Prod.snd (seqR (upR 4096) (fun n=>repR voR n.toNat))
theorem cdc_vos:Cdc vosR (fun L=>L.length≤4096∧∀ x∈L,okVo x) (fun L=>encNum L.length++L.flatMap bVo):=by
 have h2:=((cdc_up (4096:Int) (by omega)).seq (fun n=>cdc_rep cdc_vo ⟨0,0,rq0⟩ n.toNat)).map (fun p=>p.2) (fun L=>((L.length:Int),L)) (fun a ha=>by
  obtain ⟨⟨h1,_⟩,h3,_⟩:=ha
  have:=(good_iff a.1).1 h1
  refine Prod.ext ?_ rfl
  show (a.2.length:Int)=a.1
  omega)
 refine h2.imp (fun s=>rfl) (fun L=>?_) (fun L _=>rfl)
 constructor
 ·intro ⟨h3,h4⟩
  exact ⟨⟨⟨(good_iff _).2 (by omega),by show (L.length:Int)≤_;omega⟩,by show L.length=(L.length:Int).toNat;omega,h4⟩,rfl⟩
 ·intro ⟨⟨⟨_,h3⟩,_,h4⟩,_⟩
  exact ⟨by have h3':(L.length:Int)≤(4096:Int):=h3;omega,h4⟩
def bysR:Rdr (List Int):=fun s=>((rdRunE s.2 524288 s.1).2.1,((rdRunE s.2 524288 s.1).2.2,(rdRunE s.2 524288 s.1).1))
theorem cdc_bys:Cdc bysR (fun L=>L.length≤524288∧Oct L) (fun L=>encNum L.length++L):=by
 have hT:∀ s,bysR s=((rdRunE s.2 524288 s.1).2.1,((rdRunE s.2 524288 s.1).2.2,(rdRunE s.2 524288 s.1).1)):=fun _=>rfl
 refine ⟨fun x u hx=>?_,fun l x u ho h=>?_,fun e he=>?_,fun l h=>?_⟩
 ·rw [hT]
  show ((rdRunE 0 524288 (encNum x.length++x++u)).2.1,((rdRunE 0 524288 (encNum x.length++x++u)).2.2,(rdRunE 0 524288 (encNum x.length++x++u)).1))=_
  have hr:=rdRunE_num (most:=524288) (rdNumE_enc (x.length:Int) (x++u) (by have:=hx.1;unfold goodB;simp;omega))
  rw [List.append_assoc,hr,if_neg (by simp),if_neg (by have:=hx.1;omega),if_neg (by simp;omega)]
  have e1:(x++u).take (x.length:Int).toNat=x:=by rw [Int.toNat_natCast];simp
  have e2:(x++u).drop (x.length:Int).toNat=u:=by rw [Int.toNat_natCast];simp
  simp only [e1,e2]
 ·rw [hT] at h
  have h':((rdRunE 0 524288 l).2.1,((rdRunE 0 524288 l).2.2,(rdRunE 0 524288 l).1))=(x,(u,0)):=h
  obtain ⟨q,hq⟩:∃ q,q=rdNumE 0 l:=⟨_,rfl⟩
  obtain ⟨e1,y,rest⟩:=q
  have hr:=rdRunE_num (most:=524288) hq.symm
  rw [hr] at h'
  by_cases he:e1=0
  ·subst he
   obtain ⟨h1,h2⟩:=rdNumE_ok ho hq.symm
   rw [if_neg (by simp)] at h'
   by_cases h3:(524288:Int) < y
   ·rw [if_pos h3] at h';simp at h'
   ·rw [if_neg h3] at h'
    by_cases h4:(rest.length:Int) < y
    ·rw [if_pos h4] at h';simp at h'
    ·rw [if_neg h4] at h'
     simp only [Prod.mk.injEq,and_true] at h'
     obtain ⟨rfl,rfl⟩:=h'
     have hl:(rest.take y.toNat).length=y.toNat:=by rw [List.length_take];omega
     have hor:Oct rest:=by rw [h2] at ho;exact ho.right
     refine ⟨⟨by omega,hor.take _⟩,?_⟩
     rw [hl,List.append_assoc,List.take_append_drop,show ((y.toNat:Nat):Int)=y by omega]
     exact h2
  ·rw [if_pos he] at h'
   simp only [Prod.mk.injEq] at h'
   exact absurd h'.2.2 he
 ·rw [hT]
  show ((rdRunE e 524288 []).2.2,(rdRunE e 524288 []).1)=_
  unfold rdRunE;rw [if_neg he]
 ·rw [hT] at h ⊢
  show (rdRunE 0 524288 l).2.2=[]
  have h':(rdRunE 0 524288 l).1≠0:=h
  unfold rdRunE rdRun at h' ⊢
  rw [if_pos rfl] at h' ⊢
  split
  ·rfl
  ·rename_i h1
   rw [if_neg h1] at h'
   split
   ·rfl
   ·rename_i h2
    rw [if_neg h2] at h'
    split
    ·rfl
    ·rename_i h3
     rw [if_neg h3] at h'
     exact absurd rfl h'
def rdFd:Fd→Ms→Rdr Ms
 | .B,m=>mapRd (fun x=>{ m with b:=x }) numR
 | .S,m=>mapRd (fun x=>{ m with s:=x }) numR
 | .T,m=>mapRd (fun x=>{ m with m:=x }) numR
 | .V,m=>mapRd (fun x=>{ m with v:=x }) reqR
 | .L,m=>mapRd (fun x=>{ m with l:=x }) vosR
 | .I,m=>mapRd (fun x=>{ m with i:=x }) bysR
 | .N,m=>mapRd (fun x=>{ m with n:=x }) numR
 | .R,m=>mapRd (fun x=>{ m with r:=x }) verR
theorem cdc_Fd (f:Fd) (m:Ms):Cdc (rdFd f m) (fun x=>okFd f x∧setF f m x=x) (getB f):=by
 cases f
 ·exact cdc_num.map (fun x=>{ m with b:=x }) Ms.b (fun _ _=>rfl)
 ·exact cdc_num.map (fun x=>{ m with s:=x }) Ms.s (fun _ _=>rfl)
 ·exact cdc_num.map (fun x=>{ m with m:=x }) Ms.m (fun _ _=>rfl)
 ·exact cdcR.map (fun x=>{ m with v:=x }) Ms.v (fun _ _=>rfl)
 ·exact cdc_vos.map (fun x=>{ m with l:=x }) Ms.l (fun _ _=>rfl)
 ·exact cdc_bys.map (fun x=>{ m with i:=x }) Ms.i (fun _ _=>rfl)
 ·exact cdc_num.map (fun x=>{ m with n:=x }) Ms.n (fun _ _=>rfl)
 ·exact cdcV.map (fun x=>{ m with r:=x }) Ms.r (fun _ _=>rfl)
def rdFds:List Fd→Ms→Rdr Ms
 | [],m=>retR m
 | f :: fs,m=>fun s=>rdFds fs (rdFd f m s).1 (rdFd f m s).2
theorem cdc_Fds (fs:List Fd) (hn:fs.Nodup) (m:Ms):Cdc (rdFds fs m) (fun x=>(∀ f∈fs,okFd f x)∧setFs fs m x=x) (fun x=>fs.flatMap fun f=>getB f x):=by
 induction fs generalizing m with
 | nil =>
   refine (Cdc.ret m).imp (fun _=>rfl) (fun x=>?_) (fun _ _=>rfl)
   exact ⟨fun h=>h.2.symm,fun h=>⟨(fun _ h=>by cases h),h.symm⟩⟩
 | cons f fs ih =>
   obtain ⟨h1,h2⟩:=List.nodup_cons.1 hn
   have h:=((cdc_Fd f m).seq (fun m1=>ih h2 m1)).map Prod.snd (fun x=>(setF f m x,x)) (fun a ha=>by
    obtain ⟨⟨_,ha1⟩,_,ha2⟩:=ha
    refine Prod.ext ?_ rfl
    show setF f m a.2=a.1
    have h3:=setFs_off (g:=f) fs h1 a.1 a.2
    rw [ha2] at h3
    rw [sameF_set m h3,ha1])
   refine h.imp (fun _=>rfl) (fun x=>?_) (fun x _=>?_)
   ·have e1:=setF_at f m x
    constructor
    ·rintro ⟨h3,h4⟩
     exact ⟨⟨⟨(sameF_ok e1).2 (h3 f (List.mem_cons_self ..)),sameF_set m e1⟩,fun g hg=>h3 g (List.mem_cons_of_mem _ hg),h4⟩,rfl⟩
    ·rintro ⟨⟨⟨h3,_⟩,h4,h5⟩,_⟩
     refine ⟨fun g hg=>?_,h5⟩
     rcases List.mem_cons.1 hg with rfl | hg
     ·exact (sameF_ok e1).1 h3
     ·exact h4 g hg
   ·show (f :: fs).flatMap (fun f=>getB f x)=getB f (setF f m x)++_
    rw [List.flatMap_cons,sameF_b (setF_at f m x)]
def kndR:Rdr Int:=fun s=>if shp (numR s).1=[] then ((numR s).1,([],rdRefE (numR s).2.2)) else numR s
theorem cdc_knd:Cdc kndR (fun k=>goodB k=true∧shp k≠[]) encNum:=by
 have hU:∀ s,kndR s=if shp (numR s).1=[] then ((numR s).1,([],rdRefE (numR s).2.2)) else numR s:=fun _=>rfl
 refine ⟨fun x u h=>?_,fun l x u ho h=>?_,fun e he=>?_,fun l h=>?_⟩
 ·rw [hU,cdc_num.fwd x u h.1,if_neg h.2]
 ·rw [hU] at h
  split at h
  ·simp only [Prod.mk.injEq] at h
   exfalso
   have:=h.2.2
   unfold rdRefE at this
   split at this
   ·simp at this
   ·contradiction
  ·rename_i h1
   have h2:=cdc_num.bwd l x u ho h
   rw [h] at h1
   exact ⟨⟨h2.1,h1⟩,h2.2⟩
 ·rw [hU]
  have e0:shp (numR ([],e)).1=[]:=by
   show shp (rdNumE e []).2.1=[]
   rw [rdNumE_bad e he]
   show shp 0=[]
   decide
  rw [if_pos e0]
  have e1:(numR ([],e)).2.2=e:=by rw [cdc_num.bad e he]
  show ([],rdRefE (numR ([],e)).2.2)=_
  rw [e1]
  unfold rdRefE
  rw [if_neg he]
 ·rw [hU] at h ⊢
  split
  ·rfl
  ·rename_i h1
   rw [if_neg h1] at h
   exact cdc_num.nil l h
def msgR:Rdr Ms:=mapRd (fun p=>p.2.2.2) (seqR kndR fun k=>seqR numR fun f=>seqR numR fun t=>rdFds (shp k) (bare k f t))
def okForm (x:Ms):Prop:=goodB x.k=true∧shp x.k≠[]∧goodB x.f=true∧goodB x.t=true∧(∀ f∈shp x.k,okFd f x)∧own x=x
def bM (x:Ms):List Int:=encNum x.k++(encNum x.f++(encNum x.t++(shp x.k).flatMap fun f=>getB f x))
theorem cdcM:Cdc msgR okForm bM:=by
 have h:=(cdc_knd.seq (fun k=>cdc_num.seq (fun f=>cdc_num.seq (fun t=>cdc_Fds (shp k) (shp_nodup k) (bare k f t))))).map (fun p=>p.2.2.2) (fun x=>(x.k,(x.f,(x.t,x)))) (fun a ha=>by
  obtain ⟨_,_,_,_,ha⟩:=ha
  obtain ⟨h1,h2,h3⟩:=setFs_head (shp a.1) (bare a.1 a.2.1 a.2.2.1) a.2.2.2
  rw [ha] at h1 h2 h3
  exact Prod.ext h1 (Prod.ext h2 (Prod.ext h3 rfl)))
 refine h.imp (fun _=>rfl) (fun x=>?_) (fun _ _=>rfl)
 unfold okForm own
 constructor
 ·rintro ⟨h1,h2,h3,h4,h5,h6⟩
  exact ⟨⟨⟨h1,h2⟩,h3,h4,h5,h6⟩,rfl⟩
 ·rintro ⟨⟨⟨h1,h2⟩,h3,h4,h5,h6⟩,_⟩
  exact ⟨h1,h2,h3,h4,h5,h6⟩
def addrB (n:Int):Bool:=(decide (0≤n) && decide (n < 15)) || (decide (100≤n) && decide (n≤199))
def risB:Int→List Vo→Bool
 | _,[]=>true
 | p,v :: L=>decide (p < v.s) && risB v.s L
def okMs (x:Ms):Prop:=shp x.k≠[]∧addrB x.f=true∧addrB x.t=true∧(∀ f∈shp x.k,okFd f x)∧risB (-1) x.l=true∧own x=x
theorem addr_good {n:Int}(h:addrB n=true):goodB n=true:=by
 unfold addrB at h
 simp only [Bool.or_eq_true,Bool.and_eq_true,decide_eq_true_eq] at h
 exact (good_iff n).2 (by omega)
theorem okMs_form {x:Ms}(h:okMs x):okForm x:=by
 obtain ⟨h1,h2,h3,h4,_,h5⟩:=h
 have:=shp_kind h1
 exact ⟨(good_iff _).2 (by omega),h1,addr_good h2,addr_good h3,h4,h5⟩
end Go.Proofs.YtakafmejllilnaaGreat
