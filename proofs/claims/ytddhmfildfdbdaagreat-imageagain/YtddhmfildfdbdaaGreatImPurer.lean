/-
  The image's form, plainly: parts as bytes; what is written is read, and nothing else is.
-/
import Derived.Test.YtddhmfildfdbdaaGreatF13r
import Derived.Test.YtddhmfildfdbdaaGreatQ1r
namespace Go.Proofs.YtddhmfildfdbdaaGreat
def txR (most:Int):Rdr (List UInt8):=fun s=>(u8s (rdRunE s.2 most s.1).2.1,((rdRunE s.2 most s.1).2.2,(rdRunE s.2 most s.1).1))
theorem rdRunE_casesM (most:Nat) (l:List Int) (ho:Oct l):(∃ d rest,rdRunE 0 most l=(0,d,rest)∧d.length≤most∧l=encNum d.length++d++rest)∨(∃ e,e≠0∧rdRunE 0 most l=(e,[],[])):=by
 obtain ⟨q,hq⟩:∃ q,q=rdNumE 0 l:=⟨_,rfl⟩
 obtain ⟨e1,x,rest⟩:=q
 have hr:=rdRunE_num (most:=most) hq.symm
 by_cases he:e1=0
 ·subst he
  obtain ⟨h1,h2⟩:=rdNumE_ok ho hq.symm
  by_cases h3:(most:Int) < x
  ·right
   exact ⟨3,by decide,by rw [hr,if_neg (by simp),if_pos h3]⟩
  ·by_cases h4:(rest.length:Int) < x
   ·right
    exact ⟨2,by decide,by rw [hr,if_neg (by simp),if_neg h3,if_pos h4]⟩
   ·left
    have hl:(rest.take x.toNat).length=x.toNat:=by rw [List.length_take];omega
    refine ⟨rest.take x.toNat,rest.drop x.toNat,by rw [hr,if_neg (by simp),if_neg h3,if_neg h4],by omega,?_⟩
    rw [hl,List.append_assoc,List.take_append_drop,show ((x.toNat:Nat):Int)=x by omega]
    exact h2
 ·right
  exact ⟨e1,he,by rw [hr,if_pos he]⟩
theorem cdc_tx (most:Nat) (hm:most≤1000):Cdc (txR most) (fun t=>t.length≤most) bT:=by
 have hT:∀ s,txR most s=(u8s (rdRunE s.2 most s.1).2.1,((rdRunE s.2 most s.1).2.2,(rdRunE s.2 most s.1).1)):=fun _=>rfl
 refine ⟨fun x u hx=>?_,fun l x u ho h=>?_,fun e he=>?_,fun l h=>?_⟩
 ·rw [hT]
  show (u8s (rdRunE 0 most (bT x++u)).2.1,((rdRunE 0 most (bT x++u)).2.2,(rdRunE 0 most (bT x++u)).1))=_
  have hl:=intsT_length x
  have hr:=rdRunE_num (most:=most) (rdNumE_enc (x.length:Int) (intsT x++u) (by unfold goodB;simp;omega))
  unfold bT
  rw [List.append_assoc,hr,if_neg (by simp),if_neg (by omega),if_neg (by simp;omega)]
  have e1:(intsT x++u).take (x.length:Int).toNat=intsT x:=by rw [Int.toNat_natCast,← hl];simp
  have e2:(intsT x++u).drop (x.length:Int).toNat=u:=by rw [Int.toNat_natCast,← hl];simp
  simp only [e1,e2,u8s_ints]
 ·rw [hT] at h
  rcases rdRunE_casesM most l ho with ⟨d,rest,h1,h2,h3⟩ | ⟨e,he,h1⟩
  ·have h':(u8s (rdRunE 0 most l).2.1,((rdRunE 0 most l).2.2,(rdRunE 0 most l).1))=(x,(u,0)):=h
   rw [h1] at h'
   simp only [Prod.mk.injEq] at h'
   have hod:Oct d:=by rw [h3] at ho;intro y hy;exact ho y (by simp [hy])
   have hxl:x.length=d.length:=by rw [← h'.1];simp [u8s]
   refine ⟨by omega,?_⟩
   unfold bT
   rw [hxl,← h'.1,ints_u8s hod,← h'.2.1]
   exact h3
  ·have h':(u8s (rdRunE 0 most l).2.1,((rdRunE 0 most l).2.2,(rdRunE 0 most l).1))=(x,(u,0)):=h
   rw [h1] at h'
   simp only [Prod.mk.injEq] at h'
   exact absurd h'.2.2 he
 ·rw [hT]
  show ((rdRunE e most []).2.2,(rdRunE e most []).1)=_
  unfold rdRunE;rw [if_neg he]
 ·rw [hT] at h ⊢
  show (rdRunE 0 most l).2.2=[]
  have h':(rdRunE 0 most l).1≠0:=h
  unfold rdRunE rdRun at h' ⊢
  rw [if_pos rfl] at h' ⊢
  split
  ·rfl
  ·rename_i h1
   rw [if_neg h1] at h'
   split
   ·rfl
   ·rename_i h2
    rw [if_neg h2] at h'
    split
    ·rfl
    ·rename_i h3
     rw [if_neg h3] at h'
     exact absurd rfl h'
def lsR {α:Type}(most:Int) (one:Rdr α):Rdr (List α):=mapRd Prod.snd (seqR (upR most) (fun n=>repR one n.toNat))
def bLs {α:Type}(b:α→List Int) (L:List α):List Int:=encNum L.length++L.flatMap b
theorem cdc_ls {α:Type}{one:Rdr α}{ok:α→Prop}{b:α→List Int}(h:Cdc one ok b) (z:α) (most:Nat) (hm:most≤1099511627776) :
 Cdc (lsR (most:Int) one) (fun L=>L.length≤most∧∀ x∈L,ok x) (bLs b):=by
 have h2:=((cdc_up (most:Int) (by omega)).seq (fun n=>cdc_rep h z n.toNat)).map (fun p=>p.2) (fun L=>((L.length:Int),L)) (fun a ha=>by
  obtain ⟨⟨h1,_⟩,h3,_⟩:=ha
  have:=(good_iff a.1).1 h1
  refine Prod.ext ?_ rfl
  show (a.2.length:Int)=a.1
  omega)
 refine h2.imp (fun s=>rfl) (fun L=>?_) (fun L _=>rfl)
 constructor
 ·intro ⟨h3,h4⟩
  exact ⟨⟨⟨(good_iff _).2 (by omega),by show (L.length:Int)≤_;omega⟩,by show L.length=(L.length:Int).toNat;omega,h4⟩,rfl⟩
 ·intro ⟨⟨⟨_,h3⟩,_,h4⟩,_⟩
  exact ⟨by have h3':(L.length:Int)≤(most:Int):=h3;omega,h4⟩
def epR:Rdr Ep:=mapRd (fun p=>(⟨p.1,p.2⟩:Ep)) (seqR numR fun _=>lsR 15 numR)
def okEpI (x:Ep):Prop:=goodB x.f=true∧x.m.length≤15∧∀ n∈x.m,goodB n=true
def bEp (x:Ep):List Int:=encNum x.f++bLs encNum x.m
theorem cdc_ep:Cdc epR okEpI bEp:=by
 have h:=(cdc_num.seq (fun _=>cdc_ls cdc_num 0 15 (by omega))).map (fun p=>(⟨p.1,p.2⟩:Ep)) (fun x=>(x.f,x.m)) (fun a _=>rfl)
 exact h.imp (fun _=>rfl) (fun x=>⟨fun h=>⟨h,rfl⟩,fun h=>h.1⟩) (fun _ _=>rfl)
def seR:Rdr Se:=mapRd (fun p=>(⟨p.1,p.2.1,p.2.2.1,p.2.2.2⟩:Se)) (seqR numR fun _=>seqR numR fun _=>seqR (txR 24) fun _=>verR)
def okSeI (x:Se):Prop:=goodB x.i=true∧goodB x.q=true∧x.n.length≤24∧okVer x.v
def bSe (x:Se):List Int:=encNum x.i++(encNum x.q++(bT x.n++bV x.v))
theorem cdc_se:Cdc seR okSeI bSe:=by
 have h:=(cdc_num.seq (fun _=>cdc_num.seq (fun _=>(cdc_tx 24 (by omega)).seq (fun _=>cdcV)))).map (fun p=>(⟨p.1,p.2.1,p.2.2.1,p.2.2.2⟩:Se)) (fun x=>(x.i,(x.q,(x.n,x.v)))) (fun a _=>rfl)
 exact h.imp (fun _=>rfl) (fun x=>⟨fun h=>⟨h,rfl⟩,fun h=>h.1⟩) (fun _ _=>rfl)
def coR:Rdr Com:=mapRd (fun p=>(⟨0,p.1,p.2.1,p.2.2⟩:Com)) (seqR numR fun _=>seqR (txR 255) fun _=>lsR 64 chgR)
def okCoI (x:Com):Prop:=x.r=0∧goodB x.b=true∧x.n.length≤255∧x.c.length≤64∧∀ c∈x.c,okChg c
def bCo (x:Com):List Int:=encNum x.b++(bT x.n++bLs bC x.c)
theorem cdc_co:Cdc coR okCoI bCo:=by
 have h:=(cdc_num.seq (fun _=>(cdc_tx 255 (by omega)).seq (fun _=>cdc_ls cdc_chg ch0 64 (by omega)))).map (fun p=>(⟨0,p.1,p.2.1,p.2.2⟩:Com)) (fun x=>(x.b,(x.n,x.c))) (fun a _=>rfl)
 refine h.imp (fun _=>rfl) (fun x=>?_) (fun _ _=>rfl)
 constructor
 ·exact fun h=>⟨⟨h.2.1,h.2.2.1,h.2.2.2⟩,by cases x;obtain ⟨h1,_⟩:=h;simp only at h1;subst h1;rfl⟩
 ·intro ⟨⟨h1,h2,h3⟩,h4⟩
  exact ⟨by rw [← h4],h1,h2,h3⟩
structure Pt where
 al:Int
 sz:Int
 a:Int
 es:List Ep
 ss:List Se
 cs:List Com
def imR:Rdr Pt:=mapRd (fun p=>(⟨p.1,p.2.1,p.2.2.1,p.2.2.2.1,p.2.2.2.2.1,p.2.2.2.2.2⟩:Pt)) (seqR numR fun _=>seqR numR fun _=>seqR numR fun _=>seqR (lsR 16 epR) fun _=>seqR (lsR 16 seR) fun _=>lsR 1099511627776 coR)
def okPt (x:Pt):Prop:=goodB x.al=true∧goodB x.sz=true∧goodB x.a=true∧(x.es.length≤16∧∀ e∈x.es,okEpI e)∧(x.ss.length≤16∧∀ e∈x.ss,okSeI e)∧(x.cs.length≤1099511627776∧∀ e∈x.cs,okCoI e)
def bPt (x:Pt):List Int:=encNum x.al++(encNum x.sz++(encNum x.a++(bLs bEp x.es++(bLs bSe x.ss++bLs bCo x.cs))))
theorem cdc_im:Cdc imR okPt bPt:=by
 have h:=(cdc_num.seq (fun _=>cdc_num.seq (fun _=>cdc_num.seq (fun _=>(cdc_ls cdc_ep ⟨0,[]⟩ 16 (by omega)).seq (fun _=>(cdc_ls cdc_se se0 16 (by omega)).seq (fun _=>cdc_ls cdc_co com0 1099511627776 (by omega))))))).map (fun p=>(⟨p.1,p.2.1,p.2.2.1,p.2.2.2.1,p.2.2.2.2.1,p.2.2.2.2.2⟩:Pt)) (fun x=>(x.al,(x.sz,(x.a,(x.es,(x.ss,x.cs)))))) (fun a _=>rfl)
 exact h.imp (fun _=>rfl) (fun x=>⟨fun h=>⟨h,rfl⟩,fun h=>h.1⟩) (fun _ _=>rfl)
end Go.Proofs.YtddhmfildfdbdaaGreat
