/-
  What the sieve says, plainly: a message may be, just if nothing is left of it.
-/
import Derived.Test.YtakafmejllilnaaGreatMgChk
import Derived.Test.YtakafmejllilnaaGreatMgPen
namespace Go.Proofs.YtakafmejllilnaaGreat
def okS:Fd→Ms→Bool
 | .B,x=>goodB x.b
 | .S,x=>goodB x.s
 | .T,x=>goodB x.m
 | .V,x=>mayR x.v
 | .L,x=>vsB x.l
 | .I,x=>decide (x.i.length≤524288)
 | .N,x=>goodB x.n
 | .R,x=>mayV x.r
theorem takeF_ms (f:Fd) (y:Mm):(takeF f y).ms=if okS f y.ms=true then setF f y.ms ms0 else y.ms:=by
 cases f
 ·show (if goodB y.b=true then _ else _:Mm).ms=if goodB y.b=true then _ else _;split <;> rfl
 ·show (if goodB y.s=true then _ else _:Mm).ms=if goodB y.s=true then _ else _;split <;> rfl
 ·show (if goodB y.m=true then _ else _:Mm).ms=if goodB y.m=true then _ else _;split <;> rfl
 ·show (if mayR y.x.r=true then _ else _:Mm).ms=if mayR y.x.r=true then _ else _;split <;> rfl
 ·show (if vsB (y.D.map Vm.v)=true then _ else _:Mm).ms=if vsB (y.D.map Vm.v)=true then _ else _;split <;> rfl
 ·show (if y.i.length≤524288 then _ else _:Mm).ms=if decide (y.i.length≤524288)=true then _ else _
  by_cases h:y.i.length≤524288
  ·rw [if_pos h,if_pos (decide_eq_true h)];rfl
  ·rw [if_neg h,if_neg (by simpa using h)]
 ·show (if goodB y.n=true then _ else _:Mm).ms=if goodB y.n=true then _ else _;split <;> rfl
 ·show (if mayV y.r=true then _ else _:Mm).ms=if mayV y.r=true then _ else _;split <;> rfl
theorem takeF_off {f g:Fd}(h:g≠f) (y:Mm):sameF g (takeF f y).ms y.ms:=by
 rw [takeF_ms]
 split
 ·exact setF_off h _ _
 ·exact sameF_refl _ _
theorem takeFs_off {g:Fd}(fs:List Fd) (h:g ∉ fs) (y:Mm):sameF g (takeFs fs y).ms y.ms:=by
 induction fs generalizing y with
 | nil=>exact sameF_refl _ _
 | cons f fs ih=>exact sameF_trans (ih (fun hm=>h (List.mem_cons_of_mem _ hm)) (takeF f y)) (takeF_off (fun e=>h (by rw [e];exact List.mem_cons_self ..)) y)
theorem okS_same {f:Fd}{x y:Ms}(h:sameF f x y):okS f x=okS f y:=by cases f <;> simp only [sameF] at h <;> simp only [okS,h]
theorem okS_zero (f:Fd):okS f ms0=true:=by cases f <;> decide
theorem takeFs_at {g:Fd}(fs:List Fd) (h:g∈fs) (hn:fs.Nodup) (y:Mm):sameF g (takeFs fs y).ms ms0↔okS g y.ms=true:=by
 induction fs generalizing y with
 | nil=>cases h
 | cons f fs ih =>
   obtain ⟨h1,h2⟩:=List.nodup_cons.1 hn
   rcases List.mem_cons.1 h with rfl | h3
   ·have h4:=takeFs_off fs h1 (takeF g y)
    show sameF g (takeFs fs (takeF g y)).ms ms0↔_
    rw [takeF_ms] at h4
    constructor
    ·intro h5
     by_cases hk:okS g y.ms=true
     ·exact hk
     ·rw [if_neg hk] at h4
      rw [okS_same (sameF_trans (sameF_symm h4) h5)]
      exact okS_zero g
    ·intro hk
     rw [if_pos hk] at h4
     exact sameF_trans h4 (setF_at _ _ _)
   ·have h5:g≠f:=fun e=>h1 (by rw [← e];exact h3)
    show sameF g (takeFs fs (takeF f y)).ms ms0↔_
    rw [ih h3 h2,okS_same (takeF_off h5 y)]
theorem bare_iff (x:Ms):bareB x=true↔∀ f,sameF f x ms0:=by
 unfold bareB
 simp only [Bool.and_eq_true,decide_eq_true_eq]
 constructor
 ·rintro ⟨h1,h2,h3,h4,h5,h6,h7,h8⟩ f
  cases f <;> assumption
 ·exact fun h=>⟨h .B,h .S,h .T,h .N,h .V,h .L,h .I,h .R⟩
theorem own_iff (x:Ms):own x=x↔∀ g,g ∉ shp x.k→sameF g x ms0:=by
 unfold own
 constructor
 ·intro h g hg
  have h1:=setFs_off (shp x.k) hg (bare x.k x.f x.t) x
  rw [h] at h1
  exact sameF_trans h1 (by cases g <;> rfl)
 ·intro h
  obtain ⟨h1,h2,h3⟩:=setFs_head (shp x.k) (bare x.k x.f x.t) x
  refine ms_ext h1 h2 h3 (fun g=>?_)
  by_cases hg:g∈shp x.k
  ·exact setFs_at _ hg (shp_nodup _) _ _
  ·exact sameF_trans (setFs_off _ hg _ _) (sameF_trans (by cases g <;> rfl) (sameF_symm (h g hg)))
structure MsU (x:Ms):Prop where
 o:Oct x.i
 u:U64c x.v.c
 uv:∀ v∈x.l,U64c v.v.c
 ur:U64v x.r
theorem MsHy.ms {w:World}{y:Mm}(h:MsHy w y):MsU y.ms:=⟨h.o,h.u,(fun v hv=>by obtain ⟨z,hz,rfl⟩:=List.mem_map.1 hv;exact h.uv z hz),h.ur⟩
theorem okVo_iff (v:Vo) (h:U64c v.v.c):okVoB v=true↔okVo v:=by
 unfold okVoB okVo
 rw [Bool.and_eq_true,Bool.and_eq_true,may_ok _ h,and_assoc]
theorem ris_iff (p:Int) (L:List Vo) (h:∀ v∈L,U64c v.v.c):risV p L=true↔(∀ v∈L,okVo v)∧risB p L=true:=by
 induction L generalizing p with
 | nil=>simp [risV,risB]
 | cons v L ih =>
   simp only [risV,risB,Bool.and_eq_true,List.forall_mem_cons]
   rw [ih v.s (fun z hz=>h z (List.mem_cons_of_mem _ hz)),okVo_iff v (h v (List.mem_cons_self ..))]
   constructor
   ·exact fun ⟨a,b,c,d⟩=>⟨⟨b,c⟩,a,d⟩
   ·exact fun ⟨⟨b,c⟩,a,d⟩=>⟨a,b,c,d⟩
theorem vs_iff (L:List Vo) (h:∀ v∈L,U64c v.v.c):vsB L=true↔(L.length≤4096∧∀ v∈L,okVo v)∧risB (-1) L=true:=by
 unfold vsB
 rw [Bool.and_eq_true,decide_eq_true_eq,ris_iff _ _ h,and_assoc]
theorem okS_iff (f:Fd) (x:Ms) (h:MsU x):okS f x=true↔okFd f x∧(f=.L→risB (-1) x.l=true):=by
 cases f
 ·simp [okS,okFd]
 ·simp [okS,okFd]
 ·simp [okS,okFd]
 ·simp only [okS,okFd];rw [may_ok _ h.u];simp
 ·simp only [okS,okFd];rw [vs_iff _ h.uv];simp
 ·simp [okS,okFd,h.o]
 ·simp [okS,okFd]
 ·simp only [okS,okFd];rw [may_okV _ h.ur];simp
theorem chk_iff (y:Mm) (h:MsU y.ms):chkM y=true↔okMs y.ms:=by
 have hk:shp y.ms.k=shp y.k:=rfl
 unfold chkM okMs
 rw [Bool.and_eq_true,Bool.and_eq_true,Bool.and_eq_true,bare_iff,own_iff]
 have h1:((!(shp y.k).isEmpty)=true)↔shp y.ms.k≠[]:=by rw [hk];cases shp y.k <;> simp
 have h2:(∀ f,sameF f (takeFs (shp y.k) y).ms ms0)↔(∀ f∈shp y.ms.k,okFd f y.ms)∧risB (-1) y.ms.l=true∧∀ g,g ∉ shp y.ms.k→sameF g y.ms ms0:=by
  rw [hk]
  constructor
  ·intro h3
   have h4:∀ f∈shp y.k,okFd f y.ms∧(f=.L→risB (-1) y.ms.l=true):=fun f hf=>(okS_iff f y.ms h).1 ((takeFs_at _ hf (shp_nodup _) y).1 (h3 f))
   have h5:∀ g,g ∉ shp y.k→sameF g y.ms ms0:=fun g hg=>sameF_trans (sameF_symm (takeFs_off _ hg y)) (h3 g)
   refine ⟨fun f hf=>(h4 f hf).1,?_,h5⟩
   by_cases hL:Fd.L∈shp y.k
   ·exact (h4 .L hL).2 rfl
   ·have h6:y.ms.l=[]:=h5 .L hL
    rw [h6];rfl
  ·rintro ⟨h3,h4,h5⟩ f
   by_cases hf:f∈shp y.k
   ·exact (takeFs_at _ hf (shp_nodup _) y).2 ((okS_iff f y.ms h).2 ⟨h3 f hf,fun _=>h4⟩)
   ·exact sameF_trans (takeFs_off _ hf y) (h5 f hf)
 rw [h1,h2]
 exact Iff.rfl
theorem okW_of {x:Ms}(h:MsU x) {f:Fd}(hf:okFd f x):okW f x=true:=by
 cases f
 ·exact hf
 ·exact hf
 ·exact hf
 ·exact (may_ok _ h.u).2 hf
 ·show (goodB x.l.length && x.l.all okVoB)=true
  rw [Bool.and_eq_true,List.all_eq_true]
  refine ⟨(good_iff _).2 (by have:=hf.1;omega),fun v hv=>(okVo_iff v (h.uv v hv)).2 (hf.2 v hv)⟩
 ·rfl
 ·exact hf
 ·exact (may_okV _ h.ur).2 hf
def okMsB (x:Ms):Bool:=!(shp x.k).isEmpty && (addrB x.f && (addrB x.t && ((shp x.k).all (fun f=>okS f x) && decide (own x=x))))
theorem okMsB_iff {x:Ms}(h:MsU x):okMsB x=true↔okMs x:=by
 unfold okMsB okMs
 simp only [Bool.and_eq_true,List.all_eq_true,decide_eq_true_eq]
 have h1:((!(shp x.k).isEmpty)=true)↔shp x.k≠[]:=by cases shp x.k <;> simp
 rw [h1]
 refine and_congr_right (fun _=>and_congr_right (fun _=>and_congr_right (fun _=>?_)))
 constructor
 ·rintro ⟨h2,h3⟩
  refine ⟨fun f hf=>((okS_iff f x h).1 (h2 f hf)).1,?_,h3⟩
  by_cases hL:Fd.L∈shp x.k
  ·exact ((okS_iff .L x h).1 (h2 .L hL)).2 rfl
  ·have h6:x.l=[]:=(own_iff x).1 h3 .L hL
   rw [h6];rfl
 ·rintro ⟨h2,h3,h4⟩
  exact ⟨fun f hf=>(okS_iff f x h).2 ⟨h2 f hf,fun _=>h3⟩,h4⟩
def encM (x:Ms):List Int × Int:=if okMsB x=true then (if (bM x).length≤1048576 then (frameOf (bM x),0) else ([],3)) else ([],1)
def decM2 (l:List Int):Ms × Int :=
 if endE (msgR (l,0)).2≠0 then (ms0,endE (msgR (l,0)).2) else if okMsB (msgR (l,0)).1=true then ((msgR (l,0)).1,0) else (ms0,4)
def decM (l:List Int):Ms × Int :=
 if (unframe l).2.2≠0 then (ms0,(unframe l).2.2) else if (unframe l).2.1 < (l.length:Int) then (ms0,3) else decM2 (unframe l).1
theorem end_zero {s:List Int × Int}(h:endE s=0):s=([],0):=by
 unfold endE at h
 split at h
 ·rename_i h1
  split at h
  ·rename_i h2;exact Prod.ext (List.eq_nil_of_length_eq_zero h2) h1
  ·simp at h
 ·rename_i h1;exact absurd h h1
theorem decM2_enc {x:Ms}(h:MsU x) (hx:okMs x):decM2 (bM x)=(x,0):=by
 have h1:=cdcM.fwd x [] (okMs_form hx)
 rw [List.append_nil] at h1
 unfold decM2
 rw [h1]
 have h2:endE ([],0)=0:=rfl
 simp only [h2,ne_eq,not_true_eq_false,if_false]
 rw [if_pos ((okMsB_iff h).2 hx)]
theorem decM2_told {l:List Int}{x:Ms}(ho:Oct l) (h:decM2 l=(x,0)):okForm x∧l=bM x∧okMsB x=true:=by
 unfold decM2 at h
 split at h
 ·rename_i h1
  exact absurd (congrArg Prod.snd h) h1
 ·rename_i h1
  have h1':endE (msgR (l,0)).2=0:=by simpa using h1
  split at h
  ·rename_i h2
   have e:=end_zero h1'
   have hx:(msgR (l,0)).1=x:=congrArg Prod.fst h
   rw [hx] at h2
   have h3:=cdcM.bwd l x [] ho (Prod.ext hx e)
   rw [List.append_nil] at h3
   exact ⟨h3.1,h3.2,h2⟩
  ·have:=congrArg Prod.snd h
   simp at this
theorem okVer_u {v:Vt}(h:okVer v):U64v v:=by
 obtain ⟨_,h2⟩:=h
 unfold okG at h2
 unfold U64v
 split at h2
 ·rw [← h2.2];exact ⟨by simp,fun c hc=>by cases hc⟩
 split at h2
 ·rw [← h2.2];exact ⟨by simp,fun c hc=>by cases hc⟩
 split at h2
 ·rw [← h2.2];exact ⟨by simp,fun c hc=>by cases hc⟩
 split at h2
 ·have h3:=h2.1.2.1
  rw [← h2.2];exact ⟨h3,fun c hc=>by cases hc⟩
 split at h2
 ·rw [← h2.2];exact ⟨by simp,fun c hc=>by cases hc⟩
 split at h2
 ·have h3:∀ x∈v.k,U64c x.c:=fun x hx=>okChgs_u (h2.1.2 x hx).2.2.2
  rw [← h2.2];exact ⟨by simp,h3⟩
 split at h2
 ·rw [← h2.2];exact ⟨by simp,fun c hc=>by cases hc⟩
 ·rw [h2];exact ⟨by simp,fun c hc=>by cases hc⟩
theorem form_u {x:Ms}(h:okForm x):MsU x:=by
 obtain ⟨_,_,_,_,h4,h5⟩:=h
 have h6:=(own_iff x).1 h5
 refine ⟨?_,?_,?_,?_⟩
 ·by_cases hf:Fd.I∈shp x.k
  ·exact (h4 .I hf).2
  ·have e:x.i=[]:=h6 .I hf
   rw [e];exact oct_nil
 ·by_cases hf:Fd.V∈shp x.k
  ·exact okReq_u (h4 .V hf)
  ·have e:x.v=rq0:=h6 .V hf
   rw [e];intro c hc;cases hc
 ·by_cases hf:Fd.L∈shp x.k
  ·exact fun v hv=>okReq_u ((h4 .L hf).2 v hv).2.2
  ·have e:x.l=[]:=h6 .L hf
   rw [e];intro c hc;cases hc
 ·by_cases hf:Fd.R∈shp x.k
  ·exact okVer_u (h4 .R hf)
  ·have e:x.r=vt0:=h6 .R hf
   rw [e];exact ⟨by simp [vt0],fun c hc=>by cases hc⟩
end Go.Proofs.YtakafmejllilnaaGreat
