/-
  Texts of this claim that are laid as one: GrLoad, MaMake.
-/
import Derived.Test.YtddhmfildfdbdaaGreatQ11r
import Derived.Deep.QuietTactic
import Derived.BigQuiet
import Derived.Test.YtddhmfildfdbdaaGreatW2r
import Derived.Test.YtddhmfildfdbdaaGreatEpLoadr
import Derived.Test.YtddhmfildfdbdaaGreatSeLdr
set_option maxHeartbeats 8000000
/-
 landsAs,Load.
-/
namespace Go.Proofs.YtddhmfildfdbdaaGreat
open Go.RowKit
theorem quiet_q {P:Program}{f:FuncId}{args:Array Value}{w:World}{n:Nat}{v:Value}
 (h:Calls P f args (w.drewN n) fun e w'=>e=.returned v∧∃ q,w'=(w.drewN n).drewN q):Calls P f args (w.drewN n) fun e w''=>e=.returned v∧∃ m,w''=w.drewN m :=
 h.mono fun _ _ ⟨he,q,hm⟩=>⟨he,n+q,by rw [hm];simp [World.drewN,Nat.add_assoc]⟩
theorem step_some {G:Gr}{x:Com}:(stepL G x).isSome=(decide ((landV G x.b x.n x.c).c=2) && (decide ((landV G x.b x.n x.c).r=x.r) && decide (sortC x.c=x.c))):=by
 unfold stepL
 by_cases h1:(landV G x.b x.n x.c).c=2 <;> by_cases h2:(landV G x.b x.n x.c).r=x.r <;> by_cases h3:sortC x.c=x.c <;> simp [h1,h2,h3]
theorem Live.lastRow {w0 w:World}{b:Nat}{G:Gr}{c:Com}(h:Live w0 w b (addG G c)) :
 ∃ g cap p mb mo m mc,w.heap[b]?=some (.cells #[.slice (some ⟨g,0,none⟩) (G.cs.length+1) cap,.pointer p,.map (some mb)] 109 (0,0))∧G.cs.length+1≤cap∧cap≤maxLen ∧
  w.cell? ⟨g,G.cs.length*4+3,none⟩=some (.slice mo m mc)∧SlC w mo m mc c.c:=by
 obtain ⟨S,⟨v,p,t,mb,K,hG,_⟩,_,_⟩:=h
 have hl:K.length=G.cs.length+1:=by have:=congrArg List.length hG.com;simpa [addG] using this
 obtain ⟨ao,cap,rfl,hs,_⟩:=hG.row.sl hG.own
 obtain ⟨g,o,mo,m,mc,rfl,_,_,_,h3,h4⟩:∃ g o mo m mc,ao=some ⟨g,o,none⟩∧True∧True∧True∧w.cell? ⟨g,o+G.cs.length*4+3,none⟩=some (.slice mo m mc)∧SlC w mo m mc (K[G.cs.length]'(by omega)).1.c:=by
  obtain ⟨g,o,e,h1⟩:=hs.2.2.2.1 G.cs.length (by omega)
  obtain ⟨mo,m,mc,e2,h2,_⟩:=hs.2.2.2.2 _ (List.getElem_mem (show G.cs.length < K.length by omega))
  exact ⟨g,o,mo,m,mc,e,trivial,trivial,trivial,by rw [← e2];exact h1.c3,h2⟩
 have ho:o=0:=by
  obtain ⟨_,h2⟩:=hG.row
  rcases h2 with ⟨h2,_⟩ | ⟨g',cap',cur,hv,_⟩
  ·cases h2
  ·simp at hv;exact hv.1.2
 subst ho
 have hK:(K[G.cs.length]'(by omega)).1=c:=by
  have h1:(K.map Prod.fst)[G.cs.length]'(by simp;omega)=(addG G c).cs[G.cs.length]'(by simp [addG]):=by simp only [hG.com]
  simpa [addG] using h1
 rw [hK] at h4
 have hc:=hs.2.1
 have hm:=hs.2.2.1
 refine ⟨g,cap,p,mb,mo,m,mc,?_,by omega,hm,by simpa using h3,h4⟩
 have:=hG.at_
 rw [hl] at this
 exact this
theorem live_of {w0 w wa w2:World}{b:Nat}{S S2:List Nat}{G:Gr}(hK:Kept [] w0 w) (hKa:Kept [] w wa) (hS:∀ k∈S,w0.heap.size≤k) (hG2:GAt w2 b S2 G) (hK2:Kept S wa w2) (hS2:∀ k∈S2,k∈S∨wa.heap.size≤k):Live w0 w2 b G :=
 ⟨S2,hG2,(hK.trans hKa (by simp)).trans hK2 (fun i hi=>.inr (hS i hi)),fun k hk=>by
  rcases hS2 k hk with h | h
  ·exact hS k h
  ·exact Nat.le_trans (Nat.le_trans hK.size hKa.size) h⟩
set_option maxRecDepth 100000 in
theorem lands_call {w0 w:World}{b:Nat}{G:Gr}(h:Live w0 w b G) (hW:Wf G) (hl:G.cs.length≤10000) (x:Com) (mo:Option Addr) (m mc:Nat) (hs:SlC w0 mo m mc x.c) (hnil:mo=none→mc=0)
 (hn:x.n.length≤1000000) (hm:m≤1000000) (hp:∀ y∈x.c,y.p.length≤1000000000) :
 Calls Tryz.prog 86 #[.pointer (some ⟨b,0,none⟩),.agg #[.int .i64 x.r,.int .i64 x.b,.string (str x.n),.slice mo m mc]] w fun e w'=>e=.returned (.bool (stepL G x).isSome)∧Live w0 w' b (landG G x.b x.n x.c):=by
 have hKa:=(Kept.refl [] w).alloc (.cells #[.int .i64 x.r,.int .i64 x.b,.string (str x.n),.slice mo m mc] 76)
 have hbox:=heap_alloc_new w (.cells #[.int .i64 x.r,.int .i64 x.b,.string (str x.n),.slice mo m mc] 76)
 obtain ⟨S,hG,hK,hS⟩:=h
 have cL:=gland_call (hG.kept hKa) hW hl x.b x.n hn mo m mc x.c ((hs.kept hK (by simp)).kept hKa (by simp)) hnil hm hp
 have HLt:Hid (∀ k∈S,k < w.heap.size):=hG.lt
 have HBx:Hid ((w.alloc (.cells #[.int .i64 x.r,.int .i64 x.b,.string (str x.n),.slice mo m mc] 76)).heap[w.heap.size]?=some (.cells #[.int .i64 x.r,.int .i64 x.b,.string (str x.n),.slice mo m mc] 76 (0,0))):=hbox
 have HK:Hid (Kept [] w0 w):=hK
 have HS:Hid (∀ k∈S,w0.heap.size≤k):=hS
 have HSl:Hid (SlC w0 mo m mc x.c):=hs
 rw [step_some]
 cases he:endV G x.b x.n x.c with
 | some v =>
   obtain ⟨hv,hg⟩:=landV_some he
   have hc2:¬ v.c=2:=fun e=>by have:=(landV_code G x.b x.n x.c).1 (by rw [hv];exact e);rw [he] at this;cases this
   have hc2b:((v.c:Int)==2)=false:=by simpa using hc2
   rw [hv,decide_eq_false hc2,Bool.false_and]
   rw [hv] at cL
   simp only [vdV,vdW] at cL
   clear he hv hg hc2 hG hK hS hs hbox
   go_enter Tryz.func86,Tryz.ntmps86
   go_wp2_with fail
   refine cL.mono ?_
   rintro _ w2 ⟨rfl,S2,hG2,hK2,hS2⟩
   have hKv:=(Kept.refl [] w2).alloc (.cells #[.int .i64 v.c,.int .i64 0,.int .i64 v.r,.string (str v.p),.int .u64 v.d,.slice none 0 0,.int .i64 0] 69)
   obtain ⟨b0,b1,b2,b3⟩:=cells4 (hKv.at (hK2.at HBx.out (fun hm=>by have:=HLt.out _ hm;omega)) (by simp))
   have HLv:Hid (Live w0 (w2.alloc (.cells #[.int .i64 v.c,.int .i64 0,.int .i64 v.r,.string (str v.p),.int .u64 v.d,.slice none 0 0,.int .i64 0] 69)) b (landG G x.b x.n x.c)):=Live.kept (live_of HK.out hKa HS.out hG2 hK2 hS2) hKv
   clear hG2 hK2 hS2 hKv cL
   go_wp2_with fail
   go_quiet (fail)
   go_wp2_with fail
   go_ret
   exact ⟨rfl,HLv.out.kept (drewN_kept _ _)⟩
 | none =>
   obtain ⟨hv,hg⟩:=landV_none he
   rw [hv,hg] at cL
   simp only [vdV,vdW] at cL
   have h22:decide ((2:Int)=2)=true:=rfl
   rw [hv,hg,h22,Bool.true_and]
   have HW2:Hid (landG G x.b x.n x.c=addG G (newC G x.b x.n x.c)):=hg
   have hl':(G.cs.length:Int)≤10000:=by omega
   by_cases hr:(G.cs.length:Int)+1=x.r
   ·rw [decide_eq_true hr,Bool.true_and]
    have hrb:(((G.cs.length:Int)+1)==x.r)=true:=by simpa using hr
    clear he hv hg hr hG hK hS hs hbox
    go_enter Tryz.func86,Tryz.ntmps86
    go_wp2_with fail
    refine cL.mono ?_
    rintro _ w2 ⟨rfl,S2,hG2,hK2,hS2⟩
    have hKv:=(Kept.refl [] w2).alloc (.cells #[.int .i64 2,.int .i64 0,.int .i64 ((G.cs.length:Int)+1),.string (str []),.int .u64 0,.slice none 0 0,.int .i64 0] 69)
    obtain ⟨b0,b1,b2,b3⟩:=cells4 (hKv.at (hK2.at HBx.out (fun hm=>by have:=HLt.out _ hm;omega)) (by simp))
    have hLv:Live w0 (w2.alloc (.cells #[.int .i64 2,.int .i64 0,.int .i64 ((G.cs.length:Int)+1),.string (str []),.int .u64 0,.slice none 0 0,.int .i64 0] 69)) b (addG G (newC G x.b x.n x.c)):=Live.kept (live_of HK.out hKa HS.out hG2 hK2 hS2) hKv
    have HLv:Hid (Live w0 (w2.alloc (.cells #[.int .i64 2,.int .i64 0,.int .i64 ((G.cs.length:Int)+1),.string (str []),.int .u64 0,.slice none 0 0,.int .i64 0] 69)) b (addG G (newC G x.b x.n x.c))):=hLv
    obtain ⟨g,cap,p,mb,mo2,m2,mc2,hat,hcap,hcm,h3,h4⟩:=hLv.lastRow
    unfold maxLen at hcm
    obtain ⟨e0,e1,e2⟩:=cells3 hat
    have cS:=fun k=>same_callC _ mo2 mo m2 m mc2 mc _ _ (h4.kept (drewN_kept _ k) (by simp)) ((HSl.out.kept hLv.keeps (by simp)).kept (drewN_kept _ k) (by simp))
    simp only [newC] at cS
    have hcapi:(G.cs.length:Int)+1≤cap:=by omega
    obtain ⟨ln,hln⟩:∃ ln:Nat,ln=G.cs.length:=⟨_,rfl⟩
    clear hG2 hK2 hS2 hKv cL hLv hat h4
    go_wp2_with fail
    go_quiet ((go_at_call 121;exact quiet_q (cS _)))
    go_wp2_with fail
    go_ret
    exact ⟨rfl,HLv.out.kept (drewN_kept _ _)⟩
   ·have hrb:(((G.cs.length:Int)+1)==x.r)=false:=by simpa using hr
    rw [decide_eq_false hr,Bool.false_and]
    clear he hv hg hr hG hK hS hs hbox
    go_enter Tryz.func86,Tryz.ntmps86
    go_wp2_with fail
    refine cL.mono ?_
    rintro _ w2 ⟨rfl,S2,hG2,hK2,hS2⟩
    have hKv:=(Kept.refl [] w2).alloc (.cells #[.int .i64 2,.int .i64 0,.int .i64 ((G.cs.length:Int)+1),.string (str []),.int .u64 0,.slice none 0 0,.int .i64 0] 69)
    obtain ⟨b0,b1,b2,b3⟩:=cells4 (hKv.at (hK2.at HBx.out (fun hm=>by have:=HLt.out _ hm;omega)) (by simp))
    have HLv:Hid (Live w0 (w2.alloc (.cells #[.int .i64 2,.int .i64 0,.int .i64 ((G.cs.length:Int)+1),.string (str []),.int .u64 0,.slice none 0 0,.int .i64 0] 69)) b (addG G (newC G x.b x.n x.c))):=Live.kept (live_of HK.out hKa HS.out hG2 hK2 hS2) hKv
    clear hG2 hK2 hS2 hKv cL
    go_wp2_with fail
    go_quiet (fail)
    go_wp2_with fail
    go_ret
    exact ⟨rfl,HLv.out.kept (drewN_kept _ _)⟩
def LoadP (w:World) (o:Option Gr) (e:Ending) (w':World):Prop :=
 match o with
 | none=>e=.returned (.tuple #[.pointer none,.int .i64 4])∧Kept [] w w'
 | some G=>∃ b,e=.returned (.tuple #[.pointer (some ⟨b,0,none⟩),.int .i64 0])∧Live w w' b G
def LoI (w:World) (b:Nat) (cs:List Com) (iv:Value) (wr:World):Prop :=
 ∃ (i:Nat) (G:Gr),iv=.int .i64 (i:Int)∧i≤cs.length∧Hid (loadL voidG (cs.take i)=some G)∧Hid (Live w wr b G)
theorem load_next {cs:List Com}{i:Nat}{G:Gr}(hi:i < cs.length) (h:loadL voidG (cs.take i)=some G):loadL voidG (cs.take (i+1))=stepL G cs[i]:=by
 rw [List.take_succ_eq_append_getElem hi,loadL_app,h]
 simp only [Option.bind,loadL]
 cases stepL G cs[i] <;> rfl
theorem load_stop {cs:List Com}{i:Nat}(h:loadL voidG (cs.take i)=none):loadL voidG cs=none:=by
 rw [← List.take_append_drop i cs,loadL_app,h];rfl
def SmallC (c:Com):Prop:=c.n.length≤1000000∧c.c.length≤1000000∧∀ y∈c.c,y.p.length≤1000000000
set_option maxRecDepth 100000 in
theorem load_call (w:World) (ao:Option Addr) (n c:Nat) (K:List (Com × Value)) (hS:SlK w ao n c K) (hn:n≤10000) (hsm:∀ x∈K,SmallC x.1) :
 Calls Tryz.prog 60 #[.slice ao n c] w fun e w'=>LoadP w (loadL voidG (K.map Prod.fst)) e w':=by
 have hl:=hS.1
 subst hl
 have hc:=hS.2.1
 have hm:=hS.2.2.1
 unfold maxLen at hm
 have HS:Hid (SlK w ao K.length c K):=hS
 have HSm:Hid (∀ x∈K,SmallC x.1):=hsm
 obtain ⟨R,hR⟩:∃ R,R=loadL voidG (K.map Prod.fst):=⟨_,rfl⟩
 rw [← hR]
 have HR:Hid (R=loadL voidG (K.map Prod.fst)):=hR
 clear hS hsm hR
 go_enter Tryz.func60,Tryz.ntmps60
 go_wp2_with fail
 refine (live_new w).mono ?_
 rintro _ w1 ⟨b,rfl,hG1⟩
 have HG1:Hid (Live w w1 b voidG):=hG1
 clear hG1
 go_wp2_with fail
 go_loopw [10] (fun iv wr=>LoI w b (K.map Prod.fst) iv wr) (fun iv _=>K.length - (intOf iv).toNat)
 case atStart=>exact ⟨0,voidG,rfl,Nat.zero_le _,rfl,HG1⟩
 case round =>
  obtain ⟨i,G,rfl,hi,HLo,HLv⟩:=hrel
  have hi':i≤K.length:=by simpa using hi
  by_cases hlt:i < K.length
  ·have hlt':(i:Int) < K.length:=by omega
   have hic:i≤c:=by omega
   obtain ⟨g,o,rfl,hx⟩:=HS.out.2.2.2.1 i hlt
   obtain ⟨mo,m,mc,e2,hsl,hnl⟩:=HS.out.2.2.2.2 _ (List.getElem_mem hlt)
   obtain ⟨x0,x1,x2,x3⟩:=hx.kept HLv.out.keeps (by simp)
   rw [e2] at x3
   obtain ⟨s1,s2,s3⟩:=HSm.out _ (List.getElem_mem hlt)
   have hml:=hsl.1
   obtain ⟨hwf,hcs⟩:=wf_loads wf_void HLo.out
   have hglen:G.cs.length≤10000:=by rw [hcs];simp [voidG];omega
   have hKb:=(Kept.refl [] wr).alloc (.cells #[.int .i64 K[i].1.r,.int .i64 K[i].1.b,.string (str K[i].1.n),.slice mo m mc] 76)
   have cA:=lands_call (HLv.out.kept hKb) hwf hglen K[i].1 mo m mc hsl hnl s1 (by omega) s3
   have HNx:Hid (loadL voidG ((K.map Prod.fst).take (i+1))=stepL G K[i].1):=by
    have h:=load_next (cs:=K.map Prod.fst) (by simpa using hlt) HLo.out
    simp only [List.getElem_map] at h
    exact h
   obtain ⟨x,hxe⟩:∃ x,x=K[i].1:=⟨_,rfl⟩
   rw [← hxe] at x0 x1 x2 cA HNx
   clear hx e2 hsl hnl s1 s2 s3 hml hwf hcs hglen hxe hKb
   cases hst:stepL G x with
   | none =>
     rw [hst] at cA HNx
     have HE:Hid (R=none):=by show R=none;rw [HR.out];exact load_stop HNx.out
     simp only [Option.isSome] at cA
     clear hst
     go_wp2_with fail
     refine cA.mono ?_
     rintro _ w3 ⟨rfl,hL3⟩
     go_wp2_with fail
     go_ret2
     rw [HE.out]
     exact ⟨rfl,hL3.keeps⟩
   | some G2 =>
     have HG2:Hid (landG G x.b x.n x.c=G2):=by
      show _=_
      unfold stepL at hst
      split at hst
      ·cases hst;rfl
      ·cases hst
     rw [hst] at cA HNx
     simp only [Option.isSome] at cA
     rw [HG2.out] at cA
     clear hst
     go_wp2_with fail
     refine cA.mono ?_
     rintro _ w3 ⟨rfl,hL3⟩
     have HL3:Hid (Live w w3 b G2):=hL3
     clear hL3
     go_wp2_with fail
     go_roundw
     case rel=>exact ⟨i+1,G2,by go_num,by simp;omega,HNx,HL3⟩
     case measure=>(simp [intOf] <;> omega)
  ·have hlt':¬ (i:Int) < K.length:=by omega
   have HE:Hid (R=some G):=by
    show R=_
    have:=HLo.out
    rw [List.take_of_length_le (by simp;omega)] at this
    rw [HR.out,this]
   go_wp2_with fail
   go_ret2
   rw [HE.out]
   exact ⟨b,rfl,HLv.out⟩
theorem reach_load:∀ {l:List Com}{G G':Gr},Reach G→loadL G l=some G'→Reach G':=by
 intro l
 induction l with
 | nil=>intro G G' h hl;cases hl;exact h
 | cons c l ih =>
   intro G G' h hl
   simp only [loadL] at hl
   cases hs:stepL G c with
   | none=>rw [hs] at hl;cases hl
   | some G1 =>
     rw [hs] at hl
     refine ih ?_ hl
     unfold stepL at hs
     split at hs
     ·cases hs;exact .land _ _ _ h
     ·cases hs
open Classical in
noncomputable def mkM (al sz a:Int) (L:List Ep) (S:List Se) (cs:List Com):Except Int Ma :=
 if ¬ (1≤al∧al≤8) then .error 1 else if ¬ OkL L then .error 4 else if ¬ (1≤sz∧sz≤16) then .error 1 else if ¬ ((S.length:Int)≤sz∧LdOk S) then .error 4 else
 match loadL voidG cs with
 | none=>.error 4
 | some G=>if a < 0∨1099511627776 < a then .error 4 else .ok ⟨a,G,S,cutL L a⟩
def MakeP (D:List Nat) (al sz:Int) (w:World) (r:Except Int Ma) (e:Ending) (w':World):Prop :=
 (∃ n,r=.error n∧e=.returned (.tuple #[.pointer none,.int .i64 n])∧Kept [] w w') ∨
 ∃ m,r=.ok m∧∃ (b:Nat) (p:Pl) (F:List Nat),e=.returned (.tuple #[.pointer (some ⟨b,0,none⟩),.int .i64 0])∧LiveM w w' F D b p al sz.toNat m∧∀ k∈F,w.heap.size≤k
theorem make_live {w w1 w2 w3 w4:World}{D:List Nat}(hD:∀ k∈D,k < w.heap.size) {al a:Int}{sz pe pt pg:Nat}{L:List Ep}{S:List Se}{G:Gr}(h0:1≤al) (h1:al≤8) (ha0:0≤a) (ha1:a≤1099511627776) (hok:OkL (cutL L a)) (hr:Reach G) (hK1:Kept [] w w1) (hT:LiveT w1 w2 pt sz S) (hG:Live w2 w3 pg G) (hE:EpA w.heap.size w4 pe al (cutL L a)) (hN:Tn w.heap.size [102,99] w3 w4) :
 ∃ F,LiveM w (w4.alloc (.cells #[.int .i64 al,.int .i64 (sz:Int),.int .i64 a,.pointer (some ⟨pe,0,none⟩),.pointer (some ⟨pt,0,none⟩),.pointer (some ⟨pg,0,none⟩)] 44)) F D w4.heap.size ⟨pe,pt,pg⟩ al sz ⟨a,G,S,cutL L a⟩∧∀ k∈F,w.heap.size≤k:=by
 obtain ⟨v,X,t1,t2,t3,t4,t5,t6,t7⟩:=hT
 obtain ⟨Q,g1,g2,g3⟩:=hG
 obtain ⟨U,u2,u3,hU,hC⟩:=id hN
 have hKb:Kept [] w4 (w4.alloc (.cells #[.int .i64 al,.int .i64 (sz:Int),.int .i64 a,.pointer (some ⟨pe,0,none⟩),.pointer (some ⟨pt,0,none⟩),.pointer (some ⟨pg,0,none⟩)] 44)):=(Kept.refl _ _).alloc _
 have z1:=hK1.size
 have z2:=t2.size
 have z3:=g2.size
 have z4:=u2.size
 have k3:Kept [] w w3:=(hK1.trans t2 (by simp)).trans g2 (by simp)
 have k4:Kept [] w w4:=Tn.low k3 hN (Nat.le_refl _)
 refine ⟨ownF w4.heap.size pt Q v,⟨Q,v,X,⟨heap_alloc_new w4 _,(g1.keep u2 (fun i hi hm=>?_) hU (by decide) (by decide) (by decide)).kept hKb,?_,hE.kept hKb⟩,rfl,k4.trans hKb (by simp),fun k hk=>?_,fun k hk=>?_,⟨ha0,ha1,hr,t5,t7,hok,t6,h0,h1⟩⟩,fun k hk=>?_⟩
 ·obtain ⟨cur,t,mk,hh⟩:=hC i hm (g1.lt i hi)
  have h7:=hU i hm _ _ _ hh
  have h8:=g1.typed i hi _ _ _ hh
  simp at h7 h8
  rcases h7 with rfl | rfl <;> simp at h8
 ·have b1:∀ x∈X,KoP (fun k=>k ∉ Q∧k ∉ D) w2 x.2 x.1.v.k:=fun x hx=>by
   have h8:=t1.own x hx
   refine ⟨h8.1,fun j hj=>⟨fun hm=>?_,fun hm=>?_⟩⟩
   ·have:=ko_block h8 hj
    have:=g3 j hm
    omega
   ·have:=h8.2 j hj
    have:=hD j hm
    omega
  have b2:TbA (fun k=>k ∉ Q∧k ∉ D) w2 pt sz v X S:=⟨t1.at_,t1.pos,t1.row,b1,t1.ses⟩
  refine ((b2.kept g2).keep u2 (fun i hi hm=>?_) hU (by decide) (by decide)).kept hKb
  obtain ⟨cur,t,hh,ht⟩:=(b2.kept g2).typed hi
  have h7:=hU i hm _ _ _ hh
  rcases ht with rfl | rfl <;> simp at h7
 ·rcases List.mem_cons.1 hk with rfl | hk
  ·omega
  ·rcases List.mem_cons.1 hk with e | hk
   ·rw [e];show w.heap.size≤pt;omega
   ·have:=g3 k hk;omega
 ·have:=hD k hk
  rw [World.size_alloc]
  omega
 ·rcases List.mem_cons.1 hk with e | hk
  ·omega
  ·rcases List.mem_append.1 hk with hk | hk
   ·have:=g3 k hk;omega
   ·rcases List.mem_cons.1 hk with e | hk
    ·omega
    ·have:=t4 k (mem_own.1 hk);omega
set_option maxRecDepth 100000 in
theorem make_call (w:World) (D:List Nat) (hD:∀ k∈D,k < w.heap.size) (al sz a:Int) (ao:Option Addr) (n c:Nat) (X:List (Ep × Value)) (hS:SlE w ao n c X) (hn:n≤1000) (ao2:Option Addr) (n2 c2:Nat) (Y:List (Se × Value)) (hS2:SlS w ao2 n2 c2 Y) (hok:∀ x∈Y.map Prod.fst,okS x) (ao3:Option Addr) (n3 c3:Nat) (K:List (Com × Value)) (hS3:SlK w ao3 n3 c3 K) (hn3:n3≤10000) (hsm:∀ x∈K,SmallC x.1) :
 Calls Tryz.prog 33 #[.int .i64 al,.int .i64 sz,.int .i64 a,.slice ao n c,.slice ao2 n2 c2,.slice ao3 n3 c3] w fun e w'=>MakeP D al sz w (mkM al sz a (X.map Prod.fst) (Y.map Prod.fst) (K.map Prod.fst)) e w':=by
 have HD:=hide hD
 have cE:=loadE_call w al ao n c X _ hS rfl hn
 have cT:=fun W (k:Kept [] w W)=>loadT_call W sz ao2 n2 c2 Y _ (hS2.kept k) rfl hok
 have cG:=fun W (k:Kept [] w W)=>load_call W ao3 n3 c3 K (hS3.kept k) hn3 hsm
 have HXl:Hid ((X.map Prod.fst).length≤1000):=by show _;rw [List.length_map,hS.1];exact hn
 generalize X.map Prod.fst=L at *
 generalize Y.map Prod.fst=S at *
 generalize K.map Prod.fst=cs at *
 obtain ⟨r,hr⟩:∃ r,r=mkM al sz a L S cs:=⟨_,rfl⟩
 rw [← hr]
 have HR:=hide hr
 clear hS hS2 hS3 hn hok hn3 hsm hD hr
 go_enter Tryz.func33,Tryz.ntmps33
 go_wp2_with fail
 refine cE.mono ?_
 rintro _ w1 (⟨hal,hL,pe,rfl,hE,hK1⟩ | ⟨hal,rfl,hK1⟩ | ⟨hal,hL,rfl,hK1⟩)
 rotate_left
 ·have HK1:=hide hK1
  clear hK1 cE
  go_wp2_with fail
  go_ret2
  exact .inl ⟨_,by rw [HR.out];unfold mkM;rw [if_pos hal],rfl,HK1.out⟩
 ·have HK1:=hide hK1
  clear hK1 cE
  go_wp2_with fail
  go_ret2
  exact .inl ⟨_,by rw [HR.out];unfold mkM;rw [if_neg (fun h=>h hal),if_pos hL],rfl,HK1.out⟩
 have cT1:=cT w1 hK1
 have HE:=hide hE
 have HK1:=hide hK1
 have HL:=hide hL
 have HAl:=hide hal
 clear hE hK1 cE cT hL hal
 go_wp2_with fail
 refine cT1.mono ?_
 clear cT1
 rintro _ w2 (⟨zn,pt,rfl,hSl,hLd,rfl,hT⟩ | ⟨hsz,rfl,hK2⟩ | ⟨hsz,hSl,rfl,hK2⟩)
 rotate_left
 ·have HK2:=hide (HK1.out.trans hK2 (by simp))
  clear hK2
  go_wp2_with fail
  go_ret2
  exact .inl ⟨_,by rw [HR.out];unfold mkM;rw [if_neg (fun h=>h HAl.out),if_neg (fun h=>h HL.out),if_pos hsz],rfl,HK2.out⟩
 ·have HK2:=hide (HK1.out.trans hK2 (by simp))
  clear hK2
  go_wp2_with fail
  go_ret2
  exact .inl ⟨_,by rw [HR.out];unfold mkM;rw [if_neg (fun h=>h HAl.out),if_neg (fun h=>h HL.out),if_neg (fun h=>h hsz),if_pos hSl],rfl,HK2.out⟩
 have hz16:zn≤16:=by obtain ⟨v,X,t1,t2,t3,t4,t5,t6,t7⟩:=hT;exact t6
 have hz1:1≤zn:=by obtain ⟨v,X,t1,t2,t3,t4,t5,t6,t7⟩:=hT;exact t1.pos
 have hKT:Kept [] w1 w2:=by obtain ⟨v,X,t1,t2,t3,t4,t5,t6,t7⟩:=hT;exact t2
 have HK2:=hide (HK1.out.trans hKT (by simp))
 have HRs:Hid (r=match loadL voidG cs with | none=>.error 4 | some G=>if a < 0∨1099511627776 < a then .error 4 else .ok ⟨a,G,S,cutL L a⟩):=by
  show r=_
  rw [HR.out];unfold mkM
  rw [if_neg (fun h=>h HAl.out),if_neg (fun h=>h HL.out),if_neg (fun h=>h ⟨by omega,by omega⟩),if_neg (fun h=>h ⟨by omega,hLd⟩)]
 have HT:=hide hT
 have cG1:=cG w2 HK2.out
 have HKT:=hide hKT
 clear cG hT hKT hSl hLd
 go_wp2_with fail
 refine cG1.mono ?_
 clear cG1
 intro e3 w3 hL3
 unfold LoadP at hL3
 cases hG0:loadL voidG cs with
 | none =>
   rw [hG0] at hL3
   obtain ⟨rfl,hK3⟩:=hL3
   have HK3:=hide (HK2.out.trans hK3 (by simp))
   have HR4:Hid (r=.error 4):=by show r=_;rw [HRs.out,hG0]
   clear hK3 hG0
   go_wp2_with fail
   go_ret2
   exact .inl ⟨_,HR4.out,rfl,HK3.out⟩
 | some G =>
   rw [hG0] at hL3
   obtain ⟨pg,rfl,hG⟩:=hL3
   have HRe:=hide (reach_load .void hG0)
   have hK3:Kept [] w2 w3:=by obtain ⟨Q,g1,g2,g3⟩:=hG;exact g2
   have HK3:=hide (HK2.out.trans hK3 (by simp))
   have HG:=hide hG
   by_cases ha:a < 0∨1099511627776 < a
   ·have HR4:Hid (r=.error 4):=by show r=_;rw [HRs.out,hG0];exact if_pos ha
    clear hG0 hG hK3 HRs HR
    rcases ha with ha | ha
    ·go_wp2_with fail
     go_ret2
     exact .inl ⟨_,HR4.out,rfl,HK3.out⟩
    ·have ha':¬ a < 0:=by omega
     go_wp2_with fail
     go_ret2
     exact .inl ⟨_,HR4.out,rfl,HK3.out⟩
   ·have HR4:Hid (r=.ok ⟨a,G,S,cutL L a⟩):=by show r=_;rw [HRs.out,hG0];exact if_neg ha
    have ha0:¬ a < 0:=by omega
    have ha1:¬ 1099511627776 < a:=by omega
    have cC:=cut_call w.heap.size w3 pe al L (HE.out.kept (HKT.out.trans hK3 (by simp))) HL.out (by have:=HXl.out;omega) HK3.out.size a
    clear hG0 hG hK3 HRs HR ha
    go_wp2_with fail
    refine cC.mono ?_
    rintro _ w4 ⟨⟨v4,rfl⟩,hE4,hN4⟩
    obtain ⟨F,hF⟩:=make_live HD.out HAl.out.1 HAl.out.2 (by omega) (by omega) (okL_cut HL.out a) HRe.out HK1.out HT.out HG.out hE4 hN4
    have HF:=hide hF
    clear hF hE4 hN4 cC
    go_wp2_with fail
    go_ret2
    exact .inr ⟨_,HR4.out,_,_,F,rfl,HF.out.1,HF.out.2⟩
end Go.Proofs.YtddhmfildfdbdaaGreat
