/-
  Texts of this claim that are laid as one: ImLo0, ImLoad.
-/
import Derived.Test.YtddhmfildfdbdaaGreatImEyer
import Derived.Test.YtddhmfildfdbdaaGreatQ2r
import Derived.Test.YtddhmfildfdbdaaGreatW9r
import Derived.Test.YtddhmfildfdbdaaGreatW1r
import Derived.Test.YtddhmfildfdbdaaGreatShelfB
set_option maxHeartbeats 8000000
/-
 Load: what it catches.
-/
namespace Go.Proofs.YtddhmfildfdbdaaGreat
open Go.RowKit
theorem assert_errnoI (e:Int) (w:World):Sem.run Tryz.prog (Instr.typeAssert (.iface 25 (.int .i64 e)) 20 25 true) w=.ok (.tuple #[.int .i64 e,.bool true]) w:=by kernel_rfl
theorem results_cell2 {fn:Func}{p q:Tmp}{S T:TypeId}(h:fn.results=#[.cell p S,.cell q T]) (tmps:Array Value) (P:Program) (w:World) :
 (results fn tmps).run P w=((asAddr (tmps.getD p undef)).run P w).andThen fun a w₁=>((loadVar S a).run P w₁).andThen fun v w₂=>((asAddr (tmps.getD q undef)).run P w₂).andThen fun b w₃=>((loadVar T b).run P w₃).andThen fun u w₄=>.ok (.tuple #[v,u]) w₄:=by
 simp only [results,h]
 simp [Sem.run_bind,Result.andThen]
theorem results_two {w:World}{fn:Func}{p q:Tmp}(hr:fn.results=#[.cell p 24,.cell q 25]) (tmps:Array Value) {a b:Nat}{u v:Value}
 (hp:tmps.getD p undef=.pointer (some ⟨a,0,none⟩)) (hq:tmps.getD q undef=.pointer (some ⟨b,0,none⟩)) (ha:Bx w a 24 [u]) (hb:Bx w b 25 [v]) :
 (results fn tmps).run Tryz.prog w=.ok (.tuple #[u,v]) w:=by
 have h1:=ha.cell 0 rfl
 have h2:=hb.cell 0 rfl
 rw [results_cell2 hr,hp,hq]
 simp [asAddr,loadVar,Sem.run_bind,go_sem,h1,h2]
theorem load_catch (w:World) (a b:Nat) (e:Int) (u:Value) (older:List PanicEntry) (ha:Bx w a 24 [u]) (hb:Bx w b 25 [.int .i64 0]) (hab:a≠b) :
 CallsD Tryz.prog 12 #[.pointer (some ⟨a,0,none⟩),.pointer (some ⟨b,0,none⟩)] (.panicking ({ v:=.iface 25 (.int .i64 e),recovered:=false } :: older)) w fun r u' w' =>
  r=.returned (.tuple #[])∧u'=.panicking ({ v:=.iface 25 (.int .i64 e),recovered:=true } :: older)∧Bx w' a 24 [.pointer none]∧Bx w' b 25 [.int .i64 e]∧Kept [a,b] w w':=by
 have hta:=assert_errnoI e
 have c0:=ha.cell 0 rfl
 have f0:=ha.froz 0
 have c1:=hb.cell 0 rfl
 have f1:=hb.froz 0
 have g1:(w.setCell ⟨a,0,none⟩ (.pointer none)).cell? ⟨b,0,none⟩=some (.int .i64 0):=((kept_set w a 0 (.pointer none)).cell c1 (by simp;omega))
 have HF:Hid (Bx ((w.setCell ⟨a,0,none⟩ (.pointer none)).setCell ⟨b,0,none⟩ (.int .i64 e)) a 24 [.pointer none]∧Bx ((w.setCell ⟨a,0,none⟩ (.pointer none)).setCell ⟨b,0,none⟩ (.int .i64 e)) b 25 [.int .i64 e]∧Kept [a,b] w ((w.setCell ⟨a,0,none⟩ (.pointer none)).setCell ⟨b,0,none⟩ (.int .i64 e))):=by
  refine ⟨?_,?_,?_⟩
  ·exact Bx.kept (ha.set 0 (.pointer none)) (kept_set _ b 0 _) (by simp;omega)
  ·exact Bx.set (cs:=[.int .i64 0]) (Bx.kept hb (kept_set _ a 0 _) (by simp;omega)) 0 (.int .i64 e)
  ·exact ((Kept.refl [a,b] w).setCell (by simp) _).setCell (by simp) _
 clear ha hb
 refine callsD_of_wpS Tryz.func12 rfl fun c₀ cs hu=>?_
 apply wpS_seq
 apply wpS_region
 simp [wpOpsS,go_sem,recoverD,hu,Tryz.ntmps12,Exit.thenS,Array.replicate,List.replicate]
 refine wpS_of_wp ?_
 go_wp2
 exact ⟨rfl,_,rfl,_,by simp [results,Tryz.results12,go_sem],rfl,rfl,HF.out⟩
theorem load_idle (w:World) (a b:Nat) :
 CallsD Tryz.prog 12 #[.pointer (some ⟨a,0,none⟩),.pointer (some ⟨b,0,none⟩)] .returning w fun r u' w'=>r=.returned (.tuple #[])∧u'=.returning∧w'=w:=by
 refine callsD_of_wpS Tryz.func12 rfl fun c₀ cs hu=>?_
 apply wpS_seq
 apply wpS_region
 simp [wpOpsS,go_sem,recoverD,hu,Tryz.ntmps12,Exit.thenS,Array.replicate,List.replicate]
 refine wpS_of_wp ?_
 go_wp2
 cases c₀
 simp_all [bodyPostS,results,Tryz.results12]
open Go.RowKit Go.Lib
theorem LiveM.boxM {w0 w w':World}{F D:List Nat}{b:Nat}{p:Pl}{al:Int}{sz:Nat}{m:Ma}(h:LiveM w0 w F D b p al sz m) {Bk:Nat}{cs:List Value}(hB:Bx w Bk 24 cs) (k:Kept [Bk] w w') (hlt:w0.heap.size≤Bk):LiveM w0 w' F D b p al sz m:=by
 obtain ⟨S,vt,X,h1,h2,h3,h4,h5,h6⟩:=h
 have hT:Typed w [Bk] [24]:=fun i hi cur' t' mk' hh=>by
  rw [List.mem_singleton] at hi
  subst hi
  unfold Bx at hB
  rw [hB] at hh;cases hh;simp
 refine ⟨S,vt,X,⟨k.typed hT h1.at_ (by decide),h1.g.keep k (fun i hi hm=>?_) hT (by decide) (by decide) (by decide),h1.t.keep k (fun i hi hm=>?_) hT (by decide) (by decide),h1.e.keep k hT (by decide) (by decide)⟩,h2,h3.trans k (fun i hi=>.inr (by simp at hi;omega)),h4,fun i hi=>Nat.lt_of_lt_of_le (h5 i hi) k.size,h6⟩
 ·rw [List.mem_singleton] at hm
  subst hm
  have:=h1.g.typed i hi _ _ _ hB
  simp at this
 ·rw [List.mem_singleton] at hm
  subst hm
  obtain ⟨cur',t,hh,ht⟩:=h1.t.typed hi
  unfold Bx at hB
  rw [hB] at hh
  cases hh
  rcases ht with ht | ht <;> simp at ht
theorem LiveM.boxE {w0 w w':World}{F D:List Nat}{b:Nat}{p:Pl}{al:Int}{sz:Nat}{m:Ma}(h:LiveM w0 w F D b p al sz m) {Bk:Nat}{cs:List Value}(hB:Bx w Bk 25 cs) (k:Kept [Bk] w w') (hlt:w0.heap.size≤Bk):LiveM w0 w' F D b p al sz m:=by
 obtain ⟨S,vt,X,h1,h2,h3,h4,h5,h6⟩:=h
 have hT:Typed w [Bk] [25]:=fun i hi cur' t' mk' hh=>by
  rw [List.mem_singleton] at hi
  subst hi
  unfold Bx at hB
  rw [hB] at hh;cases hh;simp
 refine ⟨S,vt,X,⟨k.typed hT h1.at_ (by decide),h1.g.keep k (fun i hi hm=>?_) hT (by decide) (by decide) (by decide),h1.t.keep k (fun i hi hm=>?_) hT (by decide) (by decide),h1.e.keep k hT (by decide) (by decide)⟩,h2,h3.trans k (fun i hi=>.inr (by simp at hi;omega)),h4,fun i hi=>Nat.lt_of_lt_of_le (h5 i hi) k.size,h6⟩
 ·rw [List.mem_singleton] at hm
  subst hm
  have:=h1.g.typed i hi _ _ _ hB
  simp at this
 ·rw [List.mem_singleton] at hm
  subst hm
  obtain ⟨cur',t,hh,ht⟩:=h1.t.typed hi
  unfold Bx at hB
  rw [hB] at hh
  cases hh
  rcases ht with ht | ht <;> simp at ht
def LErr (l:List Int) (e:Int):Prop :=
 ((imR (l,0)).2.2≠0∧e=(imR (l,0)).2.2)∨((imR (l,0)).2.2=0∧(imR (l,0)).2.1≠[]∧e=3)∨((imR (l,0)).2.2=0∧(imR (l,0)).2.1=[]∧(mkP (imR (l,0)).1=.error e∨∃ M,mkP (imR (l,0)).1=.ok M∧(iMa ([],0) (imR (l,0)).1.al (imR (l,0)).1.sz M).1≠l∧e=4))
def LoadQ (w:World) (l:List Int) (r:Ending) (w':World):Prop :=
 Kept [] w w'∧((∃ e,e≠0∧LErr l e∧r=.returned (.tuple #[.pointer none,.int .i64 e])) ∨
  ∃ x M b u G,imR (l,0)=(x,([],0))∧mkP x=.ok M∧(iMa ([],0) x.al x.sz M).1=l∧LiveM w w' G [] b u x.al x.sz.toNat M∧Pen M∧300*wtM M≤1000000000∧((x.sz.toNat:Nat):Int)=x.sz∧r=.returned (.tuple #[.pointer (some ⟨b,0,none⟩),.int .i64 0]))
theorem sl_bytes {w:World}{ao:Option Addr}{n c:Nat}{l:List Int}(h:Sl w ao n c l):Lib.BytesIn w ao n l:=by
 obtain ⟨_,_,_,_,h5⟩:=h
 intro hn
 obtain ⟨b,o,e,_⟩:=h5 0 hn
 refine ⟨b,o,e,fun i hi=>?_⟩
 obtain ⟨b',o',e',hc⟩:=h5 i hi
 rw [e] at e'
 cases e'
 exact hc
theorem bytesOf_inj {l m:List Int}(hl:Oct l) (hm:Oct m) (h:Lib.bytesOf l=Lib.bytesOf m):l=m:=by
 have h1:=ints_u8s hl
 have h2:=ints_u8s hm
 rw [← h1,← h2]
 exact congrArg intsT h
theorem equal_yes {w:World}{a1 a2:Option Addr}{n c m d:Nat}{l:List Int}(h1:Sl w a1 n c l) (h2:Sl w a2 m d l):Calls Tryz.prog 15 #[.slice a1 n c,.slice a2 m d] w fun e w'=>e=.returned (.bool true)∧w'=w:=by
 have h:=Tryz.bytes_Equal_all a1 a2 n c m d l l w h1.1 h2.1 (sl_bytes h1) (sl_bytes h2)
 rw [show (Lib.bytesOf l==Lib.bytesOf l)=true by simp] at h
 exact h
theorem equal_no {w:World}{a1 a2:Option Addr}{n c m d:Nat}{l k:List Int}(h1:Sl w a1 n c l) (h2:Sl w a2 m d k) (hl:Oct l) (hk:Oct k) (hn:l≠k):Calls Tryz.prog 15 #[.slice a1 n c,.slice a2 m d] w fun e w'=>e=.returned (.bool false)∧w'=w:=by
 have h:=Tryz.bytes_Equal_all a1 a2 n c m d l k w h1.1 h2.1 (sl_bytes h1) (sl_bytes h2)
 rw [show (Lib.bytesOf l==Lib.bytesOf k)=false by simpa using fun h=>hn (bytesOf_inj hl hk h)] at h
 exact h
def wLd (w:World):World:=(w.alloc (.cells #[.pointer none] 24)).alloc (.cells #[.int .i64 0] 25)
theorem wLd_is (w:World):Kept [] w (wLd w)∧Bx (wLd w) w.heap.size 24 [.pointer none]∧Bx (wLd w) (w.heap.size+1) 25 [.int .i64 0]∧(wLd w).heap.size=w.heap.size+2:=by
 have k1:Kept [] w (w.alloc (.cells #[.pointer none] 24)):=(Kept.refl _ _).alloc _
 have k2:Kept [] (w.alloc (.cells #[.pointer none] 24)) (wLd w):=(Kept.refl _ _).alloc _
 refine ⟨k1.trans k2 (by simp),Bx.kept (Bx.new w 24 [.pointer none]) k2 (by simp),?_,?_⟩
 ·have h:=Bx.new (w.alloc (.cells #[.pointer none] 24)) 25 [.int .i64 0]
  rw [World.size_alloc] at h
  exact h
 ·unfold wLd;simp
theorem LErr.read {l:List Int}{e:Int}(h:(imR (l,0)).2.2=e) (he:e≠0):LErr l e:=.inl ⟨by rw [h];exact he,h.symm⟩
set_option maxRecDepth 100000 in
theorem imload_call (w:World) (ao:Option Addr) (n c:Nat) (l:List Int) (hs:Sl w ao n c l) (ho:Oct l) (hl:l.length≤30000) :
 Calls Tryz.prog 6 #[.slice ao n c] w (LoadQ w l):=by
 have hmf:∀ (fn:Go.Fn) (first cap:Array Value) (w:World),(Instr.makeFunc fn first cap).run Tryz.prog w=.ok (.func fn first cap) w:=fun _ _ _ _=>rfl
 obtain ⟨k1,hA,hB,hz⟩:=wLd_is w
 obtain ⟨W,hW⟩:∃ W,W=wLd w:=⟨_,rfl⟩
 rw [← hW] at k1 hA hB hz
 have hn:n≤30000:=by rw [← hs.1];exact hl
 have cN:=newReader_call W ao n c l (Sl.kept k1 hs (by simp)) (by omega) ho
 have HS:=hide hs
 have HO:=hide ho
 have HL:=hide hl
 have HA:=hide hA
 have HB:=hide hB
 have HZ:=hide hz
 have HK:=hide k1
 clear hs ho hl hA hB hz k1 hn
 unfold wLd at hW
 go_enter_defers Tryz.func6,Tryz.ntmps6
 go_upto_region 2 with fail
 rw [← hW]
 clear hW
 go_wp2_with fail
 refine cN.mono ?_
 clear cN
 rintro _ w2 ⟨p,F,rfl,hp,hF,hFl,hR,hk2⟩
 have cM:=eyM_call w2 p F l hR hFl HL.out
 unfold eyV at cM
 have HFp:Hid (∀ k∈p :: F,w.heap.size+2≤k):=fun k hk=>by
  have:=HZ.out
  rcases List.mem_cons.1 hk with h | h
  ·omega
  ·have:=hF k h;omega
 have HK2:=hide hk2
 clear hp hF hFl hR hk2
 go_wp2_with fail
 refine cM.mono ?_
 clear cM
 rintro r w3 ⟨hk3,hcase⟩
 have HA3:Hid (Bx w3 w.heap.size 24 [.pointer none]):=(HA.out.kept HK2.out (by simp)).kept hk3 (fun hm=>by have:=HFp.out _ hm;omega)
 have HB3:Hid (Bx w3 (w.heap.size+1) 25 [.int .i64 0]):=(HB.out.kept HK2.out (by simp)).kept hk3 (fun hm=>by have:=HFp.out _ hm;omega)
 have HK3:Hid (Kept [] w w3):=(HK.out.trans HK2.out (by simp)).trans hk3 (fun i hi=>.inr (by have:=HFp.out i hi;omega))
 clear hk3
 generalize hq:imR (l,0)=q at hcase
 obtain ⟨x,t,e⟩:=q
 rcases hcase with ⟨he,rfl⟩ | ⟨he,ht,rfl⟩ | ⟨he,ht,⟨m,hm,hm0,rfl⟩ | ⟨M,W0,bb,u,G,hm,hkW,hLv,rfl⟩⟩
 ·have HE:=hide he
  have HQ:=hide hq
  clear he hq
  simp only
  unfold pncE
  go_wp2
  refine leaves_cons (f:=12) (args:=#[.pointer (some ⟨w.heap.size,0,none⟩),.pointer (some ⟨w.heap.size+1,0,none⟩)]) (by simp) (by simp [go_sem]) ?_
  refine (load_catch _ _ _ _ _ [] HA3.out HB3.out (by omega)).mono ?_
  rintro _ u' w9 ⟨rfl,rfl,hA,hB,hk9⟩
  refine ⟨_,results_two (by rfl) _ (by rfl) (by rfl) hA hB,?_⟩
  have HKf:Kept [] w w9:=HK3.out.trans hk9 (fun i hi=>.inr (by simp at hi;omega))
  exact ⟨HKf,.inl ⟨e,HE.out,LErr.read (by rw [HQ.out]) HE.out,rfl⟩⟩
 ·have HE:=hide he
  have HQ:=hide hq
  have HT:=hide ht
  clear he hq ht
  unfold pncE
  go_wp2
  refine leaves_cons (f:=12) (args:=#[.pointer (some ⟨w.heap.size,0,none⟩),.pointer (some ⟨w.heap.size+1,0,none⟩)]) (by simp) (by simp [go_sem]) ?_
  refine (load_catch _ _ _ _ _ [] HA3.out HB3.out (by omega)).mono ?_
  rintro _ u' w9 ⟨rfl,rfl,hA,hB,hk9⟩
  refine ⟨_,results_two (by rfl) _ (by rfl) (by rfl) hA hB,?_⟩
  have HKf:Kept [] w w9:=HK3.out.trans hk9 (fun i hi=>.inr (by simp at hi;omega))
  refine ⟨HKf,.inl ⟨3,by decide,.inr (.inl ?_),rfl⟩⟩
  rw [HQ.out]
  exact ⟨HE.out,HT.out,rfl⟩
 ·have HE:=hide he
  have HQ:=hide hq
  have HT:=hide ht
  have HM:=hide hm
  have HM0:=hide hm0
  clear he hq ht hm hm0
  unfold pncE
  go_wp2
  refine leaves_cons (f:=12) (args:=#[.pointer (some ⟨w.heap.size,0,none⟩),.pointer (some ⟨w.heap.size+1,0,none⟩)]) (by simp) (by simp [go_sem]) ?_
  refine (load_catch _ _ _ _ _ [] HA3.out HB3.out (by omega)).mono ?_
  rintro _ u' w9 ⟨rfl,rfl,hA,hB,hk9⟩
  refine ⟨_,results_two (by rfl) _ (by rfl) (by rfl) hA hB,?_⟩
  have HKf:Kept [] w w9:=HK3.out.trans hk9 (fun i hi=>.inr (by simp at hi;omega))
  refine ⟨HKf,.inl ⟨m,HM0.out,.inr (.inr ?_),rfl⟩⟩
  rw [HQ.out]
  exact ⟨HE.out,HT.out,.inl HM.out⟩
 ·have he0:e=0:=he
  have ht0:t=[]:=ht
  subst he0 ht0
  obtain ⟨hp1,hp2,hp3⟩:=im_pen HO.out HL.out hq hm
  have HQ:=hide hq
  have HM:=hide hm
  have HP1:=hide hp1
  have HP2:=hide hp2
  have HP3:=hide hp3
  have HLv:Hid (LiveM w w3 G [] bb u x.al x.sz.toNat M):=hLv.elder ((HK.out.trans HK2.out (by simp)).trans hkW (fun i hi=>.inr (by have:=HFp.out i hi;omega)))
  have n0:=HA3.out.cell 0 rfl
  have f0:=HA3.out.froz 0
  clear he ht hq hm hp1 hp2 hp3 hLv hkW
  go_upto_region 3 with fail
  obtain ⟨W3,hW3⟩:∃ W3,W3=w3.setCell ⟨w.heap.size,0,none⟩ (.pointer (some ⟨bb,0,none⟩)):=⟨_,rfl⟩
  rw [← hW3]
  have hks:Kept [w.heap.size] w3 W3:=by rw [hW3];exact kept_set w3 w.heap.size 0 _
  have HA4:Hid (Bx W3 w.heap.size 24 [.pointer (some ⟨bb,0,none⟩)]):=by rw [hW3];exact HA3.out.set 0 _
  have HB4:=hide (HB3.out.kept hks (by simp))
  have HL4:=hide (HLv.out.boxM HA3.out hks (Nat.le_refl _))
  have HK4:Hid (Kept [] w W3):=HK3.out.trans hks (fun i hi=>.inr (by simp at hi;omega))
  have c0:=HA4.out.cell 0 rfl
  have cS:=save_call HL4.out HP1.out HP2.out
  rw [HP3.out] at cS
  obtain ⟨bs,hbs⟩:∃ bs,bs=(iMa ([],0) x.al x.sz M).1:=⟨_,rfl⟩
  rw [← hbs] at cS
  have HBs:=hide hbs
  clear hW3 hks n0 f0 HLv HA3 HB3 HK3 hbs
  go_wp2_with fail
  refine cS.mono ?_
  clear cS
  rintro _ w4 ⟨sa,sc,rfl,hs4,hb4,hk4,ho4⟩
  have HA5:=hide (HA4.out.kept hk4 (by simp))
  have HB5:=hide (HB4.out.kept hk4 (by simp))
  have HL5:=hide (HL4.out.kept hk4)
  have HK5:=hide (HK4.out.trans hk4 (by simp))
  have hsl:=Sl.kept HK5.out HS.out (by simp)
  by_cases heq:bs=l
  ·subst heq
   have cE:=equal_yes hs4 hsl
   have c1:=HA5.out.cell 0 rfl
   have c2:=HB5.out.cell 0 rfl
   have f1:=HA5.out.froz 0
   have f2:=HB5.out.froz 0
   have g2:(w4.setCell ⟨w.heap.size,0,none⟩ (.pointer (some ⟨bb,0,none⟩))).cell? ⟨w.heap.size+1,0,none⟩=some (.int .i64 0):=(kept_set w4 w.heap.size 0 (.pointer (some ⟨bb,0,none⟩))).cell c2 (by simp)
   have k5:Kept [w.heap.size] w4 (w4.setCell ⟨w.heap.size,0,none⟩ (.pointer (some ⟨bb,0,none⟩))):=kept_set _ _ _ _
   have k6:Kept [w.heap.size+1] (w4.setCell ⟨w.heap.size,0,none⟩ (.pointer (some ⟨bb,0,none⟩))) ((w4.setCell ⟨w.heap.size,0,none⟩ (.pointer (some ⟨bb,0,none⟩))).setCell ⟨w.heap.size+1,0,none⟩ (.int .i64 0)):=kept_set _ _ _ _
   have b5:Bx (w4.setCell ⟨w.heap.size,0,none⟩ (.pointer (some ⟨bb,0,none⟩))) w.heap.size 24 [.pointer (some ⟨bb,0,none⟩)]:=HA5.out.set 0 _
   have b5':Bx (w4.setCell ⟨w.heap.size,0,none⟩ (.pointer (some ⟨bb,0,none⟩))) (w.heap.size+1) 25 [.int .i64 0]:=HB5.out.kept k5 (by simp)
   have HF:Hid (Bx ((w4.setCell ⟨w.heap.size,0,none⟩ (.pointer (some ⟨bb,0,none⟩))).setCell ⟨w.heap.size+1,0,none⟩ (.int .i64 0)) w.heap.size 24 [.pointer (some ⟨bb,0,none⟩)]∧Bx ((w4.setCell ⟨w.heap.size,0,none⟩ (.pointer (some ⟨bb,0,none⟩))).setCell ⟨w.heap.size+1,0,none⟩ (.int .i64 0)) (w.heap.size+1) 25 [.int .i64 0]∧LiveM w ((w4.setCell ⟨w.heap.size,0,none⟩ (.pointer (some ⟨bb,0,none⟩))).setCell ⟨w.heap.size+1,0,none⟩ (.int .i64 0)) G [] bb u x.al x.sz.toNat M∧Kept [] w ((w4.setCell ⟨w.heap.size,0,none⟩ (.pointer (some ⟨bb,0,none⟩))).setCell ⟨w.heap.size+1,0,none⟩ (.int .i64 0))) :=
    ⟨b5.kept k6 (by simp),b5'.set 0 _,(HL5.out.boxM HA5.out k5 (Nat.le_refl _)).boxE b5' k6 (by omega),(HK5.out.trans k5 (fun i hi=>.inr (by simp at hi;omega))).trans k6 (fun i hi=>.inr (by simp at hi;omega))⟩
   clear hs4 hb4 hk4 ho4 hsl k5 k6 b5 b5'
   go_wp2_with fail
   refine cE.mono ?_
   rintro _ _ ⟨rfl,rfl⟩
   clear cE
   go_wp2_with fail
   refine leaves_cons (f:=12) (args:=#[.pointer (some ⟨w.heap.size,0,none⟩),.pointer (some ⟨w.heap.size+1,0,none⟩)]) (by simp) (by simp [go_sem]) ?_
   refine (load_idle _ _ _).mono ?_
   rintro _ u' w9 ⟨rfl,rfl,rfl⟩
   obtain ⟨f1,f2,f3,f4⟩:=HF.out
   refine ⟨_,results_two (by rfl) _ (by rfl) (by rfl) f1 f2,?_⟩
   exact ⟨f4,.inr ⟨x,M,bb,u,G,HQ.out,HM.out,HBs.out.symm,f3,HP1.out,HP2.out,HP3.out,rfl⟩⟩
  ·have cE:=equal_no hs4 hsl ho4 HO.out heq
   have HNe:Hid ((iMa ([],0) x.al x.sz M).1≠l):=by rw [← HBs.out];exact heq
   clear hs4 hb4 hk4 ho4 hsl heq
   go_wp2_with fail
   refine cE.mono ?_
   rintro _ _ ⟨rfl,rfl⟩
   clear cE
   go_wp2_with fail
   refine leaves_cons (f:=12) (args:=#[.pointer (some ⟨w.heap.size,0,none⟩),.pointer (some ⟨w.heap.size+1,0,none⟩)]) (by simp) (by simp [go_sem]) ?_
   refine (load_catch _ _ _ _ _ [] HA5.out HB5.out (by omega)).mono ?_
   rintro _ u' w9 ⟨rfl,rfl,hA,hB,hk9⟩
   refine ⟨_,results_two (by rfl) _ (by rfl) (by rfl) hA hB,?_⟩
   have HKf:Kept [] w w9:=HK5.out.trans hk9 (fun i hi=>.inr (by simp at hi;omega))
   refine ⟨HKf,.inl ⟨4,by decide,.inr (.inr ?_),rfl⟩⟩
   rw [HQ.out]
   exact ⟨rfl,rfl,.inr ⟨M,HM.out,HNe.out,rfl⟩⟩
end Go.Proofs.YtddhmfildfdbdaaGreat
