/-
  The image's eye: a change.
-/
import Derived.Test.YtddhmfildfdbdaaGreatImEyer
namespace Go.Proofs.YtddhmfildfdbdaaGreat
open Go.RowKit
structure Sx (T:TypeId) (zs:List Value) (w:World) (p:Nat) (F:List Nat) (W:World) (lj:List Int) (cs:List Value):Prop where
 k:Kept (p :: F) w W
 e:W.cell? ⟨w.heap.size,0,none⟩=some (.pointer (some ⟨p,0,none⟩))
 r:Bx W (w.heap.size+1) T zs
 x:Bx W (w.heap.size+2) T cs
 d:Rd W p F lj 0
 o:∀ k∈p :: F,k < w.heap.size
theorem Sx.call {T:TypeId}{zs cs:List Value}{w:World}{p:Nat}{F:List Nat}{W W':World}{lj l':List Int}(h:Sx T zs w p F W lj cs) (k:Kept (p :: F) W W') (hR:Rd W' p F l' 0):Sx T zs w p F W' l' cs:=by
 have hs:∀ b,w.heap.size≤b→b ∉ p :: F:=fun b hb hm=>by have:=h.o b hm;omega
 exact ⟨h.k.trans k (fun i hi=>.inl hi),k.cell h.e (hs _ (Nat.le_refl _)),h.r.kept k (hs _ (by omega)),h.x.kept k (hs _ (by omega)),hR,h.o⟩
theorem Sx.put {T:TypeId}{zs cs ds:List Value}{w:World}{p:Nat}{F:List Nat}{W W':World}{lj:List Int}(h:Sx T zs w p F W lj cs) (k:Kept [w.heap.size+2] W W') (hx:Bx W' (w.heap.size+2) T ds):Sx T zs w p F W' lj ds:=by
 have hs:∀ b∈p :: F,b ∉ [w.heap.size+2]:=fun b hb hm=>by have:=h.o b hb;simp at hm;omega
 refine ⟨h.k.trans k (fun i hi=>.inr ?_),k.cell h.e (by simp),h.r.kept k (by simp),hx,Rd.kept k h.d (hs p (List.mem_cons_self ..)) (fun b hb=>hs b (List.mem_cons_of_mem _ hb)),h.o⟩
 simp at hi;omega
theorem Sx.set {T:TypeId}{zs cs:List Value}{w:World}{p:Nat}{F:List Nat}{W:World}{lj:List Int}(h:Sx T zs w p F W lj cs) (j:Nat) (v:Value):Sx T zs w p F (W.setCell ⟨w.heap.size+2,j,none⟩ v) lj (cs.set j v) :=
 h.put (kept_set W (w.heap.size+2) j v) (h.x.set j v)
theorem Sx.new {w:World}{p:Nat}{F:List Nat}{l:List Int}(T:TypeId) (zs:List Value) (hR:Rd w p F l 0) (hF:∀ k∈F,k < w.heap.size):Sx T zs w p F (((w.alloc (.cells #[.pointer (some ⟨p,0,none⟩)] 38)).alloc (.cells zs.toArray T)).alloc (.cells zs.toArray T)) l zs:=by
 have k1:Kept [] w (w.alloc (.cells #[.pointer (some ⟨p,0,none⟩)] 38)):=(Kept.refl _ _).alloc _
 have k2:Kept [] (w.alloc (.cells #[.pointer (some ⟨p,0,none⟩)] 38)) ((w.alloc (.cells #[.pointer (some ⟨p,0,none⟩)] 38)).alloc (.cells zs.toArray T)):=(Kept.refl _ _).alloc _
 have k3:Kept [] ((w.alloc (.cells #[.pointer (some ⟨p,0,none⟩)] 38)).alloc (.cells zs.toArray T)) (((w.alloc (.cells #[.pointer (some ⟨p,0,none⟩)] 38)).alloc (.cells zs.toArray T)).alloc (.cells zs.toArray T)):=(Kept.refl _ _).alloc _
 have n1:(w.alloc (.cells #[.pointer (some ⟨p,0,none⟩)] 38)).heap.size=w.heap.size+1:=by simp
 have n2:((w.alloc (.cells #[.pointer (some ⟨p,0,none⟩)] 38)).alloc (.cells zs.toArray T)).heap.size=w.heap.size+2:=by simp
 have k:=(k1.trans k2 (by simp)).trans k3 (by simp)
 have hR':=hR.lt
 refine ⟨k.mono (by simp),cell_inC (k:=0) (k3.at (k2.at (heap_alloc_new w _) (by simp)) (by simp)) rfl,?_,?_,Rd.kept k hR (by simp) (by simp),fun b hb=>?_⟩
 ·have h:=(Bx.new (w.alloc (.cells #[.pointer (some ⟨p,0,none⟩)] 38)) T zs).kept k3 (by simp)
  rw [n1] at h;exact h
 ·have h:=Bx.new ((w.alloc (.cells #[.pointer (some ⟨p,0,none⟩)] 38)).alloc (.cells zs.toArray T)) T zs
  rw [n2] at h;exact h
 ·rcases List.mem_cons.1 hb with h | h
  ·rw [h];exact hR'
  ·exact hF b h
theorem Sx.fin {T:TypeId}{zs cs:List Value}{w:World}{p:Nat}{F:List Nat}{W W':World}{lj:List Int}(h:Sx T zs w p F W lj cs) (k:Kept [w.heap.size+1] W W'):Kept (p :: F) w W'∧Rd W' p F lj 0:=by
 have hs:∀ b∈p :: F,b ∉ [w.heap.size+1]:=fun b hb hm=>by have:=h.o b hb;simp at hm;omega
 refine ⟨h.k.trans k (fun i hi=>.inr ?_),Rd.kept k h.d (hs p (List.mem_cons_self ..)) (fun b hb=>hs b (List.mem_cons_of_mem _ hb))⟩
 simp at hi;omega
theorem seq_bad2 {α β:Type}{A:Rdr α}{B:α→Rdr β}{okA:α→Prop}{okB:α→β→Prop}{bA:α→List Int}{bB:α→β→List Int}(hA:Cdc A okA bA) (hB:∀ a,Cdc (B a) (okB a) (bB a)) {l t:List Int}{x:α}{e:Int}(h:A (l,0)=(x,(t,e))) (he:e≠0):(seqR A B (l,0)).2.2=e:=by
 have h1:=seq_bad hA hB (l:=l) (by rw [h];exact he)
 rw [h1,h]
theorem seq_goes {α β:Type}{A:Rdr α}{B:α→Rdr β}{l t:List Int}{x:α}(h:A (l,0)=(x,(t,0))):seqR A B (l,0)=((x,(B x (t,0)).1),(B x (t,0)).2):=by
 show (((A (l,0)).1,_),_)=_
 rw [h]
theorem wl_store_part {P:Program}{ops:Array Oper}{rest:List Oper}{a:Act}{w:World}{Q:Exit→Act→World→Prop}{d:Option Tmp}{x y:Operand}{T T' ty:TypeId}{ps:String}{af:Array Edge}
 {b o:Nat}{pre old post ds:List Value}(hc:Bx w b T (pre++old++post)) (ho:pre.length=o) (hl:ds.length=old.length) (h1:∀ v∈ds,v.oneCell'=true) (hT:RowT P T' ds.length)
 (hx:a.eval x=.pointer (some ⟨b,o,none⟩)) (hy:a.eval y=.agg ds.toArray) (h:∀ w',Hid (Bx w' b T (pre++ds++post))→Hid (Kept [b] w w')→wpList P ops Q rest (a.put d undef) w'):wpList P ops Q (⟨d,.store T' x y,ty,ps,af,none⟩ :: rest) a w:=by
 subst ho
 obtain ⟨D,hu,hd,hi⟩:=hT
 refine wpList_store_mid rfl _ x y rfl b pre.length ds.toArray hx hy (fun j hj=>?_) (by rw [List.size_toArray];exact hi) (all_oneCell_toArray h1) (h _ ?_ (setCells_kept (by simp) _ _ (Kept.refl _ _)))
 ·rw [List.size_toArray] at hj
  have hlt:pre.length+j < (pre++old++post).length:=by simp;omega
  exact ⟨by rw [hc.cell (pre.length+j) (List.getElem?_eq_getElem hlt)];rfl,hc.froz _⟩
 ·have h2:=setCells_row b ds pre old post w _ hc hl.symm
  exact h2
theorem chg_parts {l l1 l2:List Int}{t:List UInt8}{g:Bool}{e1 e2:Int}(h1:txR 255 (l,0)=(t,(l1,e1))):(e1≠0→(chgR (l,0)).2.2=e1)∧(e1=0→flagR (l1,0)=(g,(l2,e2))→(e2≠0→(chgR (l,0)).2.2=e2)∧(e2=0→g=true→chgR (l,0)=(⟨t,true,0⟩,(l2,0)))∧(e2=0→g=false→∀ x l3 e3,wordR (l2,0)=(x,(l3,e3))→chgR (l,0)=(⟨t,false,x⟩,(l3,e3)))):=by
 have ht:eyeP.text (l,0) []=(t,(l1,e1)):=h1
 have hc:chgR (l,0)=if (eyeP.flag (l1,e1) false).1=true then (⟨t,true,0⟩,(eyeP.flag (l1,e1) false).2) else (⟨t,false,(eyeP.word (eyeP.flag (l1,e1) false).2 0).1⟩,(eyeP.word (eyeP.flag (l1,e1) false).2 0).2):=by
  show chgP eyeP (l,0) ch0=_
  unfold chgP
  rw [show eyeP.text (l,0) ch0.p=(t,(l1,e1)) from ht]
  rfl
 constructor
 ·intro he
  have hn:l1=[]:=by
   have h:=(cdc_tx 255 (by omega)).nil l (by rw [show ((255:Nat):Int)=255 from rfl,h1];exact he)
   rw [show ((255:Nat):Int)=255 from rfl,h1] at h
   exact h
  subst hn
  have hf:eyeP.flag ([],e1) false=(false,([],e1)):=by
   show ((rdFlagE e1 []).2.1,((rdFlagE e1 []).2.2,(rdFlagE e1 []).1))=_
   unfold rdFlagE;rw [if_neg he]
  have hw:eyeP.word ([],e1) 0=(0,([],e1)):=by
   show ((rdWordE e1 []).2.1,((rdWordE e1 []).2.2,(rdWordE e1 []).1))=_
   unfold rdWordE;rw [if_neg he]
  rw [hc,hf]
  simp only [Bool.false_eq_true,if_false]
  rw [hw]
 ·intro he h2
  subst he
  have hf:eyeP.flag (l1,0) false=(g,(l2,e2)):=h2
  rw [hf] at hc
  refine ⟨fun he2=>?_,fun he2 hg=>?_,fun he2 hg x l3 e3 hw=>?_⟩
  ·have hn:l2=[]:=by
    have h:=cdc_flag.nil l1 (by rw [h2];exact he2)
    rw [h2] at h;exact h
   subst hn
   have hw:eyeP.word ([],e2) 0=(0,([],e2)):=by
    show ((rdWordE e2 []).2.1,((rdWordE e2 []).2.2,(rdWordE e2 []).1))=_
    unfold rdWordE;rw [if_neg he2]
   rw [hc]
   split
   ·rfl
   ·show (eyeP.word ([],e2) 0).2.2=e2
    rw [hw]
  ·subst hg he2
   rw [hc,if_pos rfl]
  ·subst hg he2
   have hw':eyeP.word (l2,0) 0=(x,(l3,e3)):=hw
   rw [hc,if_neg (by simp)]
   show ((⟨t,false,(eyeP.word (l2,0) 0).1⟩:Ch),(eyeP.word (l2,0) 0).2)=_
   rw [hw']
theorem one_chI (a:List UInt8) (b:Bool) (c:Int):∀ v∈[Value.string (str a),.bool b,.int .u64 c],v.oneCell'=true:=by
 intro v hv
 simp at hv
 rcases hv with rfl | rfl | rfl <;> rfl
set_option maxHeartbeats 8000000 in
set_option maxRecDepth 100000 in
theorem eyChg_call (w:World) (p:Nat) (F:List Nat) (l:List Int) (hR:Rd w p F l 0) (hF:∀ k∈F,k < w.heap.size) :
 Calls Tryz.prog 55 #[eyV p] w (Eyd p F w (chgR (l,0)) (fun x _ v=>v=.agg #[.string (str x.p),.bool x.g,.int .u64 x.d])):=by
 have HS0:=hide (Sx.new 116 [.string ⟨#[]⟩,.bool false,.int .u64 0] hR hF)
 obtain ⟨t,l1,e1,h1⟩:∃ t l1 e1,txR 255 (l,0)=(t,(l1,e1)):=⟨_,_,_,rfl⟩
 obtain ⟨g,l2,e2,h2⟩:∃ g l2 e2,flagR (l1,0)=(g,(l2,e2)):=⟨_,_,_,rfl⟩
 obtain ⟨x,l3,e3,h3⟩:∃ x l3 e3,wordR (l2,0)=(x,(l3,e3)):=⟨_,_,_,rfl⟩
 obtain ⟨res,hres⟩:∃ res,res=chgR (l,0):=⟨_,rfl⟩
 have HC:=chg_parts (g:=g) (l2:=l2) (e2:=e2) h1
 rw [← hres] at HC ⊢
 obtain ⟨hC1,hC2⟩:=HC
 have HC1:=hide hC1
 have HC2:=hide (fun h=>hC2 h h2)
 clear hR hF hC1 hC2 hres
 obtain ⟨W,hW⟩:∃ W,W=((w.alloc (.cells #[.pointer (some ⟨p,0,none⟩)] 38)).alloc (.cells #[.string ⟨#[]⟩,.bool false,.int .u64 0] 116)).alloc (.cells #[.string ⟨#[]⟩,.bool false,.int .u64 0] 116):=⟨_,rfl⟩
 have HSW:Hid (Sx 116 [.string ⟨#[]⟩,.bool false,.int .u64 0] w p F W l [.string ⟨#[]⟩,.bool false,.int .u64 0]):=by rw [hW];exact HS0
 have q0:=HSW.out.e
 have cT:=eyT_call W p F l 255 HSW.out.d
 rw [h1] at cT
 clear HS0
 unfold eyV at *
 go_enter Tryz.func55,Tryz.ntmps55
 go_upto_region 2 with fail
 rw [← hW]
 clear hW
 go_wp2_with fail
 refine cT.mono ?_
 clear cT
 rintro r w1 hE
 rcases hE.cases with ⟨he,hk1,v1,rfl,hv1,hR1⟩ | ⟨he,hk1,rfl⟩
 ·subst he hv1
  have HS1:=hide (HSW.out.call hk1 hR1)
  have n0:w1.cell? ⟨w.heap.size+1+1,0,none⟩=some (.string ⟨#[]⟩):=HS1.out.x.cell 0 rfl
  have f0:w1.frozen? ⟨w.heap.size+1+1,0,none⟩=false:=HS1.out.x.froz 0
  clear hE hk1 hR1 q0 HSW HC1
  go_upto_region 3 with fail
  obtain ⟨W1,hW1⟩:∃ W1,W1=w1.setCell ⟨w.heap.size+1+1,0,none⟩ (.string (str t)):=⟨_,rfl⟩
  rw [← hW1]
  have HS2:Hid (Sx 116 [.string ⟨#[]⟩,.bool false,.int .u64 0] w p F W1 l1 [.string (str t),.bool false,.int .u64 0]):=by rw [hW1];exact HS1.out.set 0 (.string (str t))
  have q1:=HS2.out.e
  have cG:=eyF_call W1 p F l1 HS2.out.d
  rw [h2] at cG
  unfold eyV at cG
  clear hW1 n0 f0 HS1
  go_wp2_with fail
  refine cG.mono ?_
  clear cG
  rintro r w2 hE
  rcases hE.cases with ⟨he,hk2,v2,rfl,hv2,hR2⟩ | ⟨he,hk2,rfl⟩
  ·subst he hv2
   have HS3:=hide (HS2.out.call hk2 hR2)
   have n1:w2.cell? ⟨w.heap.size+1+1,1,none⟩=some (.bool false):=HS3.out.x.cell 1 rfl
   have f1:w2.frozen? ⟨w.heap.size+1+1,1,none⟩=false:=HS3.out.x.froz 1
   clear hE hk2 hR2 q1 HS2
   go_upto_region 4 with fail
   obtain ⟨W2,hW2⟩:∃ W2,W2=w2.setCell ⟨w.heap.size+1+1,1,none⟩ (.bool g):=⟨_,rfl⟩
   rw [← hW2]
   have HS4:Hid (Sx 116 [.string ⟨#[]⟩,.bool false,.int .u64 0] w p F W2 l2 [.string (str t),.bool g,.int .u64 0]):=by rw [hW2];exact HS3.out.set 1 (.bool g)
   have q2:=HS4.out.e
   have m1:W2.cell? ⟨w.heap.size+1+1,1,none⟩=some (.bool g):=HS4.out.x.cell 1 rfl
   have cX:=eyW_call W2 p F l2 HS4.out.d
   rw [h3] at cX
   unfold eyV at cX
   clear hW2 n1 f1 HS3
   cases hg:g
   ·have HQ:=hide ((HC2.out (by trivial)).2.2 (by trivial) hg x l3 e3 h3)
    rw [hg] at m1 HS4
    clear hg
    go_wp2_with fail
    refine cX.mono ?_
    clear cX
    rintro r w3 hE
    rcases hE.cases with ⟨he,hk3,v3,rfl,hv3,hR3⟩ | ⟨he,hk3,rfl⟩
    ·subst he hv3
     have HS5:=hide (HS4.out.call hk3 hR3)
     have n2:w3.cell? ⟨w.heap.size+1+1,2,none⟩=some (.int .u64 0):=HS5.out.x.cell 2 rfl
     have f2:w3.frozen? ⟨w.heap.size+1+1,2,none⟩=false:=HS5.out.x.froz 2
     clear hE hk3 hR3 q2 m1 HS4
     go_upto_region 6 with fail
     obtain ⟨W3,hW3⟩:∃ W3,W3=w3.setCell ⟨w.heap.size+1+1,2,none⟩ (.int .u64 x):=⟨_,rfl⟩
     rw [← hW3]
     have HS6:Hid (Sx 116 [.string ⟨#[]⟩,.bool false,.int .u64 0] w p F W3 l3 [.string (str t),.bool false,.int .u64 x]):=by rw [hW3];exact HS5.out.set 2 (.int .u64 x)
     clear hW3 n2 f2 HS5
     have HX:=hide HS6.out.x
     have HZ:=hide HS6.out.r
     have HLn:Hid (([.string (str t),.bool false,.int .u64 x]:List Value).length=([.string ⟨#[]⟩,.bool false,.int .u64 0]:List Value).length):=rfl
     have HOne:Hid (∀ v∈([.string (str t),.bool false,.int .u64 x]:List Value),v.oneCell'=true):=one_chI t false x
     have HRT:Hid (RowT Tryz.prog 116 ([.string (str t),.bool false,.int .u64 x]:List Value).length):=rowT_chg
     go_wp2_with (first | ((with_reducible refine wl_load_bx HX.out HRT.out ?_ ?_);rfl) | ((with_reducible refine wl_store_bx HZ.out HLn.out HOne.out HRT.out ?_ ?_ ?_);rfl;rfl;intro wz HBz HKz))
     refine bodyPost_ret (bx_result (by rfl) _ (by rfl) HBz.out HRT.out) rfl ?_
     rw [HQ.out]
     obtain ⟨hk,hr⟩:=HS6.out.fin HKz.out
     exact ⟨hk,.inl ⟨rfl,_,rfl,rfl,hr⟩⟩
    ·have HKf:=hide (HS4.out.k.trans hk3 (fun i hi=>.inl hi))
     unfold pncE
     go_wp2_with fail
     rw [HQ.out]
     exact ⟨rfl,HKf.out,.inr ⟨he,rfl⟩⟩
   ·have HQ:=hide ((HC2.out (by trivial)).2.1 (by trivial) hg)
    rw [hg] at m1 HS4
    clear hg cX
    go_upto_region 6 with fail
    have HX:=hide HS4.out.x
    have HZ:=hide HS4.out.r
    have HLn:Hid (([.string (str t),.bool true,.int .u64 0]:List Value).length=([.string ⟨#[]⟩,.bool false,.int .u64 0]:List Value).length):=rfl
    have HOne:Hid (∀ v∈([.string (str t),.bool true,.int .u64 0]:List Value),v.oneCell'=true):=one_chI t true 0
    have HRT:Hid (RowT Tryz.prog 116 ([.string (str t),.bool true,.int .u64 0]:List Value).length):=rowT_chg
    go_wp2_with (first | ((with_reducible refine wl_load_bx HX.out HRT.out ?_ ?_);rfl) | ((with_reducible refine wl_store_bx HZ.out HLn.out HOne.out HRT.out ?_ ?_ ?_);rfl;rfl;intro wz HBz HKz))
    refine bodyPost_ret (bx_result (by rfl) _ (by rfl) HBz.out HRT.out) rfl ?_
    rw [HQ.out]
    obtain ⟨hk,hr⟩:=HS4.out.fin HKz.out
    exact ⟨hk,.inl ⟨rfl,_,rfl,rfl,hr⟩⟩
  ·have HQ:=hide ((HC2.out (by trivial)).1 he)
   have HKf:=hide (HS2.out.k.trans hk2 (fun i hi=>.inl hi))
   unfold pncE
   go_wp2_with fail
   refine ⟨rfl,HKf.out,.inr ⟨by rw [HQ.out];exact he,?_⟩⟩
   rw [HQ.out];rfl
 ·have HQ:=hide (HC1.out he)
  have HKf:=hide (HSW.out.k.trans hk1 (fun i hi=>.inl hi))
  unfold pncE
  go_wp2_with fail
  refine ⟨rfl,HKf.out,.inr ⟨by rw [HQ.out];exact he,?_⟩⟩
  rw [HQ.out];rfl
end Go.Proofs.YtddhmfildfdbdaaGreat
