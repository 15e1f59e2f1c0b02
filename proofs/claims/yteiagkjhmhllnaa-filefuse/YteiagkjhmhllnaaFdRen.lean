/-
  The document's disk: Rename. (Written by mk/mkdren.py.)
-/
import Derived.Test.YteiagkjhmhllnaaFdTru
namespace Go.Proofs.Yteiagkjhmhllnaa
open Go.RowKit
theorem rowT_one:RowT Try.prog 73 3:=⟨_,Try.underlying73,rfl,by kernel_rfl⟩
theorem wl_load_atF {P:Program}{ops:Array Oper}{rest:List Oper}{a:Act}{w:World}{Q:Exit→Act→World→Prop}{d:Option Tmp}{x:Operand}{T ty:TypeId}{ps:String}{af:Array Edge}
 {b o:Nat}{cs:List Value}(hc:w.rangeAt b o cs) (hT:RowT P T cs.length) (hx:a.eval x=.pointer (some ⟨b,o,none⟩))
 (h:wpList P ops Q rest (a.put d (.agg cs.toArray)) w):wpList P ops Q (⟨d,.load T x,ty,ps,af,none⟩ :: rest) a w:=by
 obtain ⟨D,hu,hd,hi⟩:=hT
 exact wpList_load_mid rfl _ x rfl b o hx cs D hc hu hd hi h
theorem renF_no {n t:List UInt8}{d:Dk}(hd:d.d=false) {i:Nat}(hi:findF n d.L=some i) (ht:nameF t=false):renF n t d=(d,1):=by
 unfold renF
 rw [hd,hi,ht]
 simp only [Bool.false_eq_true,if_false,if_true]
theorem renF_ok {n t:List UInt8}{d:Dk}(hd:d.d=false) {i:Nat}(hi:findF n d.L=some i) (ht:nameF t=true):renF n t d=(if (stepF d).2=true∧n≠t then ⟨renL d.L i t,(stepF d).1.s,(stepF d).1.f,(stepF d).1.d⟩ else (stepF d).1,resF (stepF d).2):=by
 unfold renF
 rw [hd,hi,ht]
 simp only [Bool.false_eq_true,if_false,stepF_L,Bool.true_eq_false]
def renM (L:List Fl) (i:Nat) (t:List UInt8):List Fl:=match findF t (outF L i) with | some k=>outF (outF L i) k | none=>outF L i
theorem renL_eq (L:List Fl) (i:Nat) (hi:i < L.length) (t:List UInt8):renL L i t=inF ⟨t,L[i].b,L[i].l⟩ (renM L i t):=by
 unfold renL renM
 simp only [List.getD,List.getElem?_eq_getElem hi,Option.getD_some]
 cases findF t (outF L i) <;> rfl
theorem outF_len (L:List Fl) (i:Nat):(outF L i).length≤L.length:=by
 unfold outF
 rw [List.length_append,List.length_take,List.length_drop]
 omega
theorem renM_len (L:List Fl) (i:Nat) (t:List UInt8):(renM L i t).length≤L.length:=by
 have h1:=outF_len L i
 unfold renM
 cases findF t (outF L i) with
 | none=>exact h1
 | some k=>exact Nat.le_trans (outF_len _ k) h1
structure RenK (p b:Nat) (w1:World) (O:List Nat) (y:Fm) (O4:List Nat) (wx:World):Prop where
 B:Bx wx b 73 (foC y)
 k:Kept [p] w1 wx
 o:Own wx y.v y.b
 y:∀ k,y.v.ownBlock=some k→k ∉ O4
 n:∀ k∈O4,k∈O∨w1.heap.size≤k
 b:b ∉ O4
def RenI (p b:Nat) (w1:World) (O:List Nat) (d:Dk) (y:Fm) (wx:World):Prop:=∃ O4,AtF wx O4 p d∧RenK p b w1 O y O4 wx
theorem RenK.step {p b:Nat}{w1 w3 w5:World}{O O3 O5:List Nat}{y:Fm}(h:RenK p b w1 O y O3 w3) (k:Kept [p] w3 w5) (hb:b≠p) (hy:∀ q,y.v.ownBlock=some q→q≠p∧q < w1.heap.size) (hn:∀ q∈O5,q∈O3∨w3.heap.size≤q):RenK p b w1 O y O5 w5:=by
 have hs:=h.k.size
 have hbl:=h.B.lt
 refine ⟨h.B.kept k (by simp;exact hb),h.k.trans k (fun q hq=>.inl hq),k.ownsRow h.o (fun q hq hm=>?_),fun q hq hm=>?_,fun q hq=>?_,fun hm=>?_⟩
 ·simp at hm;exact (hy q hq).1 hm
 ·rcases hn q hm with h1 | h1
  ·exact h.y q hq h1
  ·have:=(hy q hq).2;omega
 ·rcases hn q hq with h1 | h1
  ·exact h.n q h1
  ·exact .inr (by omega)
 ·rcases hn b hm with h1 | h1
  ·exact h.b h1
  ·omega
set_option linter.unusedSimpArgs false in
set_option maxHeartbeats 8000000 in
set_option maxRecDepth 100000 in
theorem drenF_call {w:World}{O:List Nat}{p:Nat}{d:Dk}{v:Value}{X:List Fm}(h:AtD w O p d v X) (hb:BdD d) (n:List UInt8) (t:List UInt8) :
 Calls Try.prog 23 #[.pointer (some ⟨p,0,none⟩),.string (str n),.string (str t)] w fun e w'=>e=.returned (.int .i64 (renF n t d).2)∧FdP p w O (renF n t d).1 w':=by
 have HH:=hide h
 have c3:=h.h.cell 3 rfl
 have hXl:X.length≤10000000:=by rw [h.len];exact hb.n
 cases hdd:d.d
 rotate_left
 ·have HE:Hid (renF n t d=(d,7)):=by show _=_;unfold renF;rw [hdd];rfl
  rw [hdd] at c3
  clear h hb hdd
  go_enter Try.func23,Try.ntmps23
  go_wp2_with fail
  go_ret
  rw [HE.out]
  exact ⟨rfl,HH.out.p (Kept.refl _ _) (fun k hk=>.inl hk)⟩
 rw [hdd] at c3
 have cF:=hide (dfindF_call h (by have:=hb.n;omega) n)
 cases hF:findF n d.L with
 | none =>
   have HE:Hid (renF n t d=(d,8)):=by show _=_;unfold renF;rw [hdd,hF];rfl
   rw [hF] at cF
   clear h hb hdd hF
   go_enter Try.func23,Try.ntmps23
   go_wp2_with (go_at_call 49;refine cF.out.mono ?_;clear cF;rintro _ w1 ⟨rfl,hw1⟩;obtain rfl:=hw1.symm;simp only [plF])
   go_ret
   rw [HE.out]
   exact ⟨rfl,HH.out.p (Kept.refl _ _) (fun k hk=>.inl hk)⟩
 | some i =>
 rw [hF] at cF
 have hiL:i < d.L.length:=by obtain ⟨h1,_⟩:=findF_lt hF;exact h1
 have hiX:i < X.length:=by rw [h.len];exact hiL
 have hii:¬ (i:Int) < 0:=by omega
 have hiX':(i:Int) < X.length:=by omega
 have cN:=hide (fun W=>dnameF_call W t)
 cases hnt:nameF t
 ·have HE:=hide (renF_no hdd hF hnt)
  rw [hnt] at cN
  clear h hb hdd hF hiL hnt
  go_enter Try.func23,Try.ntmps23
  go_upto_region 6 with (go_at_call 49;refine cF.out.mono ?_;clear cF;rintro _ w1 ⟨rfl,hw1⟩;obtain rfl:=hw1.symm;simp only [plF])
  go_wp2_with (go_at_call 47;refine (cN.out _).mono ?_;rintro _ w1 ⟨rfl,hw1⟩;obtain rfl:=hw1.symm)
  go_ret
  rw [HE.out]
  exact ⟨rfl,HH.out.p (Kept.refl _ _) (fun k hk=>.inl hk)⟩
 rw [hnt] at cN
 have HE:=hide (renF_ok hdd hF hnt)
 have cS:=hide (dstepF_call h hb.s hb.f)
 obtain ⟨q,hq⟩:∃ q,q=stepF d:=⟨_,rfl⟩
 have hqL:q.1.L=d.L:=by rw [hq];exact stepF_L d
 rw [← hq] at cS HE
 have HQL:=hide hqL
 have HPO:=hide h.pO
 have HIL:=hide hiL
 have hsd:=strB_dec n t
 cases hq2:q.2
 ·rw [hq2] at HE cS
  clear h hb hdd hF hq hqL hiL hq2 hnt hsd
  go_enter Try.func23,Try.ntmps23
  go_upto_region 6 with (go_at_call 49;refine cF.out.mono ?_;clear cF;rintro _ w1 ⟨rfl,hw1⟩;obtain rfl:=hw1.symm;simp only [plF])
  go_upto_region 8 with (go_at_call 47;refine (cN.out _).mono ?_;rintro _ w1 ⟨rfl,hw1⟩;obtain rfl:=hw1.symm)
  go_upto_region 9 with (go_at_call 48;refine cS.out.mono ?_;clear cS;rintro _ w1 ⟨rfl,h1,hk1⟩;have H1:=hide h1;have HK1:=hide hk1;clear h1 hk1)
  go_wp2_with (go_at_call 51;refine (dresF_call w1 false).mono ?_;rintro _ w9 ⟨rfl,hw9⟩;obtain rfl:=hw9.symm)
  go_ret
  rw [HE.out]
  refine ⟨rfl,?_⟩
  rw [if_neg (by simp)]
  exact H1.out.p (HK1.out.mono (by simp [HPO.out])) (fun k hk=>.inl hk)
 rw [hq2] at HE cS
 by_cases hne:n=t
 ·have hsq:((str n).toList==(str t).toList)=true:=by rw [hsd];simp [hne]
  have HNE:=hide hne
  clear h hb hdd hF hq hqL hiL hq2 hnt hsd hne
  go_enter Try.func23,Try.ntmps23
  go_upto_region 6 with (go_at_call 49;refine cF.out.mono ?_;clear cF;rintro _ w1 ⟨rfl,hw1⟩;obtain rfl:=hw1.symm;simp only [plF])
  go_upto_region 8 with (go_at_call 47;refine (cN.out _).mono ?_;rintro _ w1 ⟨rfl,hw1⟩;obtain rfl:=hw1.symm)
  go_upto_region 9 with (go_at_call 48;refine cS.out.mono ?_;clear cS;rintro _ w1 ⟨rfl,h1,hk1⟩;have H1:=hide h1;have HK1:=hide hk1;clear h1 hk1)
  go_wp2_with (go_at_call 51;refine (dresF_call w1 true).mono ?_;rintro _ w9 ⟨rfl,hw9⟩;obtain rfl:=hw9.symm)
  go_ret
  rw [HE.out]
  refine ⟨rfl,?_⟩
  rw [if_neg (by simp [HNE.out])]
  exact H1.out.p (HK1.out.mono (by simp [HPO.out])) (fun k hk=>.inl hk)
 have hsq:((str n).toList==(str t).toList)=false:=by rw [hsd];simp [hne]
 have HNE:=hide hne
 have HXl:=hide hXl
 clear hb hdd hF hq hq2 hnt hsd hne h hiL hqL
 go_enter Try.func23,Try.ntmps23
 go_upto_region 6 with (go_at_call 49;refine cF.out.mono ?_;clear cF;rintro _ w1 ⟨rfl,hw1⟩;obtain rfl:=hw1.symm;simp only [plF])
 go_upto_region 8 with (go_at_call 47;refine (cN.out _).mono ?_;rintro _ w1 ⟨rfl,hw1⟩;obtain rfl:=hw1.symm)
 go_upto_region 9 with (go_at_call 48;refine cS.out.mono ?_;clear cS;rintro _ w1 ⟨rfl,h1,hk1⟩;have H1:=hide h1;have HK1:=hide hk1;clear h1 hk1)
 rcases Rk.shape2 H1.out.r with ⟨_,e6⟩ | ⟨g,c,hv,hc,hm,hel⟩
 ·subst e6;simp at hiX
 subst hv
 unfold maxLen at hm
 have c0:=H1.out.h.cell 0 rfl
 obtain ⟨y,hy⟩:∃ y,y=X[i]:=⟨_,rfl⟩
 have HY:=hide hy
 have HEL:Hid (w1.rangeAt g (i*3) (foC y)):=by rw [hy];exact hel i hiX
 have HTO:Hid (RowT Try.prog 73 (foC y).length):=rowT_one
 have HLO:Hid ((foC y).length=[Value.string ⟨#[]⟩,.slice none 0 0,.int .i64 0].length):=rfl
 have HOO:Hid (∀ v∈foC y,v.oneCell'=true):=rkO.one y
 have HBZ:Hid (Bx (w1.alloc (.cells #[.string ⟨#[]⟩,.slice none 0 0,.int .i64 0] 73)) w1.heap.size 73 [.string ⟨#[]⟩,.slice none 0 0,.int .i64 0]):=Bx.new w1 _ _
 have HKZ:Hid (Kept [] w1 (w1.alloc (.cells #[.string ⟨#[]⟩,.slice none 0 0,.int .i64 0] 73))):=(Kept.refl _ _).alloc _
 clear hy hel
 go_upto_region 11 with (first | ((with_reducible refine wl_load_atF HEL.out HTO.out ?_ ?_);rfl) | ((with_reducible refine wl_store_bx HBZ.out HLO.out HOO.out HTO.out ?_ ?_ ?_);rfl;rfl;intro w2 HB2 HK2))
 have hk12:Kept [] w1 w2:=HKZ.out.trans HK2.out (by intro k hk;simp at hk;exact .inr (by omega))
 have hwl:w1.heap.size < w2.heap.size:=HB2.out.lt
 have H2:=hide (H1.out.kept hk12 (by simp))
 have cO:=hide (doutF_call H2.out (by have:=HXl.out;omega) i hiX)
 have hyo:Own w1 y.v y.b:=by rw [HY.out];exact H1.out.o _ (List.getElem_mem hiX)
 have hyb:∀ k,y.v.ownBlock=some k→k∈O∧k≠p∧k < w1.heap.size:=fun k hk=>by
  rw [HY.out] at hk
  have h1:=H1.out.blk.2 k (List.mem_flatMap.2 ⟨X[i],List.getElem_mem hiX,by simp [hk]⟩)
  exact ⟨h1.2,h1.1,H1.out.lt k h1.2⟩
 have HYO:=hide hyo
 have HYB:=hide hyb
 have HK12:=hide hk12
 have hpl:p < w1.heap.size:=H1.out.h.lt
 clear hyo hyb hk12 c0 HEL HLO HOO HBZ HKZ HK2
 go_upto_region 12 with (go_at_call 56;refine cO.out.mono ?_;clear cO;rintro _ w3 ⟨rfl,hI⟩;have HI:=hide hI;clear hI)
 obtain ⟨v3,h3,hk3,hn3⟩:=HI.out.at H2.out hiX
 have HR3:Hid (RenK p w1.heap.size w1 O y (blD p v3 (X.take i++X.drop (i+1))) w3):=by
  refine ⟨HB2.out.kept hk3 (by simp;omega),(HK12.out.mono (by simp)).trans hk3 (by simp),((HK12.out.mono (by simp)).trans hk3 (fun q hq=>.inl hq):Kept [p] w1 w3).ownsRow HYO.out (fun k hk hm=>?_),fun k hk hm=>?_,fun k hk=>?_,fun hm=>?_⟩
  ·simp at hm;subst hm;exact (HYB.out _ hk).2.1 rfl
  ·rcases hn3 k hm with h4 | h4
   ·rw [HY.out] at hk;exact h4.2 hk
   ·have:=(HYB.out k hk).2.2;omega
  ·rcases hn3 k hk with h4 | h4
   ·exact .inl h4.1
   ·exact .inr (by omega)
  ·rcases hn3 _ hm with h4 | h4
   ·have:=H1.out.lt _ h4.1;omega
   ·omega
 have h3l:(X.take i++X.drop (i+1)).length≤10000000:=by have:=HXl.out;rw [List.length_append,List.length_take,List.length_drop];omega
 have cF2:=hide (dfindF_call h3 (by rw [← h3.len];omega) t)
 have H3:=hide h3
 have HDM:Hid (renM q.1.L i t=match findF t (outF q.1.L i) with | some k=>outF (outF q.1.L i) k | none=>outF q.1.L i):=rfl
 clear h3 hk3 hn3 HI
 go_upto_if 45 with (go_at_call 49;refine cF2.out.mono ?_;clear cF2;rintro _ w4 ⟨rfl,hw4⟩;obtain rfl:=hw4.symm)
 go_cut [10] from 11 (fun _ wx=>Hid (RenI p w1.heap.size w1 O ⟨renM q.1.L i t,q.1.s,q.1.f,q.1.d⟩ y wx))
 case first =>
  cases hft:findF t (outF q.1.L i) with
  | none =>
    rw [hft] at HDM
    simp only at HDM
    simp only [plF]
    clear hft
    go_wp2_with fail
    go_meet
    exact (by rw [HDM.out];exact ⟨_,⟨_,_,H3.out⟩,HR3.out⟩)
  | some j =>
    rw [hft] at HDM
    simp only at HDM
    have hjl:j < (outF q.1.L i).length:=by obtain ⟨h1,_⟩:=findF_lt hft;exact h1
    have hjX:j < (X.take i++X.drop (i+1)).length:=by rw [H3.out.len];exact hjl
    have cO2:=hide (doutF_call H3.out (by omega) j hjX)
    have hj:¬ (j:Int) < 0:=by omega
    have HJX:=hide hjX
    simp only [plF]
    clear hft hjl hjX
    go_wp2_with (go_at_call 56;refine cO2.out.mono ?_;clear cO2;rintro _ w5 ⟨rfl,hI⟩;have HI:=hide hI;clear hI)
    go_meet
    exact (show RenI p w1.heap.size w1 O ⟨renM q.1.L i t,q.1.s,q.1.f,q.1.d⟩ y w5 by
     rw [HDM.out]
     obtain ⟨v5,h5,hk5,hn5⟩:=HI.out.at H3.out HJX.out
     exact ⟨_,⟨_,_,h5⟩,HR3.out.step hk5 (by omega) (fun q hq=>(HYB.out q hq).2) (fun q hq=>by
      rcases hn5 q hq with h6 | h6
      ·exact .inl h6.1
      ·exact .inr h6)⟩)
 obtain ⟨O4,⟨v4,X4,h4⟩,hR4⟩:=hcut.out
 have hX4:X4.length≤10000000:=by
  have h6:=renM_len q.1.L i t
  rw [h4.len]
  show (renM q.1.L i t).length≤_
  have h7:=H1.out.len
  have:=HXl.out
  omega
 have b0:=hR4.B.cell 0 rfl
 have z0:=hR4.B.froz 0
 have HBS:Hid (Bx (wc.setCell ⟨w1.heap.size,0,none⟩ (.string (str t))) w1.heap.size 73 (foC { y with n:=t })):=hR4.B.set 0 (.string (str t))
 have hks:Kept [w1.heap.size] wc (wc.setCell ⟨w1.heap.size,0,none⟩ (.string (str t))):=(Kept.refl _ _).setCell (by simp) _
 have HTO2:Hid (RowT Try.prog 73 (foC { y with n:=t }).length):=rowT_one
 have h5:=h4.kept hks (fun k hk hm=>by simp at hm;subst hm;exact hR4.b hk)
 have ho5:Own (wc.setCell ⟨w1.heap.size,0,none⟩ (.string (str t))) y.v y.b:=hks.ownsRow hR4.o (fun k hk hm=>by simp at hm;subst hm;have:=(HYB.out _ hk).2.2;omega)
 have cI:=hide (dinF_call h5 (by omega) { y with n:=t } ho5 hR4.y)
 have H5:=hide h5
 have HKS:=hide hks
 have HR4:=hide hR4
 clear h4 hR4 hks ho5 h5 hcut
 go_upto_region 16 with fail
 generalize wc.setCell ⟨w1.heap.size,0,none⟩ (.string (str t))=w6 at HBS cI H5 HKS ⊢
 clear b0 z0
 go_upto_region 17 with (first | ((with_reducible refine wl_load_bx HBS.out HTO2.out ?_ ?_);rfl) | (go_at_call 50;refine cI.out.mono ?_;clear cI;rintro _ w7 ⟨rfl,hI⟩;have HI7:=hide hI;clear hI))
 go_wp2_with (go_at_call 51;refine (dresF_call w7 true).mono ?_;rintro _ w9 ⟨rfl,hw9⟩;obtain rfl:=hw9.symm)
 go_ret
 rw [HE.out]
 refine ⟨rfl,?_⟩
 rw [if_pos ⟨trivial,HNE.out⟩]
 obtain ⟨O7,h7,hk7,hn7⟩:=HI7.out.at H5.out
 have hKp:Kept O w w1:=HK1.out.mono (by simp [HPO.out])
 have e7:(⟨renL d.L i t,q.1.s,q.1.f,q.1.d⟩:Dk)=⟨inF (Fm.fl { y with n:=t }) (renM q.1.L i t),q.1.s,q.1.f,q.1.d⟩:=by
  rw [renL_eq d.L i HIL.out t,HQL.out]
  have h8:=HH.out.get hiX HIL.out
  rw [← HY.out] at h8
  have h9:(d.L[i]'HIL.out).b=y.b:=by rw [h8];rfl
  have h10:(d.L[i]'HIL.out).l=y.l:=by rw [h8];rfl
  simp only [h9,h10];rfl
 rw [e7]
 refine ⟨O7,h7,?_,fun k hk=>?_⟩
 ·have k1:Kept [p,w1.heap.size] w1 w7:=((HR4.out.k.mono (by simp)).trans HKS.out (by simp)).trans hk7 (by simp)
  exact hKp.trans k1 (fun k hk=>by
   simp at hk
   rcases hk with rfl | rfl
   ·exact .inl HPO.out
   ·exact .inr HK1.out.size)
 ·rcases hn7 k hk with h9 | h9 | h9
  ·rcases HR4.out.n k h9 with h10 | h10
   ·exact .inl h10
   ·exact .inr (Nat.le_trans HK1.out.size h10)
  ·exact .inl (HYB.out k h9).1
  ·exact .inr (Nat.le_trans (HK1.out.trans ((HR4.out.k.mono (by simp)).trans HKS.out (by simp):Kept [p,w1.heap.size] w1 w6) (fun k hk=>by simp at hk;rcases hk with rfl | rfl;exact .inl (by simp);exact .inr HK1.out.size)).size h9)
end Go.Proofs.Yteiagkjhmhllnaa
