/-
  The document's disk: Sync, Remove, Fuse. (Written by mk/mkdsyn.py.)
-/
import Derived.Test.YteiagkjhmhllnaaRegG
import Derived.Test.YteiagkjhmhllnaaFdApp
namespace Go.Proofs.Yteiagkjhmhllnaa
open Go.RowKit
theorem synF_ok {n:List UInt8}{d:Dk}(hd:d.d=false) {i:Nat}(hi:findF n d.L=some i):synF n d=(if (stepF d).2=true then ⟨updF d.L i (fun x=>⟨x.n,x.b,x.b.length⟩),(stepF d).1.s,(stepF d).1.f,(stepF d).1.d⟩ else (stepF d).1,resF (stepF d).2):=by
 unfold synF
 rw [hd,hi]
 simp only [Bool.false_eq_true,if_false,stepF_L]
theorem rmvF_ok {n:List UInt8}{d:Dk}(hd:d.d=false) {i:Nat}(hi:findF n d.L=some i):rmvF n d=(if (stepF d).2=true then ⟨outF d.L i,(stepF d).1.s,(stepF d).1.f,(stepF d).1.d⟩ else (stepF d).1,resF (stepF d).2):=by
 unfold rmvF
 rw [hd,hi]
 simp only [Bool.false_eq_true,if_false,stepF_L]
theorem truF_ok {n:List UInt8}{k:Int}{d:Dk}(hd:d.d=false) {i:Nat}(hi:findF n d.L=some i) (hiL:i < d.L.length) (hk:¬ (k < 0∨(d.L[i].b.length:Int) < k)):truF n k d=(if (stepF d).2=true then ⟨updF d.L i (fun x=>⟨x.n,x.b.take k.toNat,min x.l k.toNat⟩),(stepF d).1.s,(stepF d).1.f,(stepF d).1.d⟩ else (stepF d).1,resF (stepF d).2):=by
 unfold truF
 rw [hd,hi]
 simp only [Bool.false_eq_true,if_false,stepF_L]
 rw [if_neg]
 rw [List.getD,List.getElem?_eq_getElem hiL]
 exact hk
theorem truF_no {n:List UInt8}{k:Int}{d:Dk}(hd:d.d=false) {i:Nat}(hi:findF n d.L=some i) (hiL:i < d.L.length) (hk:k < 0∨(d.L[i].b.length:Int) < k):truF n k d=(d,1):=by
 unfold truF
 rw [hd,hi]
 simp only [Bool.false_eq_true,if_false]
 rw [if_pos]
 rw [List.getD,List.getElem?_eq_getElem hiL]
 exact hk
theorem OutP.at {w w':World}{O:List Nat}{p:Nat}{d:Dk}{v:Value}{X:List Fm}{i:Nat}(hI:OutP p w d X i w') (h:AtD w O p d v X) (hi:i < X.length):∃ v',AtD w' (blD p v' (X.take i++X.drop (i+1))) p ⟨outF d.L i,d.s,d.f,d.d⟩ v' (X.take i++X.drop (i+1))∧Kept [p] w w'∧(∀ k∈blD p v' (X.take i++X.drop (i+1)),(k∈O∧X[i].v.ownBlock≠some k)∨w.heap.size≤k):=by
 obtain ⟨v',h1,h2,h3⟩:=hI
 refine ⟨v',h1,h2,fun k hk=>?_⟩
 obtain ⟨hn,hb⟩:=h.blk
 have hpm:=blF_set X i hi X[i]
 rw [List.set_getElem_self] at hpm
 rw [hpm.nodup_iff,List.nodup_append] at hn
 rcases List.mem_cons.1 hk with rfl | hk
 ·refine .inl ⟨h.pO,fun e=>?_⟩
  exact (hb _ (List.mem_flatMap.2 ⟨X[i],List.getElem_mem hi,by simp [e]⟩)).1 rfl
 ·rcases List.mem_append.1 hk with hk | hk
  ·exact .inr (h3 k (by simpa using hk))
  ·refine .inl ⟨(hb k ((blF_out X i).mem hk)).2,fun e=>?_⟩
   exact hn.2.2 k (by simp [e]) k hk rfl
set_option linter.unusedSimpArgs false in
set_option maxHeartbeats 8000000 in
set_option maxRecDepth 100000 in
theorem dsynF_call {w:World}{O:List Nat}{p:Nat}{d:Dk}{v:Value}{X:List Fm}(h:AtD w O p d v X) (hb:BdD d) (n:List UInt8) :
 Calls Try.prog 19 #[.pointer (some ⟨p,0,none⟩),.string (str n)] w fun e w'=>e=.returned (.int .i64 (synF n d).2)∧FdP p w O (synF n d).1 w':=by
 have HH:=hide h
 have c3:=h.h.cell 3 rfl
 have hXl:X.length≤10000000:=by rw [h.len];exact hb.n
 cases hdd:d.d
 rotate_left
 ·have HE:Hid (synF n d=(d,7)):=by show _=_;unfold synF;rw [hdd];rfl
  rw [hdd] at c3
  clear h hb hdd
  go_enter Try.func19,Try.ntmps19
  go_wp2_with fail
  go_ret
  rw [HE.out]
  exact ⟨rfl,HH.out.p (Kept.refl _ _) (fun k hk=>.inl hk)⟩
 rw [hdd] at c3
 have cF:=hide (dfindF_call h (by have:=hb.n;omega) n)
 cases hF:findF n d.L with
 | none =>
   have HE:Hid (synF n d=(d,8)):=by show _=_;unfold synF;rw [hdd,hF];rfl
   rw [hF] at cF
   clear h hb hdd hF
   go_enter Try.func19,Try.ntmps19
   go_wp2_with (go_at_call 49;refine cF.out.mono ?_;clear cF;rintro _ w1 ⟨rfl,hw1⟩;obtain rfl:=hw1.symm;simp only [plF])
   go_ret
   rw [HE.out]
   exact ⟨rfl,HH.out.p (Kept.refl _ _) (fun k hk=>.inl hk)⟩
 | some i =>
 rw [hF] at cF
 have hiL:i < d.L.length:=by obtain ⟨h1,_⟩:=findF_lt hF;exact h1
 have hiX:i < X.length:=by rw [h.len];exact hiL
 have HE:=hide (synF_ok hdd hF)
 have cS:=hide (dstepF_call h hb.s hb.f)
 obtain ⟨q,hq⟩:∃ q,q=stepF d:=⟨_,rfl⟩
 have hqL:q.1.L=d.L:=by rw [hq];exact stepF_L d
 rw [← hq] at cS HE
 have HQL:=hide hqL
 have HPO:=hide h.pO
 have hii:¬ (i:Int) < 0:=by omega
 have hiX':(i:Int) < X.length:=by omega
 obtain ⟨ao,c,hv,hc,hm,_,hat⟩:=Rk.shape h.r
 subst hv
 unfold maxLen at hm
 obtain ⟨g,he,_⟩:=hat i hiX
 subst he
 have hyl:X[i].b.length≤10000000000:=by have:=hb.b d.L[i] (List.getElem_mem hiL);rw [h.get hiX hiL] at this;exact this
 have HUP:Hid (updF d.L i (fun x=>⟨x.n,x.b,X[i].b.length⟩)=updF d.L i (fun x=>⟨x.n,x.b,x.b.length⟩)):=by
  show _=_
  rw [updF_at d.L i hiL,updF_at d.L i hiL,h.get hiX hiL];rfl
 have HIX:=hide hiX
 cases hq2:q.2
 ·rw [hq2] at HE cS
  clear h hb hdd hF hq hqL hiL hat hq2
  go_enter Try.func19,Try.ntmps19
  go_upto_region 6 with (go_at_call 49;refine cF.out.mono ?_;clear cF;rintro _ w1 ⟨rfl,hw1⟩;obtain rfl:=hw1.symm;simp only [plF])
  go_upto_region 7 with (go_at_call 48;refine cS.out.mono ?_;clear cS;rintro _ w1 ⟨rfl,h1,hk1⟩;have H1:=hide h1;have HK1:=hide hk1;clear h1 hk1)
  go_wp2_with (go_at_call 51;refine (dresF_call w1 false).mono ?_;rintro _ w9 ⟨rfl,hw9⟩;obtain rfl:=hw9.symm)
  go_ret
  rw [HE.out]
  exact ⟨rfl,H1.out.p (HK1.out.mono (by simp [HPO.out])) (fun k hk=>.inl hk)⟩
 ·rw [hq2] at HE cS
  clear h hb hdd hF hq hqL hiL hat hq2
  go_enter Try.func19,Try.ntmps19
  go_upto_region 6 with (go_at_call 49;refine cF.out.mono ?_;clear cF;rintro _ w1 ⟨rfl,hw1⟩;obtain rfl:=hw1.symm;simp only [plF])
  go_upto_region 7 with (go_at_call 48;refine cS.out.mono ?_;clear cS;rintro _ w1 ⟨rfl,h1,hk1⟩;have H1:=hide h1;have HK1:=hide hk1;clear h1 hk1)
  have c0:=H1.out.h.cell 0 rfl
  have hro:=Rk.shape2 H1.out.r
  obtain ⟨g',c',hv',_,_,hel⟩:∃ g' c',Value.slice (some ⟨g,0,none⟩) X.length c=.slice (some ⟨g',0,none⟩) X.length c'∧X.length≤c'∧c'≤maxLen∧∀ i (hi:i < X.length),w1.rangeAt g' (i*rkO.k) (rkO.c X[i]):=by
   rcases hro with ⟨h1,_⟩ | h1
   ·cases h1
   ·exact h1
  simp only [Value.slice.injEq,Option.some.injEq,Addr.mk.injEq,and_true,true_and] at hv'
  obtain ⟨rfl,rfl⟩:=hv'
  have e1:w1.cell? ⟨g,i*3+1,none⟩=some (.slice X[i].ao X[i].b.length X[i].c):=hel i hiX 1 _ rfl
  have e2:w1.cell? ⟨g,i*3+2,none⟩=some (.int .i64 X[i].l):=hel i hiX 2 _ rfl
  have z2:w1.drew.frozen? ⟨g,i*3+2,none⟩=false:=World.ownsRow.frozenAt (Rk.kept H1.out.r (Kept.refl [] w1).drew (by simp)) _
  have hgp:g≠p:=(H1.out.apart (g:=g) rfl).2.1
  have HSL:=hide (fun d'=>H1.out.setL (d':=d') (Kept.refl [] w1).drew i hiX X[i].b.length)
  have HG:Hid (g∈O):=(H1.out.apart (g:=g) rfl).1
  clear hel hro
  generalize X[i].b.length=m at e1 hyl HUP HSL
  generalize X[i].l=lo at e2
  go_upto_region 8 with fail
  refine wp_region_held_drew (S:=fun w9=>w9.cell? ⟨p,0,none⟩=some (.slice (some ⟨g,0,none⟩) X.length c)∧w9.cell? ⟨g,i*3+1,none⟩=some (.slice X[i].ao m X[i].c)) (by kernel_rfl) ⟨c0,e1⟩ (fun hHeld=>?_)
  refine tks [0,1,2,3,4,5,6,7,8,9,10,11,12,13,14,15] (by rfl) (by kernel_rfl) (fun _ _ _ _ _ h=>h) hHeld ?_
  iterate 16
   refine yk ?_ rfl (Or.inl ⟨by rfl,?_⟩) ?_
   rotate_left
   ·intro w9 hSw;obtain ⟨m0,m1⟩:=hSw;go_simp;(try with_reducible rfl)
   try simp only [sT,Act.put]
  refine yk0 ?_
  simp only [setK,sT]
  have e2d:w1.drew.cell? ⟨g,i*3+2,none⟩=some (.int .i64 lo):=e2
  refine rd1 16 (by kernel_rfl) rfl (fun K0 hK0=>?_)
  go_simp
  have hk6:Kept [g] w1 (w1.drew.setCell ⟨g,i*3+2,none⟩ (.int .i64 m)):=(Kept.refl [g] w1).drew.setCell (.inl (by simp)) _
  have c06:=hk6.cell c0 (by simp;omega)
  have e16:(w1.drew.setCell ⟨g,i*3+2,none⟩ (.int .i64 m)).cell? ⟨g,i*3+1,none⟩=some (.slice X[i].ao m X[i].c):=by
   rw [World.cell?_setCell_other _ _ _ _ (by intro h9;injection h9 with h10 h11;omega)];exact e1
  refine hK0.out _ _ ⟨c06,e16⟩ (fun hHeld=>?_)
  clear hK0 K0 e16 c06 e2d
  try simp only [sT,Act.put]
  refine wpAnyH_done (by kernel_rfl) ?_ _
  clear hHeld
  have HK6:=hide hk6
  have HFN:=hide (HSL.out ⟨updF d.L i (fun x=>⟨x.n,x.b,m⟩),q.1.s,q.1.f,q.1.d⟩ (by rw [HQL.out]) rfl rfl rfl)
  clear hk6 HSL e1 e2 z2 c0
  have e6:w1.drew.setCell ⟨g,i*3+2,none⟩ (.int .i64 m)=(w1.setCell ⟨g,i*3+2,none⟩ (.int .i64 m)).drew:=rfl
  rw [e6] at HK6 HFN
  generalize (w1.setCell ⟨g,i*3+2,none⟩ (.int .i64 m)).drew=w6 at HK6 HFN ⊢
  go_wp2_with (go_at_call 51;refine (dresF_call w6 true).mono ?_;rintro _ w9 ⟨rfl,hw9⟩;obtain rfl:=hw9.symm)
  go_ret
  rw [HE.out]
  refine ⟨rfl,?_⟩
  have h9:=HFN.out.1
  rw [HUP.out] at h9
  exact h9.p ((HK1.out.mono (by simp [HPO.out])).trans HK6.out (by simp [HG.out])) (fun k hk=>.inl hk)
set_option linter.unusedSimpArgs false in
set_option maxHeartbeats 8000000 in
set_option maxRecDepth 100000 in
theorem drmvF_call {w:World}{O:List Nat}{p:Nat}{d:Dk}{v:Value}{X:List Fm}(h:AtD w O p d v X) (hb:BdD d) (n:List UInt8) :
 Calls Try.prog 25 #[.pointer (some ⟨p,0,none⟩),.string (str n)] w fun e w'=>e=.returned (.int .i64 (rmvF n d).2)∧FdP p w O (rmvF n d).1 w':=by
 have HH:=hide h
 have c3:=h.h.cell 3 rfl
 have hXl:X.length≤10000000:=by rw [h.len];exact hb.n
 cases hdd:d.d
 rotate_left
 ·have HE:Hid (rmvF n d=(d,7)):=by show _=_;unfold rmvF;rw [hdd];rfl
  rw [hdd] at c3
  clear h hb hdd
  go_enter Try.func25,Try.ntmps25
  go_wp2_with fail
  go_ret
  rw [HE.out]
  exact ⟨rfl,HH.out.p (Kept.refl _ _) (fun k hk=>.inl hk)⟩
 rw [hdd] at c3
 have cF:=hide (dfindF_call h (by have:=hb.n;omega) n)
 cases hF:findF n d.L with
 | none =>
   have HE:Hid (rmvF n d=(d,8)):=by show _=_;unfold rmvF;rw [hdd,hF];rfl
   rw [hF] at cF
   clear h hb hdd hF
   go_enter Try.func25,Try.ntmps25
   go_wp2_with (go_at_call 49;refine cF.out.mono ?_;clear cF;rintro _ w1 ⟨rfl,hw1⟩;obtain rfl:=hw1.symm;simp only [plF])
   go_ret
   rw [HE.out]
   exact ⟨rfl,HH.out.p (Kept.refl _ _) (fun k hk=>.inl hk)⟩
 | some i =>
 rw [hF] at cF
 have hiL:i < d.L.length:=by obtain ⟨h1,_⟩:=findF_lt hF;exact h1
 have hiX:i < X.length:=by rw [h.len];exact hiL
 have HE:=hide (rmvF_ok hdd hF)
 have cS:=hide (dstepF_call h hb.s hb.f)
 obtain ⟨q,hq⟩:∃ q,q=stepF d:=⟨_,rfl⟩
 have hqL:q.1.L=d.L:=by rw [hq];exact stepF_L d
 rw [← hq] at cS HE
 have HQL:=hide hqL
 have HPO:=hide h.pO
 have hii:¬ (i:Int) < 0:=by omega
 have hiX':(i:Int) < X.length:=by omega
 cases hq2:q.2
 ·rw [hq2] at HE cS
  clear h hb hdd hF hq hqL hiL hq2
  go_enter Try.func25,Try.ntmps25
  go_upto_region 6 with (go_at_call 49;refine cF.out.mono ?_;clear cF;rintro _ w1 ⟨rfl,hw1⟩;obtain rfl:=hw1.symm;simp only [plF])
  go_upto_region 7 with (go_at_call 48;refine cS.out.mono ?_;clear cS;rintro _ w1 ⟨rfl,h1,hk1⟩;have H1:=hide h1;have HK1:=hide hk1;clear h1 hk1)
  go_wp2_with (go_at_call 51;refine (dresF_call w1 false).mono ?_;rintro _ w9 ⟨rfl,hw9⟩;obtain rfl:=hw9.symm)
  go_ret
  rw [HE.out]
  exact ⟨rfl,H1.out.p (HK1.out.mono (by simp [HPO.out])) (fun k hk=>.inl hk)⟩
 ·rw [hq2] at HE cS
  clear h hb hdd hF hq hqL hiL hq2
  go_enter Try.func25,Try.ntmps25
  go_upto_region 6 with (go_at_call 49;refine cF.out.mono ?_;clear cF;rintro _ w1 ⟨rfl,hw1⟩;obtain rfl:=hw1.symm;simp only [plF])
  go_upto_region 7 with (go_at_call 48;refine cS.out.mono ?_;clear cS;rintro _ w1 ⟨rfl,h1,hk1⟩;have H1:=hide h1;have HK1:=hide hk1;clear h1 hk1)
  have cO:=hide (doutF_call H1.out (by omega) i hiX)
  go_upto_region 9 with (go_at_call 56;refine cO.out.mono ?_;clear cO;rintro _ w2 ⟨rfl,hI⟩;have HI:=hide hI;clear hI)
  go_wp2_with (go_at_call 51;refine (dresF_call w2 true).mono ?_;rintro _ w9 ⟨rfl,hw9⟩;obtain rfl:=hw9.symm)
  go_ret
  rw [HE.out]
  refine ⟨rfl,?_⟩
  obtain ⟨v2,h2,hk2,hn2⟩:=HI.out.at H1.out hiX
  rw [HQL.out] at h2
  exact h2.p ((HK1.out.mono (by simp [HPO.out])).trans (hk2.mono (by simp [HPO.out])) (fun k hk=>.inl hk)) (fun k hk=>by
   rcases hn2 k hk with h4 | h4
   ·exact .inl h4.1
   ·exact .inr (Nat.le_trans HK1.out.size h4))
set_option linter.unusedSimpArgs false in
set_option maxHeartbeats 8000000 in
set_option maxRecDepth 100000 in
theorem darmF_call {w:World}{O:List Nat}{p:Nat}{d:Dk}{v:Value}{X:List Fm}(h:AtD w O p d v X) (k:Int) :
 Calls Try.prog 26 #[.pointer (some ⟨p,0,none⟩),.int .i64 k] w fun e w'=>e=.returned (.tuple #[])∧FdP p w O (armF k d) w':=by
 have HH:=hide h
 have HPO:=hide h.pO
 have c2:=h.h.cell 2 rfl
 have c3:=h.h.cell 3 rfl
 have z2:=h.h.froz 2
 cases hdd:d.d
 ·rw [hdd] at c3
  have HB:Hid (∀ m,Bx (w.setCell ⟨p,2,none⟩ (.int .i64 m)) p 70 [v,.int .i64 d.s,.int .i64 m,.bool d.d]):=fun m=>h.h.set 2 _
  have HK:Hid (∀ m,Kept [p] w (w.setCell ⟨p,2,none⟩ (.int .i64 m))):=fun m=>(Kept.refl _ _).setCell (by simp) _
  by_cases hk:k < -1
  ·have HE:Hid (armF k d=⟨d.L,d.s,-1,d.d⟩):=by show _=_;unfold armF;rw [hdd,show max k (-1)=-1 by omega];rfl
   clear h hdd
   go_enter Try.func26,Try.ntmps26
   go_wp2_with fail
   go_returns
   rw [HE.out]
   exact ⟨rfl,(HH.out.head (d':=⟨d.L,d.s,-1,d.d⟩) (HB.out _) (HK.out _) rfl).p ((HK.out _).mono (by simp [HPO.out])) (fun q hq=>.inl hq)⟩
  ·have HE:Hid (armF k d=⟨d.L,d.s,k,d.d⟩):=by show _=_;unfold armF;rw [hdd,show max k (-1)=k by omega];rfl
   clear h hdd
   go_enter Try.func26,Try.ntmps26
   go_wp2_with fail
   go_returns
   rw [HE.out]
   exact ⟨rfl,(HH.out.head (d':=⟨d.L,d.s,k,d.d⟩) (HB.out _) (HK.out _) rfl).p ((HK.out _).mono (by simp [HPO.out])) (fun q hq=>.inl hq)⟩
 ·have HE:Hid (armF k d=d):=by show _=_;unfold armF;rw [hdd];rfl
  rw [hdd] at c3
  clear h hdd
  go_enter Try.func26,Try.ntmps26
  go_wp2_with fail
  go_returns
  rw [HE.out]
  exact ⟨rfl,HH.out.p (Kept.refl _ _) (fun q hq=>.inl hq)⟩
end Go.Proofs.Yteiagkjhmhllnaa
