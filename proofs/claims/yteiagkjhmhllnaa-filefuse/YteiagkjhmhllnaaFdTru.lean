/-
  The document's disk: Truncate. (Written by mk/mkdsyn.py.)
-/
import Derived.Test.YteiagkjhmhllnaaRegG
import Derived.Test.YteiagkjhmhllnaaFdSyn
namespace Go.Proofs.Yteiagkjhmhllnaa
open Go.RowKit
theorem upd2 {L:List Fl}{i:Nat}{y:Fl}(h:L[i]?=some y) (b:List Int) (m:Nat):updF (updF L i (fun x=>⟨x.n,b,x.l⟩)) i (fun x=>⟨x.n,x.b,m⟩)=L.set i ⟨y.n,b,m⟩:=by
 obtain ⟨hi,_⟩:=List.getElem?_eq_some_iff.1 h
 unfold updF
 rw [h]
 simp only
 rw [List.getElem?_set_self hi]
 simp only
 rw [List.set_set]
theorem upd1 {L:List Fl}{i:Nat}{y:Fl}(h:L[i]?=some y) {g:Fl→Fl}:updF L i g=L.set i (g y):=by
 unfold updF
 rw [h]
set_option linter.unusedSimpArgs false in
set_option maxHeartbeats 8000000 in
set_option maxRecDepth 100000 in
theorem dtruF_call {w:World}{O:List Nat}{p:Nat}{d:Dk}{v:Value}{X:List Fm}(h:AtD w O p d v X) (hb:BdD d) (n:List UInt8) (k:Int) :
 Calls Try.prog 21 #[.pointer (some ⟨p,0,none⟩),.string (str n),.int .i64 k] w fun e w'=>e=.returned (.int .i64 (truF n k d).2)∧FdP p w O (truF n k d).1 w':=by
 have HH:=hide h
 have c3:=h.h.cell 3 rfl
 have hXl:X.length≤10000000:=by rw [h.len];exact hb.n
 cases hdd:d.d
 rotate_left
 ·have HE:Hid (truF n k d=(d,7)):=by show _=_;unfold truF;rw [hdd];rfl
  rw [hdd] at c3
  clear h hb hdd
  go_enter Try.func21,Try.ntmps21
  go_wp2_with fail
  go_ret
  rw [HE.out]
  exact ⟨rfl,HH.out.p (Kept.refl _ _) (fun k hk=>.inl hk)⟩
 rw [hdd] at c3
 have cF:=hide (dfindF_call h (by have:=hb.n;omega) n)
 cases hF:findF n d.L with
 | none =>
   have HE:Hid (truF n k d=(d,8)):=by show _=_;unfold truF;rw [hdd,hF];rfl
   rw [hF] at cF
   clear h hb hdd hF
   go_enter Try.func21,Try.ntmps21
   go_wp2_with (go_at_call 49;refine cF.out.mono ?_;clear cF;rintro _ w1 ⟨rfl,hw1⟩;obtain rfl:=hw1.symm;simp only [plF])
   go_ret
   rw [HE.out]
   exact ⟨rfl,HH.out.p (Kept.refl _ _) (fun k hk=>.inl hk)⟩
 | some i =>
 rw [hF] at cF
 have hiL:i < d.L.length:=by obtain ⟨h1,_⟩:=findF_lt hF;exact h1
 have hiX:i < X.length:=by rw [h.len];exact hiL
 have hii:¬ (i:Int) < 0:=by omega
 have hiX':(i:Int) < X.length:=by omega
 obtain ⟨ao,c,hv,hc,hm,_,hat⟩:=Rk.shape h.r
 subst hv
 unfold maxLen at hm
 obtain ⟨g,he,hel⟩:=hat i hiX
 subst he
 have hyl:X[i].b.length≤10000000000:=by have:=hb.b d.L[i] (List.getElem_mem hiL);rw [h.get hiX hiL] at this;exact this
 have hLe:d.L[i]=X[i].fl:=h.get hiX hiL
 have c0:=h.h.cell 0 rfl
 have e1:w.cell? ⟨g,i*3+1,none⟩=some (.slice X[i].ao X[i].b.length X[i].c):=hel 1 _ rfl
 by_cases hk:k < 0∨(X[i].b.length:Int) < k
 ·have HE:Hid (truF n k d=(d,1)):=truF_no hdd hF hiL (by rw [hLe];exact hk)
  generalize X[i].b.length=bl at e1 hk
  clear h hb hdd hF hiL hat hel hLe hyl
  by_cases hk0:k < 0
  ·clear hk
   go_enter Try.func21,Try.ntmps21
   go_upto_region 6 with (go_at_call 49;refine cF.out.mono ?_;clear cF;rintro _ w1 ⟨rfl,hw1⟩;obtain rfl:=hw1.symm;simp only [plF])
   go_wp2_with fail
   go_ret
   rw [HE.out]
   exact ⟨rfl,HH.out.p (Kept.refl _ _) (fun k hk=>.inl hk)⟩
  ·have hk1:(bl:Int) < k:=by omega
   clear hk
   go_enter Try.func21,Try.ntmps21
   go_upto_region 6 with (go_at_call 49;refine cF.out.mono ?_;clear cF;rintro _ w1 ⟨rfl,hw1⟩;obtain rfl:=hw1.symm;simp only [plF])
   go_wp2_with fail
   go_ret
   rw [HE.out]
   exact ⟨rfl,HH.out.p (Kept.refl _ _) (fun k hk=>.inl hk)⟩
 obtain ⟨kk,rfl⟩:∃ kk:Nat,k=kk:=Int.eq_ofNat_of_zero_le (by omega)
 have hk1:¬ (X[i].b.length:Int) < (kk:Int):=by omega
 have hk2:kk≤X[i].b.length:=by omega
 have HE:=hide (truF_ok hdd hF hiL (by rw [hLe];exact hk))
 clear hk
 have cS:=hide (dstepF_call h hb.s hb.f)
 obtain ⟨q,hq⟩:∃ q,q=stepF d:=⟨_,rfl⟩
 have hqL:q.1.L=d.L:=by rw [hq];exact stepF_L d
 rw [← hq] at cS HE
 have HQL:=hide hqL
 have HPO:=hide h.pO
 have HKL:=hide hLe
 cases hq2:q.2
 ·rw [hq2] at HE cS
  generalize X[i].b.length=bl at e1 hk1 hk2 hyl
  clear h hb hdd hF hq hqL hiL hat hq2 hLe hel HKL
  go_enter Try.func21,Try.ntmps21
  go_upto_region 6 with (go_at_call 49;refine cF.out.mono ?_;clear cF;rintro _ w1 ⟨rfl,hw1⟩;obtain rfl:=hw1.symm;simp only [plF])
  go_upto_region 9 with (go_at_call 48;refine cS.out.mono ?_;clear cS;rintro _ w1 ⟨rfl,h1,hk1⟩;have H1:=hide h1;have HK1:=hide hk1;clear h1 hk1)
  go_wp2_with (go_at_call 51;refine (dresF_call w1 false).mono ?_;rintro _ w9 ⟨rfl,hw9⟩;obtain rfl:=hw9.symm)
  go_ret
  rw [HE.out]
  exact ⟨rfl,H1.out.p (HK1.out.mono (by simp [HPO.out])) (fun k hk=>.inl hk)⟩
 ·rw [hq2] at HE cS
  obtain ⟨y,hy⟩:∃ y,y=X[i]:=⟨_,rfl⟩
  have HHO:Hid (∀ w1,AtD w1 O p q.1 (.slice (some ⟨g,0,none⟩) X.length c) X→Own w1 y.v y.b∧w1.cell? ⟨g,i*3+1,none⟩=some (.slice y.ao y.b.length y.c)∧w1.frozen? ⟨g,i*3+1,none⟩=false∧g≠p ∧
   (∀ w5 d5 a5 k5,Kept [] w1 w5→Own w5 (.slice a5 kk k5) (y.b.take kk)→(∀ q,(Value.slice a5 kk k5).ownBlock=some q→w1.heap.size≤q)→d5=⟨updF q.1.L i (fun x=>⟨x.n,y.b.take kk,x.l⟩),q.1.s,q.1.f,q.1.d⟩→FdP p w1 O d5 (w5.setCell ⟨g,i*3+1,none⟩ (.slice a5 kk k5)))):=fun w1 h1=>by
   subst hy
   refine ⟨h1.o _ (List.getElem_mem hiX),?_,World.ownsRow.frozenAt h1.r _,(h1.apart (g:=g) rfl).2.1,fun w5 d5 a5 k5 hk ho hf e=>?_⟩
   ·obtain ⟨a2,c2,e2,_,_,_,h2⟩:=Rk.shape h1.r
    obtain ⟨g2,e3,h3⟩:=h2 i hiX
    rw [e3] at e2
    simp only [Value.slice.injEq,Option.some.injEq,Addr.mk.injEq,and_true,true_and] at e2
    rw [← e2.1] at h3
    exact h3 1 _ rfl
   ·subst e
    have hl:(X[i].b.take kk).length=kk:=by rw [List.length_take];omega
    have h9:FdP p w1 O _ (w5.setCell ⟨g,i*3+1,none⟩ (.slice a5 (X[i].b.take kk).length k5)):=h1.setB (d':=⟨updF q.1.L i (fun x=>⟨x.n,X[i].b.take kk,x.l⟩),q.1.s,q.1.f,q.1.d⟩) hk i hiX ⟨X[i].n,X[i].b.take kk,X[i].l,a5,k5⟩ rfl rfl (by show Own w5 (.slice a5 (X[i].b.take kk).length k5) _;rw [hl];exact ho) (by show ∀ q,(Value.slice a5 (X[i].b.take kk).length k5).ownBlock=some q→_;rw [hl];exact hf) rfl rfl rfl rfl
    rw [hl] at h9
    exact h9
  have HLI:Hid (q.1.L[i]?=some y.fl):=by show q.1.L[i]?=_;rw [hqL,List.getElem?_eq_getElem hiL,hLe,hy]
  rw [← hy] at e1 hk1 hk2 hyl
  clear h hb hdd hF hq hqL hiL hat hq2 hLe hel HKL hy
  go_enter Try.func21,Try.ntmps21
  go_upto_region 6 with (go_at_call 49;refine cF.out.mono ?_;clear cF;rintro _ w1 ⟨rfl,hw1⟩;obtain rfl:=hw1.symm;simp only [plF])
  go_upto_region 9 with (go_at_call 48;refine cS.out.mono ?_;clear cS;rintro _ w1 ⟨rfl,h1,hk1⟩;have H1:=hide h1;have HK1:=hide hk1;clear h1 hk1)
  clear e1 c0
  have c0:=H1.out.h.cell 0 rfl
  obtain ⟨hon,e1,z1,hgp,hfin⟩:=HHO.out w1 H1.out
  have HFN:=hide hfin
  have HZ:=hide z1
  have cC:=hide (fun (W:World) (k:Kept [] w1 W)=>copy_call W _ _ _ _ ((Sl.kept k (Fm.sl hon) (by simp)).take hk2) (by omega))
  have hkc:kk≤y.c:=by have:=(Fm.sl hon).2.1;omega
  clear hfin z1 hon HHO
  have HKd:Hid (Kept [] w1 w1.drew):=(Kept.refl [] w1).drew
  go_upto_region 10 with fail
  refine wp_region_held_drew (S:=fun w9=>w9.cell? ⟨p,0,none⟩=some (.slice (some ⟨g,0,none⟩) X.length c)) (by kernel_rfl) c0 (fun hHeld=>?_)
  refine tks [0,1,2,3,4,5,6,7,8,9,10,11,13] (by rfl) (by kernel_rfl) (fun _ _ _ _ _ h=>h) hHeld ?_
  iterate 13
   refine yk ?_ rfl (Or.inl ⟨by rfl,?_⟩) ?_
   rotate_left
   ·intro w9 hSw;have m0:=hSw;go_simp;(try with_reducible rfl)
   try simp only [sT,Act.put]
  refine yk0 ?_
  simp only [setK,sT]
  refine rd1 12 (by kernel_rfl) rfl (fun K0 hK0=>?_)
  have e1d:=HKd.out.cell e1 (by simp)
  go_simp
  refine hK0.out _ _ (HKd.out.cell c0 (by simp)) (fun hHeld=>?_)
  clear hK0 K0 e1d
  try simp only [sT,Act.put]
  refine tks [14] (by rfl) (by kernel_rfl) (fun _ _ _ _ _ h=>h) hHeld ?_
  iterate 1
   refine yk ?_ rfl (Or.inl ⟨by rfl,?_⟩) ?_
   rotate_left
   ·intro w9 hSw;have m0:=hSw;go_simp;(try with_reducible rfl)
   try simp only [sT,Act.put]
  refine yk0 ?_
  simp only [setK,sT]
  refine rd1 15 (by kernel_rfl) rfl (fun K0 hK0=>?_)
  go_simp
  refine (cC.out _ HKd.out).mono ?_
  clear cC
  rintro _ w4 ⟨v4,rfl,hO4,hf4,hk4⟩
  have hK4:Kept [] w1 w4:=HKd.out.trans hk4 (by simp)
  obtain ⟨a5,n5,k5,rfl,hs5,_⟩:=own_sl hO4
  have hn5:kk=n5:=by rw [← hs5.1,List.length_take];omega
  subst hn5
  obtain ⟨d5,hd5⟩:∃ d5:Dk,d5=⟨updF q.1.L i (fun x=>⟨x.n,y.b.take kk,x.l⟩),q.1.s,q.1.f,q.1.d⟩:=⟨_,rfl⟩
  have HFI:=hide (HFN.out w4 d5 a5 k5 hK4 hO4 hf4 hd5)
  have HD5:=hide hd5
  have c04:=hK4.cell c0 (by simp)
  have e14:=hK4.cell e1 (by simp)
  have z4:w4.frozen? ⟨g,i*3+1,none⟩=false:=World.ownsRow.frozenAt (Rk.kept H1.out.r hK4 (by simp)) _
  clear hO4 hf4 hk4 hK4 hHeld hs5 HFN hd5
  go_wp2_with fail
  refine hK0.out _ _ c04 (fun hHeld=>?_)
  clear hK0 K0
  try simp only [sT,Act.put]
  refine tks [16,17] (by rfl) (by kernel_rfl) (fun _ _ _ _ _ h=>h) hHeld ?_
  iterate 2
   refine yk ?_ rfl (Or.inl ⟨by rfl,?_⟩) ?_
   rotate_left
   ·intro w9 hSw;have m0:=hSw;go_simp;(try with_reducible rfl)
   try simp only [sT,Act.put]
  refine yk0 ?_
  simp only [setK,sT]
  refine rd1 18 (by kernel_rfl) rfl (fun K0 hK0=>?_)
  go_simp
  have hk6:Kept [g] w4 (w4.setCell ⟨g,i*3+1,none⟩ (.slice a5 kk k5)):=(Kept.refl _ _).setCell (by simp) _
  have c06:=hk6.cell c04 (by simp;omega)
  refine hK0.out _ _ (by simpa using c06) (fun hHeld=>?_)
  clear hK0 K0 hk6 c06
  try simp only [sT,Act.put]
  refine wpAnyH_done (by kernel_rfl) ?_ _
  clear hHeld
  have HFJ:Hid (FdP p w1 O d5 (w4.setCell ⟨g,i*3+1,none⟩ (.slice a5 kk k5))):=HFI.out
  generalize w4.setCell ⟨g,i*3+1,none⟩ (.slice a5 kk k5)=w6 at HFJ ⊢
  clear HFI c04 e14 z4 c0 e1
  obtain ⟨O6,⟨v6,X6,h6⟩,hk6,hn6⟩:=HFJ.out
  have hl6:d5.L[i]?=some ⟨y.n,y.b.take kk,y.l⟩:=by
   rw [HD5.out]
   show (updF q.1.L i _)[i]?=_
   unfold updF
   rw [HLI.out]
   obtain ⟨hiq,_⟩:=List.getElem?_eq_some_iff.1 HLI.out
   show (q.1.L.set i _)[i]?=_
   rw [List.getElem?_set_self hiq];rfl
  obtain ⟨hi5,hl6'⟩:=List.getElem?_eq_some_iff.1 hl6
  have hiX6:i < X6.length:=by rw [h6.len];exact hi5
  have hx6:X6[i].l=y.l:=by have:=h6.get hiX6 hi5;rw [hl6'] at this;exact (congrArg Fl.l this).symm
  rcases Rk.shape2 h6.r with ⟨_,e6⟩ | ⟨g6,c6,hv6,hc6,hm6,hel6⟩
  ·subst e6;simp at hiX6
  subst hv6
  unfold maxLen at hm6
  have hi6':(i:Int) < X6.length:=by omega
  have c0:=h6.h.cell 0 rfl
  have e2:w6.cell? ⟨g6,i*3+2,none⟩=some (.int .i64 y.l):=by rw [← hx6];exact hel6 i hiX6 2 _ rfl
  have e2d:w6.drew.cell? ⟨g6,i*3+2,none⟩=some (.int .i64 y.l):=e2
  have z2:w6.drew.frozen? ⟨g6,i*3+2,none⟩=false:=World.ownsRow.frozenAt (Rk.kept h6.r (Kept.refl [] w6).drew (by simp)) _
  have hgp6:g6≠p:=(h6.apart (g:=g6) rfl).2.1
  have HG6:Hid (g6∈O6):=(h6.apart (g:=g6) rfl).1
  have H6:=hide h6
  have HKd6:Hid (Kept [] w6 w6.drew):=(Kept.refl [] w6).drew
  have HLY:=hide hl6
  have HHX:Hid (X6.length≤10000000):=by
   show _≤_
   have:=h6.len
   rw [HD5.out] at this
   show X6.length≤_
   rw [this]
   show (updF q.1.L i _).length≤_
   unfold updF
   rw [HLI.out]
   show (q.1.L.set i _).length≤_
   rw [List.length_set,← H1.out.len]
   exact hXl
  clear h6 hel6 hl6 hl6' hx6 HFJ hi5
  have HUU:=hide (fun m=>upd2 HLI.out (y.b.take kk) m)
  by_cases hlk:(kk:Int) < (y.l:Int)
  ·obtain ⟨d7,hd7⟩:∃ d7:Dk,d7=⟨updF d5.L i (fun x=>⟨x.n,x.b,kk⟩),d5.s,d5.f,d5.d⟩:=⟨_,rfl⟩
   have HD7:=hide hd7
   have HD8:Hid (d7=⟨updF d.L i (fun x=>⟨x.n,x.b.take (kk:Int).toNat,min x.l (kk:Int).toNat⟩),q.1.s,q.1.f,q.1.d⟩):=by
    show d7=_
    rw [HD7.out,HD5.out]
    show (⟨updF (updF q.1.L i _) i _,_,_,_⟩:Dk)=_
    rw [HUU.out,← HQL.out]
    simp only [upd1 HLI.out,Int.toNat_natCast]
    have e:min y.fl.l kk=kk:=by show min y.l kk=kk;omega
    rw [e];rfl
   clear hd7
   go_upto_region 11 with fail
   refine wp_region_held_drew (S:=fun w9=>w9.cell? ⟨p,0,none⟩=some (.slice (some ⟨g6,0,none⟩) X6.length c6)) (by kernel_rfl) c0 (fun hHeld=>?_)
   refine tks [0,1,2,3,4,5,6,7,8,9,10,11,13] (by rfl) (by kernel_rfl) (fun _ _ _ _ _ h=>h) hHeld ?_
   iterate 13
    refine yk ?_ rfl (Or.inl ⟨by rfl,?_⟩) ?_
    rotate_left
    ·intro w9 hSw;have m0:=hSw;go_simp;(try with_reducible rfl)
    try simp only [sT,Act.put]
   refine yk0 ?_
   simp only [setK,sT]
   refine rd1 12 (by kernel_rfl) rfl (fun K0 hK0=>?_)
   go_simp
   refine hK0.out _ _ (HKd6.out.cell c0 (by simp)) (fun hHeld=>?_)
   clear hK0 K0
   try simp only [sT,Act.put]
   refine tks [14,15,16] (by rfl) (by kernel_rfl) (fun _ _ _ _ _ h=>h) hHeld ?_
   iterate 3
    refine yk ?_ rfl (Or.inl ⟨by rfl,?_⟩) ?_
    rotate_left
    ·intro w9 hSw;have m0:=hSw;go_simp;(try with_reducible rfl)
    try simp only [sT,Act.put]
   refine yk0 ?_
   simp only [setK,sT]
   refine rd1 17 (by kernel_rfl) rfl (fun K0 hK0=>?_)
   go_simp
   have hk7:Kept [g6] w6 (w6.setCell ⟨g6,i*3+2,none⟩ (.int .i64 kk)).drew:=((Kept.refl [g6] w6).setCell (.inl (by simp)) _).drew
   have c07:=hk7.cell c0 (by simp;omega)
   refine hK0.out _ _ (by simpa using c07) (fun hHeld=>?_)
   clear hK0 K0 c07
   try simp only [sT,Act.put]
   refine wpAnyH_done (by kernel_rfl) ?_ _
   clear hHeld
   have HK7:=hide hk7
   have HSL:Hid (AtD (w6.setCell ⟨g6,i*3+2,none⟩ (.int .i64 kk)).drew O6 p d7 (.slice (some ⟨g6,0,none⟩) X6.length c6) (X6.set i { X6[i] with l:=kk })):=(H6.out.setL (d':=d7) (Kept.refl [] w6).drew i hiX6 kk (by rw [HD7.out]) (by rw [HD7.out]) (by rw [HD7.out]) (by rw [HD7.out])).1
   clear hk7 e2 e2d z2 c0
   generalize (w6.setCell ⟨g6,i*3+2,none⟩ (.int .i64 kk)).drew=w7 at HK7 HSL ⊢
   go_wp2_with (go_at_call 51;refine (dresF_call w7 true).mono ?_;rintro _ w9 ⟨rfl,hw9⟩;obtain rfl:=hw9.symm)
   go_ret
   rw [HE.out]
   refine ⟨rfl,?_⟩
   simp only [if_true]
   rw [← HD8.out]
   exact FdP.trans (HK1.out.mono (by simp [HPO.out])) (fun k hk=>.inl hk) (FdP.trans hk6 hn6 (HSL.out.p (HK7.out.mono (by simp [HG6.out])) (fun k hk=>.inl hk)))
  ·obtain ⟨d7,hd7⟩:∃ d7:Dk,d7=⟨updF d5.L i (fun x=>⟨x.n,x.b,y.l⟩),d5.s,d5.f,d5.d⟩:=⟨_,rfl⟩
   have HD7:=hide hd7
   have HD8:Hid (d7=⟨updF d.L i (fun x=>⟨x.n,x.b.take (kk:Int).toNat,min x.l (kk:Int).toNat⟩),q.1.s,q.1.f,q.1.d⟩):=by
    show d7=_
    rw [HD7.out,HD5.out]
    show (⟨updF (updF q.1.L i _) i _,_,_,_⟩:Dk)=_
    rw [HUU.out,← HQL.out]
    simp only [upd1 HLI.out,Int.toNat_natCast]
    have e:min y.fl.l kk=y.l:=by show min y.l kk=y.l;omega
    rw [e];rfl
   clear hd7
   go_upto_region 11 with fail
   refine wp_region_held_drew (S:=fun w9=>w9.cell? ⟨p,0,none⟩=some (.slice (some ⟨g6,0,none⟩) X6.length c6)) (by kernel_rfl) c0 (fun hHeld=>?_)
   refine tks [0,1,2,3,4,5,6,7,8,9,10,11,13] (by rfl) (by kernel_rfl) (fun _ _ _ _ _ h=>h) hHeld ?_
   iterate 13
    refine yk ?_ rfl (Or.inl ⟨by rfl,?_⟩) ?_
    rotate_left
    ·intro w9 hSw;have m0:=hSw;go_simp;(try with_reducible rfl)
    try simp only [sT,Act.put]
   refine yk0 ?_
   simp only [setK,sT]
   refine rd1 12 (by kernel_rfl) rfl (fun K0 hK0=>?_)
   go_simp
   refine hK0.out _ _ (HKd6.out.cell c0 (by simp)) (fun hHeld=>?_)
   clear hK0 K0
   try simp only [sT,Act.put]
   refine tks [14,15,16] (by rfl) (by kernel_rfl) (fun _ _ _ _ _ h=>h) hHeld ?_
   iterate 3
    refine yk ?_ rfl (Or.inl ⟨by rfl,?_⟩) ?_
    rotate_left
    ·intro w9 hSw;have m0:=hSw;go_simp;(try with_reducible rfl)
    try simp only [sT,Act.put]
   refine yk0 ?_
   simp only [setK,sT]
   refine rd1 17 (by kernel_rfl) rfl (fun K0 hK0=>?_)
   go_simp
   have hk7:Kept [g6] w6 (w6.setCell ⟨g6,i*3+2,none⟩ (.int .i64 y.l)).drew:=((Kept.refl [g6] w6).setCell (.inl (by simp)) _).drew
   have c07:=hk7.cell c0 (by simp;omega)
   refine hK0.out _ _ (by simpa using c07) (fun hHeld=>?_)
   clear hK0 K0 c07
   try simp only [sT,Act.put]
   refine wpAnyH_done (by kernel_rfl) ?_ _
   clear hHeld
   have HK7:=hide hk7
   have HSL:Hid (AtD (w6.setCell ⟨g6,i*3+2,none⟩ (.int .i64 y.l)).drew O6 p d7 (.slice (some ⟨g6,0,none⟩) X6.length c6) (X6.set i { X6[i] with l:=y.l })):=(H6.out.setL (d':=d7) (Kept.refl [] w6).drew i hiX6 y.l (by rw [HD7.out]) (by rw [HD7.out]) (by rw [HD7.out]) (by rw [HD7.out])).1
   clear hk7 e2 e2d z2 c0
   generalize (w6.setCell ⟨g6,i*3+2,none⟩ (.int .i64 y.l)).drew=w7 at HK7 HSL ⊢
   go_wp2_with (go_at_call 51;refine (dresF_call w7 true).mono ?_;rintro _ w9 ⟨rfl,hw9⟩;obtain rfl:=hw9.symm)
   go_ret
   rw [HE.out]
   refine ⟨rfl,?_⟩
   simp only [if_true]
   rw [← HD8.out]
   exact FdP.trans (HK1.out.mono (by simp [HPO.out])) (fun k hk=>.inl hk) (FdP.trans hk6 hn6 (HSL.out.p (HK7.out.mono (by simp [HG6.out])) (fun k hk=>.inl hk)))
end Go.Proofs.Yteiagkjhmhllnaa
