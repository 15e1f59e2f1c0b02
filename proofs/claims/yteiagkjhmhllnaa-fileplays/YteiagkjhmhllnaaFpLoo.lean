/-
  Layer 12's looks. (Written by mk/mkfplaw.py.)
-/
import Derived.Test.YteiagkjhmhllnaaRegG
import Derived.Test.YteiagkjhmhllnaaFpTwo
namespace Go.Proofs.Yteiagkjhmhllnaa
open Go.RowKit
set_option linter.unusedSimpArgs false in
set_option maxHeartbeats 8000000 in
set_option maxRecDepth 100000 in
theorem looks_call {w:World}{O Od:List Nat}{p pd mb:Nat}{q:Int}{d:Dk}{X:List Pm}{v:Value}{Xd:List Fm}(h:AtP w O p mb q d X) (hd:AtD w Od pd d v Xd) (hb:BdD d) :
 Calls Try.prog 32 #[.pointer (some ⟨p,0,none⟩),.pointer (some ⟨pd,0,none⟩)] w fun e w'=>e=.returned (.bool true)∧Kept [] w w':=by
 have HH:=hide h
 have HD:=hide hd
 have HB:=hide hb
 have hXl:X.length≤10000000:=by rw [h.len];exact hb.n
 have hXd:Xd.length=X.length:=by rw [h.len,hd.len]
 obtain ⟨ao,c,hv,hc,hm,_,hat⟩:=Rk.shape hd.r
 subst hv
 unfold maxLen at hm
 rw [hXd] at hc
 have HAT:=hide hat
 have HXl:=hide hXl
 have HXd:=hide hXd
 have c0:=hd.h.cell 0 rfl
 have c1:=hd.h.cell 1 rfl
 have c3:=hd.h.cell 3 rfl
 have cS:=hide (fun m=>(stsP_call (HH.out.kept ((Kept.refl [] w).drewN m) (by simp))).mono (fun (_:Ending) (_:World) ⟨a,b⟩=>And.intro a b.symm))
 have cD:=hide (fun m=>(dedP_call (HH.out.kept ((Kept.refl [] w).drewN m) (by simp))).mono (fun (_:Ending) (_:World) ⟨a,b⟩=>And.intro a b.symm))
 have cN:=hide (fun W (k:Kept [] w W)=>namP_call (HH.out.kept k (by simp)) (by have:=HXl.out;omega))
 rw [hXd] at c0
 clear h hd hb hat
 go_enter Try.func32,Try.ntmps32
 go_upto_region 1 with fail
 go_quiet (first
  | (go_at_call 15;exact quiet_eq (cS.out _))
  | (go_at_call 14;exact quiet_eq (cD.out _)))
 go_wp2_with (go_at_call 59;refine (cN.out _ ((Kept.refl [] w).drewN _)).mono ?_;clear cN;rintro _ w2 ⟨nao,nc,rfl,hnc,hnm,hr2,hk2⟩;have HR2:=hide hr2;have HK2:Hid (Kept [] w w2):=((Kept.refl [] w).drewN _).trans hk2 (by simp);have c20:=HK2.out.cell c0 (by simp);clear hr2 hk2)
 go_loopw [6] (fun iv wr=>∃ i:Nat,iv=.int .i64 (i:Int)∧i≤X.length∧Hid (Kept [] w2 wr)) (fun iv _=>X.length - (intOf iv).toNat)
 case atStart=>exact ⟨0,rfl,Nat.zero_le _,Kept.refl _ _⟩
 case round =>
  obtain ⟨i,rfl,hi,HKr⟩:=hrel
  by_cases hlt:i < X.length
  ·have hlt':(i:Int) < X.length:=by omega
   have hKw:Kept [] w wr:=HK2.out.trans HKr.out (by simp)
   have HKw:=hide hKw
   have hid:i < Xd.length:=by rw [hXd];exact hlt
   have hiL:i < d.L.length:=by rw [← HH.out.len];exact hlt
   have hrow:=HKr.out.ownsRow HR2.out (by simp)
   obtain ⟨gN,capN,he,_,_⟩:=World.ownsRow.form hrow (by omega)
   obtain ⟨rfl,rfl⟩:nao=some ⟨gN,0,none⟩∧nc=capN:=by simpa using he
   have d0:=World.ownsRow.cellAt hrow i (by omega)
   have hLe:d.L[i]=X[i].fl:=by obtain h9:=HH.out.L;rw [List.getElem_of_eq h9.symm hiL,List.getElem_map]
   have hLd:=HD.out.get hid hiL
   rw [show ((X.map fun x=>Value.string (str x.n))[i]?)=some (.string (str X[i].n)) from by simp [hlt]] at d0
   obtain ⟨g,he2,hel⟩:=HAT.out i hid
   subst he2
   have e0:=hKw.cell (hel 0 _ rfl) (by simp)
   have e1:=hKw.cell (hel 1 _ rfl) (by simp)
   rw [Nat.add_zero] at e0
   have hnn:X[i].n=Xd[i].n:=by have:=congrArg Fl.n (hLe.symm.trans hLd);exact this
   have hbb:X[i].b=Xd[i].b:=by have:=congrArg Fl.b (hLe.symm.trans hLd);exact this
   have hx:Xd[i]∈Xd:=List.getElem_mem hid
   have cR:=redP_call (HH.out.kept hKw (by simp)) HB.out X[i].n (HH.out.z _ (List.getElem_mem hlt))
   have hred:redF X[i].n d=some X[i].b:=by
    have h5:findF X[i].n d.L=some i:=findF_go _ _ _ hiL (fun k hk hki e=>by
     have h6:=HH.out.sD
     unfold RisG at h6
     rw [List.pairwise_iff_getElem] at h6
     have h7:=h6 k i hk hiL hki
     rw [e,hLe] at h7
     exact List.lt_irrefl _ h7) (by rw [hLe];rfl)
    unfold redF
    rw [h5,Option.map_some,List.getD,List.getElem?_eq_getElem hiL,Option.getD_some,hLe];rfl
   rw [hred] at cR
   have hbl:Xd[i].b.length≤10000000000:=by have:=HB.out.b d.L[i] (List.getElem_mem hiL);rw [hLd] at this;exact this
   have HSl:Hid (∀ W,Kept [] w W→Sl W Xd[i].ao Xd[i].b.length Xd[i].c Xd[i].b):=fun W k=>Fm.sl (k.ownsRow (HD.out.o _ hx) (by simp))
   have hq:((str Xd[i].n).toList==(str Xd[i].n).toList)=true:=by rw [strB_dec];simp
   rw [hnn] at cR d0
   rw [hbb] at cR
   have e0':wr.cell? ⟨g,i*3,none⟩=some (.string (str Xd[i].n)):=e0
   have e1':wr.cell? ⟨g,i*3+1,none⟩=some (.slice Xd[i].ao Xd[i].b.length Xd[i].c):=e1
   have CR:=hide cR
   obtain ⟨y,hy⟩:∃ y,y=Xd[i]:=⟨_,rfl⟩
   rw [← hy] at CR d0 e0' e1' HSl hq hbl
   have b0:=hKw.cell c0 (by simp)
   clear cR e0 e1 he hrow hel hLe hLd hnn hbb hx hred hKw hy hi hid hiL
   go_upto_region 10 with (go_at_call 13;refine CR.out.mono ?_;clear CR;rintro _ w3 ⟨hk3,a3,k3,rfl,hO3,hf3⟩;have HK3:=hide hk3;obtain ⟨a4,k4,e4,_,_,hs3⟩:=mkown hO3;simp only [Value.slice.injEq,true_and] at e4;obtain ⟨rfl,rfl⟩:=e4;have HS3:=hide hs3;clear hO3 hf3 hs3)
   have HSx:Hid (∀ w9,Kept [] w3 w9→w9.cell? ⟨gN,i,none⟩=some (.string (str y.n))∧w9.cell? ⟨pd,0,none⟩=some (.slice (some ⟨g,0,none⟩) X.length c)∧w9.cell? ⟨g,i*3,none⟩=some (.string (str y.n))∧w9.cell? ⟨g,i*3+1,none⟩=some (.slice y.ao y.b.length y.c)):=fun w9 k=>by
    have k9:=HK3.out.trans k (by simp)
    exact ⟨k9.cell d0 (by simp),k9.cell b0 (by simp),k9.cell e0' (by simp),k9.cell e1' (by simp)⟩
   have HK03:Hid (Kept [] w w3):=HKw.out.trans HK3.out (by simp)
   have CS:=hide (fun W (k:Kept [] w3 W)=>bsame_call W a3 y.ao y.b.length k3 y.b.length y.c y.b y.b (Sl.kept k HS3.out (by simp)) (HSl.out W (HK03.out.trans k (by simp))))
   have HK23:Hid (Kept [] w2 w3):=HKr.out.trans HK3.out (by simp)
   clear d0 b0 e0' e1'
   refine wp_region_held_drew (S:=fun w9=>w9.cell? ⟨gN,i,none⟩=some (.string (str y.n))∧w9.cell? ⟨pd,0,none⟩=some (.slice (some ⟨g,0,none⟩) X.length c)∧w9.cell? ⟨g,i*3,none⟩=some (.string (str y.n))∧w9.cell? ⟨g,i*3+1,none⟩=some (.slice y.ao y.b.length y.c)) (by kernel_rfl) (HSx.out _ (Kept.refl _ _).drew) (fun hHeld=>?_)
   try simp only [List.append_eq,List.cons_append,List.nil_append]
   refine wpAnyH_list (by rfl) (by rfl) ?_
   refine tks [0,1,2,3,4,5,6,7,8,9,10,11,12,13,14,15,16,17,18,19,20,21,22,23,24,25,26] (by rfl) (by kernel_rfl) (fun _ _ _ _ _ h=>h) hHeld ?_
   iterate 27
    refine yk ?_ rfl (Or.inl ⟨by rfl,?_⟩) ?_
    rotate_left
    ·intro w9 hSw;obtain ⟨m0,m1,m2,m3⟩:=hSw;go_simp;(try with_reducible rfl)
    try simp only [sT,Act.put]
   refine yk0 ?_
   simp only [setK,sT]
   refine rd1 27 (by kernel_rfl) rfl (fun K0 hK0=>?_)
   go_simp
   refine (CS.out _ (Kept.refl [] _).drew).mono ?_
   rintro _ w4 ⟨rfl,hk4⟩
   have hK4:Kept [] w3 w4:=(Kept.refl [] w3).drew.trans hk4 (by simp)
   have HK24:Hid (Kept [] w2 w4):=HK23.out.trans hK4 (by simp)
   have hs4:=HSx.out w4 hK4
   clear hk4 hK4 hHeld
   simp only [decide_true]
   go_wp2_with fail
   refine hK0.out _ _ hs4 (fun hHeld=>?_)
   clear hK0 K0 hs4
   try simp only [sT,Act.put]
   refine tks [28,29] (by rfl) (by kernel_rfl) (fun _ _ _ _ _ h=>h) hHeld ?_
   iterate 2
    refine yk ?_ rfl (Or.inl ⟨by rfl,?_⟩) ?_
    rotate_left
    ·intro w9 hSw;obtain ⟨m0,m1,m2,m3⟩:=hSw;go_simp;(try with_reducible rfl)
    try simp only [sT,Act.put]
   refine yk0 ?_
   simp only [setK,sT]
   refine wpAnyH_done (by kernel_rfl) ?_ _
   go_wp2_with fail
   go_roundw
   case rel=>exact ⟨i+1,by go_num,by omega,HK24⟩
   case measure=>simp [intOf];omega
  ·have hlt':¬ (i:Int) < X.length:=by omega
   go_wp2_with fail
   go_ret
   exact ⟨rfl,HK2.out.trans HKr.out (by simp)⟩
end Go.Proofs.Yteiagkjhmhllnaa
