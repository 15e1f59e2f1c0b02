/-
  MachineApplies: the walk.
-/
import Derived.Test.YtgpnlidnbldiiaaGreatQ2r
import Derived.Test.YtgpnlidnbldiiaaGreatW1r
import Derived.Test.YtgpnlidnbldiiaaGreatMdLookr
import Derived.Test.YtgpnlidnbldiiaaGreatW5r
namespace Go.Proofs.YtgpnlidnbldiiaaGreat
open Go.RowKit
noncomputable def apAl (al:Int) (sz:Nat) (m:Ma) (D:List Rm):Ma:=D.foldl (fun m x=>apM al sz m x.r) m
theorem apAl_take {al:Int}{sz:Nat}{m:Ma}{D:List Rm}{i:Nat}(h:i < D.length):apAl al sz m (D.take (i+1))=apM al sz (apAl al sz m (D.take i)) D[i].r:=by
 unfold apAl
 rw [List.take_succ_eq_append_getElem h,List.foldl_append];rfl
structure ApG (n:Nat) (m:Ma):Prop where
 a:m.a=n
 g:m.g.cs.length≤n
 e:m.e.length≤n+1
theorem apG_new (l:List Int):ApG 0 (newM l):=⟨rfl,Nat.le_refl _,Nat.le_refl _⟩
theorem ApG.step {n:Nat}{m:Ma}(h:ApG n m) (hn:n < 1000) (al:Int) (sz:Nat) (r:Rq):ApG (n+1) (apM al sz m r):=by
 have ha:=h.a
 have hlt:m.a < 1099511627776:=by omega
 have h1:=(ap_head (al:=al) (sz:=sz) (m:=m) r).1
 have h2:=ap_el (al:=al) (sz:=sz) (m:=m) r
 have h3:=h.g
 have h4:=h.e
 exact ⟨by rw [ap_a hlt,ha];simp,by omega,by omega⟩
theorem apG_all (al:Int) (sz:Nat):∀ (D:List Rm) {m:Ma}{n:Nat},ApG n m→n+D.length≤1000→ApG (n+D.length) (apAl al sz m D)
 | [],_,_,h,_=>h
 | x :: D,m,n,h,hn=>by
   have h1:=apG_all al sz D (h.step (by simp at hn;omega) al sz x.r) (by simp at hn;omega)
   rw [show n+(x :: D).length=n+1+D.length by simp;omega]
   exact h1
theorem apG_take {al:Int}{sz:Nat}{m:Ma}{n:Nat}(h:ApG n m) {D:List Rm}{i:Nat}(hi:i≤D.length) (hn:n+D.length≤1000):ApG (n+i) (apAl al sz m (D.take i)):=by
 have h1:=apG_all al sz (D.take i) h (by simp;omega)
 rw [List.length_take,Nat.min_eq_left hi] at h1
 exact h1
theorem rqAt_range {w:World}{b o:Nat}{x:Rm}(h:RqAt w b o x):w.rangeAt b o (rqC x):=by
 obtain ⟨c0,c1,c2,c3,c4,c5,c6,c7,c8,c9,c10⟩:=h
 intro j y hj
 match j,hj with
 | 0,hj=>cases hj;exact c0
 | 1,hj=>cases hj;exact c1
 | 2,hj=>cases hj;exact c2
 | 3,hj=>cases hj;exact c3
 | 4,hj=>cases hj;exact c4
 | 5,hj=>cases hj;exact c5
 | 6,hj=>cases hj;exact c6
 | 7,hj=>cases hj;exact c7
 | 8,hj=>cases hj;exact c8
 | 9,hj=>cases hj;exact c9
 | 10,hj=>cases hj;exact c10
 | j+11,hj=>simp [rqC] at hj
theorem two_looks {w0 w:World}{z:Pp}{al:Int}{sz:Nat}{m:Ma}{u:Value}(h:Two w0 w z al sz m m u) (hl:m.g.cs.length≤10000) (hel:m.e.length≤1000):Calls Tryz.prog 15 #[.pointer (some ⟨z.b,0,none⟩),.pointer (some ⟨z.c,0,none⟩)] w fun e w'=>e=.returned (.bool true)∧Hid (Kept [] w w'):=by
 obtain ⟨F,M,h1,h2,_⟩:=h
 exact (looks_call h1 h2 hl hel).mono fun e w' h=>h
def TwI (W:World) (z:Pp) (al:Int) (sz:Nat) (m:Ma) (D:List Rm) (iv:Value) (wr:World):Prop:=∃ i:Nat,iv=.int .i64 (i:Int)∧i≤D.length∧Hid (Two W wr z al sz (apAl al sz m (D.take i)) (apAl al sz m (D.take i)) (.slice none 0 0))
set_option linter.unusedSimpArgs false in
set_option maxHeartbeats 32000000 in
set_option maxRecDepth 100000 in
theorem mapplies_walk (W:World) (cg:Cg) (hcg:SlI W cg.mo cg.m cg.mc cg.l) (ao:Option Addr) (n c:Nat) (D:List Rm) (hD:SlR W ao n c D) :
 Calls Tryz.prog 3 #[cgV cg,.slice ao n c] W fun e w'=>e=.returned (.bool true)∧Kept [] W w':=by
 obtain ⟨W1,hW1⟩:∃ W1,W1=W.alloc (.cells (cgC cg).toArray 24):=⟨_,rfl⟩
 have hK1:Kept [] W W1:=by rw [hW1];exact (Kept.refl _ _).alloc _
 have hB1:W1.heap[W.heap.size]?=some (.cells (cgC cg).toArray 24 (0,0)):=by rw [hW1];exact heap_alloc_new W _
 have HG0:Hid (W1.cell? ⟨W.heap.size,0,none⟩=some (.slice cg.mo cg.m cg.mc)):=cell_inC (k:=0) hB1 rfl
 have HG1:Hid (W1.cell? ⟨W.heap.size,1,none⟩=some (.int .i64 cg.al)):=cell_inC (k:=1) hB1 rfl
 have HG2:Hid (W1.cell? ⟨W.heap.size,2,none⟩=some (.int .i64 cg.sz)):=cell_inC (k:=2) hB1 rfl
 have cW:=awakeM_call W1
 have hc:=hD.2.1
 have hmx:=hD.2.2.1
 unfold maxLen at hmx
 have hgc:=hcg.2.1
 have hgx:=hcg.2.2.1
 unfold maxLen at hgx
 have HD:=hide hD
 have HL:=hide hD.1
 have HCg:=hide hcg
 have HK1:=hide hK1
 unfold cgC at hW1
 unfold cgV
 clear hD hcg hK1 hB1
 go_enter Tryz.func3,Tryz.ntmps3
 go_upto_region 1 with fail
 rw [← hW1]
 clear hW1
 go_wp2_with fail
 refine cW.mono ?_
 rintro _ w1 ⟨rfl,hK1⟩
 have HKw:=hide (HK1.out.trans hK1 (by simp))
 have g0:=hK1.cell HG0.out (by simp)
 have g1:=hK1.cell HG1.out (by simp)
 have g2:=hK1.cell HG2.out (by simp)
 clear HG0 HG1 HG2 cW hK1 HK1
 by_cases hm:100 < cg.m
 ·have hm':(100:Int) < cg.m:=by omega
  have hd:decide ((100:Int) < cg.m)=true:=by simpa using hm'
  go_wp2_with fail
  go_ret
  exact ⟨rfl,HKw.out⟩
 ·have hm':¬ (100:Int) < cg.m:=by omega
  have hd:decide ((100:Int) < cg.m)=false:=by simpa using hm'
  have cR:=roomR_call w1 ao n c D (HD.out.kept HKw.out) 100
  rw [show ((100:Nat):Int)=100 from rfl] at cR
  by_cases hr:RoomR 100 D
  ·rw [roomR_ok hr] at cR
   have HR:=hide hr
   have cN:=newM_call w1 [] (fun k hk=>by cases hk) cg.mo cg.m cg.mc cg.l (HCg.out.kept HKw.out) cg.al cg.sz
   clear hr
   go_wp2_with fail
   refine cR.mono ?_
   rintro _ W0 ⟨rfl,hW0⟩
   obtain rfl:=hW0.symm
   clear cR
   go_wp2_with fail
   refine cN.mono ?_
   rintro _ w2 (⟨hok,b,p,F,rfl,hLv⟩ | ⟨hno,rfl,hK2⟩)
   ·have hk2:=hLv.keeps
    have cD:=dnew_call w2 F hLv.lt cg.mo cg.m cg.mc cg.l ((HCg.out.kept HKw.out).kept hk2) cg.al cg.sz
    have g0':=hk2.cell g0 (by simp)
    have g1':=hk2.cell g1 (by simp)
    have g2':=hk2.cell g2 (by simp)
    have HLv:=hide (hLv.elder HKw.out)
    have HOk:=hide hok
    clear hk2 hLv hok g0 g1 g2 cN
    go_wp2_with fail
    refine cD.mono ?_
    rintro _ w3 (⟨_,bd,pd,M,rfl,hLd⟩ | ⟨hno,rfl,hK2⟩)
    ·have HTw:=hide (two_new HLv.out hLd)
     obtain ⟨zn,hzn⟩:∃ zn:Nat,zn=cg.sz.toNat:=⟨_,rfl⟩
     rw [← hzn] at HTw
     clear hLd cD hzn g0' g1' g2'
     obtain ⟨z,hz⟩:∃ z:Pp,z=⟨b,p,bd,pd⟩:=⟨_,rfl⟩
     rw [← hz] at HTw
     obtain ⟨hzb,hzc⟩:b=z.b∧bd=z.c:=by rw [hz];exact ⟨rfl,rfl⟩
     rw [hzb,hzc]
     clear hz hzb hzc HLv
     go_wp2_with fail
     go_loopw [9] (fun iv wr=>TwI W z cg.al zn (newM cg.l) D iv wr) (fun iv _=>n - (intOf iv).toNat)
     case atStart=>exact ⟨0,rfl,Nat.zero_le _,HTw⟩
     case round =>
      obtain ⟨i,rfl,hi,HTr⟩:=hrel
      have hil:i≤n:=by rw [← HL.out];exact hi
      by_cases hlt:i < n
      ·have hlt':(i:Int) < n:=by omega
       have hic:i≤c:=by omega
       have hiD:i < D.length:=by rw [HL.out];exact hlt
       obtain ⟨g,o,he,hat⟩:=HD.out.2.2.2.1 i hiD
       subst he
       have HRg:Hid (∀ w',Kept [] W w'→w'.rangeAt g (o+i*11) (rqC D[i])):=fun w' hk=>rqAt_range (hat.kept hk (by simp))
       have HX:Hid (RqOk W D[i]):=⟨HD.out.2.2.2.2 _ (List.getElem_mem hiD),HR.out.2 _ (List.getElem_mem hiD)⟩
       have hG:=apG_take (al:=cg.al) (sz:=zn) (apG_new cg.l) hi (by have:=HR.out.1;omega)
       have HG2:=hide (hG.step (by have:=HR.out.1;omega) cg.al zn D[i].r)
       have HG:=hide hG
       have HN:Hid (i≤100):=by have:=HR.out.1;show _≤_;omega
       have HT:=hide (apAl_take (al:=cg.al) (sz:=zn) (m:=newM cg.l) hiD)
       generalize D[i]=y at *
       generalize apAl cg.al zn (newM cg.l) (D.take i)=mi at *
       clear hat hG
       go_upto_region 14 with fail
       try simp only [List.append_eq,List.cons_append,List.nil_append]
       refine wp_region_held_drew (S:=fun w'=>w'.rangeAt g (o+i*11) (rqC y)) (by kernel_rfl) (HRg.out _ (HTr.out.keeps.trans (Kept.refl [] _).drew (by simp))) (fun hHeld=>?_)
       refine wpAnyH_list (fuel':=36) (l':=#[false,false,false,false,false,false,false,false,false,false,false,false,false,false,false,false,false,false,false,false,false,false,false,false,false,false,false,false,false,false,false,false,false,false,false,false]) (by rfl) (by rfl) ?_
       refine tks [0,1,2,3] (by rfl) (by kernel_rfl) (fun _ _ _ _ _ h=>h) hHeld ?_
       iterate 4
        refine yk ?_ rfl (Or.inl ⟨by rfl,?_⟩) ?_
        rotate_left
        ·intro w9 hSw;go_simp;(try with_reducible rfl)
        try simp only [sT,Act.put]
       refine yk0 ?_
       simp only [setK,sT]
       refine wpAnyH_take (i:=4) (v:=rqV y) rfl (by kernel_rfl) (by kernel_rfl) (by kernel_rfl) (fun _ _ _ h=>h) (yieldsIf_load_mid (by rfl) _ _ rfl g (o+i*11) rfl (rqC y) _ (fun w9 hSw=>hSw) Tryz.underlying43 rfl size_rq) hHeld ?_
       try simp only [sT,Act.put]
       refine tks [6,7,8,9] (by rfl) (by kernel_rfl) (fun _ _ _ _ _ h=>h) hHeld ?_
       iterate 4
        refine yk ?_ rfl (Or.inl ⟨by rfl,?_⟩) ?_
        rotate_left
        ·intro w9 hSw;go_simp;(try with_reducible rfl)
        try simp only [sT,Act.put]
       refine yk0 ?_
       simp only [setK,sT]
       refine wpAnyH_take (i:=10) (v:=rqV y) rfl (by kernel_rfl) (by kernel_rfl) (by kernel_rfl) (fun _ _ _ h=>h) (yieldsIf_load_mid (by rfl) _ _ rfl g (o+i*11) rfl (rqC y) _ (fun w9 hSw=>hSw) Tryz.underlying43 rfl size_rq) hHeld ?_
       try simp only [sT,Act.put]
       refine rd1 5 (by kernel_rfl) rfl (fun K0 hK0=>?_)
       go_simp
       refine (two_peek (HTr.out.kept (Kept.refl [] _).drew) (by have:=HG.out.g;have:=HN.out;omega) (by have:=HG.out.a;have:=HN.out;omega) y HX.out).mono ?_
       rintro _ w5 ⟨a5,n5,c5,rfl,HO5,HT5,HU5⟩
       go_wp2_with fail
       refine hK0.out _ _ (HRg.out _ HT5.out.keeps) (fun hHeld=>?_)
       clear hK0 K0
       try simp only [sT,Act.put]
       refine rd1 11 (by kernel_rfl) rfl (fun K0 hK0=>?_)
       go_simp
       refine (two_dpeek HT5.out (by have:=HG.out.g;have:=HN.out;omega) y HX.out).mono ?_
       rintro _ w6 ⟨a6,n6,c6,rfl,HO6,HT6,HU6⟩
       have HO5':=hide (HU6.out _ _ HO5.out)
       go_wp2_with fail
       refine hK0.out _ _ (HRg.out _ HT6.out.keeps) (fun hHeld=>?_)
       clear hK0 K0
       try simp only [sT,Act.put]
       have cK:=alikeT_call w6 (peekT mi.g y.r) (.slice a5 n5 c5) (.slice a6 n6 c6) HO5'.out.ko HO6.out.ko
       unfold vtV at cK
       refine rd1 12 (by kernel_rfl) rfl (fun K0 hK0=>?_)
       go_simp
       refine cK.mono ?_
       rintro _ w7 ⟨rfl,hkw7⟩
       have HTw7:=hide (HT6.out.none.kept hkw7)
       clear cK hkw7
       go_wp2_with fail
       refine hK0.out _ _ (HRg.out _ HTw7.out.keeps) (fun hHeld=>?_)
       clear hK0 K0
       try simp only [sT,Act.put]
       refine tks [13,14,15,16,17,18] (by rfl) (by kernel_rfl) (fun _ _ _ _ _ h=>h) hHeld ?_
       iterate 6
        refine yk ?_ rfl (Or.inl ⟨by rfl,?_⟩) ?_
        rotate_left
        ·intro w9 hSw;go_simp;(try with_reducible rfl)
        try simp only [sT,Act.put]
       refine yk0 ?_
       simp only [setK,sT]
       refine wpAnyH_take (i:=19) (v:=rqV y) rfl (by kernel_rfl) (by kernel_rfl) (by kernel_rfl) (fun _ _ _ h=>h) (yieldsIf_load_mid (by rfl) _ _ rfl g (o+i*11) rfl (rqC y) _ (fun w9 hSw=>hSw) Tryz.underlying43 rfl size_rq) hHeld ?_
       try simp only [sT,Act.put]
       refine tks [21,22,23,24] (by rfl) (by kernel_rfl) (fun _ _ _ _ _ h=>h) hHeld ?_
       iterate 4
        refine yk ?_ rfl (Or.inl ⟨by rfl,?_⟩) ?_
        rotate_left
        ·intro w9 hSw;go_simp;(try with_reducible rfl)
        try simp only [sT,Act.put]
       refine yk0 ?_
       simp only [setK,sT]
       refine wpAnyH_take (i:=25) (v:=rqV y) rfl (by kernel_rfl) (by kernel_rfl) (by kernel_rfl) (fun _ _ _ h=>h) (yieldsIf_load_mid (by rfl) _ _ rfl g (o+i*11) rfl (rqC y) _ (fun w9 hSw=>hSw) Tryz.underlying43 rfl size_rq) hHeld ?_
       try simp only [sT,Act.put]
       refine rd1 20 (by kernel_rfl) rfl (fun K0 hK0=>?_)
       go_simp
       refine (two_apply HTw7.out (by have:=HG.out.g;have:=HN.out;omega) (by have:=HG.out.e;have:=HN.out;omega) y HX.out).mono ?_
       rintro _ w8 ⟨a8,n8,c8,rfl,HO8,HT8,HU8⟩
       go_wp2_with fail
       refine hK0.out _ _ (HRg.out _ HT8.out.keeps) (fun hHeld=>?_)
       clear hK0 K0
       try simp only [sT,Act.put]
       refine rd1 26 (by kernel_rfl) rfl (fun K0 hK0=>?_)
       go_simp
       refine (two_dapply HT8.out (by have:=HG.out.g;have:=HN.out;omega) (by have:=HG.out.e;have:=HN.out;omega) y HX.out).mono ?_
       rintro _ w9 ⟨a9,n9,c9,rfl,HO9,HT9,HU9⟩
       have HO8':=hide (HU9.out _ _ HO8.out)
       go_wp2_with fail
       refine hK0.out _ _ (HRg.out _ HT9.out.keeps) (fun hHeld=>?_)
       clear hK0 K0
       try simp only [sT,Act.put]
       have cK:=alikeT_call w9 (apV cg.al mi y.r) (.slice a8 n8 c8) (.slice a9 n9 c9) HO8'.out.ko HO9.out.ko
       unfold vtV at cK
       refine rd1 27 (by kernel_rfl) rfl (fun K0 hK0=>?_)
       go_simp
       refine cK.mono ?_
       rintro _ w10 ⟨rfl,hkw10⟩
       have HTw10:=hide (HT9.out.none.kept hkw10)
       clear cK hkw10
       go_wp2_with fail
       refine hK0.out _ _ (HRg.out _ HTw10.out.keeps) (fun hHeld=>?_)
       clear hK0 K0
       try simp only [sT,Act.put]
       refine tks [28,29,30,31,32] (by rfl) (by kernel_rfl) (fun _ _ _ _ _ h=>h) hHeld ?_
       iterate 5
        refine yk ?_ rfl (Or.inl ⟨by rfl,?_⟩) ?_
        rotate_left
        ·intro w9 hSw;go_simp;(try with_reducible rfl)
        try simp only [sT,Act.put]
       refine yk0 ?_
       simp only [setK,sT]
       refine rd1 33 (by kernel_rfl) rfl (fun K0 hK0=>?_)
       go_simp
       refine (two_looks HTw10.out (by have:=HG2.out.g;have:=HN.out;omega) (by have:=HG2.out.e;have:=HN.out;omega)).mono ?_
       rintro _ w11 ⟨rfl,HK11⟩
       have HT11:=hide (HTw10.out.kept HK11.out)
       go_wp2_with fail
       refine hK0.out _ _ (HRg.out _ HT11.out.keeps) (fun hHeld=>?_)
       clear hK0 K0
       try simp only [sT,Act.put]
       refine tks [34,35] (by rfl) (by kernel_rfl) (fun _ _ _ _ _ h=>h) hHeld ?_
       iterate 2
        refine yk ?_ rfl (Or.inl ⟨by rfl,?_⟩) ?_
        rotate_left
        ·intro w9 hSw;go_simp;(try with_reducible rfl)
        try simp only [sT,Act.put]
       refine yk0 ?_
       simp only [setK,sT]
       try simp only [sT,Act.put]
       refine wpAnyH_done (by kernel_rfl) ?_ _
       clear hHeld
       rw [← HT.out] at HT11
       go_wp2_with fail
       go_roundw
       case rel=>exact ⟨i+1,by go_num,by omega,HT11⟩
       case measure=>simp [intOf];omega
      ·have hlt':¬ (i:Int) < n:=by omega
       go_wp2_with fail
       go_ret
       exact ⟨rfl,HTr.out.keeps⟩
    ·exact absurd HOk.out hno
   ·have cD:=dnew_call w2 [] (fun k hk=>by cases hk) cg.mo cg.m cg.mc cg.l ((HCg.out.kept HKw.out).kept hK2) cg.al cg.sz
    have g0':=hK2.cell g0 (by simp)
    have g1':=hK2.cell g1 (by simp)
    have g2':=hK2.cell g2 (by simp)
    have HK2:=hide (HKw.out.trans hK2 (by simp))
    have HNo:=hide hno
    clear hK2 g0 g1 g2 cN hno
    go_wp2_with fail
    refine cD.mono ?_
    rintro _ w3 (⟨hok,bd,pd,M,rfl,hLd⟩ | ⟨_,rfl,hK3⟩)
    ·exact absurd hok HNo.out
    ·have HK3:=hide (HK2.out.trans hK3 (by simp))
     clear hK3 cD g0' g1' g2'
     go_wp2_with fail
     go_ret
     exact ⟨rfl,HK3.out⟩
  ·rw [roomR_no hr] at cR
   clear hr
   go_wp2_with fail
   refine cR.mono ?_
   rintro _ W0 ⟨rfl,hW0⟩
   obtain rfl:=hW0.symm
   clear cR
   go_wp2_with fail
   go_ret
   exact ⟨rfl,HKw.out⟩
end Go.Proofs.YtgpnlidnbldiiaaGreat
