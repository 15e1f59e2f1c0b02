/-
  The image's eye: numbers, texts, flags, words, verdicts: read, or a panic with what is wrong.
-/
import Derived.Test.YtddhmfildfdbdaaGreatQ2r
import Derived.Test.YtddhmfildfdbdaaGreatF12r
import Derived.Test.YtddhmfildfdbdaaGreatImPurer
set_option maxHeartbeats 2000000
set_option linter.unusedSimpArgs false
namespace Go.Proofs.YtddhmfildfdbdaaGreat
open Go.RowKit
def pncE (e:Int):Ending:=.panicked [{ v:=.iface 25 (.int .i64 e),recovered:=false }]
def eyV (p:Nat):Value:=.agg #[.pointer (some ⟨p,0,none⟩)]
def Eyd {α:Type}(p:Nat) (F:List Nat) (w:World) (q:α × (List Int × Int)) (V:α→World→Value→Prop) (r:Ending) (w':World):Prop :=
 Kept (p :: F) w w'∧((q.2.2=0∧∃ v,r=.returned v∧V q.1 w' v∧Rd w' p F q.2.1 0)∨(q.2.2≠0∧r=pncE q.2.2))
theorem must_ok (w:World):Calls Tryz.prog 31 #[.int .i64 0] w fun r w'=>r=.returned (.tuple #[])∧w'=w:=by
 go_enter Tryz.func31,Tryz.ntmps31
 go_wp2
 go_end0
 exact ⟨rfl,rfl⟩
theorem must_bad (w:World) (e:Int) (he:e≠0):Calls Tryz.prog 31 #[.int .i64 e] w fun r w'=>r=pncE e∧w'=w:=by
 have heb:(e != 0)=true:=by simp [he]
 clear he
 unfold pncE
 go_enter Tryz.func31,Tryz.ntmps31
 go_wp2
 exact ⟨rfl,rfl,rfl⟩
theorem soundN_ok (w:World) (p:Nat) (F:List Nat) (l:List Int) (x:Int) (hR:Rd w p F l 0) :
 Calls Tryz.prog 49 #[eyV p,.int .i64 x] w fun r w'=>r=.returned (.int .i64 x)∧Kept [] w w':=by
 have k1:Kept [] w (w.alloc (.cells #[.pointer (some ⟨p,0,none⟩)] 38)):=(Kept.refl _ _).alloc _
 have cF:=fail_call _ p F l 0 (Rd.kept k1 hR (by simp) (by simp))
 have cM:=must_ok (w.alloc (.cells #[.pointer (some ⟨p,0,none⟩)] 38))
 clear hR
 unfold eyV
 go_enter Tryz.func49,Tryz.ntmps49
 go_wp2_with fail
 refine cF.mono ?_
 rintro _ _ ⟨rfl,rfl⟩
 go_wp2_with fail
 refine cM.mono ?_
 rintro _ _ ⟨rfl,rfl⟩
 go_wp2_with fail
 go_ret
 exact ⟨rfl,k1⟩
theorem soundN_bad (w:World) (p:Nat) (F:List Nat) (l:List Int) (e:Int) (x:Int) (hR:Rd w p F l e) (he:e≠0) :
 Calls Tryz.prog 49 #[eyV p,.int .i64 x] w fun r w'=>r=pncE e∧Kept [] w w':=by
 have k1:Kept [] w (w.alloc (.cells #[.pointer (some ⟨p,0,none⟩)] 38)):=(Kept.refl _ _).alloc _
 have cF:=fail_call _ p F l e (Rd.kept k1 hR (by simp) (by simp))
 have cM:=must_bad (w.alloc (.cells #[.pointer (some ⟨p,0,none⟩)] 38)) e he
 clear hR he
 unfold eyV
 unfold pncE at *
 go_enter Tryz.func49,Tryz.ntmps49
 go_wp2_with fail
 refine cF.mono ?_
 rintro _ _ ⟨rfl,rfl⟩
 go_wp2_with fail
 refine cM.mono ?_
 rintro _ _ ⟨rfl,rfl⟩
 go_wp2_with fail
 exact ⟨rfl,rfl,k1⟩
theorem soundT_ok (w:World) (p:Nat) (F:List Nat) (l:List Int) (x:ByteArray) (hR:Rd w p F l 0) :
 Calls Tryz.prog 76 #[eyV p,.string x] w fun r w'=>r=.returned (.string x)∧Kept [] w w':=by
 have k1:Kept [] w (w.alloc (.cells #[.pointer (some ⟨p,0,none⟩)] 38)):=(Kept.refl _ _).alloc _
 have cF:=fail_call _ p F l 0 (Rd.kept k1 hR (by simp) (by simp))
 have cM:=must_ok (w.alloc (.cells #[.pointer (some ⟨p,0,none⟩)] 38))
 clear hR
 unfold eyV
 go_enter Tryz.func76,Tryz.ntmps76
 go_wp2_with fail
 refine cF.mono ?_
 rintro _ _ ⟨rfl,rfl⟩
 go_wp2_with fail
 refine cM.mono ?_
 rintro _ _ ⟨rfl,rfl⟩
 go_wp2_with fail
 go_ret
 exact ⟨rfl,k1⟩
theorem soundT_bad (w:World) (p:Nat) (F:List Nat) (l:List Int) (e:Int) (x:ByteArray) (hR:Rd w p F l e) (he:e≠0) :
 Calls Tryz.prog 76 #[eyV p,.string x] w fun r w'=>r=pncE e∧Kept [] w w':=by
 have k1:Kept [] w (w.alloc (.cells #[.pointer (some ⟨p,0,none⟩)] 38)):=(Kept.refl _ _).alloc _
 have cF:=fail_call _ p F l e (Rd.kept k1 hR (by simp) (by simp))
 have cM:=must_bad (w.alloc (.cells #[.pointer (some ⟨p,0,none⟩)] 38)) e he
 clear hR he
 unfold eyV
 unfold pncE at *
 go_enter Tryz.func76,Tryz.ntmps76
 go_wp2_with fail
 refine cF.mono ?_
 rintro _ _ ⟨rfl,rfl⟩
 go_wp2_with fail
 refine cM.mono ?_
 rintro _ _ ⟨rfl,rfl⟩
 go_wp2_with fail
 exact ⟨rfl,rfl,k1⟩
theorem soundF_ok (w:World) (p:Nat) (F:List Nat) (l:List Int) (x:Bool) (hR:Rd w p F l 0) :
 Calls Tryz.prog 111 #[eyV p,.bool x] w fun r w'=>r=.returned (.bool x)∧Kept [] w w':=by
 have k1:Kept [] w (w.alloc (.cells #[.pointer (some ⟨p,0,none⟩)] 38)):=(Kept.refl _ _).alloc _
 have cF:=fail_call _ p F l 0 (Rd.kept k1 hR (by simp) (by simp))
 have cM:=must_ok (w.alloc (.cells #[.pointer (some ⟨p,0,none⟩)] 38))
 clear hR
 unfold eyV
 go_enter Tryz.func111,Tryz.ntmps111
 go_wp2_with fail
 refine cF.mono ?_
 rintro _ _ ⟨rfl,rfl⟩
 go_wp2_with fail
 refine cM.mono ?_
 rintro _ _ ⟨rfl,rfl⟩
 go_wp2_with fail
 go_ret
 exact ⟨rfl,k1⟩
theorem soundF_bad (w:World) (p:Nat) (F:List Nat) (l:List Int) (e:Int) (x:Bool) (hR:Rd w p F l e) (he:e≠0) :
 Calls Tryz.prog 111 #[eyV p,.bool x] w fun r w'=>r=pncE e∧Kept [] w w':=by
 have k1:Kept [] w (w.alloc (.cells #[.pointer (some ⟨p,0,none⟩)] 38)):=(Kept.refl _ _).alloc _
 have cF:=fail_call _ p F l e (Rd.kept k1 hR (by simp) (by simp))
 have cM:=must_bad (w.alloc (.cells #[.pointer (some ⟨p,0,none⟩)] 38)) e he
 clear hR he
 unfold eyV
 unfold pncE at *
 go_enter Tryz.func111,Tryz.ntmps111
 go_wp2_with fail
 refine cF.mono ?_
 rintro _ _ ⟨rfl,rfl⟩
 go_wp2_with fail
 refine cM.mono ?_
 rintro _ _ ⟨rfl,rfl⟩
 go_wp2_with fail
 exact ⟨rfl,rfl,k1⟩
theorem soundW_ok (w:World) (p:Nat) (F:List Nat) (l:List Int) (x:Int) (hR:Rd w p F l 0) :
 Calls Tryz.prog 113 #[eyV p,.int .u64 x] w fun r w'=>r=.returned (.int .u64 x)∧Kept [] w w':=by
 have k1:Kept [] w (w.alloc (.cells #[.pointer (some ⟨p,0,none⟩)] 38)):=(Kept.refl _ _).alloc _
 have cF:=fail_call _ p F l 0 (Rd.kept k1 hR (by simp) (by simp))
 have cM:=must_ok (w.alloc (.cells #[.pointer (some ⟨p,0,none⟩)] 38))
 clear hR
 unfold eyV
 go_enter Tryz.func113,Tryz.ntmps113
 go_wp2_with fail
 refine cF.mono ?_
 rintro _ _ ⟨rfl,rfl⟩
 go_wp2_with fail
 refine cM.mono ?_
 rintro _ _ ⟨rfl,rfl⟩
 go_wp2_with fail
 go_ret
 exact ⟨rfl,k1⟩
theorem soundW_bad (w:World) (p:Nat) (F:List Nat) (l:List Int) (e:Int) (x:Int) (hR:Rd w p F l e) (he:e≠0) :
 Calls Tryz.prog 113 #[eyV p,.int .u64 x] w fun r w'=>r=pncE e∧Kept [] w w':=by
 have k1:Kept [] w (w.alloc (.cells #[.pointer (some ⟨p,0,none⟩)] 38)):=(Kept.refl _ _).alloc _
 have cF:=fail_call _ p F l e (Rd.kept k1 hR (by simp) (by simp))
 have cM:=must_bad (w.alloc (.cells #[.pointer (some ⟨p,0,none⟩)] 38)) e he
 clear hR he
 unfold eyV
 unfold pncE at *
 go_enter Tryz.func113,Tryz.ntmps113
 go_wp2_with fail
 refine cF.mono ?_
 rintro _ _ ⟨rfl,rfl⟩
 go_wp2_with fail
 refine cM.mono ?_
 rintro _ _ ⟨rfl,rfl⟩
 go_wp2_with fail
 exact ⟨rfl,rfl,k1⟩
theorem eyN_call (w:World) (p:Nat) (F:List Nat) (l:List Int) (hR:Rd w p F l 0) :
 Calls Tryz.prog 24 #[eyV p] w (Eyd p F w (numR (l,0)) (fun x _ v=>v=.int .i64 x)):=by
 have k1:Kept [] w (w.alloc (.cells #[.pointer (some ⟨p,0,none⟩)] 38)):=(Kept.refl _ _).alloc _
 have hpw:=hR.lt
 obtain ⟨W,hW⟩:∃ W,W=w.alloc (.cells #[.pointer (some ⟨p,0,none⟩)] 38):=⟨_,rfl⟩
 have hq:W.drew.cell? ⟨w.heap.size,0,none⟩=some (.pointer (some ⟨p,0,none⟩)):=by rw [hW];exact cell_inC (k:=0) (heap_alloc_new w _) rfl
 rw [← hW] at k1
 have k2:Kept [] w W.drew:=k1.trans (Kept.refl [] W).drew (by simp)
 have cN:=num_call _ p F l 0 (Rd.kept k2 hR (by simp) (by simp))
 have HQ:Hid (numR (l,0)=((rdNumE 0 l).2.1,((rdNumE 0 l).2.2,(rdNumE 0 l).1))):=rfl
 generalize rdNumE 0 l=q at cN HQ
 obtain ⟨e1,x,rest⟩:=q
 simp only at cN HQ
 have HK2:=hide k2
 clear hR k1 k2
 unfold Eyd
 rw [HQ.out]
 unfold eyV pncE
 go_enter Tryz.func24,Tryz.ntmps24
 go_upto_region 1 with fail
 rw [← hW]
 clear hW
 refine wp_region_held_drew (S:=fun w9=>w9.cell? ⟨w.heap.size,0,none⟩=some (.pointer (some ⟨p,0,none⟩))) (by kernel_rfl) hq (fun hHeld=>?_)
 refine tks [0,1,2] (by rfl) (by kernel_rfl) (fun _ _ _ _ _ h=>h) hHeld ?_
 iterate 3
  refine yk ?_ rfl (Or.inl ⟨by rfl,?_⟩) ?_
  rotate_left
  ·intro w9 hSw;(try dsimp only at hSw);go_simp;(try with_reducible rfl)
  try simp only [sT,Act.put]
 refine yk0 ?_
 simp only [setK,sT]
 refine rd1 3 (by kernel_rfl) rfl (fun K0 hK0=>?_)
 go_simp
 refine cN.mono ?_
 rintro _ w1 ⟨rfl,h1,h2⟩
 have hq1:=h2.cell hq (by simp;omega)
 have H1:=hide h1
 have H2:=hide h2
 clear h1 h2 hq
 go_wp2_with fail
 refine hK0.out _ _ hq1 (fun hHeld=>?_)
 clear hK0 K0
 try simp only [sT,Act.put]
 by_cases he:e1=0
 ·subst he
  refine rd1 4 (by kernel_rfl) rfl (fun K0 hK0=>?_)
  go_simp
  have cS:=soundN_ok w1 p F rest (x) H1.out
  unfold eyV at cS
  refine cS.mono ?_
  rintro _ w2 ⟨rfl,hk⟩
  have hq2:=hk.cell hq1 (by simp)
  have H3:=hide (Rd.kept hk H1.out (by simp) (by simp))
  have H4:Hid (Kept (p :: F) w w2):=((HK2.out.mono (by simp)).trans H2.out (fun i hi=>.inl (by simp at hi;simp [hi]))).trans hk (by simp)
  clear hk cS
  go_wp2_with fail
  refine hK0.out _ _ hq2 (fun hHeld=>?_)
  clear hK0 K0
  try simp only [sT,Act.put]
  refine tks [5] (by rfl) (by kernel_rfl) (fun _ _ _ _ _ h=>h) hHeld ?_
  iterate 1
   refine yk ?_ rfl (Or.inl ⟨by rfl,?_⟩) ?_
   rotate_left
   ·intro w9 hSw;(try dsimp only at hSw);go_simp;(try with_reducible rfl)
   try simp only [sT,Act.put]
  refine yk0 ?_
  simp only [setK,sT]
  try simp only [sT,Act.put]
  refine wpAnyH_done (by kernel_rfl) ?_ _
  clear hHeld
  go_wp2_with fail
  go_ret
  exact ⟨H4.out,_,rfl,rfl,H3.out⟩
 ·refine rd1 4 (by kernel_rfl) rfl (fun K0 hK0=>?_)
  go_simp
  have cS:=soundN_bad w1 p F rest e1 (x) H1.out he
  unfold eyV pncE at cS
  refine cS.mono ?_
  rintro _ w2 ⟨rfl,hk⟩
  have H4:Hid (Kept (p :: F) w w2):=((HK2.out.mono (by simp)).trans H2.out (fun i hi=>.inl (by simp at hi;simp [hi]))).trans hk (by simp)
  have HE:=hide he
  clear hk cS he
  go_wp2_with fail
  exact ⟨rfl,H4.out,.inr ⟨HE.out,rfl⟩⟩
theorem eyF_call (w:World) (p:Nat) (F:List Nat) (l:List Int) (hR:Rd w p F l 0) :
 Calls Tryz.prog 80 #[eyV p] w (Eyd p F w (flagR (l,0)) (fun x _ v=>v=.bool x)):=by
 have k1:Kept [] w (w.alloc (.cells #[.pointer (some ⟨p,0,none⟩)] 38)):=(Kept.refl _ _).alloc _
 have hpw:=hR.lt
 obtain ⟨W,hW⟩:∃ W,W=w.alloc (.cells #[.pointer (some ⟨p,0,none⟩)] 38):=⟨_,rfl⟩
 have hq:W.drew.cell? ⟨w.heap.size,0,none⟩=some (.pointer (some ⟨p,0,none⟩)):=by rw [hW];exact cell_inC (k:=0) (heap_alloc_new w _) rfl
 rw [← hW] at k1
 have k2:Kept [] w W.drew:=k1.trans (Kept.refl [] W).drew (by simp)
 have cN:=rFlag_call _ p F l 0 (Rd.kept k2 hR (by simp) (by simp))
 have HQ:Hid (flagR (l,0)=((rdFlagE 0 l).2.1,((rdFlagE 0 l).2.2,(rdFlagE 0 l).1))):=rfl
 generalize rdFlagE 0 l=q at cN HQ
 obtain ⟨e1,x,rest⟩:=q
 simp only at cN HQ
 have HK2:=hide k2
 clear hR k1 k2
 unfold Eyd
 rw [HQ.out]
 unfold eyV pncE
 go_enter Tryz.func80,Tryz.ntmps80
 go_upto_region 1 with fail
 rw [← hW]
 clear hW
 refine wp_region_held_drew (S:=fun w9=>w9.cell? ⟨w.heap.size,0,none⟩=some (.pointer (some ⟨p,0,none⟩))) (by kernel_rfl) hq (fun hHeld=>?_)
 refine tks [0,1,2] (by rfl) (by kernel_rfl) (fun _ _ _ _ _ h=>h) hHeld ?_
 iterate 3
  refine yk ?_ rfl (Or.inl ⟨by rfl,?_⟩) ?_
  rotate_left
  ·intro w9 hSw;(try dsimp only at hSw);go_simp;(try with_reducible rfl)
  try simp only [sT,Act.put]
 refine yk0 ?_
 simp only [setK,sT]
 refine rd1 3 (by kernel_rfl) rfl (fun K0 hK0=>?_)
 go_simp
 refine cN.mono ?_
 rintro _ w1 ⟨rfl,h1,h2⟩
 have hq1:=h2.cell hq (by simp;omega)
 have H1:=hide h1
 have H2:=hide h2
 clear h1 h2 hq
 go_wp2_with fail
 refine hK0.out _ _ hq1 (fun hHeld=>?_)
 clear hK0 K0
 try simp only [sT,Act.put]
 by_cases he:e1=0
 ·subst he
  refine rd1 4 (by kernel_rfl) rfl (fun K0 hK0=>?_)
  go_simp
  have cS:=soundF_ok w1 p F rest (x) H1.out
  unfold eyV at cS
  refine cS.mono ?_
  rintro _ w2 ⟨rfl,hk⟩
  have hq2:=hk.cell hq1 (by simp)
  have H3:=hide (Rd.kept hk H1.out (by simp) (by simp))
  have H4:Hid (Kept (p :: F) w w2):=((HK2.out.mono (by simp)).trans H2.out (fun i hi=>.inl (by simp at hi;simp [hi]))).trans hk (by simp)
  clear hk cS
  go_wp2_with fail
  refine hK0.out _ _ hq2 (fun hHeld=>?_)
  clear hK0 K0
  try simp only [sT,Act.put]
  refine tks [5] (by rfl) (by kernel_rfl) (fun _ _ _ _ _ h=>h) hHeld ?_
  iterate 1
   refine yk ?_ rfl (Or.inl ⟨by rfl,?_⟩) ?_
   rotate_left
   ·intro w9 hSw;(try dsimp only at hSw);go_simp;(try with_reducible rfl)
   try simp only [sT,Act.put]
  refine yk0 ?_
  simp only [setK,sT]
  try simp only [sT,Act.put]
  refine wpAnyH_done (by kernel_rfl) ?_ _
  clear hHeld
  go_wp2_with fail
  go_ret
  exact ⟨H4.out,_,rfl,rfl,H3.out⟩
 ·refine rd1 4 (by kernel_rfl) rfl (fun K0 hK0=>?_)
  go_simp
  have cS:=soundF_bad w1 p F rest e1 (x) H1.out he
  unfold eyV pncE at cS
  refine cS.mono ?_
  rintro _ w2 ⟨rfl,hk⟩
  have H4:Hid (Kept (p :: F) w w2):=((HK2.out.mono (by simp)).trans H2.out (fun i hi=>.inl (by simp at hi;simp [hi]))).trans hk (by simp)
  have HE:=hide he
  clear hk cS he
  go_wp2_with fail
  exact ⟨rfl,H4.out,.inr ⟨HE.out,rfl⟩⟩
theorem eyW_call (w:World) (p:Nat) (F:List Nat) (l:List Int) (hR:Rd w p F l 0) :
 Calls Tryz.prog 81 #[eyV p] w (Eyd p F w (wordR (l,0)) (fun x _ v=>v=.int .u64 x)):=by
 have k1:Kept [] w (w.alloc (.cells #[.pointer (some ⟨p,0,none⟩)] 38)):=(Kept.refl _ _).alloc _
 have hpw:=hR.lt
 obtain ⟨W,hW⟩:∃ W,W=w.alloc (.cells #[.pointer (some ⟨p,0,none⟩)] 38):=⟨_,rfl⟩
 have hq:W.drew.cell? ⟨w.heap.size,0,none⟩=some (.pointer (some ⟨p,0,none⟩)):=by rw [hW];exact cell_inC (k:=0) (heap_alloc_new w _) rfl
 rw [← hW] at k1
 have k2:Kept [] w W.drew:=k1.trans (Kept.refl [] W).drew (by simp)
 have cN:=rWord_call _ p F l 0 (Rd.kept k2 hR (by simp) (by simp))
 have HQ:Hid (wordR (l,0)=((rdWordE 0 l).2.1,((rdWordE 0 l).2.2,(rdWordE 0 l).1))):=rfl
 generalize rdWordE 0 l=q at cN HQ
 obtain ⟨e1,x,rest⟩:=q
 simp only at cN HQ
 have HK2:=hide k2
 clear hR k1 k2
 unfold Eyd
 rw [HQ.out]
 unfold eyV pncE
 go_enter Tryz.func81,Tryz.ntmps81
 go_upto_region 1 with fail
 rw [← hW]
 clear hW
 refine wp_region_held_drew (S:=fun w9=>w9.cell? ⟨w.heap.size,0,none⟩=some (.pointer (some ⟨p,0,none⟩))) (by kernel_rfl) hq (fun hHeld=>?_)
 refine tks [0,1,2] (by rfl) (by kernel_rfl) (fun _ _ _ _ _ h=>h) hHeld ?_
 iterate 3
  refine yk ?_ rfl (Or.inl ⟨by rfl,?_⟩) ?_
  rotate_left
  ·intro w9 hSw;(try dsimp only at hSw);go_simp;(try with_reducible rfl)
  try simp only [sT,Act.put]
 refine yk0 ?_
 simp only [setK,sT]
 refine rd1 3 (by kernel_rfl) rfl (fun K0 hK0=>?_)
 go_simp
 refine cN.mono ?_
 rintro _ w1 ⟨rfl,h1,h2⟩
 have hq1:=h2.cell hq (by simp;omega)
 have H1:=hide h1
 have H2:=hide h2
 clear h1 h2 hq
 go_wp2_with fail
 refine hK0.out _ _ hq1 (fun hHeld=>?_)
 clear hK0 K0
 try simp only [sT,Act.put]
 by_cases he:e1=0
 ·subst he
  refine rd1 4 (by kernel_rfl) rfl (fun K0 hK0=>?_)
  go_simp
  have cS:=soundW_ok w1 p F rest (x) H1.out
  unfold eyV at cS
  refine cS.mono ?_
  rintro _ w2 ⟨rfl,hk⟩
  have hq2:=hk.cell hq1 (by simp)
  have H3:=hide (Rd.kept hk H1.out (by simp) (by simp))
  have H4:Hid (Kept (p :: F) w w2):=((HK2.out.mono (by simp)).trans H2.out (fun i hi=>.inl (by simp at hi;simp [hi]))).trans hk (by simp)
  clear hk cS
  go_wp2_with fail
  refine hK0.out _ _ hq2 (fun hHeld=>?_)
  clear hK0 K0
  try simp only [sT,Act.put]
  refine tks [5] (by rfl) (by kernel_rfl) (fun _ _ _ _ _ h=>h) hHeld ?_
  iterate 1
   refine yk ?_ rfl (Or.inl ⟨by rfl,?_⟩) ?_
   rotate_left
   ·intro w9 hSw;(try dsimp only at hSw);go_simp;(try with_reducible rfl)
   try simp only [sT,Act.put]
  refine yk0 ?_
  simp only [setK,sT]
  try simp only [sT,Act.put]
  refine wpAnyH_done (by kernel_rfl) ?_ _
  clear hHeld
  go_wp2_with fail
  go_ret
  exact ⟨H4.out,_,rfl,rfl,H3.out⟩
 ·refine rd1 4 (by kernel_rfl) rfl (fun K0 hK0=>?_)
  go_simp
  have cS:=soundW_bad w1 p F rest e1 (x) H1.out he
  unfold eyV pncE at cS
  refine cS.mono ?_
  rintro _ w2 ⟨rfl,hk⟩
  have H4:Hid (Kept (p :: F) w w2):=((HK2.out.mono (by simp)).trans H2.out (fun i hi=>.inl (by simp at hi;simp [hi]))).trans hk (by simp)
  have HE:=hide he
  clear hk cS he
  go_wp2_with fail
  exact ⟨rfl,H4.out,.inr ⟨HE.out,rfl⟩⟩
theorem eyT_call (w:World) (p:Nat) (F:List Nat) (l:List Int) (most:Int) (hR:Rd w p F l 0) :
 Calls Tryz.prog 52 #[eyV p,.int .i64 most] w (Eyd p F w (txR most (l,0)) (fun x _ v=>v=.string (str x))):=by
 have k1:Kept [] w (w.alloc (.cells #[.pointer (some ⟨p,0,none⟩)] 38)):=(Kept.refl _ _).alloc _
 have hpw:=hR.lt
 obtain ⟨W,hW⟩:∃ W,W=w.alloc (.cells #[.pointer (some ⟨p,0,none⟩)] 38):=⟨_,rfl⟩
 have hq:W.drew.cell? ⟨w.heap.size,0,none⟩=some (.pointer (some ⟨p,0,none⟩)):=by rw [hW];exact cell_inC (k:=0) (heap_alloc_new w _) rfl
 rw [← hW] at k1
 have k2:Kept [] w W.drew:=k1.trans (Kept.refl [] W).drew (by simp)
 have cN:=text_call _ p F l 0 most (Rd.kept k2 hR (by simp) (by simp))
 have HQ:Hid (txR most (l,0)=(u8s (rdRunE 0 most l).2.1,((rdRunE 0 most l).2.2,(rdRunE 0 most l).1))):=rfl
 generalize rdRunE 0 most l=q at cN HQ
 obtain ⟨e1,x,rest⟩:=q
 simp only at cN HQ
 have HK2:=hide k2
 clear hR k1 k2
 unfold Eyd
 rw [HQ.out]
 unfold eyV pncE
 go_enter Tryz.func52,Tryz.ntmps52
 go_upto_region 1 with fail
 rw [← hW]
 clear hW
 refine wp_region_held_drew (S:=fun w9=>w9.cell? ⟨w.heap.size,0,none⟩=some (.pointer (some ⟨p,0,none⟩))) (by kernel_rfl) hq (fun hHeld=>?_)
 refine tks [0,1,2,3] (by rfl) (by kernel_rfl) (fun _ _ _ _ _ h=>h) hHeld ?_
 iterate 4
  refine yk ?_ rfl (Or.inl ⟨by rfl,?_⟩) ?_
  rotate_left
  ·intro w9 hSw;(try dsimp only at hSw);go_simp;(try with_reducible rfl)
  try simp only [sT,Act.put]
 refine yk0 ?_
 simp only [setK,sT]
 refine rd1 4 (by kernel_rfl) rfl (fun K0 hK0=>?_)
 go_simp
 refine cN.mono ?_
 rintro _ w1 ⟨rfl,h1,h2⟩
 have hq1:=h2.cell hq (by simp;omega)
 have H1:=hide h1
 have H2:=hide h2
 clear h1 h2 hq
 go_wp2_with fail
 refine hK0.out _ _ hq1 (fun hHeld=>?_)
 clear hK0 K0
 try simp only [sT,Act.put]
 by_cases he:e1=0
 ·subst he
  refine rd1 5 (by kernel_rfl) rfl (fun K0 hK0=>?_)
  go_simp
  have cS:=soundT_ok w1 p F rest (strB x) H1.out
  unfold eyV at cS
  refine cS.mono ?_
  rintro _ w2 ⟨rfl,hk⟩
  have hq2:=hk.cell hq1 (by simp)
  have H3:=hide (Rd.kept hk H1.out (by simp) (by simp))
  have H4:Hid (Kept (p :: F) w w2):=((HK2.out.mono (by simp)).trans H2.out (fun i hi=>.inl (by simp at hi;simp [hi]))).trans hk (by simp)
  clear hk cS
  go_wp2_with fail
  refine hK0.out _ _ hq2 (fun hHeld=>?_)
  clear hK0 K0
  try simp only [sT,Act.put]
  refine tks [6] (by rfl) (by kernel_rfl) (fun _ _ _ _ _ h=>h) hHeld ?_
  iterate 1
   refine yk ?_ rfl (Or.inl ⟨by rfl,?_⟩) ?_
   rotate_left
   ·intro w9 hSw;(try dsimp only at hSw);go_simp;(try with_reducible rfl)
   try simp only [sT,Act.put]
  refine yk0 ?_
  simp only [setK,sT]
  try simp only [sT,Act.put]
  refine wpAnyH_done (by kernel_rfl) ?_ _
  clear hHeld
  go_wp2_with fail
  go_ret
  exact ⟨H4.out,_,rfl,rfl,H3.out⟩
 ·refine rd1 5 (by kernel_rfl) rfl (fun K0 hK0=>?_)
  go_simp
  have cS:=soundT_bad w1 p F rest e1 (strB x) H1.out he
  unfold eyV pncE at cS
  refine cS.mono ?_
  rintro _ w2 ⟨rfl,hk⟩
  have H4:Hid (Kept (p :: F) w w2):=((HK2.out.mono (by simp)).trans H2.out (fun i hi=>.inl (by simp at hi;simp [hi]))).trans hk (by simp)
  have HE:=hide he
  clear hk cS he
  go_wp2_with fail
  exact ⟨rfl,H4.out,.inr ⟨HE.out,rfl⟩⟩
theorem Eyd.cases {α:Type}{p:Nat}{F:List Nat}{w w':World}{x:α}{l:List Int}{e:Int}{V:α→World→Value→Prop}{r:Ending}(h:Eyd p F w (x,(l,e)) V r w') :
 (e=0∧Kept (p :: F) w w'∧∃ v,r=.returned v∧V x w' v∧Rd w' p F l 0)∨(e≠0∧Kept (p :: F) w w'∧r=pncE e):=by
 obtain ⟨h1,⟨h2,v,h3,h4,h5⟩ | ⟨h2,h3⟩⟩:=h
 ·exact .inl ⟨h2,h1,v,h3,h4,h5⟩
 ·exact .inr ⟨h2,h1,h3⟩
theorem seq_bad {α β:Type}{A:Rdr α}{B:α→Rdr β}{okA:α→Prop}{okB:α→β→Prop}{bA:α→List Int}{bB:α→β→List Int}(hA:Cdc A okA bA) (hB:∀ a,Cdc (B a) (okB a) (bB a)) {l:List Int}(h:(A (l,0)).2.2≠0):(seqR A B (l,0)).2=([],(A (l,0)).2.2):=by
 show (B (A (l,0)).1 (A (l,0)).2).2=_
 have e:(A (l,0)).2=([],(A (l,0)).2.2):=Prod.ext (hA.nil l h) rfl
 rw [e,(hB _).bad _ h]
theorem rep_snoc {α:Type}(one:Rdr α) (n:Nat) (s:List Int × Int):repR one (n+1) s=((repR one n s).1++[(one (repR one n s).2).1],(one (repR one n s).2).2):=by
 induction n generalizing s with
 | zero=>rfl
 | succ n ih =>
   have e:∀ k,repR one (k+1) s=((one s).1 :: (repR one k (one s).2).1,(repR one k (one s).2).2):=fun _=>rfl
   rw [e (n+1),ih (one s).2,e n]
   rfl
theorem rep_stop {α:Type}{one:Rdr α}{ok:α→Prop}{b:α→List Int}(h:Cdc one ok b) {s:List Int × Int}{j:Nat}{e:Int}(he:e≠0) (hj:(repR one j s).2=([],e)):∀ n,j≤n→(repR one n s).2=([],e):=by
 intro n hn
 induction n with
 | zero=>obtain rfl:j=0:=by omega
         exact hj
 | succ n ih =>
   rcases Nat.lt_or_ge n j with h1 | h1
   ·obtain rfl:j=n+1:=by omega
    exact hj
   ·rw [rep_snoc,ih h1]
    exact h.bad e he
def Eats {α:Type}(one:Rdr α):Prop:=∀ l x t,Oct l→one (l,0)=(x,(t,0))→t.length < l.length
theorem Cdc.eats {α:Type}{one:Rdr α}{ok:α→Prop}{b:α→List Int}(h:Cdc one ok b) (hb:∀ x,0 < (b x).length):Eats one:=by
 intro l x t ho he
 obtain ⟨_,h2⟩:=h.bwd l x t ho he
 rw [h2,List.length_append]
 have:=hb x
 omega
theorem enc_pos (f:Nat) (n:Int):0 < (enc f n).length:=by
 cases f <;> unfold enc <;> (try split) <;> simp
theorem encNum_pos (n:Int):0 < (encNum n).length:=enc_pos 5 n
end Go.Proofs.YtddhmfildfdbdaaGreat
