/-
  The document's own table: Done.
-/
import Derived.Test.YtgpnlidnbldiiaaGreatQ2r
import Derived.Test.YtgpnlidnbldiiaaGreatMtAskr
namespace Go.Proofs.YtgpnlidnbldiiaaGreat
open Go.RowKit
variable {P : Nat → Prop}
theorem RowS.seven {B:Nat}{w4:World}{g n cap i:Nat}{X:List (Se × Value)}{x:Se}{um:Value}{seq:Int}(h:RowS B w4 (.slice (some ⟨g,0,none⟩) n cap) X) (hi:i < X.length) (hx:X[i]=(⟨x.i,seq,x.n,x.v⟩,um)) (d:Vt) (a4:Option Addr) (n4 c4:Nat) :
 RowS B ((((((((w4.setCell ⟨g,i*10+3,none⟩ (.int .i64 d.c)).setCell ⟨g,i*10+4,none⟩ (.int .i64 d.s)).setCell ⟨g,i*10+5,none⟩ (.int .i64 d.r)).setCell ⟨g,i*10+6,none⟩ (.string (str d.p))).setCell ⟨g,i*10+7,none⟩ (.int .u64 d.d)).setCell ⟨g,i*10+8,none⟩ (.slice a4 n4 c4)).setCell ⟨g,i*10+9,none⟩ (.int .i64 d.m))) (.slice (some ⟨g,0,none⟩) n cap) (X.set i (doneS seq d x,.slice a4 n4 c4)):=by
 have h1:=h.setk (i:=i) (by simpa using hi) (⟨x.i,seq,x.n,⟨d.c,x.v.s,x.v.r,x.v.p,x.v.d,x.v.k,x.v.m⟩⟩,um) 3 (by omega) (.int .i64 d.c) (by rw [hx];simp [seC])
 have h2:=h1.setk (i:=i) (by simpa using hi) (⟨x.i,seq,x.n,⟨d.c,d.s,x.v.r,x.v.p,x.v.d,x.v.k,x.v.m⟩⟩,um) 4 (by omega) (.int .i64 d.s) (by rw [List.getElem_set_self];simp [seC])
 rw [List.set_set] at h2
 have h3:=h2.setk (i:=i) (by simpa using hi) (⟨x.i,seq,x.n,⟨d.c,d.s,d.r,x.v.p,x.v.d,x.v.k,x.v.m⟩⟩,um) 5 (by omega) (.int .i64 d.r) (by rw [List.getElem_set_self];simp [seC])
 rw [List.set_set] at h3
 have h4:=h3.setk (i:=i) (by simpa using hi) (⟨x.i,seq,x.n,⟨d.c,d.s,d.r,d.p,x.v.d,x.v.k,x.v.m⟩⟩,um) 6 (by omega) (.string (str d.p)) (by rw [List.getElem_set_self];simp [seC])
 rw [List.set_set] at h4
 have h5:=h4.setk (i:=i) (by simpa using hi) (⟨x.i,seq,x.n,⟨d.c,d.s,d.r,d.p,d.d,x.v.k,x.v.m⟩⟩,um) 7 (by omega) (.int .u64 d.d) (by rw [List.getElem_set_self];simp [seC])
 rw [List.set_set] at h5
 have h6:=h5.setk (i:=i) (by simpa using hi) (⟨x.i,seq,x.n,⟨d.c,d.s,d.r,d.p,d.d,d.k,x.v.m⟩⟩,.slice a4 n4 c4) 8 (by omega) (.slice a4 n4 c4) (by rw [List.getElem_set_self];simp [seC])
 rw [List.set_set] at h6
 have h7:=h6.setk (i:=i) (by simpa using hi) (⟨x.i,seq,x.n,⟨d.c,d.s,d.r,d.p,d.d,d.k,d.m⟩⟩,.slice a4 n4 c4) 9 (by omega) (.int .i64 d.m) (by rw [List.getElem_set_self];simp [seC])
 rw [List.set_set] at h7
 exact h7
set_option linter.unusedSimpArgs false in
set_option maxHeartbeats 8000000 in
set_option maxRecDepth 100000 in
theorem mdone_call {w:World}{b sz:Nat}{v:Value}{X:List (Se × Value)}{L:List Se}(h:MtA P w b sz v X L) (hl:L.length≤100000) (id seq:Int) (d:Vt) (u:Value) (hu:∀ W,Kept (ownT b v) w W→KoV W u d.k) (hd:okV d) (hP:∀ k,w.heap.size≤k→P k) :
 Calls Tryz.prog 91 #[.pointer (some ⟨b,0,none⟩),.int .i64 id,.int .i64 seq,vtV d u] w fun e w'=>e=.returned (.bool (doneI id seq L).isSome)∧MtP P w b sz v (doneL id seq d L) w':=by
 obtain ⟨ao,n,c,rfl⟩:=(hu w (Kept.refl _ _)).one
 have HHu:=hide hu
 have HPf:=hide hP
 clear hP
 have hKz:Kept [] w (w.alloc (.cells #[.int .i64 d.c,.int .i64 d.s,.int .i64 d.r,.string (str d.p),.int .u64 d.d,.slice ao n c,.int .i64 d.m] 39)):=(Kept.refl [] w).alloc _
 have HKz:=hide hKz
 have HZ:=hide (heap_alloc_new w (.cells #[.int .i64 d.c,.int .i64 d.s,.int .i64 d.r,.string (str d.p),.int .u64 d.d,.slice ao n c,.int .i64 d.m] 39))
 have hT1:=h.kept hKz
 have cI:=mfind_call hT1 hl id
 obtain ⟨vao,vc,hve,hvc,hvm,_,hat⟩:=h.row.t.shape
 subst hve
 unfold maxLen at hvm
 have HT:=hide h
 have HLt:=hide h.lt
 unfold vtV
 clear hu
 cases hI:byI id L with
 | none =>
   have HD:Hid (doneI id seq L=none):=by show _=_;unfold doneI;rw [hI]
   have HL:Hid (doneL id seq d L=L):=by show _=_;unfold doneL;rw [HD.out]
   rw [hI] at cI
   simp only [plV] at cI
   clear hT1 h hat
   go_enter Tryz.func91,Tryz.ntmps91
   go_wp2_with fail
   refine cI.mono ?_
   rintro _ w2 ⟨rfl,hK2⟩
   have HK2:=hide (HKz.out.trans hK2 (by simp))
   clear hK2 cI hKz
   go_wp2_with fail
   go_ret
   exact ⟨by rw [HD.out];rfl,_,X,by rw [HL.out];exact HT.out.kept HK2.out,HK2.out.mono (by simp),fun k hk=>.inl hk⟩
 | some i =>
   obtain ⟨hi,hid⟩:=byI_lt hI
   clear hid
   have hiX:i < X.length:=by rw [h.len];exact hi
   obtain ⟨g,he,hx⟩:=hat i hiX
   subst he
   have hCk:=fst_get h.ses hiX hi
   obtain ⟨mo,mm,mc,hm2⟩:=(h.own _ (List.getElem_mem hiX)).ko.one
   have HXi:Hid (X[i]=(L[i],.slice mo mm mc)):=Prod.ext hCk hm2
   have hxc:∀ W,Kept [] w W→SeAt W g (i*10) (L[i],.slice mo mm mc):=fun W hk=>by
    have h1:=hx.kept hk (by simp)
    rw [HXi.out] at h1;exact h1
   have HXc:=hide hxc
   have HD0:Hid (doneI id seq L=if L[i].q < seq then some i else none):=by show _=_;unfold doneI;rw [hI];simp only [getD_get hi]
   have HL0:Hid (doneI id seq L=some i→doneL id seq d L=L.set i (doneS seq d L[i])):=fun e=>by unfold doneL;rw [e];simp only [getD_get hi]
   generalize L[i]=x at *
   rw [hI] at cI
   simp only [plV] at cI
   have hii:(i:Int) < X.length:=by omega
   have hic:i≤vc:=by omega
   have hi0:¬ (i:Int) < 0:=by omega
   have HGb:Hid (¬ b=g):=fun e=>by
    obtain ⟨cur,hcur⟩:=row_block h.row (k:=g) rfl
    have:=h.at_
    rw [e,hcur] at this;cases this
   have HGz:Hid (¬ w.heap.size=g):=fun e=>by have:=HLt.out g (by simp [ownT,Value.ownBlock]);omega
   clear hT1 h hx hCk hm2 hxc hat
   by_cases hq:x.q < seq
   ·have HD:Hid (doneI id seq L=some i):=by show _=_;rw [HD0.out,if_pos hq]
    have HL:=hide (HL0.out HD.out)
    have hq':¬ seq≤x.q:=by omega
    go_enter Tryz.func91,Tryz.ntmps91
    go_wp2_with fail
    refine cI.mono ?_
    rintro _ w2 ⟨rfl,hK2⟩
    have HK2:=hide (HKz.out.trans hK2 (by simp))
    have HZ2:=hide (hK2.at HZ.out (by simp))
    have hT2:=HT.out.kept HK2.out
    obtain ⟨c0,c1⟩:=hT2.cells
    have h1:=(HXc.out w2 HK2.out).c1
    obtain ⟨cur2,hcur2⟩:=row_block hT2.row (k:=g) rfl
    have fz1:=froz3 hcur2 (i*10+1)
    have HC2:=hide hcur2
    obtain ⟨w3,hw3⟩:∃ w3,w3=w2.setCell ⟨g,i*10+1,none⟩ (.int .i64 seq):=⟨_,rfl⟩
    have hK3:Kept [g] w2 w3:=by rw [hw3];exact (Kept.refl _ _).setCell (by simp) _
    have HR3:Hid (RowS 0 w3 (.slice (some ⟨g,0,none⟩) X.length vc) (X.set i (⟨x.i,seq,x.n,x.v⟩,.slice mo mm mc))):=by
     show RowS _ _ _ _
     rw [hw3]
     exact hT2.row.setk hiX _ 1 (by omega) _ (by rw [HXi.out];simp [seC])
    have HK3:=hide hK3
    have HT2:=hide hT2
    clear hK2 cI hKz hcur2 hT2
    go_upto_region 5 with fail
    rw [← hw3]
    have HAt3:=hide (hK3.at HT2.out.at_ (by simpa using HGb.out))
    have HZ3:=hide (hK3.at HZ2.out (by simpa using HGz.out))
    have t1:w3.cell? ⟨b,1,none⟩=some (.slice (some ⟨g,0,none⟩) X.length vc):=cell_inC HAt3.out rfl
    have z0:=cell_inC (k:=0) HZ3.out rfl
    have z1:=cell_inC (k:=1) HZ3.out rfl
    have z2:=cell_inC (k:=2) HZ3.out rfl
    have z3:=cell_inC (k:=3) HZ3.out rfl
    have z4:=cell_inC (k:=4) HZ3.out rfl
    have z5:=cell_inC (k:=5) HZ3.out rfl
    have z6:=cell_inC (k:=6) HZ3.out rfl
    have hTy3:Typed w2 [g] [155]:=typed1 HC2.out
    have HOw3:Hid (∀ y∈X,KoP P w3 y.2 y.1.v.k):=fun y hy=>(HT2.out.own y hy).keep hK3 hTy3 (by decide) (by decide)
    have cV:=fun W (hk:Kept [] w3 W)=>rcopyV_call W d (.slice ao n c) (HHu.out W (((HK2.out.mono (by simp)).trans HK3.out (fun k hk=>.inl (by simp at hk;subst hk;simp [ownT,Value.ownBlock]))).trans hk (by simp))) hd
    unfold vtV at cV
    clear hw3 c0 c1 h1 fz1 hK3 hTy3
    refine wp_region_held_drew (S:=fun w'=>w'.cell? ⟨b,1,none⟩=some (.slice (some ⟨g,0,none⟩) X.length vc)∧w'.cell? ⟨w.heap.size,0,none⟩=some (.int .i64 d.c)∧w'.cell? ⟨w.heap.size,1,none⟩=some (.int .i64 d.s)∧w'.cell? ⟨w.heap.size,2,none⟩=some (.int .i64 d.r)∧w'.cell? ⟨w.heap.size,3,none⟩=some (.string (str d.p))∧w'.cell? ⟨w.heap.size,4,none⟩=some (.int .u64 d.d)∧w'.cell? ⟨w.heap.size,5,none⟩=some (.slice ao n c)∧w'.cell? ⟨w.heap.size,6,none⟩=some (.int .i64 d.m)) (by kernel_rfl) ⟨t1,z0,z1,z2,z3,z4,z5,z6⟩ (fun hHeld=>?_)
    refine tks [0,1,2,3,4,5] (by rfl) (by kernel_rfl) (fun _ _ _ _ _ h=>h) hHeld ?_
    iterate 6
     refine yk ?_ rfl (Or.inl ⟨by rfl,?_⟩) ?_
     rotate_left
     ·intro w9 hSw;(try dsimp only at hSw);go_simp;(try with_reducible rfl)
     try simp only [sT,Act.put]
    refine yk0 ?_
    simp only [setK,sT]
    refine rd1 6 (by kernel_rfl) rfl (fun K0 hK0=>?_)
    go_simp
    refine (cV _ (Kept.refl [] _).drew).mono ?_
    rintro _ w4 ⟨u4,rfl,hO4,hK4⟩
    replace hK4:=(Kept.refl [] w3).drew.trans hK4 (by simp)
    obtain ⟨a4,n4,c4,rfl⟩:=hO4.ko.one
    have HK4:=hide hK4
    have HO4:=hide (hO4.toP (P:=P) (fun j hj=>HPf.out j (Nat.le_trans (Nat.le_trans HK2.out.size HK3.out.size) hj)))
    have HR4:=hide (Kept.ownsRow (S:=[]) hK4 HR3.out (by simp):RowS 0 w4 _ _)
    have hlenX:i < (X.set i (⟨x.i,seq,x.n,x.v⟩,.slice mo mm mc)).length:=by simpa using hiX
    have hs4:=(RowS.t HR4.out).at (i:=i) hlenX
    simp only [List.getElem_set_self] at hs4
    obtain ⟨s0,s1,s2,s3,s4,s5,s6,s7,s8,s9⟩:=hs4
    obtain ⟨cur4,hcur4⟩:=row_block HR4.out (k:=g) rfl
    have fz3:=froz3 hcur4 (i*10+3)
    have fz4:=froz3 hcur4 (i*10+4)
    have fz5:=froz3 hcur4 (i*10+5)
    have fz6:=froz3 hcur4 (i*10+6)
    have fz7:=froz3 hcur4 (i*10+7)
    have fz8:=froz3 hcur4 (i*10+8)
    have fz9:=froz3 hcur4 (i*10+9)
    have HC4:=hide hcur4
    clear hO4 hcur4 hK4 hlenX
    go_wp2_with fail
    refine hK0.out _ _ ⟨HK4.out.cell t1 (by simp),HK4.out.cell z0 (by simp),HK4.out.cell z1 (by simp),HK4.out.cell z2 (by simp),HK4.out.cell z3 (by simp),HK4.out.cell z4 (by simp),HK4.out.cell z5 (by simp),HK4.out.cell z6 (by simp)⟩ (fun hHeld=>?_)
    clear hK0 K0
    try simp only [sT,Act.put]
    refine tks [7,8] (by rfl) (by kernel_rfl) (fun _ _ _ _ _ h=>h) hHeld ?_
    iterate 2
     refine yk ?_ rfl (Or.inl ⟨by rfl,?_⟩) ?_
     rotate_left
     ·intro w9 hSw;(try dsimp only at hSw);go_simp;(try with_reducible rfl)
     try simp only [sT,Act.put]
    refine yk0 ?_
    simp only [setK,sT]
    refine rd1 9 (by kernel_rfl) rfl (fun K0 hK0=>?_)
    go_simp
    obtain ⟨w5,hw5⟩:∃ w5,w5=(((((((w4.setCell ⟨g,i*10+3,none⟩ (.int .i64 d.c)).setCell ⟨g,i*10+4,none⟩ (.int .i64 d.s)).setCell ⟨g,i*10+5,none⟩ (.int .i64 d.r)).setCell ⟨g,i*10+6,none⟩ (.string (str d.p))).setCell ⟨g,i*10+7,none⟩ (.int .u64 d.d)).setCell ⟨g,i*10+8,none⟩ (.slice a4 n4 c4)).setCell ⟨g,i*10+9,none⟩ (.int .i64 d.m)):=⟨_,rfl⟩
    rw [← hw5]
    have hK5:Kept [g] w4 w5:=by rw [hw5];exact (((((((Kept.refl [g] w4).setCell (by simp) _).setCell (by simp) _).setCell (by simp) _).setCell (by simp) _).setCell (by simp) _).setCell (by simp) _).setCell (by simp) _
    have HR5:Hid (RowS 0 w5 (.slice (some ⟨g,0,none⟩) X.length vc) (X.set i (doneS seq d x,.slice a4 n4 c4))):=by
     show RowS _ _ _ _
     rw [hw5]
     have h7:=RowS.seven HR4.out (i:=i) (by simpa using hiX) (List.getElem_set_self _) d a4 n4 c4
     rw [List.set_set] at h7
     exact h7
    have hK45:Kept [g] w3 w5:=(HK4.out.mono (by simp)).trans hK5 (by simp)
    refine hK0.out _ _ ⟨hK45.cell t1 (by simpa using HGb.out),hK45.cell z0 (by simpa using HGz.out),hK45.cell z1 (by simpa using HGz.out),hK45.cell z2 (by simpa using HGz.out),hK45.cell z3 (by simpa using HGz.out),hK45.cell z4 (by simpa using HGz.out),hK45.cell z5 (by simpa using HGz.out),hK45.cell z6 (by simpa using HGz.out)⟩ (fun hHeld=>?_)
    refine wpAnyH_done (by kernel_rfl) ?_ _
    have HEn:Hid (MtP P w b sz (.slice (some ⟨g,0,none⟩) X.length vc) (doneL id seq d L) w5):=by
     refine ⟨_,_,⟨hK45.at HAt3.out (by simpa using HGb.out),HR5.out,fun y hy=>?_,?_⟩,?_,fun k hk=>.inl hk⟩
     ·rcases List.mem_or_eq_of_mem_set hy with hy | hy
      ·exact ((HOw3.out y hy).kept HK4.out).keep hK5 (typed1 HC4.out) (by decide) (by decide)
      ·subst hy;exact HO4.out.keep hK5 (typed1 HC4.out) (by decide) (by decide)
     ·rw [HL.out,List.map_set,HT2.out.ses]
     ·exact ((HK2.out.mono (by simp)).trans (HK3.out.trans hK45 (by simp)) (fun k hk=>.inl (by simp at hk;subst hk;simp [ownT,Value.ownBlock])))
    clear hK0 K0 hHeld hw5 hK5 hK45 s0 s1 s2 s3 s4 s5 s6 s7 s8 s9
    go_wp2_with fail
    go_ret
    exact ⟨by rw [HD.out];rfl,HEn.out⟩
   ·have HD:Hid (doneI id seq L=none):=by show _=_;rw [HD0.out,if_neg hq]
    have HL:Hid (doneL id seq d L=L):=by show _=_;unfold doneL;rw [HD.out]
    have hq':seq≤x.q:=by omega
    go_enter Tryz.func91,Tryz.ntmps91
    go_wp2_with fail
    refine cI.mono ?_
    rintro _ w2 ⟨rfl,hK2⟩
    have HK2:=hide (HKz.out.trans hK2 (by simp))
    have hT2:=HT.out.kept HK2.out
    obtain ⟨c0,c1⟩:=hT2.cells
    have h1:=(HXc.out w2 HK2.out).c1
    clear hK2 cI hT2 hKz
    go_wp2_with fail
    go_ret
    exact ⟨by rw [HD.out];rfl,_,X,by rw [HL.out];exact HT.out.kept HK2.out,HK2.out.mono (by simp),fun k hk=>.inl hk⟩
end Go.Proofs.YtgpnlidnbldiiaaGreat
