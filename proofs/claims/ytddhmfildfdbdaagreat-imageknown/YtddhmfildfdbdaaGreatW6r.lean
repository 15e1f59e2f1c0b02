/-
  Texts of this claim that are laid as one: ImKs, ImEps, ImCnv.
-/
import Derived.Test.YtddhmfildfdbdaaGreatW3r
import Derived.Test.YtddhmfildfdbdaaGreatImSesr
set_option maxHeartbeats 8000000
/-
 The image's pen: a commit,a list of commits. (Written by mk/mkpenl.py.)
-/
namespace Go.Proofs.YtddhmfildfdbdaaGreat
open Go.RowKit
structure KoS (O:List Nat) (w:World) (x:Com × Value):Prop where
 v:∃ mo n c,x.2=.slice mo n c∧CsD O w mo n c x.1.c
 t:x.1.n.length≤900
theorem KoS.on {O O':List Nat}{w w':World}{x:Com × Value}(h:KoS O w x) (hk:Kept O w w') (hn:∀ k∈O',k∈O∨w.heap.size≤k):KoS O' w' x:=by
 obtain ⟨⟨mo,n,c,e,h1⟩,h2⟩:=h
 exact ⟨⟨mo,n,c,e,h1.on hk hn⟩,h2⟩
def iCo (s:List Int × Int) (x:Com):List Int × Int:=iChs (wrNum (iTx (wrNum s.2 s.1 x.b) x.n).2 (iTx (wrNum s.2 s.1 x.b) x.n).1 x.c.length) x.c
def wtK (x:Com × Value):Nat:=wsum wt6 x.1.c+6
set_option maxRecDepth 100000 in
theorem icom_call (p:Nat) (w:World) (O:List Nat) (s:List Int × Int) (m:Nat) (x:Com) (mo:Option Addr) (mn mc:Nat) (hS:CsD O w mo mn mc x.c) (h9:x.n.length≤900) (hA:AtP p w O s (m+wsum wt6 x.c+6)) :
 Calls Tryz.prog 45 #[pnV p,.agg #[.int .i64 x.r,.int .i64 x.b,.string (str x.n),.slice mo mn mc]] w fun r w'=>r=.returned (.tuple #[])∧Hid (Went (AtP p) w O (iCo s x) m w'):=by
 have hO:=(pen_hand p).lt hA
 have hl:=hS.len
 have k1:Kept [] w (w.alloc (.cells #[.pointer (some ⟨p,0,none⟩)] 48)):=(Kept.refl _ _).alloc _
 have k2:Kept [] (w.alloc (.cells #[.pointer (some ⟨p,0,none⟩)] 48)) ((w.alloc (.cells #[.pointer (some ⟨p,0,none⟩)] 48)).alloc (.cells #[.int .i64 x.r,.int .i64 x.b,.string (str x.n),.slice mo mn mc] 76)):=(Kept.refl _ _).alloc _
 have hb1:=heap_alloc_new w (.cells #[.pointer (some ⟨p,0,none⟩)] 48)
 have hb2:=heap_alloc_new (w.alloc (.cells #[.pointer (some ⟨p,0,none⟩)] 48)) (.cells #[.int .i64 x.r,.int .i64 x.b,.string (str x.n),.slice mo mn mc] 76)
 rw [World.size_alloc] at hb2
 obtain ⟨W,hW⟩:∃ W,W=(w.alloc (.cells #[.pointer (some ⟨p,0,none⟩)] 48)).alloc (.cells #[.int .i64 x.r,.int .i64 x.b,.string (str x.n),.slice mo mn mc] 76):=⟨_,rfl⟩
 rw [← hW] at k2 hb2
 replace hb1:=k2.at hb1 (by simp)
 have kW:=k1.trans k2 (by simp)
 have HA1:=hide ((pen_hand p).kept hA kW (by simp))
 have HS:=hide (hS.on (kW.mono (by simp)) (fun k hk=>.inl hk))
 have HKW:=hide kW
 have HB1:=hide hb1
 have HB2:=hide hb2
 have n1:w.heap.size ∉ O:=fun h=>by have:=hO _ h;omega
 have n2:w.heap.size+1 ∉ O:=fun h=>by have:=hO _ h;omega
 have c0:=box_in HB1.out (Kept.refl [] W) (by simp) (k:=0) rfl
 have d0:=box_in HB2.out (Kept.refl [] W) (by simp) (k:=1) rfl
 clear hA k1 k2 kW hb1 hb2 hS
 unfold pnV
 go_enter Tryz.func45,Tryz.ntmps45
 go_upto_region 1 with fail
 rw [← hW]
 clear hW
 go_wp2_with fail
 refine (iNum p W O s (m+wsum wt6 x.c+5) x.b HA1.out).mono ?_
 rintro _ w1 ⟨rfl,HW1⟩
 obtain ⟨O1,hA1,hK1,hN1⟩:=HW1.out
 have c1:=box_in HB1.out hK1 n1 (k:=0) rfl
 have d1:=box_in HB2.out hK1 n2 (k:=2) rfl
 have HA2:=hide hA1
 have HK1:=hide hK1
 have HN1:=hide hN1
 clear hA1 hK1 hN1 c0 d0
 go_wp2_with fail
 refine (iText p w1 O1 _ (m+wsum wt6 x.c+1) x.n h9 HA2.out).mono ?_
 rintro _ w2 ⟨rfl,HW2⟩
 have HWt:=hide (Went.trans HK1.out HN1.out HW2.out)
 obtain ⟨O2,hA2,hK2,hN2⟩:=HWt.out
 have c2:=box_in HB1.out hK2 n1 (k:=0) rfl
 have d2:=box_in HB2.out hK2 n2 (k:=3) rfl
 have cL:=ichs_call p w2 O2 _ m mo mn mc x.c (HS.out.on hK2 hN2) hA2
 unfold pnV at cL
 have HK2:=hide hK2
 have HN2:=hide hN2
 clear hA2 hK2 hN2 c1 d1 HWt
 go_wp2_with fail
 refine cL.mono ?_
 rintro _ w3 ⟨rfl,HW3⟩
 have HWf:=hide (Went.old HKW.out (Went.trans HK2.out HN2.out HW3.out))
 clear cL HW3
 go_wp2_with fail
 go_end0
 refine ⟨rfl,?_⟩
 have h:=HWf.out
 unfold iCo;rw [hl]
 exact h
structure KwD (O:List Nat) (w:World) (ao:Option Addr) (n c:Nat) (X:List (Com × Value)):Prop where
 len:X.length=n
 le:n≤c
 max:c≤maxLen
 atI:∀ i (h:i < X.length),∃ b o,ao=some ⟨b,o,none⟩∧CoAt w b (o+i*4) X[i]
 out:0 < n→∀ k∈blk ao,k ∉ O∧k < w.heap.size
 el:∀ x∈X,KoS O w x
def iCos (s:List Int × Int) (X:List (Com × Value)):List Int × Int:=X.foldl (fun s x=>iCo s x.1) s
theorem iCos_take {X:List (Com × Value)}{j:Nat}(h:j < X.length) (s:List Int × Int):iCos s (X.take (j+1))=(fun s x=>iCo s x.1) (iCos s (X.take j)) X[j]:=by
 unfold iCos
 rw [List.take_succ_eq_append_getElem h,List.foldl_append]
 rfl
def IkI (p:Nat) (w:World) (O:List Nat) (s:List Int × Int) (m:Nat) (X:List (Com × Value)) (iv:Value) (wr:World):Prop:=∃ j:Nat,iv=.int .i64 (j:Int)∧j≤X.length∧Hid (Went (AtP p) w O (iCos s (X.take j)) (m+wsum wtK (X.drop j)) wr)
set_option maxRecDepth 100000 in
theorem icoms_call (p:Nat) (w:World) (O:List Nat) (s:List Int × Int) (m:Nat) (ao:Option Addr) (n c:Nat) (X:List (Com × Value)) (hS:KwD O w ao n c X) (hA:AtP p w O s (m+wsum wtK X+1)) :
 Calls Tryz.prog 43 #[pnV p,.slice ao n c,.func (.func 45) #[pnV p] #[]] w fun r w'=>r=.returned (.tuple #[])∧Hid (Went (AtP p) w O (iCos (wrNum s.2 s.1 n) X) m w'):=by
 have hO:=(pen_hand p).lt hA
 have hc:=hS.le
 have hmx:=hS.max
 unfold maxLen at hmx
 have k1:Kept [] w (w.alloc (.cells #[.pointer (some ⟨p,0,none⟩)] 48)):=(Kept.refl _ _).alloc _
 have hb1:=heap_alloc_new w (.cells #[.pointer (some ⟨p,0,none⟩)] 48)
 obtain ⟨W,hW⟩:∃ W,W=w.alloc (.cells #[.pointer (some ⟨p,0,none⟩)] 48):=⟨_,rfl⟩
 rw [← hW] at k1 hb1
 have HA1:=hide ((pen_hand p).kept hA k1 (by simp))
 have HK1:=hide k1
 have HS:=hide hS
 have HL:=hide hS.len
 have c0:=box_in hb1 (Kept.refl [] W) (by simp) (k:=0) rfl
 clear hA k1 hb1 hS hO
 unfold pnV
 go_enter Tryz.func43,Tryz.ntmps43
 go_upto_region 1 with fail
 rw [← hW]
 clear hW
 go_wp2_with fail
 refine (iNum p W O s (m+wsum wtK X) n HA1.out).mono ?_
 rintro _ w1 ⟨rfl,HW1⟩
 have HW0:Hid (Went (AtP p) w O (iCos (wrNum s.2 s.1 n) (X.take 0)) (m+wsum wtK (X.drop 0)) w1):=Went.old HK1.out HW1.out
 clear c0 HW1
 go_wp2_with fail
 go_loopw [15] (fun iv wr=>IkI p w O (wrNum s.2 s.1 n) m X iv wr) (fun iv _=>n - (intOf iv).toNat)
 case atStart=>exact ⟨0,rfl,Nat.zero_le _,HW0⟩
 case round =>
  obtain ⟨j,rfl,hj,HWj⟩:=hrel
  have hjl:j≤n:=by rw [← HL.out];exact hj
  by_cases hlt:j < n
  ·have hlt':(j:Int) < n:=by omega
   have hjX:j < X.length:=by rw [HL.out];exact hlt
   have hjc:j≤c:=by omega
   obtain ⟨O1,hA1,hK1,hN1⟩:=HWj.out
   obtain ⟨b,o,he,hcell⟩:=HS.out.atI j hjX
   subst he
   have hbO:b ∉ O:=(HS.out.out (by omega) b (by simp [blk])).1
   have hI:=HS.out.el _ (List.getElem_mem hjX)
   have hI:=hI.on hK1 hN1
   have HT:=hide (iCos_take hjX (wrNum s.2 s.1 n))
   have HD:=hide (wsum_drop wtK hjX)
   have HA2:Hid (AtP p wr O1 (iCos (wrNum s.2 s.1 n) (X.take j)) (m+wsum wtK (X.drop (j+1))+wtK X[j])):=by rw [show m+wsum wtK (X.drop (j+1))+wtK X[j]=m+wsum wtK (X.drop j) by have:=HD.out;omega];exact hA1
   have hcell:=hcell.kept hK1 hbO
   have HK2:=hide hK1
   have HN2:=hide hN1
   clear HD
   generalize X[j]=y at *
   obtain ⟨y1,y2⟩:=y
   obtain ⟨e0,e1,e2,e3⟩:=hcell
   obtain ⟨⟨mo,mn,mc,hv,hC⟩,h9⟩:=hI
   subst hv
   have f0:wr.cell? ⟨b,o+j*4,none⟩=some (.int .i64 y1.r):=e0
   have f1:wr.cell? ⟨b,o+j*4+1,none⟩=some (.int .i64 y1.b):=e1
   have f2:wr.cell? ⟨b,o+j*4+2,none⟩=some (.string (str y1.n)):=e2
   have f3:wr.cell? ⟨b,o+j*4+3,none⟩=some (.slice mo mn mc):=e3
   clear e0 e1 e2 e3
   have HA2':Hid (AtP p wr O1 (iCos (wrNum s.2 s.1 n) (X.take j)) (m+wsum wtK (X.drop (j+1))+wsum wt6 y1.c+6)):=HA2.out
   have kA:Kept [] wr (wr.alloc (.cells #[.int .i64 y1.r,.int .i64 y1.b,.string (str y1.n),.slice mo mn mc] 76)):=(Kept.refl _ _).alloc _
   have cE:=icom_call p (wr.alloc (.cells #[.int .i64 y1.r,.int .i64 y1.b,.string (str y1.n),.slice mo mn mc] 76)) O1 (iCos (wrNum s.2 s.1 n) (X.take j)) (m+wsum wtK (X.drop (j+1))) y1 mo mn mc (CsD.on (show CsD O1 wr mo mn mc y1.c from hC) (kA.mono (by simp)) (fun k hk=>.inl hk)) h9 ((pen_hand p).kept HA2'.out kA (by simp))
   unfold pnV at cE
   have HKA:=hide kA
   clear kA hC
   clear hA1 hK1 hN1
   go_wp2_with fail
   refine cE.mono ?_
   rintro _ w2 ⟨rfl,HW2⟩
   have HW3:=hide (Went.trans HK2.out HN2.out (Went.old HKA.out HW2.out))
   rw [← HT.out] at HW3
   clear f0 f1 f2 f3 HW2 cE
   go_wp2_with fail
   go_roundw
   case rel=>exact ⟨j+1,by go_num,by omega,HW3⟩
   case measure=>simp [intOf];omega
  ·have hlt':¬ (j:Int) < n:=by omega
   have HWf:Hid (Went (AtP p) w O (iCos (wrNum s.2 s.1 n) X) m wr):=by
    have h:=HWj.out
    rw [List.take_of_length_le (by rw [HL.out];omega)] at h
    exact h.less (Nat.le_add_right _ _)
   go_wp2_with fail
   go_end0
   exact ⟨rfl,HWf⟩
def EoD (O:List Nat) (w:World) (ao:Option Addr) (n c:Nat) (X:List (Ep × Value)):Prop :=
 X.length=n∧n≤c∧c≤maxLen∧(∀ i (h:i < X.length),∃ b o,ao=some ⟨b,o,none⟩∧w.cell? ⟨b,o+i*2,none⟩=some (.int .i64 X[i].1.f)∧w.cell? ⟨b,o+i*2+1,none⟩=some X[i].2)∧(0 < n→∀ k∈blk ao,k ∉ O∧k < w.heap.size)∧∀ x∈X,∃ mo mn mc,x.2=.slice mo mn mc∧IoD O w mo mn mc x.1.m∧mn≤100
def iEs (s:List Int × Int) (L:List Ep):List Int × Int:=L.foldl iEp s
theorem iEs_take {L:List Ep}{j:Nat}(h:j < L.length) (s:List Int × Int):iEs s (L.take (j+1))=iEp (iEs s (L.take j)) L[j]:=by
 unfold iEs
 rw [List.take_succ_eq_append_getElem h,List.foldl_append]
 rfl
def IeI (p:Nat) (w:World) (O:List Nat) (s:List Int × Int) (m:Nat) (L:List Ep) (iv:Value) (wr:World):Prop:=∃ j:Nat,iv=.int .i64 (j:Int)∧j≤L.length∧Hid (Went (AtP p) w O (iEs s (L.take j)) (m+102*(L.length - j)) wr)
set_option maxRecDepth 100000 in
theorem ieps_call (p:Nat) (w:World) (O:List Nat) (s:List Int × Int) (m:Nat) (ao:Option Addr) (n c:Nat) (X:List (Ep × Value)) (hS:EoD O w ao n c X) (hA:AtP p w O s (m+102*n+1)) :
 Calls Tryz.prog 37 #[pnV p,.slice ao n c,.func (.func 39) #[pnV p] #[]] w fun r w'=>r=.returned (.tuple #[])∧Hid (Went (AtP p) w O (iEs (wrNum s.2 s.1 n) (X.map Prod.fst)) m w'):=by
 have hO:=(pen_hand p).lt hA
 have hc:=hS.2.1
 have hmx:=hS.2.2.1
 unfold maxLen at hmx
 have k1:Kept [] w (w.alloc (.cells #[.pointer (some ⟨p,0,none⟩)] 48)):=(Kept.refl _ _).alloc _
 have hb1:=heap_alloc_new w (.cells #[.pointer (some ⟨p,0,none⟩)] 48)
 obtain ⟨W,hW⟩:∃ W,W=w.alloc (.cells #[.pointer (some ⟨p,0,none⟩)] 48):=⟨_,rfl⟩
 rw [← hW] at k1 hb1
 have HA1:=hide ((pen_hand p).kept hA k1 (by simp))
 have HK1:=hide k1
 have HS:=hide hS
 have HLx:=hide hS.1
 obtain ⟨L,hLd⟩:∃ L,L=X.map Prod.fst:=⟨_,rfl⟩
 have HL:Hid (L.length=n):=by show _=_;rw [hLd,List.length_map];exact hS.1
 have HLd:=hide hLd
 rw [← hLd]
 have HO:=hide hO
 have c0:=box_in hb1 (Kept.refl [] W) (by simp) (k:=0) rfl
 clear hA k1 hb1 hS hO hLd
 unfold pnV
 go_enter Tryz.func37,Tryz.ntmps37
 go_upto_region 1 with fail
 rw [← hW]
 clear hW
 go_wp2_with fail
 refine (iNum p W O s (m+102*n) n HA1.out).mono ?_
 rintro _ w1 ⟨rfl,HW1⟩
 have HW0:Hid (Went (AtP p) w O (iEs (wrNum s.2 s.1 n) (L.take 0)) (m+102*(L.length - 0)) w1):=by
  have h:=Went.old HK1.out HW1.out
  rw [← HL.out] at h ⊢
  exact h
 clear c0 HW1
 go_wp2_with fail
 go_loopw [15] (fun iv wr=>IeI p w O (wrNum s.2 s.1 n) m L iv wr) (fun iv _=>n - (intOf iv).toNat)
 case atStart=>exact ⟨0,rfl,Nat.zero_le _,HW0⟩
 case round =>
  obtain ⟨j,rfl,hj,HWj⟩:=hrel
  have hjl:j≤n:=by rw [← HL.out];exact hj
  by_cases hlt:j < n
  ·have hlt':(j:Int) < n:=by omega
   have hjL:j < L.length:=by rw [HL.out];exact hlt
   have hjX:j < X.length:=by rw [HLx.out];exact hlt
   have hjc:j≤c:=by omega
   obtain ⟨O1,hA1,hK1,hN1⟩:=HWj.out
   obtain ⟨b,o,he,hcell,hcell2⟩:=HS.out.2.2.2.1 j hjX
   obtain ⟨mo,mn,mc,hv,hI,h100⟩:=HS.out.2.2.2.2.2 _ (List.getElem_mem hjX)
   subst he
   have hbO:b ∉ O:=((HS.out.2.2.2.2.1 (by omega)) b (by simp [blk])).1
   rw [hv] at hcell2
   have hLj:X[j].1=L[j]:=by simp [HLd.out]
   rw [hLj] at hcell hI
   have e0:=hK1.cell hcell hbO
   have e1:=hK1.cell hcell2 hbO
   have HT:=hide (iEs_take hjL (wrNum s.2 s.1 n))
   have HA2:Hid (AtP p wr O1 (iEs (wrNum s.2 s.1 n) (L.take j)) (m+102*(L.length - (j+1))+102)):=by rw [show m+102*(L.length - (j+1))+102=m+102*(L.length - j) by omega];exact hA1
   have HI:=hide (hI.on hK1 hN1)
   have HK2:=hide hK1
   have HN2:=hide hN1
   generalize L[j]=y at *
   clear hA1 hK1 hN1 hcell hcell2 hv hI hLj
   have kA:Kept [] wr (wr.alloc (.cells #[.int .i64 y.f,.slice mo mn mc] 62)):=(Kept.refl _ _).alloc _
   have cE:=iep_call p (wr.alloc (.cells #[.int .i64 y.f,.slice mo mn mc] 62)) O1 (iEs (wrNum s.2 s.1 n) (L.take j)) (m+102*(L.length - (j+1))) y mo mn mc (HI.out.on (kA.mono (by simp)) (fun k hk=>.inl hk)) h100 ((pen_hand p).kept HA2.out kA (by simp))
   unfold pnV at cE
   have HKA:=hide kA
   clear kA
   go_wp2_with fail
   refine cE.mono ?_
   rintro _ w2 ⟨rfl,HW2⟩
   have HW3:=hide (Went.trans HK2.out HN2.out (Went.old HKA.out HW2.out))
   rw [← HT.out] at HW3
   clear e0 e1 HW2 cE
   go_wp2_with fail
   go_roundw
   case rel=>exact ⟨j+1,by go_num,by omega,HW3⟩
   case measure=>simp [intOf];omega
  ·have hlt':¬ (j:Int) < n:=by omega
   have HWf:Hid (Went (AtP p) w O (iEs (wrNum s.2 s.1 n) L) m wr):=by
    have h:=HWj.out
    rw [List.take_of_length_le (by rw [HL.out];omega)] at h
    exact h.less (Nat.le_add_right _ _)
   go_wp2_with fail
   go_end0
   exact ⟨rfl,HWf⟩
theorem row_out {w:World}{B e size n n' c:Nat}{ao:Option Addr}{xs:List Value}(h:w.ownsRow B e size (.slice ao n' c) n xs):∀ k∈blk ao,B≤k∧k < w.heap.size:=by
 obtain ⟨_,h2⟩:=h
 rcases h2 with ⟨hv,_⟩ | ⟨g,cap,cur,hv,hg,hh,_⟩
 ·cases hv;intro k hk;simp [blk] at hk
 ·cases hv
  intro k hk
  simp [blk] at hk
  subst hk
  exact ⟨hg,lt_of_at hh⟩
theorem not_in {O:List Nat}{B:Nat}(hO:∀ k∈O,k < B) {k:Nat}(hk:B≤k):k ∉ O:=fun hm=>by have:=hO k hm;omega
theorem eoD_of {O:List Nat}{B:Nat}{w:World}{v:Value}{X:List (Ep × Value)}(h:RowA B w v X) (ho:OwnA B w X) (hO:∀ k∈O,k < B) (h9:∀ x∈X,x.1.m.length≤100):∃ ao c,v=.slice ao X.length c∧EoD O w ao X.length c X:=by
 obtain ⟨ao,c,rfl,h1,h2,h3,h4,h5⟩:=h.sl ho
 refine ⟨ao,c,rfl,h1,h2,h3,h4,fun _ k hk=>⟨not_in hO (row_out h k hk).1,(row_out h k hk).2⟩,fun x hx=>?_⟩
 have hr:=ho x hx
 obtain ⟨mo,mc,e,hs⟩:=hr.sl
 refine ⟨mo,_,mc,e,⟨hs,fun _ k hk=>?_⟩,h9 x hx⟩
 unfold RowI at hr
 rw [e] at hr
 exact ⟨not_in hO (row_out hr k hk).1,(row_out hr k hk).2⟩
theorem csD_of {O:List Nat}{B:Nat}{w:World}{v:Value}{L:List Ch}(h:OwnC B w v L) (hO:∀ k∈O,k < B) (h9:∀ x∈L,x.p.length≤900):∃ ao c,v=.slice ao L.length c∧CsD O w ao L.length c L:=by
 obtain ⟨ao,c,e,h1,h2,h3,h4⟩:=h.sl
 unfold OwnC at h
 rw [e] at h
 exact ⟨ao,c,e,⟨h1,h2,h3,h4,fun _ k hk=>⟨not_in hO (row_out h k hk).1,(row_out h k hk).2⟩,fun x hx=>⟨h9 x hx⟩⟩⟩
def ShC (x:Com):Prop:=x.n.length≤900∧∀ y∈x.c,y.p.length≤900
theorem kwD_of {O:List Nat}{B:Nat}{w:World}{v:Value}{K:List (Com × Value)}(h:RowK B w v K) (ho:OwnK B w K) (hO:∀ k∈O,k < B) (h9:∀ x∈K,ShC x.1):∃ ao c,v=.slice ao K.length c∧KwD O w ao K.length c K:=by
 obtain ⟨ao,c,rfl,⟨h1,h2,h3,h4,h5⟩,_⟩:=h.sl ho
 refine ⟨ao,c,rfl,⟨h1,h2,h3,h4,fun _ k hk=>⟨not_in hO (row_out h k hk).1,(row_out h k hk).2⟩,fun x hx=>?_⟩⟩
 obtain ⟨mo,mc,e,hc⟩:=csD_of (ho x hx) hO (h9 x hx).2
 exact ⟨⟨mo,_,mc,e,hc⟩,(h9 x hx).1⟩
theorem chD_of {O:List Nat}{B:Nat}{w:World}{v:Value}{L:List Ch}(h:OwnC B w v L) (hO:∀ k∈O,k < B):ChD O w v L:=by
 obtain ⟨ao,n,c,e,hs,hn⟩:=h.chV
 unfold OwnC at h
 rw [e] at h
 exact ⟨ao,n,c,e,hs,hn,fun _ k hk=>⟨(row_out h k hk).2,not_in hO (row_out h k hk).1⟩⟩
theorem vtHy_of {O:List Nat}{B:Nat}{w:World}{x:Vt}{u:Value}(h:KoO B w u x.k) (hO:∀ k∈O,k < B) (hx:okV x):VtHy O w x u:=by
 obtain ⟨K,hr,ho,he⟩:=id h
 obtain ⟨ao,c,e,⟨h1,h2,h3,h4,h5⟩,hn⟩:=hr.sl ho
 subst e
 refine ⟨⟨ao,_,c,K,rfl,⟨h1,h2,h3,hn,h4,fun _ k hk=>⟨(row_out hr k hk).2,not_in hO (row_out hr k hk).1⟩,fun y hy=>chD_of (ho y hy) hO⟩,he⟩,hx.1,fun y hy=>?_⟩
 exact ⟨(hx.2.2 y hy).1,fun z hz=>(hx.2.2 y hy).2.2 z hz⟩
theorem RowS.cells {B:Nat}{w:World}{v:Value}{X:List (Se × Value)}(h:RowS B w v X):∃ ao c,v=.slice ao X.length c∧X.length≤c∧c≤maxLen∧∀ i (h:i < X.length),∃ b o,ao=some ⟨b,o,none⟩∧SeAt w b (o+i*10) X[i]:=by
 have h':=h
 obtain ⟨h1,h2⟩:=h
 rcases h2 with ⟨hv,hn⟩ | ⟨g,cap,cur,hv,hg,hh,h3,h4,h5,h6⟩
 ·have:X=[]:=by simpa using hn
  subst this
  exact ⟨none,0,by rw [hv];rfl,Nat.le_refl _,Nat.zero_le _,fun i hi=>by simp at hi⟩
 ·refine ⟨some ⟨g,0,none⟩,cap,hv,h3,h4,fun i hi=>⟨g,0,rfl,SeAt.of fun j hj=>?_⟩⟩
  unfold RowS at h'
  rw [hv] at h'
  rw [show 0+i*10+j=i*10+j by omega,World.ownsRow.cellAt h' (i*10+j) (by omega)]
  exact seC_get X i hi j hj
theorem swD_of {O:List Nat}{B:Nat}{w:World}{v:Value}{X:List (Se × Value)}(h:RowS B w v X) (ho:∀ x∈X,KoO B w x.2 x.1.v.k) (hO:∀ k∈O,k < B) (hk:∀ x∈X,okS x.1) (h9:∀ x∈X,x.1.n.length≤900):∃ ao c,v=.slice ao X.length c∧SwD O w ao X.length c X:=by
 obtain ⟨ao,c,rfl,h2,h3,h5⟩:=h.cells
 exact ⟨ao,c,rfl,⟨rfl,h2,h3,h5,fun _ k hk'=>⟨not_in hO (row_out h k hk').1,(row_out h k hk').2⟩,fun x hx=>⟨vtHy_of (ho x hx) hO (hk x hx).2,h9 x hx⟩⟩⟩
end Go.Proofs.YtddhmfildfdbdaaGreat
