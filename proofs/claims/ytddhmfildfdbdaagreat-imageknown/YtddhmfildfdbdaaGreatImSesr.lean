/-
  The image's pen: a session, a list of sessions. (Written by mk/mkpenl.py.)
-/
import Derived.Test.YtddhmfildfdbdaaGreatW3r
import Derived.Test.YtddhmfildfdbdaaGreatQ12r
set_option maxHeartbeats 8000000
namespace Go.Proofs.YtddhmfildfdbdaaGreat
open Go.RowKit
structure SeS (O:List Nat) (w:World) (x:Se × Value):Prop where
 v:VtHy O w x.1.v x.2
 t:x.1.n.length≤900
theorem SeS.on {O O':List Nat}{w w':World}{x:Se × Value}(h:SeS O w x) (hk:Kept O w w') (hn:∀ k∈O',k∈O∨w.heap.size≤k):SeS O' w' x:=⟨h.v.on hk hn,h.t⟩
def iSe (s:List Int × Int) (x:Se):List Int × Int:=toldS (iTx (wrNum (wrNum s.2 s.1 x.i).2 (wrNum s.2 s.1 x.i).1 x.q) x.n) x.v
def wtS (_:Se × Value):Nat:=7006
set_option maxRecDepth 100000 in
theorem isess_call (p:Nat) (w:World) (O:List Nat) (s:List Int × Int) (m:Nat) (x:Se) (uo:Option Addr) (un uc:Nat) (hV:VtHy O w x.v (.slice uo un uc)) (h9:x.n.length≤900) (hA:AtP p w O s (m+7006)) :
 Calls Tryz.prog 42 #[pnV p,.agg #[.int .i64 x.i,.int .i64 x.q,.string (str x.n),.int .i64 x.v.c,.int .i64 x.v.s,.int .i64 x.v.r,.string (str x.v.p),.int .u64 x.v.d,.slice uo un uc,.int .i64 x.v.m]] w fun r w'=>r=.returned (.tuple #[])∧Hid (Went (AtP p) w O (iSe s x) m w'):=by
 have hO:=(pen_hand p).lt hA
 have k1:Kept [] w (w.alloc (.cells #[.pointer (some ⟨p,0,none⟩)] 48)):=(Kept.refl _ _).alloc _
 have k2:Kept [] (w.alloc (.cells #[.pointer (some ⟨p,0,none⟩)] 48)) ((w.alloc (.cells #[.pointer (some ⟨p,0,none⟩)] 48)).alloc (.cells #[.int .i64 x.i,.int .i64 x.q,.string (str x.n),.int .i64 x.v.c,.int .i64 x.v.s,.int .i64 x.v.r,.string (str x.v.p),.int .u64 x.v.d,.slice uo un uc,.int .i64 x.v.m] 71)):=(Kept.refl _ _).alloc _
 have hb1:=heap_alloc_new w (.cells #[.pointer (some ⟨p,0,none⟩)] 48)
 have hb2:=heap_alloc_new (w.alloc (.cells #[.pointer (some ⟨p,0,none⟩)] 48)) (.cells #[.int .i64 x.i,.int .i64 x.q,.string (str x.n),.int .i64 x.v.c,.int .i64 x.v.s,.int .i64 x.v.r,.string (str x.v.p),.int .u64 x.v.d,.slice uo un uc,.int .i64 x.v.m] 71)
 rw [World.size_alloc] at hb2
 obtain ⟨W,hW⟩:∃ W,W=(w.alloc (.cells #[.pointer (some ⟨p,0,none⟩)] 48)).alloc (.cells #[.int .i64 x.i,.int .i64 x.q,.string (str x.n),.int .i64 x.v.c,.int .i64 x.v.s,.int .i64 x.v.r,.string (str x.v.p),.int .u64 x.v.d,.slice uo un uc,.int .i64 x.v.m] 71):=⟨_,rfl⟩
 rw [← hW] at k2 hb2
 replace hb1:=k2.at hb1 (by simp)
 have kW:=k1.trans k2 (by simp)
 have HA1:=hide ((pen_hand p).kept hA kW (by simp))
 have HV:=hide (hV.on (kW.mono (by simp)) (fun k hk=>.inl hk))
 have HKW:=hide kW
 have HB1:=hide hb1
 have HB2:=hide hb2
 have n1:w.heap.size ∉ O:=fun h=>by have:=hO _ h;omega
 have n2:w.heap.size+1 ∉ O:=fun h=>by have:=hO _ h;omega
 have c0:=box_in HB1.out (Kept.refl [] W) (by simp) (k:=0) rfl
 have d0:=box_in HB2.out (Kept.refl [] W) (by simp) (k:=0) rfl
 clear hA k1 k2 kW hb1 hb2 hV
 unfold pnV
 go_enter Tryz.func42,Tryz.ntmps42
 go_upto_region 1 with fail
 rw [← hW]
 clear hW
 go_wp2_with fail
 refine (iNum p W O s (m+7005) x.i HA1.out).mono ?_
 rintro _ w1 ⟨rfl,HW1⟩
 obtain ⟨O1,hA1,hK1,hN1⟩:=HW1.out
 have c1:=box_in HB1.out hK1 n1 (k:=0) rfl
 have d1:=box_in HB2.out hK1 n2 (k:=1) rfl
 have HA2:=hide hA1
 have HK1:=hide hK1
 have HN1:=hide hN1
 clear hA1 hK1 hN1 c0 d0
 go_wp2_with fail
 refine (iNum p w1 O1 _ (m+7004) x.q HA2.out).mono ?_
 rintro _ w2 ⟨rfl,HW2⟩
 have HWt:=hide (Went.trans HK1.out HN1.out HW2.out)
 obtain ⟨O2,hA2,hK2,hN2⟩:=HWt.out
 have c2:=box_in HB1.out hK2 n1 (k:=0) rfl
 have d2:=box_in HB2.out hK2 n2 (k:=2) rfl
 have HA3:=hide hA2
 have HK2:=hide hK2
 have HN2:=hide hN2
 clear hA2 hK2 hN2 c1 d1 HWt
 go_wp2_with fail
 refine (iText p w2 O2 _ (m+7000) x.n h9 HA3.out).mono ?_
 rintro _ w3 ⟨rfl,HW3⟩
 have HWu:=hide (Went.trans HK2.out HN2.out HW3.out)
 obtain ⟨O3,hA3,hK3,hN3⟩:=HWu.out
 have c3:=box_in HB1.out hK3 n1 (k:=0) rfl
 have e3:=box_in HB2.out hK3 n2 (k:=3) rfl
 have e4:=box_in HB2.out hK3 n2 (k:=4) rfl
 have e5:=box_in HB2.out hK3 n2 (k:=5) rfl
 have e6:=box_in HB2.out hK3 n2 (k:=6) rfl
 have e7:=box_in HB2.out hK3 n2 (k:=7) rfl
 have e8:=box_in HB2.out hK3 n2 (k:=8) rfl
 have e9:=box_in HB2.out hK3 n2 (k:=9) rfl
 have cT:=told_call p w3 O3 _ m x.v (.slice uo un uc) (HV.out.on hK3 hN3) hA3
 unfold vtV at cT
 have HK3:=hide hK3
 have HN3:=hide hN3
 clear hA3 hK3 hN3 c2 d2 HWu
 go_wp2_with fail
 refine cT.mono ?_
 rintro _ w4 ⟨rfl,hW4⟩
 have HWf:=hide (Went.old HKW.out (Went.trans HK3.out HN3.out hW4))
 clear cT hW4
 go_wp2_with fail
 go_end0
 exact ⟨rfl,HWf⟩
structure SwD (O:List Nat) (w:World) (ao:Option Addr) (n c:Nat) (X:List (Se × Value)):Prop where
 len:X.length=n
 le:n≤c
 max:c≤maxLen
 atI:∀ i (h:i < X.length),∃ b o,ao=some ⟨b,o,none⟩∧SeAt w b (o+i*10) X[i]
 out:0 < n→∀ k∈blk ao,k ∉ O∧k < w.heap.size
 el:∀ x∈X,SeS O w x
def iSes (s:List Int × Int) (X:List (Se × Value)):List Int × Int:=X.foldl (fun s x=>iSe s x.1) s
theorem iSes_take {X:List (Se × Value)}{j:Nat}(h:j < X.length) (s:List Int × Int):iSes s (X.take (j+1))=(fun s x=>iSe s x.1) (iSes s (X.take j)) X[j]:=by
 unfold iSes
 rw [List.take_succ_eq_append_getElem h,List.foldl_append]
 rfl
def IssI (p:Nat) (w:World) (O:List Nat) (s:List Int × Int) (m:Nat) (X:List (Se × Value)) (iv:Value) (wr:World):Prop:=∃ j:Nat,iv=.int .i64 (j:Int)∧j≤X.length∧Hid (Went (AtP p) w O (iSes s (X.take j)) (m+wsum wtS (X.drop j)) wr)
set_option maxRecDepth 100000 in
theorem isesss_call (p:Nat) (w:World) (O:List Nat) (s:List Int × Int) (m:Nat) (ao:Option Addr) (n c:Nat) (X:List (Se × Value)) (hS:SwD O w ao n c X) (hA:AtP p w O s (m+wsum wtS X+1)) :
 Calls Tryz.prog 40 #[pnV p,.slice ao n c,.func (.func 42) #[pnV p] #[]] w fun r w'=>r=.returned (.tuple #[])∧Hid (Went (AtP p) w O (iSes (wrNum s.2 s.1 n) X) m w'):=by
 have hO:=(pen_hand p).lt hA
 have hc:=hS.le
 have hmx:=hS.max
 unfold maxLen at hmx
 have k1:Kept [] w (w.alloc (.cells #[.pointer (some ⟨p,0,none⟩)] 48)):=(Kept.refl _ _).alloc _
 have hb1:=heap_alloc_new w (.cells #[.pointer (some ⟨p,0,none⟩)] 48)
 obtain ⟨W,hW⟩:∃ W,W=w.alloc (.cells #[.pointer (some ⟨p,0,none⟩)] 48):=⟨_,rfl⟩
 rw [← hW] at k1 hb1
 have HA1:=hide ((pen_hand p).kept hA k1 (by simp))
 have HK1:=hide k1
 have HS:=hide hS
 have HL:=hide hS.len
 have c0:=box_in hb1 (Kept.refl [] W) (by simp) (k:=0) rfl
 clear hA k1 hb1 hS hO
 unfold pnV
 go_enter Tryz.func40,Tryz.ntmps40
 go_upto_region 1 with fail
 rw [← hW]
 clear hW
 go_wp2_with fail
 refine (iNum p W O s (m+wsum wtS X) n HA1.out).mono ?_
 rintro _ w1 ⟨rfl,HW1⟩
 have HW0:Hid (Went (AtP p) w O (iSes (wrNum s.2 s.1 n) (X.take 0)) (m+wsum wtS (X.drop 0)) w1):=Went.old HK1.out HW1.out
 clear c0 HW1
 go_wp2_with fail
 go_loopw [15] (fun iv wr=>IssI p w O (wrNum s.2 s.1 n) m X iv wr) (fun iv _=>n - (intOf iv).toNat)
 case atStart=>exact ⟨0,rfl,Nat.zero_le _,HW0⟩
 case round =>
  obtain ⟨j,rfl,hj,HWj⟩:=hrel
  have hjl:j≤n:=by rw [← HL.out];exact hj
  by_cases hlt:j < n
  ·have hlt':(j:Int) < n:=by omega
   have hjX:j < X.length:=by rw [HL.out];exact hlt
   have hjc:j≤c:=by omega
   obtain ⟨O1,hA1,hK1,hN1⟩:=HWj.out
   obtain ⟨b,o,he,hcell⟩:=HS.out.atI j hjX
   subst he
   have hbO:b ∉ O:=(HS.out.out (by omega) b (by simp [blk])).1
   have hI:=HS.out.el _ (List.getElem_mem hjX)
   have hI:=hI.on hK1 hN1
   have HT:=hide (iSes_take hjX (wrNum s.2 s.1 n))
   have HD:=hide (wsum_drop wtS hjX)
   have HA2:Hid (AtP p wr O1 (iSes (wrNum s.2 s.1 n) (X.take j)) (m+wsum wtS (X.drop (j+1))+wtS X[j])):=by rw [show m+wsum wtS (X.drop (j+1))+wtS X[j]=m+wsum wtS (X.drop j) by have:=HD.out;omega];exact hA1
   have hcell:=hcell.kept hK1 hbO
   have HK2:=hide hK1
   have HN2:=hide hN1
   clear HD
   generalize X[j]=y at *
   obtain ⟨y1,y2⟩:=y
   obtain ⟨e0,e1,e2,e3,e4,e5,e6,e7,e8,e9⟩:=hcell
   obtain ⟨hC,h9⟩:=hI
   obtain ⟨uo,un,uc,KK,hv,_⟩:=hC.u
   subst hv
   have f0:wr.cell? ⟨b,o+j*10,none⟩=some (.int .i64 y1.i):=e0
   have f1:wr.cell? ⟨b,o+j*10+1,none⟩=some (.int .i64 y1.q):=e1
   have f2:wr.cell? ⟨b,o+j*10+2,none⟩=some (.string (str y1.n)):=e2
   have f3:wr.cell? ⟨b,o+j*10+3,none⟩=some (.int .i64 y1.v.c):=e3
   have f4:wr.cell? ⟨b,o+j*10+4,none⟩=some (.int .i64 y1.v.s):=e4
   have f5:wr.cell? ⟨b,o+j*10+5,none⟩=some (.int .i64 y1.v.r):=e5
   have f6:wr.cell? ⟨b,o+j*10+6,none⟩=some (.string (str y1.v.p)):=e6
   have f7:wr.cell? ⟨b,o+j*10+7,none⟩=some (.int .u64 y1.v.d):=e7
   have f8:wr.cell? ⟨b,o+j*10+8,none⟩=some (.slice uo un uc):=e8
   have f9:wr.cell? ⟨b,o+j*10+9,none⟩=some (.int .i64 y1.v.m):=e9
   clear e0 e1 e2 e3 e4 e5 e6 e7 e8 e9
   have HA2':Hid (AtP p wr O1 (iSes (wrNum s.2 s.1 n) (X.take j)) (m+wsum wtS (X.drop (j+1))+7006)):=HA2.out
   have kA:Kept [] wr (wr.alloc (.cells #[.int .i64 y1.i,.int .i64 y1.q,.string (str y1.n),.int .i64 y1.v.c,.int .i64 y1.v.s,.int .i64 y1.v.r,.string (str y1.v.p),.int .u64 y1.v.d,.slice uo un uc,.int .i64 y1.v.m] 71)):=(Kept.refl _ _).alloc _
   have cE:=isess_call p (wr.alloc (.cells #[.int .i64 y1.i,.int .i64 y1.q,.string (str y1.n),.int .i64 y1.v.c,.int .i64 y1.v.s,.int .i64 y1.v.r,.string (str y1.v.p),.int .u64 y1.v.d,.slice uo un uc,.int .i64 y1.v.m] 71)) O1 (iSes (wrNum s.2 s.1 n) (X.take j)) (m+wsum wtS (X.drop (j+1))) y1 uo un uc (VtHy.on (show VtHy O1 wr y1.v (.slice uo un uc) from hC) (kA.mono (by simp)) (fun k hk=>.inl hk)) h9 ((pen_hand p).kept HA2'.out kA (by simp))
   unfold pnV at cE
   have HKA:=hide kA
   clear kA hC
   clear hA1 hK1 hN1
   go_wp2_with fail
   refine cE.mono ?_
   rintro _ w2 ⟨rfl,HW2⟩
   have HW3:=hide (Went.trans HK2.out HN2.out (Went.old HKA.out HW2.out))
   rw [← HT.out] at HW3
   clear f0 f1 f2 f3 f4 f5 f6 f7 f8 f9 HW2 cE
   go_wp2_with fail
   go_roundw
   case rel=>exact ⟨j+1,by go_num,by omega,HW3⟩
   case measure=>simp [intOf];omega
  ·have hlt':¬ (j:Int) < n:=by omega
   have HWf:Hid (Went (AtP p) w O (iSes (wrNum s.2 s.1 n) X) m wr):=by
    have h:=HWj.out
    rw [List.take_of_length_le (by rw [HL.out];omega)] at h
    exact h.less (Nat.le_add_right _ _)
   go_wp2_with fail
   go_end0
   exact ⟨rfl,HWf⟩
end Go.Proofs.YtddhmfildfdbdaaGreat
