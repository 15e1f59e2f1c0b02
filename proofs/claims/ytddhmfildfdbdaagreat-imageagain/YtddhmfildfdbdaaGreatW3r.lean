/-
  Texts of this claim that are laid as one: ImPen, ImInt, ImEp, ImChs.
-/
import Derived.Test.YtddhmfildfdbdaaGreatF12r
import Derived.Test.YtddhmfildfdbdaaGreatQ2r
import Derived.Test.YtddhmfildfdbdaaGreatQ17r
set_option maxHeartbeats 8000000
/-
 The image's pen: numbers,texts,flags,words;a change.
-/
namespace Go.Proofs.YtddhmfildfdbdaaGreat
open Go.RowKit
def iTx (s:List Int × Int) (l:List UInt8):List Int × Int:=wrRun s.2 s.1 (strOf (str l))
def iCh (s:List Int × Int) (x:Ch):List Int × Int :=
 if x.g=true then wrFlag (iTx s x.p).2 (iTx s x.p).1 true else wrWord (wrFlag (iTx s x.p).2 (iTx s x.p).1 false).2 (wrFlag (iTx s x.p).2 (iTx s x.p).1 false).1 x.d
theorem iTx_len (s:List Int × Int) (l:List UInt8) (h:l.length≤900):(iTx s l).1.length≤s.1.length+906:=by
 have hm:(strOf (str l)).length≤900:=by rw [len_str];exact h
 unfold iTx
 generalize strOf (str l)=m at hm
 unfold wrRun
 split
 ·split
  ·have:=enc_length 5 (m.length:Int);simp [encNum];omega
  ·simp
 ·simp
theorem iNum (p:Nat) (w:World) (O:List Nat) (s:List Int × Int) (m:Nat) (n:Int) (hA:AtP p w O s (m+1)) :
 Calls Tryz.prog 34 #[.pointer (some ⟨p,0,none⟩),.int .i64 n] w fun r w'=>r=.returned (.tuple #[])∧Hid (Went (AtP p) w O (wrNum s.2 s.1 n) m w'):=by
 obtain ⟨g,rfl,hw,hl⟩:=hA
 exact (wnum_call w p g s.1 s.2 n hw (by omega)).mono fun r w' h=>⟨h.1,pen_went (Kept.refl [] w) h (by have:=wrNum_len s.2 s.1 n;omega)⟩
theorem iText (p:Nat) (w:World) (O:List Nat) (s:List Int × Int) (m:Nat) (l:List UInt8) (h9:l.length≤900) (hA:AtP p w O s (m+4)) :
 Calls Tryz.prog 68 #[.pointer (some ⟨p,0,none⟩),.string (str l)] w fun r w'=>r=.returned (.tuple #[])∧Hid (Went (AtP p) w O (iTx s l) m w'):=by
 obtain ⟨g,rfl,hw,hl⟩:=hA
 exact (wtext_call w p g s.1 s.2 (str l) hw (by rw [str_size];omega) (by omega)).mono fun r w' h=>⟨h.1,pen_went (Kept.refl [] w) h (by have h1:=iTx_len s l h9;have h2:(wrRun s.2 s.1 (strOf (str l))).1.length≤s.1.length+906:=h1;omega)⟩
theorem iFlag (p:Nat) (w:World) (O:List Nat) (s:List Int × Int) (m:Nat) (b:Bool) (hA:AtP p w O s (m+1)) :
 Calls Tryz.prog 101 #[.pointer (some ⟨p,0,none⟩),.bool b] w fun r w'=>r=.returned (.tuple #[])∧Hid (Went (AtP p) w O (wrFlag s.2 s.1 b) m w'):=by
 obtain ⟨g,rfl,hw,hl⟩:=hA
 exact (wflag_call w p g s.1 s.2 b hw (by omega)).mono fun r w' h=>⟨h.1,pen_went (Kept.refl [] w) h (by have:=wrFlag_len s.2 s.1 b;omega)⟩
theorem iWord (p:Nat) (w:World) (O:List Nat) (s:List Int × Int) (m:Nat) (x:Int) (hA:AtP p w O s (m+1)) :
 Calls Tryz.prog 102 #[.pointer (some ⟨p,0,none⟩),.int .u64 x] w fun r w'=>r=.returned (.tuple #[])∧Hid (Went (AtP p) w O (wrWord s.2 s.1 x) m w'):=by
 obtain ⟨g,rfl,hw,hl⟩:=hA
 exact (wword_call w p g s.1 s.2 x hw (by omega)).mono fun r w' h=>⟨h.1,pen_went (Kept.refl [] w) h (by have:=wrWord_len s.2 s.1 x;omega)⟩
theorem Went.old {σ:Type}{At:World→List Nat→σ→Nat→Prop}{w W w':World}{O:List Nat}{s:σ}{m:Nat}(k:Kept [] w W) (h:Went At W O s m w'):Went At w O s m w':=by
 obtain ⟨O',h1,h2,h3⟩:=h
 refine ⟨O',h1,(k.mono (by simp)).trans h2 (fun i hi=>.inl hi),fun i hi=>?_⟩
 rcases h3 i hi with h4 | h4
 ·exact .inl h4
 ·exact .inr (Nat.le_trans k.size h4)
theorem Went.less {p:Nat}{w w':World}{O:List Nat}{s:List Int × Int}{m m':Nat}(h:Went (AtP p) w O s m w') (hm:m'≤m):Went (AtP p) w O s m' w':=by
 obtain ⟨O',⟨g,e,h1,h2⟩,h3,h4⟩:=h
 exact ⟨O',⟨g,e,h1,by omega⟩,h3,h4⟩
def pnV (p:Nat):Value:=.agg #[.pointer (some ⟨p,0,none⟩)]
theorem box_in {w w':World}{O:List Nat}{b k:Nat}{cs:Array Value}{t:TypeId}{v:Value}(h:w.heap[b]?=some (.cells cs t (0,0))) (hk:Kept O w w') (hb:b ∉ O) (hv:cs[k]?=some v):w'.cell? ⟨b,k,none⟩=some v:=cell_inC (k:=k) (hk.at h hb) hv
set_option maxRecDepth 100000 in
theorem ichg_call (p:Nat) (w:World) (O:List Nat) (s:List Int × Int) (m:Nat) (x:Ch) (h9:x.p.length≤900) (hA:AtP p w O s (m+6)) :
 Calls Tryz.prog 72 #[pnV p,.agg #[.string (str x.p),.bool x.g,.int .u64 x.d]] w fun r w'=>r=.returned (.tuple #[])∧Hid (Went (AtP p) w O (iCh s x) m w'):=by
 have hO:=(pen_hand p).lt hA
 have k1:Kept [] w (w.alloc (.cells #[.pointer (some ⟨p,0,none⟩)] 48)):=(Kept.refl _ _).alloc _
 have k2:Kept [] (w.alloc (.cells #[.pointer (some ⟨p,0,none⟩)] 48)) ((w.alloc (.cells #[.pointer (some ⟨p,0,none⟩)] 48)).alloc (.cells #[.string (str x.p),.bool x.g,.int .u64 x.d] 116)):=(Kept.refl _ _).alloc _
 have hb1:=heap_alloc_new w (.cells #[.pointer (some ⟨p,0,none⟩)] 48)
 have hb2:=heap_alloc_new (w.alloc (.cells #[.pointer (some ⟨p,0,none⟩)] 48)) (.cells #[.string (str x.p),.bool x.g,.int .u64 x.d] 116)
 rw [World.size_alloc] at hb2
 obtain ⟨W,hW⟩:∃ W,W=(w.alloc (.cells #[.pointer (some ⟨p,0,none⟩)] 48)).alloc (.cells #[.string (str x.p),.bool x.g,.int .u64 x.d] 116):=⟨_,rfl⟩
 rw [← hW] at k2 hb2
 replace hb1:=k2.at hb1 (by simp)
 have kW:=k1.trans k2 (by simp)
 have HA1:=hide ((pen_hand p).kept hA kW (by simp))
 have HKW:=hide kW
 have HB1:=hide hb1
 have HB2:=hide hb2
 have n1:w.heap.size ∉ O:=fun h=>by have:=hO _ h;omega
 have n2:w.heap.size+1 ∉ O:=fun h=>by have:=hO _ h;omega
 have c0:=box_in HB1.out (Kept.refl [] W) (by simp) (k:=0) rfl
 have d0:=box_in HB2.out (Kept.refl [] W) (by simp) (k:=0) rfl
 clear hA k1 k2 kW hb1 hb2
 unfold pnV
 go_enter Tryz.func72,Tryz.ntmps72
 go_upto_region 1 with fail
 rw [← hW]
 clear hW
 go_wp2_with fail
 refine (iText p W O s (m+2) x.p h9 HA1.out).mono ?_
 rintro _ w1 ⟨rfl,HW1⟩
 obtain ⟨O1,hA1,hK1,hN1⟩:=HW1.out
 have c1:=box_in HB1.out hK1 n1 (k:=0) rfl
 have d1:=box_in HB2.out hK1 n2 (k:=1) rfl
 have HA2:=hide hA1
 have HK1:=hide hK1
 have HN1:=hide hN1
 clear hA1 hK1 hN1 c0 d0
 go_wp2_with fail
 refine (iFlag p w1 O1 _ (m+1) x.g HA2.out).mono ?_
 rintro _ w2 ⟨rfl,HW2⟩
 have HWt:=hide (Went.trans HK1.out HN1.out HW2.out)
 obtain ⟨O2,hA2,hK2,hN2⟩:=HWt.out
 have c2:=box_in HB1.out hK2 n1 (k:=0) rfl
 have d2:=box_in HB2.out hK2 n2 (k:=1) rfl
 have d3:=box_in HB2.out hK2 n2 (k:=2) rfl
 have HA3:=hide hA2
 have HK2:=hide hK2
 have HN2:=hide hN2
 clear hA2 hK2 hN2 c1 d1
 cases hg:x.g
 ·rw [hg] at d2 HA3
  go_wp2_with fail
  refine (iWord p w2 O2 _ m x.d HA3.out).mono ?_
  rintro _ w3 ⟨rfl,HW3⟩
  have HWf:=hide (Went.old HKW.out (Went.trans HK2.out HN2.out HW3.out))
  go_wp2_with fail
  go_end0
  refine ⟨rfl,?_⟩
  have h:=HWf.out
  unfold iCh;rw [if_neg (by rw [hg];simp)]
  exact h
 ·rw [hg] at d2 HWt
  have HWf:=hide (Went.old HKW.out (HWt.out.less (Nat.le_add_right m 1)))
  go_wp2_with fail
  go_end0
  refine ⟨rfl,?_⟩
  have h:=HWf.out
  unfold iCh;rw [if_pos hg]
  exact h
def IoD (O:List Nat) (w:World) (ao:Option Addr) (n c:Nat) (l:List Int):Prop:=SlI w ao n c l∧(0 < n→∀ k∈blk ao,k ∉ O∧k < w.heap.size)
def iNs (s:List Int × Int) (l:List Int):List Int × Int:=l.foldl (fun s x=>wrNum s.2 s.1 x) s
theorem iNs_take {l:List Int}{j:Nat}(h:j < l.length) (s:List Int × Int):iNs s (l.take (j+1))=wrNum (iNs s (l.take j)).2 (iNs s (l.take j)).1 l[j]:=by
 unfold iNs
 rw [List.take_succ_eq_append_getElem h,List.foldl_append]
 rfl
def InI (p:Nat) (w:World) (O:List Nat) (s:List Int × Int) (m:Nat) (l:List Int) (iv:Value) (wr:World):Prop:=∃ j:Nat,iv=.int .i64 (j:Int)∧j≤l.length∧Hid (Went (AtP p) w O (iNs s (l.take j)) (m+(l.length - j)) wr)
set_option maxRecDepth 100000 in
theorem iints_call (p:Nat) (w:World) (O:List Nat) (s:List Int × Int) (m:Nat) (ao:Option Addr) (n c:Nat) (l:List Int) (hS:IoD O w ao n c l) (hA:AtP p w O s (m+n+1)) :
 Calls Tryz.prog 66 #[pnV p,.slice ao n c,.func (.func 34) #[.pointer (some ⟨p,0,none⟩)] #[]] w fun r w'=>r=.returned (.tuple #[])∧Hid (Went (AtP p) w O (iNs (wrNum s.2 s.1 n) l) m w'):=by
 have hO:=(pen_hand p).lt hA
 have hc:=hS.1.2.1
 have hmx:=hS.1.2.2.1
 unfold maxLen at hmx
 have k1:Kept [] w (w.alloc (.cells #[.pointer (some ⟨p,0,none⟩)] 48)):=(Kept.refl _ _).alloc _
 have hb1:=heap_alloc_new w (.cells #[.pointer (some ⟨p,0,none⟩)] 48)
 obtain ⟨W,hW⟩:∃ W,W=w.alloc (.cells #[.pointer (some ⟨p,0,none⟩)] 48):=⟨_,rfl⟩
 rw [← hW] at k1 hb1
 have HA1:=hide ((pen_hand p).kept hA k1 (by simp))
 have HK1:=hide k1
 have HS:=hide hS
 have HL:=hide hS.1.1
 have HO:=hide hO
 have c0:=box_in hb1 (Kept.refl [] W) (by simp) (k:=0) rfl
 clear hA k1 hb1 hS hO
 unfold pnV
 go_enter Tryz.func66,Tryz.ntmps66
 go_upto_region 1 with fail
 rw [← hW]
 clear hW
 go_wp2_with fail
 refine (iNum p W O s (m+n) n HA1.out).mono ?_
 rintro _ w1 ⟨rfl,HW1⟩
 have HW0:Hid (Went (AtP p) w O (iNs (wrNum s.2 s.1 n) (l.take 0)) (m+(l.length - 0)) w1):=by
  have h:=Went.old HK1.out HW1.out
  rw [← HL.out] at h ⊢
  exact h
 clear c0 HW1
 go_wp2_with fail
 go_loopw [15] (fun iv wr=>InI p w O (wrNum s.2 s.1 n) m l iv wr) (fun iv _=>n - (intOf iv).toNat)
 case atStart=>exact ⟨0,rfl,Nat.zero_le _,HW0⟩
 case round =>
  obtain ⟨j,rfl,hj,HWj⟩:=hrel
  have hjl:j≤n:=by rw [← HL.out];exact hj
  by_cases hlt:j < n
  ·have hlt':(j:Int) < n:=by omega
   have hjL:j < l.length:=by rw [HL.out];exact hlt
   have hjc:j≤c:=by omega
   obtain ⟨O1,hA1,hK1,hN1⟩:=HWj.out
   obtain ⟨b,o,he,hcell⟩:=HS.out.1.2.2.2 j hjL
   subst he
   have hbO:b ∉ O:=((HS.out.2 (by omega)) b (by simp [blk])).1
   have e0:=hK1.cell hcell hbO
   have HT:=hide (iNs_take hjL (wrNum s.2 s.1 n))
   have HA2:Hid (AtP p wr O1 (iNs (wrNum s.2 s.1 n) (l.take j)) (m+(l.length - (j+1))+1)):=by rw [show m+(l.length - (j+1))+1=m+(l.length - j) by omega];exact hA1
   have HK2:=hide hK1
   have HN2:=hide hN1
   generalize l[j]=y at *
   clear hA1 hK1 hN1 hcell
   go_wp2_with fail
   refine (iNum p wr O1 _ (m+(l.length - (j+1))) y HA2.out).mono ?_
   rintro _ w2 ⟨rfl,HW2⟩
   have HW3:=hide (Went.trans HK2.out HN2.out HW2.out)
   rw [← HT.out] at HW3
   clear e0 HW2
   go_wp2_with fail
   go_roundw
   case rel=>exact ⟨j+1,by go_num,by omega,HW3⟩
   case measure=>simp [intOf];omega
  ·have hlt':¬ (j:Int) < n:=by omega
   have HWf:Hid (Went (AtP p) w O (iNs (wrNum s.2 s.1 n) l) m wr):=by
    have h:=HWj.out
    rw [List.take_of_length_le (by rw [HL.out];omega)] at h
    exact h.less (Nat.le_add_right _ _)
   go_wp2_with fail
   go_end0
   exact ⟨rfl,HWf⟩
def iEp (s:List Int × Int) (x:Ep):List Int × Int:=iNs (wrNum (wrNum s.2 s.1 x.f).2 (wrNum s.2 s.1 x.f).1 x.m.length) x.m
theorem IoD.on {O O':List Nat}{w w':World}{ao:Option Addr}{n c:Nat}{l:List Int}(h:IoD O w ao n c l) (hk:Kept O w w') (hn:∀ k∈O',k∈O∨w.heap.size≤k):IoD O' w' ao n c l:=by
 obtain ⟨⟨h1,h2,h3,h4⟩,h5⟩:=h
 refine ⟨⟨h1,h2,h3,fun i hi=>?_⟩,fun h0 k hk2=>⟨fun hm=>?_,Nat.lt_of_lt_of_le (h5 h0 k hk2).2 hk.size⟩⟩
 ·obtain ⟨b,o,e,hc⟩:=h4 i hi
  exact ⟨b,o,e,hk.cell hc (h5 (by omega) b (by rw [e];simp [blk])).1⟩
 ·have:=h5 h0 k hk2
  rcases hn k hm with h | h
  ·exact this.1 h
  ·omega
set_option maxRecDepth 100000 in
theorem iep_call (p:Nat) (w:World) (O:List Nat) (s:List Int × Int) (m:Nat) (x:Ep) (mo:Option Addr) (mn mc:Nat) (hS:IoD O w mo mn mc x.m) (h9:mn≤100) (hA:AtP p w O s (m+102)) :
 Calls Tryz.prog 39 #[pnV p,.agg #[.int .i64 x.f,.slice mo mn mc]] w fun r w'=>r=.returned (.tuple #[])∧Hid (Went (AtP p) w O (iEp s x) m w'):=by
 have hO:=(pen_hand p).lt hA
 have hl:=hS.1.1
 have k1:Kept [] w (w.alloc (.cells #[.pointer (some ⟨p,0,none⟩)] 48)):=(Kept.refl _ _).alloc _
 have k2:Kept [] (w.alloc (.cells #[.pointer (some ⟨p,0,none⟩)] 48)) ((w.alloc (.cells #[.pointer (some ⟨p,0,none⟩)] 48)).alloc (.cells #[.int .i64 x.f,.slice mo mn mc] 62)):=(Kept.refl _ _).alloc _
 have hb1:=heap_alloc_new w (.cells #[.pointer (some ⟨p,0,none⟩)] 48)
 have hb2:=heap_alloc_new (w.alloc (.cells #[.pointer (some ⟨p,0,none⟩)] 48)) (.cells #[.int .i64 x.f,.slice mo mn mc] 62)
 rw [World.size_alloc] at hb2
 obtain ⟨W,hW⟩:∃ W,W=(w.alloc (.cells #[.pointer (some ⟨p,0,none⟩)] 48)).alloc (.cells #[.int .i64 x.f,.slice mo mn mc] 62):=⟨_,rfl⟩
 rw [← hW] at k2 hb2
 replace hb1:=k2.at hb1 (by simp)
 have kW:=k1.trans k2 (by simp)
 have HA1:=hide ((pen_hand p).kept hA kW (by simp))
 have HS:=hide (hS.on (kW.mono (by simp)) (fun k hk=>.inl hk))
 have HKW:=hide kW
 have HB1:=hide hb1
 have HB2:=hide hb2
 have n1:w.heap.size ∉ O:=fun h=>by have:=hO _ h;omega
 have n2:w.heap.size+1 ∉ O:=fun h=>by have:=hO _ h;omega
 have c0:=box_in HB1.out (Kept.refl [] W) (by simp) (k:=0) rfl
 have d0:=box_in HB2.out (Kept.refl [] W) (by simp) (k:=0) rfl
 clear hA k1 k2 kW hb1 hb2 hS
 unfold pnV
 go_enter Tryz.func39,Tryz.ntmps39
 go_upto_region 1 with fail
 rw [← hW]
 clear hW
 go_wp2_with fail
 refine (iNum p W O s (m+101) x.f HA1.out).mono ?_
 rintro _ w1 ⟨rfl,HW1⟩
 obtain ⟨O1,hA1,hK1,hN1⟩:=HW1.out
 have c1:=box_in HB1.out hK1 n1 (k:=0) rfl
 have d1:=box_in HB2.out hK1 n2 (k:=1) rfl
 have cL:=iints_call p w1 O1 _ (m+100 - mn) mo mn mc x.m (HS.out.on hK1 hN1) (by rw [show m+100 - mn+mn+1=m+101 by omega];exact hA1)
 unfold pnV at cL
 have HK1:=hide hK1
 have HN1:=hide hN1
 clear hA1 hK1 hN1 c0 d0
 go_wp2_with fail
 refine cL.mono ?_
 rintro _ w2 ⟨rfl,HW2⟩
 have HWf:=hide ((Went.old HKW.out (Went.trans HK1.out HN1.out HW2.out)).less (show m≤m+100 - mn by omega))
 clear cL HW2
 go_wp2_with fail
 go_end0
 refine ⟨rfl,?_⟩
 have h:=HWf.out
 unfold iEp;rw [hl]
 exact h
def wsum {α:Type}(f:α→Nat) (L:List α):Nat:=(L.map f).sum
theorem wsum_drop {α:Type}(f:α→Nat) {L:List α}{j:Nat}(h:j < L.length):wsum f (L.drop j)=f L[j]+wsum f (L.drop (j+1)):=by
 unfold wsum
 rw [List.drop_eq_getElem_cons h,List.map_cons,List.sum_cons]
structure ChS (O:List Nat) (w:World) (x:Ch):Prop where
 h:x.p.length≤900
theorem ChS.on {O O':List Nat}{w w':World}{x:Ch}(h:ChS O w x) (_:Kept O w w') (_:∀ k∈O',k∈O∨w.heap.size≤k):ChS O' w' x:=⟨h.h⟩
def wt6 (_:Ch):Nat:=6
structure CsD (O:List Nat) (w:World) (ao:Option Addr) (n c:Nat) (X:List (Ch)):Prop where
 len:X.length=n
 le:n≤c
 max:c≤maxLen
 atI:∀ i (h:i < X.length),∃ b o,ao=some ⟨b,o,none⟩∧ChAt w b (o+i*3) X[i]
 out:0 < n→∀ k∈blk ao,k ∉ O∧k < w.heap.size
 el:∀ x∈X,ChS O w x
theorem CsD.on {O O':List Nat}{w w':World}{ao:Option Addr}{n c:Nat}{X:List (Ch)}(h:CsD O w ao n c X) (hk:Kept O w w') (hn:∀ k∈O',k∈O∨w.heap.size≤k):CsD O' w' ao n c X:=by
 obtain ⟨h1,h2,h3,h4,h5,h6⟩:=h
 refine ⟨h1,h2,h3,fun i hi=>?_,fun h0 k hk2=>⟨fun hm=>?_,Nat.lt_of_lt_of_le (h5 h0 k hk2).2 hk.size⟩,fun x hx=>(h6 x hx).on hk hn⟩
 ·obtain ⟨b,o,e,hc⟩:=h4 i hi
  exact ⟨b,o,e,hc.kept hk (h5 (by omega) b (by rw [e];simp [blk])).1⟩
 ·have:=h5 h0 k hk2
  rcases hn k hm with h | h
  ·exact this.1 h
  ·omega
def iChs (s:List Int × Int) (X:List (Ch)):List Int × Int:=X.foldl (fun s x=>iCh s x) s
theorem iChs_take {X:List (Ch)}{j:Nat}(h:j < X.length) (s:List Int × Int):iChs s (X.take (j+1))=(fun s x=>iCh s x) (iChs s (X.take j)) X[j]:=by
 unfold iChs
 rw [List.take_succ_eq_append_getElem h,List.foldl_append]
 rfl
def IcI (p:Nat) (w:World) (O:List Nat) (s:List Int × Int) (m:Nat) (X:List (Ch)) (iv:Value) (wr:World):Prop:=∃ j:Nat,iv=.int .i64 (j:Int)∧j≤X.length∧Hid (Went (AtP p) w O (iChs s (X.take j)) (m+wsum wt6 (X.drop j)) wr)
set_option maxRecDepth 100000 in
theorem ichs_call (p:Nat) (w:World) (O:List Nat) (s:List Int × Int) (m:Nat) (ao:Option Addr) (n c:Nat) (X:List (Ch)) (hS:CsD O w ao n c X) (hA:AtP p w O s (m+wsum wt6 X+1)) :
 Calls Tryz.prog 71 #[pnV p,.slice ao n c,.func (.func 72) #[pnV p] #[]] w fun r w'=>r=.returned (.tuple #[])∧Hid (Went (AtP p) w O (iChs (wrNum s.2 s.1 n) X) m w'):=by
 have hO:=(pen_hand p).lt hA
 have hc:=hS.le
 have hmx:=hS.max
 unfold maxLen at hmx
 have k1:Kept [] w (w.alloc (.cells #[.pointer (some ⟨p,0,none⟩)] 48)):=(Kept.refl _ _).alloc _
 have hb1:=heap_alloc_new w (.cells #[.pointer (some ⟨p,0,none⟩)] 48)
 obtain ⟨W,hW⟩:∃ W,W=w.alloc (.cells #[.pointer (some ⟨p,0,none⟩)] 48):=⟨_,rfl⟩
 rw [← hW] at k1 hb1
 have HA1:=hide ((pen_hand p).kept hA k1 (by simp))
 have HK1:=hide k1
 have HS:=hide hS
 have HL:=hide hS.len
 have c0:=box_in hb1 (Kept.refl [] W) (by simp) (k:=0) rfl
 clear hA k1 hb1 hS hO
 unfold pnV
 go_enter Tryz.func71,Tryz.ntmps71
 go_upto_region 1 with fail
 rw [← hW]
 clear hW
 go_wp2_with fail
 refine (iNum p W O s (m+wsum wt6 X) n HA1.out).mono ?_
 rintro _ w1 ⟨rfl,HW1⟩
 have HW0:Hid (Went (AtP p) w O (iChs (wrNum s.2 s.1 n) (X.take 0)) (m+wsum wt6 (X.drop 0)) w1):=Went.old HK1.out HW1.out
 clear c0 HW1
 go_wp2_with fail
 go_loopw [15] (fun iv wr=>IcI p w O (wrNum s.2 s.1 n) m X iv wr) (fun iv _=>n - (intOf iv).toNat)
 case atStart=>exact ⟨0,rfl,Nat.zero_le _,HW0⟩
 case round =>
  obtain ⟨j,rfl,hj,HWj⟩:=hrel
  have hjl:j≤n:=by rw [← HL.out];exact hj
  by_cases hlt:j < n
  ·have hlt':(j:Int) < n:=by omega
   have hjX:j < X.length:=by rw [HL.out];exact hlt
   have hjc:j≤c:=by omega
   obtain ⟨O1,hA1,hK1,hN1⟩:=HWj.out
   obtain ⟨b,o,he,hcell⟩:=HS.out.atI j hjX
   subst he
   have hbO:b ∉ O:=(HS.out.out (by omega) b (by simp [blk])).1
   have hI:=HS.out.el _ (List.getElem_mem hjX)
   have hI:=hI.on hK1 hN1
   have HT:=hide (iChs_take hjX (wrNum s.2 s.1 n))
   have HD:=hide (wsum_drop wt6 hjX)
   have HA2:Hid (AtP p wr O1 (iChs (wrNum s.2 s.1 n) (X.take j)) (m+wsum wt6 (X.drop (j+1))+wt6 X[j])):=by rw [show m+wsum wt6 (X.drop (j+1))+wt6 X[j]=m+wsum wt6 (X.drop j) by have:=HD.out;omega];exact hA1
   have hcell:=hcell.kept hK1 hbO
   have HK2:=hide hK1
   have HN2:=hide hN1
   clear HD
   generalize X[j]=y at *
   obtain ⟨e0,e1,e2⟩:=hcell
   have kA:Kept [] wr (wr.alloc (.cells #[.string (str y.p),.bool y.g,.int .u64 y.d] 116)):=(Kept.refl _ _).alloc _
   have cE:=ichg_call p (wr.alloc (.cells #[.string (str y.p),.bool y.g,.int .u64 y.d] 116)) O1 (iChs (wrNum s.2 s.1 n) (X.take j)) (m+wsum wt6 (X.drop (j+1))) y hI.h ((pen_hand p).kept HA2.out kA (by simp))
   unfold pnV at cE
   have HKA:=hide kA
   clear kA hI
   clear hA1 hK1 hN1
   go_wp2_with fail
   refine cE.mono ?_
   rintro _ w2 ⟨rfl,HW2⟩
   have HW3:=hide (Went.trans HK2.out HN2.out (Went.old HKA.out HW2.out))
   rw [← HT.out] at HW3
   clear e0 e1 e2 HW2 cE
   go_wp2_with fail
   go_roundw
   case rel=>exact ⟨j+1,by go_num,by omega,HW3⟩
   case measure=>simp [intOf];omega
  ·have hlt':¬ (j:Int) < n:=by omega
   have HWf:Hid (Went (AtP p) w O (iChs (wrNum s.2 s.1 n) X) m wr):=by
    have h:=HWj.out
    rw [List.take_of_length_le (by rw [HL.out];omega)] at h
    exact h.less (Nat.le_add_right _ _)
   go_wp2_with fail
   go_end0
   exact ⟨rfl,HWf⟩
end Go.Proofs.YtddhmfildfdbdaaGreat
