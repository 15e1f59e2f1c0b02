/-
  Texts of this claim that are laid as one: MtLd, EdUni.
-/
import Derived.Test.YtgpnlidnbldiiaaGreatQ2r
import Derived.Test.YtgpnlidnbldiiaaGreatMtOpenr
import Derived.Test.YtgpnlidnbldiiaaGreatQ1r
import Derived.BigQuiet
import Derived.Test.YtgpnlidnbldiiaaGreatEdChgr
set_option maxHeartbeats 16000000
/-
 The document's own CopySession and LoadTable.
-/
namespace Go.Proofs.YtgpnlidnbldiiaaGreat
open Go.RowKit
set_option maxRecDepth 100000 in
theorem rcopyS_call (w:World) (x:Se) (u:Value) (hu:KoV w u x.v.k) (hx:okS x) :
 Calls Tryz.prog 109 #[seV x u] w fun e w'=>∃ u',e=.returned (seV x u')∧KoO w.heap.size w' u' x.v.k∧Kept [] w w':=by
 obtain ⟨ao,n,c,rfl⟩:=hu.one
 obtain ⟨W1,hW1⟩:∃ W1,W1=(w.alloc (.cells #[.int .i64 x.i,.int .i64 x.q,.string (str x.n),.int .i64 x.v.c,.int .i64 x.v.s,.int .i64 x.v.r,.string (str x.v.p),.int .u64 x.v.d,.slice ao n c,.int .i64 x.v.m] 155)).alloc (.cells #[.int .i64 0,.int .i64 0,.string ⟨#[]⟩,.int .i64 0,.int .i64 0,.int .i64 0,.string ⟨#[]⟩,.int .u64 0,.slice none 0 0,.int .i64 0] 155):=⟨_,rfl⟩
 have hK0:Kept [] w W1:=by rw [hW1];exact ((Kept.refl _ _).alloc _).alloc _
 have hL:=lay2 w #[.int .i64 x.i,.int .i64 x.q,.string (str x.n),.int .i64 x.v.c,.int .i64 x.v.s,.int .i64 x.v.r,.string (str x.v.p),.int .u64 x.v.d,.slice ao n c,.int .i64 x.v.m] #[.int .i64 0,.int .i64 0,.string ⟨#[]⟩,.int .i64 0,.int .i64 0,.int .i64 0,.string ⟨#[]⟩,.int .u64 0,.slice none 0 0,.int .i64 0] 155
 rw [← hW1] at hL
 have HL:=hide hL
 have HK0:=hide hK0
 have cD:=fun W (hk:Kept [] w W)=>rcopyV_call W x.v (.slice ao n c) (hu.kept hk) hx.2
 unfold vtV at cD
 unfold seV
 clear hx hL hK0 hu
 go_enter Tryz.func109,Tryz.ntmps109
 go_wp2_with fail
 rw [← hW1]
 have HA3:=hide HL.out.1
 have HB3:=hide HL.out.2
 have HK3:=HK0
 clear hW1
 refine (cD _ HK3.out).mono ?_
 rintro _ w4 ⟨v',rfl,hO,hK4⟩
 obtain ⟨a',n',c',rfl⟩:=hO.ko.one
 have hA4:=hK4.at HA3.out (by simp)
 have hB4:=hK4.at HB3.out (by simp)
 have q3:=cell_inC (k:=3) hA4 rfl
 have q4:=cell_inC (k:=4) hA4 rfl
 have q5:=cell_inC (k:=5) hA4 rfl
 have q6:=cell_inC (k:=6) hA4 rfl
 have q7:=cell_inC (k:=7) hA4 rfl
 have q8:=cell_inC (k:=8) hA4 rfl
 have q9:=cell_inC (k:=9) hA4 rfl
 have fa3:=froz3 hA4 3
 have fa4:=froz3 hA4 4
 have fa5:=froz3 hA4 5
 have fa6:=froz3 hA4 6
 have fa7:=froz3 hA4 7
 have fa8:=froz3 hA4 8
 have fa9:=froz3 hA4 9
 have HB4:=hide hB4
 have HA4:=hide hA4
 have HO:=hide hO
 have HK4:=hide hK4
 clear hO hK4 hA4 hB4 cD
 go_upto_region 2 with fail
 obtain ⟨w5,hw5⟩:∃ w5,w5=((((((w4.setCell ⟨w.heap.size,3,none⟩ (.int .i64 x.v.c)).setCell ⟨w.heap.size,4,none⟩ (.int .i64 x.v.s)).setCell ⟨w.heap.size,5,none⟩ (.int .i64 x.v.r)).setCell ⟨w.heap.size,6,none⟩ (.string (str x.v.p))).setCell ⟨w.heap.size,7,none⟩ (.int .u64 x.v.d)).setCell ⟨w.heap.size,8,none⟩ (.slice a' n' c')).setCell ⟨w.heap.size,9,none⟩ (.int .i64 x.v.m):=⟨_,rfl⟩
 rw [← hw5]
 have hA5:w5.heap[w.heap.size]?=some (.cells #[.int .i64 x.i,.int .i64 x.q,.string (str x.n),.int .i64 x.v.c,.int .i64 x.v.s,.int .i64 x.v.r,.string (str x.v.p),.int .u64 x.v.d,.slice a' n' c',.int .i64 x.v.m] 155 (0,0)):=by rw [hw5];exact setB7_at HA4.out _ _ _ _ _ _ _
 have hK5:Kept [w.heap.size] w4 w5:=by rw [hw5];exact setB7_kept (Kept.refl _ w4) (by simp) _ _ _ _ _ _ _
 have hB5:=hK5.at HB4.out (by simp)
 clear q3 fa3
 clear q4 fa4
 clear q5 fa5
 clear q6 fa6
 clear q7 fa7
 clear q8 fa8
 clear q9 fa9
 have q0:=cell_inC (k:=0) hA5 rfl
 have q1:=cell_inC (k:=1) hA5 rfl
 have q2:=cell_inC (k:=2) hA5 rfl
 have q3:=cell_inC (k:=3) hA5 rfl
 have q4:=cell_inC (k:=4) hA5 rfl
 have q5:=cell_inC (k:=5) hA5 rfl
 have q6:=cell_inC (k:=6) hA5 rfl
 have q7:=cell_inC (k:=7) hA5 rfl
 have q8:=cell_inC (k:=8) hA5 rfl
 have q9:=cell_inC (k:=9) hA5 rfl
 have r0:=cell_inC (k:=0) hB5 rfl
 have r1:=cell_inC (k:=1) hB5 rfl
 have r2:=cell_inC (k:=2) hB5 rfl
 have r3:=cell_inC (k:=3) hB5 rfl
 have r4:=cell_inC (k:=4) hB5 rfl
 have r5:=cell_inC (k:=5) hB5 rfl
 have r6:=cell_inC (k:=6) hB5 rfl
 have r7:=cell_inC (k:=7) hB5 rfl
 have r8:=cell_inC (k:=8) hB5 rfl
 have r9:=cell_inC (k:=9) hB5 rfl
 have fb0:=froz3 hB5 0
 have fb1:=froz3 hB5 1
 have fb2:=froz3 hB5 2
 have fb3:=froz3 hB5 3
 have fb4:=froz3 hB5 4
 have fb5:=froz3 hB5 5
 have fb6:=froz3 hB5 6
 have fb7:=froz3 hB5 7
 have fb8:=froz3 hB5 8
 have fb9:=froz3 hB5 9
 have HA5:=hide hA5
 have HB5:=hide hB5
 have HK5:=hide hK5
 clear hw5 hA5 hB5 hK5
 go_wp2_with fail
 have HKe:Hid (Kept [w.heap.size,w.heap.size+1] w4 (setA10 w5 (w.heap.size+1) (.int .i64 x.i) (.int .i64 x.q) (.string (str x.n)) (.int .i64 x.v.c) (.int .i64 x.v.s) (.int .i64 x.v.r) (.string (str x.v.p)) (.int .u64 x.v.d) (.slice a' n' c') (.int .i64 x.v.m))):=setA10_kept (HK5.out.mono (by simp)) (by simp) _ _ _ _ _ _ _ _ _ _
 refine bodyPost_ret (se_res (by rfl) _ (by rfl) (setA10_at HB5.out rfl _ _ _ _ _ _ _ _ _ _) rfl) rfl ?_
 exact ⟨_,rfl,(HO.out.mono HK3.out.size).keep HKe.out (typed2 HA4.out HB4.out) (by decide) (by decide),(HK3.out.trans HK4.out (by simp)).trans HKe.out (fun k hk=>.inr (by simp at hk;omega))⟩
theorem cell_block {w:World}{b o:Nat}{v:Value}(h:w.cell? ⟨b,o,none⟩=some v):b < w.heap.size:=by
 by_cases hb:b < w.heap.size
 ·exact hb
 ·simp [World.cell?,Array.getElem?_eq_none (Nat.le_of_not_lt hb)] at h
theorem cell_lt {w:World}{g4 o4 j:Nat}{x:Se × Value}(h:∃ b o,(some ⟨g4,o4,none⟩:Option Addr)=some ⟨b,o,none⟩∧SeAt w b (o+j*10) x):g4 < w.heap.size:=by
 obtain ⟨b,o,e,hx⟩:=h
 cases e
 exact cell_block hx.c0
theorem uni_succ {L:List Ep}{i:Nat}(h:i < L.length) (k:Nat):uniB (L.take (i+1)) k=(uniB (L.take i) k || setB L[i].m k):=by
 unfold uniB
 rw [List.take_succ_eq_append_getElem h,List.any_append]
 simp
def UnO (w:World) (L:List Ep) (nv ov:Value) (wr:World):Prop:=∃ N:Nat,nv=.int .i64 (N:Int)∧N≤15∧Hid (RowI w.heap.size wr ov (toldN (uniB L) N))∧Hid (Kept [] w wr)
def UnI (L:List Ep) (N n:Nat) (iv bv:Value):Prop:=∃ (i:Nat) (b:Bool),iv=.int .i64 (i:Int)∧bv=.bool b∧i≤n∧Hid (b=uniB (L.take i) N)
set_option maxRecDepth 100000 in
theorem runion_call (B:Nat) (w:World) (p:Nat) (al:Int) (L:List Ep) (h:EdA B w p al L) (hn:L≠[]) (hl:L.length≤1000000) :
 Calls Tryz.prog 49 #[.pointer (some ⟨p,0,none⟩)] w fun e w'=>∃ v,e=.returned v∧RowI w.heap.size w' v (told (uniB L))∧Kept [] w w':=by
 obtain ⟨g,cap,X,h1,hS,hX,_,_,_⟩:=h.open hn
 have c1:w.cell? ⟨p,1,none⟩=some (.slice (some ⟨g,0,none⟩) L.length cap):=cell_inC (k:=1) h1 rfl
 have HS:=hide hS
 have HX:=hide hX
 generalize hln:L.length=n at c1 hl
 have HL:=hide hln
 clear h hn h1 hS hX hln
 go_enter Tryz.func49,Tryz.ntmps49
 go_wp2_with fail
 go_loopw [4,3] (fun nv ov wr=>UnO w L nv ov wr) (fun nv _ _=>15 - (intOf nv).toNat)
 case atStart=>exact ⟨0,rfl,Nat.zero_le _,World.ownsRow_nil _ _ _ _,Kept.refl _ _⟩
 case round =>
  obtain ⟨N,rfl,hN,HRo,HK⟩:=hrel
  by_cases hlt:N < 15
  ·have hlt':(N:Int) < 15:=by omega
   have d1:=HK.out.cell c1 (by simp)
   go_wp2_with fail
   go_loop [6,5] (fun iv bv=>UnI L N n iv bv) (fun iv _=>n - (intOf iv).toNat)
   case atStart=>exact ⟨0,false,rfl,rfl,Nat.zero_le _,by simp [Hid,uniB]⟩
   case round =>
    obtain ⟨i,b,rfl,rfl,hi,HB⟩:=hrel
    by_cases hlti:i < n
    ·have hlti':(i:Int) < n:=by omega
     have hiL:i < L.length:=by rw [HL.out];exact hlti
     have hiX:i < X.length:=by rw [HS.out.1];exact hiL
     have HU:=hide (uni_succ hiL N)
     cases b with
     | true =>
       have HB2:Hid (true=uniB (L.take (i+1)) N):=by show _=_;rw [HU.out,← HB.out];rfl
       go_wp2_with fail
       go_round
       case rel=>exact ⟨i+1,true,by go_num,rfl,by omega,HB2⟩
       case measure=>simp [intOf];omega
     | false =>
       obtain ⟨g2,o2,e2,y0,y1⟩:=HS.out.2.2.2.1 i hiX
       cases e2
       obtain ⟨so,sc,hv,hsl⟩:=HS.out.2.2.2.2 _ (List.getElem_mem hiX)
       have hXi:=fst_at HX.out hiX hiL
       rw [hv,Nat.zero_add] at y1
       rw [hXi] at y1 hsl
       have t1:=HK.out.cell y1 (by simp)
       have cH:=hasQ_call _ so _ sc L[i].m (hsl.kept HK.out) (N:Int)
       have HJs:Hid (decide ((N:Int)∈L[i].m)=setB L[i].m N):=rfl
       rw [HJs.out] at cH
       have HB2:Hid (setB L[i].m N=uniB (L.take (i+1)) N):=by show _=_;rw [HU.out,← HB.out];rfl
       clear y0 y1 hv hsl hXi HJs HU
       generalize setB L[i].m N=s at *
       generalize L[i].m.length=sn at *
       clear hiX hiL
       go_wp2_with (go_at_call 96;refine cH.mono ?_;clear cH;rintro _ _ ⟨rfl,rfl⟩)
       go_round
       case rel=>exact ⟨i+1,s,by go_num,rfl,by omega,HB2⟩
       case measure=>simp [intOf];omega
    ·have hlti':¬ (i:Int) < n:=by omega
     have HBn:Hid (uniB L N=b):=by
      show _=_
      have h1:=HB.out
      rw [List.take_of_length_le (by rw [HL.out];omega)] at h1
      exact h1.symm
     cases b with
     | true =>
       go_wp2_with (at_builtin;refine wp_appI rfl _ _ rfl w.heap.size _ (toldN (uniB L) N) rfl (((Kept.refl [] _).alloc _).ownsRow HRo.out (by simp)) _ (N:Int) rfl (cell_inC (k:=0) (heap_alloc_new _ _) rfl) (by have:=toldN_len (uniB L) N;omega) (by have:=HK.out.size;simp;omega) ?_;intro v3 w3 hR3 hG3)
       have HK3:Hid (Kept [] w w3):=(HK.out.alloc _).grown hG3 (fun k hk=>.inr (World.ownsRow.lt HRo.out k hk).1)
       have HR3:=hide hR3
       clear hR3 hG3
       go_roundw
       case rel=>exact ⟨N+1,by go_num,by omega,by show RowI _ _ _ _;rw [toldN_succ,HBn.out];exact HR3.out,HK3⟩
       case measure=>simp [intOf];omega
     | false =>
       go_wp2_with fail
       go_roundw
       case rel=>exact ⟨N+1,by go_num,by omega,by show RowI _ _ _ _;rw [toldN_succ,HBn.out];simpa using HRo.out,HK⟩
       case measure=>simp [intOf];omega
  ·obtain rfl:N=15:=by omega
   go_wp2_with fail
   go_ret
   exact ⟨_,rfl,HRo.out,HK.out⟩
end Go.Proofs.YtgpnlidnbldiiaaGreat
