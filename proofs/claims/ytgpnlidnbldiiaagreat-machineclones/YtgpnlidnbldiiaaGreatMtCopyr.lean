/-
  The document's own CopyCommit, CopyCommits, CopyVerdict, CopySession.
-/
import Derived.Test.YtgpnlidnbldiiaaGreatQ12r
import Derived.Laws.AppendOwnNone
import Derived.Deep.Cut
set_option maxHeartbeats 8000000
namespace Go.Proofs.YtgpnlidnbldiiaaGreat
open Go.RowKit
set_option maxRecDepth 100000 in
theorem rcopyc_call (w:World) (x:Com) (mo:Option Addr) (m mc:Nat) (hS:SlC w mo m mc x.c) (hnil:mo=none→mc=0) (hx:okK x) :
 Calls Tryz.prog 80 #[.agg #[.int .i64 x.r,.int .i64 x.b,.string (str x.n),.slice mo m mc]] w fun e w'=>∃ v',e=.returned (.agg #[.int .i64 x.r,.int .i64 x.b,.string (str x.n),v'])∧OwnC w.heap.size w' v' x.c∧Kept [] w w':=by
 obtain ⟨W1,hW1⟩:∃ W1,W1=(w.alloc (.cells #[.int .i64 x.r,.int .i64 x.b,.string (str x.n),.slice mo m mc] 137)).alloc (.cells #[.int .i64 0,.int .i64 0,.string ⟨#[]⟩,.slice none 0 0] 137):=⟨_,rfl⟩
 have hsz:W1.heap.size=w.heap.size+2:=by rw [hW1,World.size_alloc,World.size_alloc]
 have hK0:Kept [] w W1:=by rw [hW1];exact ((Kept.refl _ _).alloc _).alloc _
 have hL:=lay2 w #[.int .i64 x.r,.int .i64 x.b,.string (str x.n),.slice mo m mc] #[.int .i64 0,.int .i64 0,.string ⟨#[]⟩,.slice none 0 0] 137
 rw [← hW1] at hL
 have hA:=(Kept.refl [] W1).alloc (.cells #[] 60)
 have hO0:=own_voidC W1 (w.heap.size+2) (by omega)
 rw [hsz] at hO0
 have a3:=cell_inC (k:=3) (hA.at hL.1 (by simp)) rfl
 have HL:=hide hL
 have HK0:=hide hK0
 have HA:=hide hA
 have hlen:=hx.2.1
 have hn:=hS.1
 have hmm:=hS.2.1
 have HS:=hide ((hS.kept hK0 (by simp)).kept hA (by simp))
 have HO0:=hide hO0
 have hBs:w.heap.size+2≤(W1.alloc (.cells #[] 60)).heap.size:=by rw [World.size_alloc];omega
 clear hx hL hK0 hS hA
 cases mo with
 | none =>
   obtain rfl:=hnil rfl
   obtain rfl:m=0:=by omega
   have hxc:x.c=[]:=by simpa using hn
   obtain ⟨i0,hi0,_⟩:=info_parts info_change
   have HI:=hide hi0
   clear hi0 hn
   subst hW1
   go_enter Tryz.func80,Tryz.ntmps80
   go_wp2_with (at_builtin;refine wpList_append_own_none rfl _ _ 41 rfl (w.heap.size+2) 60 i0 3 Tryz.underlying41 HI.out _ 0 [] rfl HO0.out rfl ?_)
   have hL2:=lay2 w #[.int .i64 x.r,.int .i64 x.b,.string (str x.n),.slice (some ⟨w.heap.size+2,0,none⟩) 0 0] #[.int .i64 x.r,.int .i64 x.b,.string (str x.n),.slice (some ⟨w.heap.size+2,0,none⟩) 0 0] 137
   refine bodyPost_ret (com_res (by rfl) _ (by rfl) ((Below.heap_alloc _ _ _ (by simp)).trans hL2.2) rfl) rfl ?_
   have hO:=own_voidC ((w.alloc (.cells #[.int .i64 x.r,.int .i64 x.b,.string (str x.n),.slice (some ⟨w.heap.size+2,0,none⟩) 0 0] 137)).alloc (.cells #[.int .i64 x.r,.int .i64 x.b,.string (str x.n),.slice (some ⟨w.heap.size+2,0,none⟩) 0 0] 137)) w.heap.size (by simp;omega)
   rw [World.size_alloc,World.size_alloc] at hO
   exact ⟨_,rfl,hO,(((Kept.refl _ _).alloc _).alloc _).alloc _⟩
 | some ad =>
   have HN:=hide hn
   have HLn:Hid (([]:List Ch).length+x.c.length≤4398046511104):=by show _≤_;simp;omega
   clear hn hsz
   subst hW1
   go_enter Tryz.func80,Tryz.ntmps80
   go_wp2_with (at_builtin;refine wp_appC rfl _ _ rfl (w.heap.size+2) _ [] rfl HO0.out ad m mc x.c rfl HN.out.symm HS.out.runs' HLn.out hBs ?a1)
   case a1 =>
    intro v' w4 hO4 hg4
    replace hO4:OwnC (w.heap.size+2) w4 v' x.c:=hO4
    have HK4:=hide (grown_keptC HA.out HO0.out (by simp) hg4)
    obtain ⟨a',n',c',rfl,_,_⟩:=hO4.chV
    have HO4:=hide (hO4.mono (show w.heap.size≤w.heap.size+2 by omega))
    clear hO4 hg4
    have HA4:=hide (HK4.out.at HL.out.1 (by simp))
    have HB4:=hide (HK4.out.at HL.out.2 (by simp))
    have q0:=cell_inC (k:=0) HA4.out rfl
    have q1:=cell_inC (k:=1) HA4.out rfl
    have q2:=cell_inC (k:=2) HA4.out rfl
    have q3:=cell_inC (k:=3) HA4.out rfl
    have r0:=cell_inC (k:=0) HB4.out rfl
    have r1:=cell_inC (k:=1) HB4.out rfl
    have r2:=cell_inC (k:=2) HB4.out rfl
    have r3:=cell_inC (k:=3) HB4.out rfl
    have fa3:=froz3 HA4.out 3
    have fb0:=froz3 HB4.out 0
    have fb1:=froz3 HB4.out 1
    have fb2:=froz3 HB4.out 2
    have fb3:=froz3 HB4.out 3
    clear a3
    go_wp2_with fail
    have HKe:Hid (Kept [w.heap.size,w.heap.size+1] w4 (setA4 (w4.setCell ⟨w.heap.size,3,none⟩ (.slice a' n' c')) (w.heap.size+1) (.int .i64 x.r) (.int .i64 x.b) (.string (str x.n)) (.slice a' n' c'))):=setA4_kept ((Kept.refl _ w4).setCell (by simp) _) (by simp) _ _ _ _
    refine bodyPost_ret (com_res (by rfl) _ (by rfl) (setA4_at (((Kept.refl [w.heap.size] w4).setCell (by simp) _).at HB4.out (by simp)) rfl _ _ _ _) rfl) rfl ?_
    exact ⟨_,rfl,row_typed HKe.out (typed2 HA4.out HB4.out) HO4.out (by decide),(HK0.out.trans HK4.out (by simp)).trans HKe.out (fun k hk=>.inr (by simp at hk;omega))⟩
set_option maxRecDepth 100000 in
theorem rcopies_call (w:World) (ao:Option Addr) (n c:Nat) (K:List (Com × Value)) (cs:List Com) (hS:SlK w ao n c K) (hcom:K.map Prod.fst=cs) (hn:n≤2513169434843) (hok:∀ x∈cs,okK x) :
 Calls Tryz.prog 93 #[.slice ao n c] w fun e w'=>CopK w cs e w':=by
 have hl:=hS.1
 have hc:=hS.2.1
 have hm:=hS.2.2.1
 unfold maxLen at hm
 have HS:=hide hS
 have HL:=hide hl
 have HCom:=hide hcom
 have HOk:=hide hok
 have HCl:Hid (cs.length=n):=by show _=_;rw [← hcom];simpa using hl
 clear hS hl hok hcom
 go_enter Tryz.func93,Tryz.ntmps93
 go_wp2_with fail
 go_loopw [3,4] (fun ov iv wr=>CkI w cs ov iv wr) (fun _ iv _=>n - (intOf iv).toNat)
 case atStart=>exact ⟨0,[],rfl,Nat.zero_le _,rfl,RowK.nil _ _,fun x hx=>(by cases hx),Kept.refl _ _⟩
 case round =>
  obtain ⟨j,K',rfl,hj,HM,HR,HO,HK⟩:=hrel
  by_cases hlt:j < n
  ·have hlt':(j:Int) < n:=by omega
   have hjc:j≤c:=by omega
   have hjK:j < K.length:=by rw [HL.out];exact hlt
   have hjg:j < cs.length:=by rw [HCl.out];exact hlt
   have hCk:=fst_get HCom.out hjK hjg
   obtain ⟨g4,o4,he4,hx4⟩:=(HS.out.kept HK.out).2.2.2.1 j hjK
   obtain ⟨mo,mm,mc,hm2,hsl,hmz⟩:=(HS.out.kept HK.out).2.2.2.2 _ (List.getElem_mem hjK)
   subst he4
   obtain ⟨h40,h41,h42,h43⟩:=hx4
   rw [hm2] at h43
   rw [hCk] at h40 h41 h42 hsl
   have hwc:=HOk.out cs[j] (List.getElem_mem hjg)
   have cK:=rcopyc_call wr cs[j] mo mm mc hsl hmz hwc
   obtain ⟨x,hxe⟩:∃ x,x=cs[j]:=⟨_,rfl⟩
   have HX:Hid (cs[j]?=some x):=by show _=_;rw [hxe];simp
   rw [← hxe] at h40 h41 h42 cK
   have hlenK:K'.length≤2513169434842:=by have h:=congrArg List.length HM.out;simp at h;omega
   clear hwc hsl hmz hxe hCk hjg hjK hm2
   go_wp2_with fail
   refine cK.mono ?_
   rintro _ w5 ⟨v5,rfl,hO5,hK5⟩
   obtain ⟨a5,n5,c5,rfl,_,_⟩:=hO5.chV
   have hRa:RowK w.heap.size (w5.alloc (.cells #[.int .i64 x.r,.int .i64 x.b,.string (str x.n),.slice a5 n5 c5] 137)) u3 K':=World.ownsRow.alloc (hK5.ownsRow HR.out (by simp)) _
   have hsz5:w.heap.size≤w5.heap.size:=Nat.le_trans HK.out.size hK5.size
   have HB:=co_news (x:=(x,.slice a5 n5 c5)) rfl (heap_alloc_new w5 (.cells #[.int .i64 x.r,.int .i64 x.b,.string (str x.n),.slice a5 n5 c5] 137))
   have HF:Hid (∀ v6 w6,RowK w.heap.size w6 v6 (K'++[(x,.slice a5 n5 c5)])→(w5.alloc (.cells #[.int .i64 x.r,.int .i64 x.b,.string (str x.n),.slice a5 n5 c5] 137)).grownBy w6 u3.ownBlock→CkI w cs v6 (.int .i64 ((j+1:Nat):Int)) w6):=fun v6 w6 h1 h2=>ck_next HX.out HM.out HR.out HO.out HK.out hK5 hO5 h1 h2
   clear hO5 hK5 cK h40 h41 h42 h43
   go_wp2_with (at_builtin;refine wp_appK rfl _ _ rfl w.heap.size _ K' rfl hRa ⟨w5.heap.size,0,none⟩ 1 1 [(x,.slice a5 n5 c5)] rfl rfl HB (by intro y hy;simp at hy;subst hy;rfl) (by simp;omega) (by simp;omega) ?b1)
   case b1 =>
    intro v6 w6 hO6 hg6
    have HF2:=hide (HF.out v6 w6 hO6 hg6)
    clear hO6 hg6 hRa HB
    go_wp2_with fail
    go_roundw
    case rel=>exact HF2.out
    case measure=>(simp [intOf] <;> omega)
  ·have hlt':¬ (j:Int) < n:=by omega
   have HE:Hid (K'.map Prod.fst=cs):=by have h:=HM.out;rw [List.take_of_length_le (by rw [HCl.out];omega)] at h;exact h
   go_wp2_with fail
   go_ret
   exact ⟨_,rfl,⟨K',HR.out,HO.out,HE.out⟩,HK.out⟩
set_option maxRecDepth 100000 in
theorem rcopyV_call (w:World) (v:Vt) (u:Value) (hu:KoV w u v.k) (hv:okV v) :
 Calls Tryz.prog 44 #[vtV v u] w fun e w'=>∃ u',e=.returned (vtV v u')∧KoO w.heap.size w' u' v.k∧Kept [] w w':=by
 obtain ⟨ao,n,c,K,rfl,hS,hcom,_⟩:=hu
 have hnl:n≤2513169434843:=by have h1:=hv.2.1;rw [← hcom] at h1;have h2:=hS.1;simp at h1;omega
 obtain ⟨W1,hW1⟩:∃ W1,W1=(w.alloc (.cells #[.int .i64 v.c,.int .i64 v.s,.int .i64 v.r,.string (str v.p),.int .u64 v.d,.slice ao n c,.int .i64 v.m] 39)).alloc (.cells #[.int .i64 0,.int .i64 0,.int .i64 0,.string ⟨#[]⟩,.int .u64 0,.slice none 0 0,.int .i64 0] 39):=⟨_,rfl⟩
 have hK0:Kept [] w W1:=by rw [hW1];exact ((Kept.refl _ _).alloc _).alloc _
 have hL:=lay2 w #[.int .i64 v.c,.int .i64 v.s,.int .i64 v.r,.string (str v.p),.int .u64 v.d,.slice ao n c,.int .i64 v.m] #[.int .i64 0,.int .i64 0,.int .i64 0,.string ⟨#[]⟩,.int .u64 0,.slice none 0 0,.int .i64 0] 39
 rw [← hW1] at hL
 have HL:=hide hL
 have HK0:=hide hK0
 have cD:=rcopies_call W1 ao n c K v.k (hS.kept hK0) hcom hnl hv.2.2
 unfold vtV
 clear hv hL hK0 hS hcom hnl
 go_enter Tryz.func44,Tryz.ntmps44
 go_wp2_with fail
 rw [← hW1]
 clear hW1
 refine cD.mono ?_
 rintro _ w4 ⟨v',rfl,hO,hK4⟩
 obtain ⟨a',n',c',rfl⟩:=hO.ko.one
 have hA4:=hK4.at HL.out.1 (by simp)
 have hB4:=hK4.at HL.out.2 (by simp)
 have q0:=cell_inC (k:=0) hA4 rfl
 have q1:=cell_inC (k:=1) hA4 rfl
 have q2:=cell_inC (k:=2) hA4 rfl
 have q3:=cell_inC (k:=3) hA4 rfl
 have q4:=cell_inC (k:=4) hA4 rfl
 have q5:=cell_inC (k:=5) hA4 rfl
 have q6:=cell_inC (k:=6) hA4 rfl
 have r0:=cell_inC (k:=0) hB4 rfl
 have r1:=cell_inC (k:=1) hB4 rfl
 have r2:=cell_inC (k:=2) hB4 rfl
 have r3:=cell_inC (k:=3) hB4 rfl
 have r4:=cell_inC (k:=4) hB4 rfl
 have r5:=cell_inC (k:=5) hB4 rfl
 have r6:=cell_inC (k:=6) hB4 rfl
 have fa5:=froz3 hA4 5
 have fb0:=froz3 hB4 0
 have fb1:=froz3 hB4 1
 have fb2:=froz3 hB4 2
 have fb3:=froz3 hB4 3
 have fb4:=froz3 hB4 4
 have fb5:=froz3 hB4 5
 have fb6:=froz3 hB4 6
 have HB4:=hide hB4
 have HA4:=hide hA4
 have HO:=hide hO
 have HK4:=hide hK4
 clear hO hK4 hA4 hB4 cD
 go_wp2_with fail
 have HKe:Hid (Kept [w.heap.size,w.heap.size+1] w4 (setA7 (w4.setCell ⟨w.heap.size,5,none⟩ (.slice a' n' c')) (w.heap.size+1) (.int .i64 v.c) (.int .i64 v.s) (.int .i64 v.r) (.string (str v.p)) (.int .u64 v.d) (.slice a' n' c') (.int .i64 v.m))):=setA7_kept ((Kept.refl _ w4).setCell (by simp) _) (by simp) _ _ _ _ _ _ _
 refine bodyPost_ret (vt_res (by rfl) _ (by rfl) (setA7_at (((Kept.refl [w.heap.size] w4).setCell (by simp) _).at HB4.out (by simp)) rfl _ _ _ _ _ _ _) rfl) rfl ?_
 exact ⟨_,rfl,(HO.out.mono HK0.out.size).keep HKe.out (typed2 HA4.out HB4.out) (by decide) (by decide),(HK0.out.trans HK4.out (by simp)).trans HKe.out (fun k hk=>.inr (by simp at hk;omega))⟩
end Go.Proofs.YtgpnlidnbldiiaaGreat
