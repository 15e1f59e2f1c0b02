/-
  Texts of this claim that are laid as one: SeAsk, SeDone, SeLive.
-/
import Derived.Test.YtgpnlidnbldiiaaGreatQ13r
import Derived.Test.YtgpnlidnbldiiaaGreatQ2r
set_option maxHeartbeats 8000000
/-
 New,All,Clone,Find,Ask.
-/
namespace Go.Proofs.YtgpnlidnbldiiaaGreat
open Go.RowKit
variable {P : Nat → Prop}
theorem TbA.keepT {w w':World}{b sz:Nat}{v:Value}{X:List (Se × Value)}{L:List Se}(h:TbA P w b sz v X L) {S:List Nat}{Ts:List TypeId}(k:Kept S w w') (hT:Typed w S Ts) (h0:126 ∉ Ts) (h1:155 ∉ Ts) (h2:137 ∉ Ts) (h3:60 ∉ Ts):TbA P w' b sz v X L :=
 ⟨k.typed hT h.at_ h0,h.pos,h.row.typed k hT h1,fun x hx=>(h.own x hx).keep k hT h2 h3,h.ses⟩
def NewPT (w:World) (size:Int) (e:Ending) (w':World):Prop :=
 (1≤size∧size≤16∧e=.returned (.tuple #[.pointer (some ⟨w.heap.size,0,none⟩),.int .i64 0])∧w'=w.alloc (.cells #[.int .i64 size,.slice none 0 0] 126)) ∨
 (¬ (1≤size∧size≤16)∧e=.returned (.tuple #[.pointer none,.int .i64 1])∧w'=w)
theorem newT_call (w:World) (size:Int) :
 Calls Tryz.prog 30 #[.int .i64 size] w fun e w'=>NewPT w size e w':=by
 by_cases h1:size < 1
 ·go_enter Tryz.func30,Tryz.ntmps30
  go_wp2
  go_ret2
  exact .inr ⟨by omega,rfl,rfl⟩
 ·by_cases h2:16 < size
  ·go_enter Tryz.func30,Tryz.ntmps30
   go_wp2
   go_ret2
   exact .inr ⟨by omega,rfl,rfl⟩
  ·go_enter Tryz.func30,Tryz.ntmps30
   go_wp2
   go_ret2
   exact .inl ⟨by omega,by omega,rfl,rfl⟩
theorem TbA.new (w:World) (sz:Nat) (h:1≤sz):TbA P (w.alloc (.cells #[.int .i64 sz,.slice none 0 0] 126)) w.heap.size sz (.slice none 0 0) [] [] :=
 ⟨heap_alloc_new w _,h,.inl ⟨rfl,rfl⟩,(fun _ hx=>by cases hx),rfl⟩
theorem all_call {w:World}{b sz:Nat}{v:Value}{X:List (Se × Value)}{L:List Se}(h:TbA P w b sz v X L) (hl:L.length≤100000) (hok:∀ x∈L,okS x) :
 Calls Tryz.prog 57 #[.pointer (some ⟨b,0,none⟩)] w fun e w'=>CopS w L e w':=by
 obtain ⟨c0,c1⟩:=h.cells
 obtain ⟨ao,c,hv,hS⟩:=h.sl
 subst hv
 have cM:=made_callT h
 have cC:=copySessions_call w ao X.length c X L hS h.ses (by rw [h.len];exact hl) hok
 clear hS h
 go_enter Tryz.func57,Tryz.ntmps57
 go_wp2_with fail
 refine cM.mono ?_
 rintro _ W ⟨rfl,hW0⟩
 obtain rfl:=hW0.symm
 go_wp2_with fail
 refine cC.mono ?_
 rintro _ w2 ⟨v2,X2,rfl,h1,h2,h3,h4⟩
 go_wp2_with fail
 go_ret
 exact ⟨_,X2,rfl,h1,h2,h3,h4⟩
def CloP (P:Nat→Prop) (w:World) (sz:Nat) (v:Value) (X:List (Se × Value)) (L:List Se) (e:Ending) (w':World):Prop :=
 ∃ b',e=.returned (.pointer (some ⟨b',0,none⟩))∧TbA P w' b' sz v X L∧Kept [] w w'∧w.heap.size≤b'
theorem cloneT_call {w:World}{b sz:Nat}{v:Value}{X:List (Se × Value)}{L:List Se}(h:TbA P w b sz v X L) :
 Calls Tryz.prog 63 #[.pointer (some ⟨b,0,none⟩)] w fun e w'=>CloP P w sz v X L e w':=by
 obtain ⟨c0,c1⟩:=h.cells
 obtain ⟨ao,n,c,hv⟩:=h.row.one
 subst hv
 have cM:=made_callT h
 have HT:=hide h
 clear h
 go_enter Tryz.func63,Tryz.ntmps63
 go_wp2_with fail
 refine cM.mono ?_
 rintro _ W ⟨rfl,hW0⟩
 obtain rfl:=hW0.symm
 go_wp2_with fail
 go_region
 all_goals go_wp2_with fail
 all_goals go_ret
 all_goals
  have hK:=((Kept.refl [] w).drew.alloc (.cells #[.int .i64 sz,.slice ao n c] 126))
  have h1:=HT.out.kept hK
  exact ⟨w.heap.size,rfl,⟨heap_alloc_new w.drew _,h1.pos,h1.row,h1.own,h1.ses⟩,hK,Nat.le_refl _⟩
def AskP (P:Nat→Prop) (w:World) (b sz:Nat) (v:Value) (id seq:Int) (L:List Se) (e:Ending) (w':World):Prop :=
 ∃ u,e=.returned (.tuple #[vtV (askV id seq L).1 u,.bool (askV id seq L).2])∧KoO w.heap.size w' u (askV id seq L).1.k∧TbP P w b sz v (askL id L) w'
theorem ask_end {w w4 w5:World}{b sz:Nat}{v v4:Value}{X4:List (Se × Value)}{L4:List Se}{vs:Array Value}(hT:TbA P w4 b sz v4 X4 L4) (hK:Kept [b] w w4) (hv:∀ k,v4.ownBlock=some k→v.ownBlock=some k∨w.heap.size≤k) (hKe:Kept [w.heap.size] w4 w5) (hZ:w4.heap[w.heap.size]?=some (.cells vs 39 (0,0))):TbP P w b sz v L4 w5 :=
 ⟨v4,X4,hT.keepT hKe (typed1 hZ) (by decide) (by decide) (by decide) (by decide),hK.trans hKe (fun k hk=>.inr (by simp at hk;omega)),hv⟩
set_option maxRecDepth 100000 in
theorem ask_call {w:World}{b sz:Nat}{v:Value}{X:List (Se × Value)}{L:List Se}(h:TbA P w b sz v X L) (hl:L.length≤100000) (hok:∀ x∈L,okS x) (id seq:Int) :
 Calls Tryz.prog 123 #[.pointer (some ⟨b,0,none⟩),.int .i64 id,.int .i64 seq] w fun e w'=>AskP P w b sz v id seq L e w':=by
 have hKz:Kept [] w (w.alloc (.cells #[.int .i64 0,.int .i64 0,.int .i64 0,.string ⟨#[]⟩,.int .u64 0,.slice none 0 0,.int .i64 0] 39)):=(Kept.refl [] w).alloc _
 have HKz:=hide hKz
 have HZ:=hide (heap_alloc_new w (.cells #[.int .i64 0,.int .i64 0,.int .i64 0,.string ⟨#[]⟩,.int .u64 0,.slice none 0 0,.int .i64 0] 39))
 have hT1:=h.kept hKz
 have cM:=made_callT hT1
 have cI:=byI_call hT1 hl id
 have HT:=hide h
 have hblt:=lt_of_at h.at_
 cases hI:byI id L with
 | none =>
   have HV:Hid (askV id seq L=(vtC 6,true)):=by show _=_;unfold askV;rw [hI]
   have HLs:Hid (askL id L=L):=by show _=_;unfold askL;rw [hI]
   rw [hI] at cI
   simp only [plV] at cI
   clear hT1 h
   go_enter Tryz.func123,Tryz.ntmps123
   go_wp2_with fail
   refine cM.mono ?_
   rintro _ W ⟨rfl,hW0⟩
   obtain rfl:=hW0.symm
   go_wp2_with fail
   refine cI.mono ?_
   rintro _ w2 ⟨rfl,hK2⟩
   obtain ⟨w4,hw4⟩:∃ w4,w4=w2:=⟨_,rfl⟩
   rw [← hw4] at hK2 ⊢
   have HZ4:=hide (hK2.at HZ.out (by simp))
   have HT4:=hide ((HT.out.kept HKz.out).kept hK2)
   have HK4:Hid (Kept [b] w w4):=(HKz.out.trans hK2 (by simp)).mono (by simp)
   have HV4:Hid (∀ k,v.ownBlock=some k→v.ownBlock=some k∨w.heap.size≤k):=fun k hk=>.inl hk
   clear hK2 cI cM hw4 hKz
   have hZ4:=HZ4.out
   have r0:=cell_inC (k:=0) hZ4 rfl
   have r1:=cell_inC (k:=1) hZ4 rfl
   have r2:=cell_inC (k:=2) hZ4 rfl
   have r3:=cell_inC (k:=3) hZ4 rfl
   have r4:=cell_inC (k:=4) hZ4 rfl
   have r5:=cell_inC (k:=5) hZ4 rfl
   have r6:=cell_inC (k:=6) hZ4 rfl
   have fr0:=froz3 hZ4 0
   have fr1:=froz3 hZ4 1
   have fr2:=froz3 hZ4 2
   have fr3:=froz3 hZ4 3
   have fr4:=froz3 hZ4 4
   have fr5:=froz3 hZ4 5
   have fr6:=froz3 hZ4 6
   clear hZ4
   go_wp2_with fail
   have HKe:=hide (setA7_kept (Kept.refl [w.heap.size] w4) (b:=w.heap.size) (by simp) (.int .i64 6) (.int .i64 0) (.int .i64 0) (.string ⟨#[]⟩) (.int .u64 0) (.slice none 0 0) (.int .i64 0))
   refine bodyPost_ret (vt_res2 (by rfl) _ (by rfl) (setA7_at HZ4.out rfl _ _ _ _ _ _ _) rfl) rfl ?_
   exact ⟨.slice none 0 0,by rw [HV.out];rfl,by rw [HV.out];exact KoO.nil _ _,by rw [HLs.out];exact ask_end HT4.out HK4.out HV4.out HKe.out HZ4.out⟩
 | some i =>
   obtain ⟨hi,_⟩:=byI_lt hI
   have HLs:Hid (askL id L=useL L i):=by show _=_;unfold askL;rw [hI]
   have HV0:Hid (askV id seq L=tellV seq (L.getD i se0)):=by show _=_;unfold askV;rw [hI]
   have HOx:Hid (okS (L.getD i se0)):=by show okS _;rw [getD_get hi];exact hok _ (List.getElem_mem hi)
   rw [hI] at cI
   simp only [plV] at cI
   have cU:=fun W (hk:Kept [] (w.alloc (.cells #[.int .i64 0,.int .i64 0,.int .i64 0,.string ⟨#[]⟩,.int .u64 0,.slice none 0 0,.int .i64 0] 39)) W)=>use_call (hT1.kept hk) hl i hi
   unfold seV at cU
   generalize L.getD i se0=x at *
   have hi0:¬ (i:Int) < 0:=by omega
   clear hT1 h
   go_enter Tryz.func123,Tryz.ntmps123
   go_wp2_with fail
   refine cM.mono ?_
   rintro _ W ⟨rfl,hW0⟩
   obtain rfl:=hW0.symm
   go_wp2_with fail
   refine cI.mono ?_
   rintro _ w2 ⟨rfl,hK2⟩
   go_wp2_with fail
   refine (cU _ hK2).mono ?_
   rintro _ w3 ⟨u3,rfl,hO3,v3,X3,hT3,hK3,hv3⟩
   obtain ⟨a3,n3,c3,rfl⟩:=hO3.ko.one
   have HK3:Hid (Kept [b] w w3):=((HKz.out.trans hK2 (by simp)).mono (by simp)).trans hK3 (by simp)
   have HZ3:=hide (hK3.at (hK2.at HZ.out (by simp)) (by simp;omega))
   have HV3:Hid (∀ k,v3.ownBlock=some k→v.ownBlock=some k∨w.heap.size≤k):=fun k hk=>(hv3 k hk).imp (fun e=>e) (fun e=>Nat.le_trans (Nat.le_trans HKz.out.size hK2.size) e)
   obtain ⟨w4,hw4⟩:∃ w4,w4=w3.alloc (.cells #[.int .i64 x.i,.int .i64 x.q,.string (str x.n),.int .i64 x.v.c,.int .i64 x.v.s,.int .i64 x.v.r,.string (str x.v.p),.int .u64 x.v.d,.slice a3 n3 c3,.int .i64 x.v.m] 155):=⟨_,rfl⟩
   have hKa:Kept [] w3 w4:=by rw [hw4];exact (Kept.refl _ _).alloc _
   have HB4:Hid (w4.heap[w3.heap.size]?=some (.cells #[.int .i64 x.i,.int .i64 x.q,.string (str x.n),.int .i64 x.v.c,.int .i64 x.v.s,.int .i64 x.v.r,.string (str x.v.p),.int .u64 x.v.d,.slice a3 n3 c3,.int .i64 x.v.m] 155 (0,0))):=by show _=_;rw [hw4];exact heap_alloc_new w3 _
   have HT4:=hide (hT3.kept hKa)
   have HZ4:=hide (hKa.at HZ3.out (by simp))
   have HK4:Hid (Kept [b] w w4):=HK3.out.trans hKa (by simp)
   have HV4:=HV3
   have HO4:=hide (hO3.kept hKa)
   clear hT3 hK3 hv3 hO3 hK2 cU cI cM hKa hKz
   go_upto_region 7 with fail
   rw [← hw4]
   clear hw4
   by_cases h1:seq < 1
   ·have HV:Hid (askV id seq L=(vtC 5,true)):=by show _=_;rw [HV0.out];unfold tellV;rw [if_pos h1]
    have hZ4:=HZ4.out
    have r0:=cell_inC (k:=0) hZ4 rfl
    have r1:=cell_inC (k:=1) hZ4 rfl
    have r2:=cell_inC (k:=2) hZ4 rfl
    have r3:=cell_inC (k:=3) hZ4 rfl
    have r4:=cell_inC (k:=4) hZ4 rfl
    have r5:=cell_inC (k:=5) hZ4 rfl
    have r6:=cell_inC (k:=6) hZ4 rfl
    have fr0:=froz3 hZ4 0
    have fr1:=froz3 hZ4 1
    have fr2:=froz3 hZ4 2
    have fr3:=froz3 hZ4 3
    have fr4:=froz3 hZ4 4
    have fr5:=froz3 hZ4 5
    have fr6:=froz3 hZ4 6
    clear hZ4
    go_wp2_with fail
    have HKe:=hide (setA7_kept (Kept.refl [w.heap.size] w4) (b:=w.heap.size) (by simp) (.int .i64 5) (.int .i64 0) (.int .i64 0) (.string ⟨#[]⟩) (.int .u64 0) (.slice none 0 0) (.int .i64 0))
    refine bodyPost_ret (vt_res2 (by rfl) _ (by rfl) (setA7_at HZ4.out rfl _ _ _ _ _ _ _) rfl) rfl ?_
    exact ⟨.slice none 0 0,by rw [HV.out];rfl,by rw [HV.out];exact KoO.nil _ _,by rw [HLs.out];exact ask_end HT4.out HK4.out HV4.out HKe.out HZ4.out⟩
   ·have q1:=cell_inC (k:=1) HB4.out rfl
    by_cases h2:seq < x.q
    ·have HV:Hid (askV id seq L=(vtC 7,true)):=by show _=_;rw [HV0.out];unfold tellV;rw [if_neg h1,if_pos h2]
     have hZ4:=HZ4.out
     have r0:=cell_inC (k:=0) hZ4 rfl
     have r1:=cell_inC (k:=1) hZ4 rfl
     have r2:=cell_inC (k:=2) hZ4 rfl
     have r3:=cell_inC (k:=3) hZ4 rfl
     have r4:=cell_inC (k:=4) hZ4 rfl
     have r5:=cell_inC (k:=5) hZ4 rfl
     have r6:=cell_inC (k:=6) hZ4 rfl
     have fr0:=froz3 hZ4 0
     have fr1:=froz3 hZ4 1
     have fr2:=froz3 hZ4 2
     have fr3:=froz3 hZ4 3
     have fr4:=froz3 hZ4 4
     have fr5:=froz3 hZ4 5
     have fr6:=froz3 hZ4 6
     clear hZ4
     go_wp2_with fail
     have HKe:=hide (setA7_kept (Kept.refl [w.heap.size] w4) (b:=w.heap.size) (by simp) (.int .i64 7) (.int .i64 0) (.int .i64 0) (.string ⟨#[]⟩) (.int .u64 0) (.slice none 0 0) (.int .i64 0))
     refine bodyPost_ret (vt_res2 (by rfl) _ (by rfl) (setA7_at HZ4.out rfl _ _ _ _ _ _ _) rfl) rfl ?_
     exact ⟨.slice none 0 0,by rw [HV.out];rfl,by rw [HV.out];exact KoO.nil _ _,by rw [HLs.out];exact ask_end HT4.out HK4.out HV4.out HKe.out HZ4.out⟩
    ·by_cases h3:seq=x.q
     ·have HV:Hid (askV id seq L=(x.v,true)):=by show _=_;rw [HV0.out];unfold tellV;rw [if_neg h1,if_neg h2,if_pos h3]
      have q3:=cell_inC (k:=3) HB4.out rfl
      have q4:=cell_inC (k:=4) HB4.out rfl
      have q5:=cell_inC (k:=5) HB4.out rfl
      have q6:=cell_inC (k:=6) HB4.out rfl
      have q7:=cell_inC (k:=7) HB4.out rfl
      have q8:=cell_inC (k:=8) HB4.out rfl
      have q9:=cell_inC (k:=9) HB4.out rfl
      have cV:=copyVerdict_call w4 x.v _ HO4.out.ko HOx.out.2
      unfold vtV at cV
      have hsw:w.heap.size≤w4.heap.size:=HK4.out.size
      go_wp2_with fail
      refine cV.mono ?_
      rintro _ w5 ⟨u5,rfl,hO5,hK5⟩
      obtain ⟨a5,n5,c5,rfl⟩:=hO5.ko.one
      have HZ5:=hide (hK5.at HZ4.out (by simp))
      have HT5:=hide (HT4.out.kept hK5)
      have HK5:=hide (HK4.out.trans hK5 (by simp))
      have HO5:=hide (hO5.mono hsw)
      clear hO5 hK5 cV q1 q3 q4 q5 q6 q7 q8 q9
      have hZ5:=HZ5.out
      have r0:=cell_inC (k:=0) hZ5 rfl
      have r1:=cell_inC (k:=1) hZ5 rfl
      have r2:=cell_inC (k:=2) hZ5 rfl
      have r3:=cell_inC (k:=3) hZ5 rfl
      have r4:=cell_inC (k:=4) hZ5 rfl
      have r5:=cell_inC (k:=5) hZ5 rfl
      have r6:=cell_inC (k:=6) hZ5 rfl
      have fr0:=froz3 hZ5 0
      have fr1:=froz3 hZ5 1
      have fr2:=froz3 hZ5 2
      have fr3:=froz3 hZ5 3
      have fr4:=froz3 hZ5 4
      have fr5:=froz3 hZ5 5
      have fr6:=froz3 hZ5 6
      clear hZ5
      go_wp2_with fail
      have HKe:=hide (setA7_kept (Kept.refl [w.heap.size] w5) (b:=w.heap.size) (by simp) (.int .i64 x.v.c) (.int .i64 x.v.s) (.int .i64 x.v.r) (.string (str x.v.p)) (.int .u64 x.v.d) (.slice a5 n5 c5) (.int .i64 x.v.m))
      refine bodyPost_ret (vt_res2 (by rfl) _ (by rfl) (setA7_at HZ5.out rfl _ _ _ _ _ _ _) rfl) rfl ?_
      exact ⟨_,by rw [HV.out];rfl,by rw [HV.out];exact HO5.out.keep HKe.out (typed1 HZ5.out) (by decide) (by decide),by rw [HLs.out];exact ask_end HT5.out HK5.out HV4.out HKe.out HZ5.out⟩
     ·have HV:Hid (askV id seq L=(vtC 0,false)):=by show _=_;rw [HV0.out];unfold tellV;rw [if_neg h1,if_neg h2,if_neg h3]
      have hZ4:=HZ4.out
      have r0:=cell_inC (k:=0) hZ4 rfl
      have r1:=cell_inC (k:=1) hZ4 rfl
      have r2:=cell_inC (k:=2) hZ4 rfl
      have r3:=cell_inC (k:=3) hZ4 rfl
      have r4:=cell_inC (k:=4) hZ4 rfl
      have r5:=cell_inC (k:=5) hZ4 rfl
      have r6:=cell_inC (k:=6) hZ4 rfl
      have fr0:=froz3 hZ4 0
      have fr1:=froz3 hZ4 1
      have fr2:=froz3 hZ4 2
      have fr3:=froz3 hZ4 3
      have fr4:=froz3 hZ4 4
      have fr5:=froz3 hZ4 5
      have fr6:=froz3 hZ4 6
      clear hZ4
      go_wp2_with fail
      have HKe:=hide (setA7_kept (Kept.refl [w.heap.size] w4) (b:=w.heap.size) (by simp) (.int .i64 0) (.int .i64 0) (.int .i64 0) (.string ⟨#[]⟩) (.int .u64 0) (.slice none 0 0) (.int .i64 0))
      refine bodyPost_ret (vt_res2 (by rfl) _ (by rfl) (setA7_at HZ4.out rfl _ _ _ _ _ _ _) rfl) rfl ?_
      exact ⟨.slice none 0 0,by rw [HV.out];rfl,by rw [HV.out];exact KoO.nil _ _,by rw [HLs.out];exact ask_end HT4.out HK4.out HV4.out HKe.out HZ4.out⟩
end Go.Proofs.YtgpnlidnbldiiaaGreat
namespace Go.Proofs.YtgpnlidnbldiiaaGreat
open Go.RowKit
variable {P : Nat → Prop}
def DoneP (P:Nat→Prop) (w:World) (b sz:Nat) (v:Value) (id seq:Int) (d:Vt) (L:List Se) (e:Ending) (w':World):Prop :=
 e=.returned (.bool (doneI id seq L).isSome)∧TbP P w b sz v (doneL id seq d L) w'
theorem set_parts {α:Type}{X:List α}{i:Nat}(hi:i < X.length) (y:α):X.set i y=X.take i++[y]++X.drop (i+1):=by
 rw [List.set_eq_take_append_cons_drop,if_pos hi];simp
theorem own_le {B:Nat}{w:World}{g n c:Nat}{X:List (Se × Value)}(h:RowS B w (.slice (some ⟨g,0,none⟩) n c) X):n≤c:=by
 rcases h.t with ⟨h,_⟩ | ⟨g',c',cur,hv,_,h1,_⟩
 ·cases h
 ·obtain ⟨_,rfl,rfl⟩:g=g'∧n=X.length∧c=c':=by simpa using hv
  exact h1
theorem row_form {B:Nat}{w:World}{v:Value}{X:List (Se × Value)}(h:RowS B w v X) (hp:0 < X.length):∃ g n c,v=.slice (some ⟨g,0,none⟩) n c:=by
 obtain ⟨g,c,he,_⟩:=World.ownsRow.form h hp
 exact ⟨g,_,c,he⟩
theorem done_end {w w5 w8:World}{b sz i g n c:Nat}{v:Value}{X8:List (Se × Value)}{id seq:Int}{d:Vt}{L:List Se}(hD:doneI id seq L=some i) (hT:TbA P w8 b sz (.slice (some ⟨g,0,none⟩) n c) X8 (doneL id seq d L)) (hK5:Kept [] w w5) (hK8:Kept [b] w5 w8) (hg:w5.heap.size≤g) :
 DoneP P w b sz v id seq d L (.returned (.bool true)) w8 :=
 ⟨by rw [hD];rfl,_,_,hT,(hK5.mono (by simp)).trans hK8 (by simp),fun k hk=>.inr (by cases hk;exact Nat.le_trans hK5.size hg)⟩
set_option linter.unusedSimpArgs false in
set_option maxRecDepth 100000 in
theorem done_call {w:World}{b sz:Nat}{v:Value}{X:List (Se × Value)}{L:List Se}(h:TbA P w b sz v X L) (hl:L.length≤100000) (id seq:Int) (d:Vt) (u:Value) (hu:KoV w u d.k) (hd:okV d) (hP:∀ k,w.heap.size≤k→P k) :
 Calls Tryz.prog 125 #[.pointer (some ⟨b,0,none⟩),.int .i64 id,.int .i64 seq,vtV d u] w fun e w'=>DoneP P w b sz v id seq d L e w':=by
 obtain ⟨ao,n,c,rfl⟩:=hu.one
 have HPf:=hide hP
 clear hP
 have hKz:Kept [] w (w.alloc (.cells #[.int .i64 d.c,.int .i64 d.s,.int .i64 d.r,.string (str d.p),.int .u64 d.d,.slice ao n c,.int .i64 d.m] 39)):=(Kept.refl [] w).alloc _
 have HKz:=hide hKz
 have HZ:=hide (heap_alloc_new w (.cells #[.int .i64 d.c,.int .i64 d.s,.int .i64 d.r,.string (str d.p),.int .u64 d.d,.slice ao n c,.int .i64 d.m] 39))
 have hT1:=h.kept hKz
 have cI:=byI_call hT1 hl id
 obtain ⟨vao,vc,hve,hvc,hvm,_,hat⟩:=h.row.shape
 subst hve
 unfold maxLen at hvm
 have HT:=hide h
 have hblt:=lt_of_at h.at_
 unfold vtV
 cases hI:byI id L with
 | none =>
   have HD:Hid (doneI id seq L=none):=by show _=_;unfold doneI;rw [hI]
   have HL:Hid (doneL id seq d L=L):=by show _=_;unfold doneL;rw [HD.out]
   rw [hI] at cI
   simp only [plV] at cI
   clear hT1 h hat
   go_enter Tryz.func125,Tryz.ntmps125
   go_wp2_with fail
   refine cI.mono ?_
   rintro _ w2 ⟨rfl,hK2⟩
   have HK2:=hide (HKz.out.trans hK2 (by simp))
   clear hK2 cI hKz
   go_wp2_with fail
   go_ret
   exact ⟨by rw [HD.out];rfl,_,X,by rw [HL.out];exact HT.out.kept HK2.out,HK2.out.mono (by simp),fun k hk=>.inl hk⟩
 | some i =>
   obtain ⟨hi,_⟩:=byI_lt hI
   have hiX:i < X.length:=by rw [h.len];exact hi
   obtain ⟨g,he,hx⟩:=hat i hiX
   subst he
   have hCk:=fst_get h.ses hiX hi
   obtain ⟨mo,mm,mc,hm2⟩:=(h.own _ (List.getElem_mem hiX)).ko.one
   have hxc:∀ W,Kept [] w W→SeAt W g (i*10) (L[i],.slice mo mm mc):=fun W hk=>by
    have h1:=hx.kept hk (by simp)
    have e:X[i]=(L[i],.slice mo mm mc):=Prod.ext hCk hm2
    rw [e] at h1;exact h1
   have HXc:=hide hxc
   have HD0:Hid (doneI id seq L=if L[i].q < seq then some i else none):=by show _=_;unfold doneI;rw [hI];simp only [getD_get hi]
   have HL0:Hid (doneI id seq L=some i→doneL id seq d L=L.set i (doneS seq d L[i])):=fun e=>by unfold doneL;rw [e];simp only [getD_get hi]
   obtain ⟨x,hxe⟩:∃ x,x=L[i]:=⟨_,rfl⟩
   rw [← hxe] at HXc HD0 HL0
   rw [hI] at cI
   simp only [plV] at cI
   have hii:(i:Int) < X.length:=by omega
   have hic:i≤vc:=by omega
   have hi0:¬ (i:Int) < 0:=by omega
   clear hT1 h hx hCk hm2 hxc hxe hat
   by_cases hq:x.q < seq
   ·have HD:Hid (doneI id seq L=some i):=by show _=_;rw [HD0.out,if_pos hq]
    have HL:=hide (HL0.out HD.out)
    have hq':¬ seq≤x.q:=by omega
    have HH1:Hid (∀ y∈X,y.2.oneCell'=true):=fun y hy=>by obtain ⟨_,_,_,e⟩:=(HT.out.own y hy).ko.one;rw [e];rfl
    go_enter Tryz.func125,Tryz.ntmps125
    go_wp2_with fail
    refine cI.mono ?_
    rintro _ w2 ⟨rfl,hK2⟩
    have HK2:=hide (HKz.out.trans hK2 (by simp))
    have HZ2:=hide (hK2.at HZ.out (by simp))
    have hT2:=HT.out.kept HK2.out
    obtain ⟨c0,c1⟩:=hT2.cells
    obtain ⟨h0,h1,h2,h3,h4,h5,h6,h7,h8,h9⟩:=HXc.out w2 HK2.out
    have hKa:Kept [] w2 (w2.alloc (.cells #[.int .i64 x.i,.int .i64 x.q,.string (str x.n),.int .i64 x.v.c,.int .i64 x.v.s,.int .i64 x.v.r,.string (str x.v.p),.int .u64 x.v.d,.slice mo mm mc,.int .i64 x.v.m] 155)):=(Kept.refl [] w2).alloc _
    have HKa:=hide hKa
    have HB3:=hide (heap_alloc_new w2 (.cells #[.int .i64 x.i,.int .i64 x.q,.string (str x.n),.int .i64 x.v.c,.int .i64 x.v.s,.int .i64 x.v.r,.string (str x.v.p),.int .u64 x.v.d,.slice mo mm mc,.int .i64 x.v.m] 155))
    have hZ3:=hKa.at HZ2.out (by simp)
    have z0:=cell_inC (k:=0) hZ3 rfl
    have z1:=cell_inC (k:=1) hZ3 rfl
    have z2:=cell_inC (k:=2) hZ3 rfl
    have z3:=cell_inC (k:=3) hZ3 rfl
    have z4:=cell_inC (k:=4) hZ3 rfl
    have z5:=cell_inC (k:=5) hZ3 rfl
    have z6:=cell_inC (k:=6) hZ3 rfl
    have cV:=copyVerdict_call (w2.alloc (.cells #[.int .i64 x.i,.int .i64 x.q,.string (str x.n),.int .i64 x.v.c,.int .i64 x.v.s,.int .i64 x.v.r,.string (str x.v.p),.int .u64 x.v.d,.slice mo mm mc,.int .i64 x.v.m] 155)) d _ ((hu.kept HK2.out).kept hKa) hd
    unfold vtV at cV
    clear hK2 cI hT2 hKa hZ3 hKz
    go_wp2_with fail
    refine cV.mono ?_
    rintro _ w4 ⟨u4,rfl,hO4,hK4⟩
    obtain ⟨a4,n4,c4,rfl⟩:=hO4.ko.one
    clear h0 h1 h2 h3 h4 h5 h6 h7 h8 h9 z0 z1 z2 z3 z4 z5 z6 cV c0 c1
    have hB4:=hK4.at HB3.out (by simp)
    have q1:=cell_inC (k:=1) hB4 rfl
    have q3:=cell_inC (k:=3) hB4 rfl
    have q4:=cell_inC (k:=4) hB4 rfl
    have q5:=cell_inC (k:=5) hB4 rfl
    have q6:=cell_inC (k:=6) hB4 rfl
    have q7:=cell_inC (k:=7) hB4 rfl
    have q8:=cell_inC (k:=8) hB4 rfl
    have q9:=cell_inC (k:=9) hB4 rfl
    have fq1:=froz3 hB4 1
    have fq3:=froz3 hB4 3
    have fq4:=froz3 hB4 4
    have fq5:=froz3 hB4 5
    have fq6:=froz3 hB4 6
    have fq7:=froz3 hB4 7
    have fq8:=froz3 hB4 8
    have fq9:=froz3 hB4 9
    obtain ⟨w5,hw5⟩:∃ w5,w5=((((((((w4.setCell ⟨w2.heap.size,1,none⟩ (.int .i64 seq)).setCell ⟨w2.heap.size,3,none⟩ (.int .i64 d.c)).setCell ⟨w2.heap.size,4,none⟩ (.int .i64 d.s)).setCell ⟨w2.heap.size,5,none⟩ (.int .i64 d.r)).setCell ⟨w2.heap.size,6,none⟩ (.string (str d.p))).setCell ⟨w2.heap.size,7,none⟩ (.int .u64 d.d)).setCell ⟨w2.heap.size,8,none⟩ (.slice a4 n4 c4)).setCell ⟨w2.heap.size,9,none⟩ (.int .i64 d.m)):=⟨_,rfl⟩
    have HB5:Hid (w5.heap[w2.heap.size]?=some (.cells #[.int .i64 x.i,.int .i64 seq,.string (str x.n),.int .i64 d.c,.int .i64 d.s,.int .i64 d.r,.string (str d.p),.int .u64 d.d,.slice a4 n4 c4,.int .i64 d.m] 155 (0,0))):=by
     show _=_
     rw [hw5];exact setB7_at (heap_setCell_same w4 _ 1 _ _ _ hB4) _ _ _ _ _ _ _
    have hK5b:Kept [w2.heap.size] w4 w5:=by rw [hw5];exact setB7_kept ((Kept.refl _ w4).setCell (by simp) _) (by simp) _ _ _ _ _ _ _
    have hs2:w.heap.size≤w2.heap.size:=HK2.out.size
    have HK4:=hide ((HK2.out.trans HKa.out (by simp)).trans hK4 (by simp))
    have HK5:Hid (Kept [] w w5):=HK4.out.trans hK5b (fun k hk=>.inr (by simp at hk;omega))
    have HO5:Hid (KoP P w5 (.slice a4 n4 c4) d.k):=(hO4.toP (P:=P) (fun j hj=>HPf.out j (by have:=HKa.out.size;omega))).keep hK5b (typed1 hB4) (by decide) (by decide)
    have HS2:Hid (w2.heap.size < w5.heap.size):=lt_of_at HB5.out
    clear hB4 hK4 hO4
    go_upto_region 6 with fail
    rw [← hw5]
    clear hw5 q1 q3 q4 q5 q6 q7 q8 q9 fq1 fq3 fq4 fq5 fq6 fq7 fq8 fq9 hK5b
    have hT5:=HT.out.kept HK5.out
    have t1:=hT5.cells.2
    have HR5:=hide hT5.row
    have HT5:=hide hT5
    clear hT5
    have b0:=cell_inC (k:=0) HB5.out rfl
    have b1:=cell_inC (k:=1) HB5.out rfl
    have b2:=cell_inC (k:=2) HB5.out rfl
    have b3:=cell_inC (k:=3) HB5.out rfl
    have b4:=cell_inC (k:=4) HB5.out rfl
    have b5:=cell_inC (k:=5) HB5.out rfl
    have b6:=cell_inC (k:=6) HB5.out rfl
    have b7:=cell_inC (k:=7) HB5.out rfl
    have b8:=cell_inC (k:=8) HB5.out rfl
    have b9:=cell_inC (k:=9) HB5.out rfl
    have cB:=fun W (hk:Kept [] w5 W)=>behind_own W _ _ ((HR5.out.kept hk).part (k:=i) (by omega)) (doneS seq d x) (.slice a4 n4 c4) ⟨_,_,_,rfl⟩ (by simp;omega)
    unfold seV doneS at cB
    simp only at cB
    have HE:Hid (∀ w8 v8,Kept [] w5 w8→TRow w8 v8 (X.take i++[(doneS seq d x,.slice a4 n4 c4)]++X.drop (i+1))→TbA P (w8.setCell ⟨b,1,none⟩ v8) b sz v8 (X.take i++[(doneS seq d x,.slice a4 n4 c4)]++X.drop (i+1)) (doneL id seq d L)):=fun w8 v8 hK8 hR8=>by
     refine HT5.out.store hK8 hR8 (fun y hy=>?_) ?_
     ·rcases List.mem_append.1 hy with hy | hy
      ·rcases List.mem_append.1 hy with hy | hy
       ·exact (HT5.out.own y (List.mem_of_mem_take hy)).kept hK8
       ·simp at hy;subst hy;exact HO5.out.kept hK8
      ·exact (HT5.out.own y (List.mem_of_mem_drop hy)).kept hK8
     ·rw [HL.out,← set_parts hiX,List.map_set,HT5.out.ses]
    obtain ⟨i0,hi0i,_⟩:=info_parts info_session
    have HI0:=hide hi0i
    have qc:(i:Int)≤vc:=by omega
    have qa:(0:Int)≤(i:Int)+1:=by omega
    have hw:IntKind.i64.wrap ((i:Int)+1)=((i+1:Nat):Int):=by rw [IntWalk.i64_in _ (by omega)];omega
    clear hi0i
    have hXl:X.length≤100000:=by rw [HT5.out.len];exact hl
    by_cases hlast:i+1=X.length
    ·have HDr:Hid (X.drop (i+1)=[]):=List.drop_of_length_le (by omega)
     have qb:(i:Int)+1≤X.length:=by omega
     have qz:X.length - (i+1)=0:=by omega
     by_cases hcap:vc=i+1
     ·have hcapT:(vc=i+1)=True:=eq_true hcap
      have qv:vc - (i+1)=0:=by omega
      clear hlast hcap
      refine wp_region_held_drew (S:=fun w'=>w'.cell? ⟨w2.heap.size,0,none⟩=some (.int .i64 x.i)∧w'.cell? ⟨w2.heap.size,1,none⟩=some (.int .i64 seq)∧w'.cell? ⟨w2.heap.size,2,none⟩=some (.string (str x.n))∧w'.cell? ⟨w2.heap.size,3,none⟩=some (.int .i64 d.c)∧w'.cell? ⟨w2.heap.size,4,none⟩=some (.int .i64 d.s)∧w'.cell? ⟨w2.heap.size,5,none⟩=some (.int .i64 d.r)∧w'.cell? ⟨w2.heap.size,6,none⟩=some (.string (str d.p))∧w'.cell? ⟨w2.heap.size,7,none⟩=some (.int .u64 d.d)∧w'.cell? ⟨w2.heap.size,8,none⟩=some (.slice a4 n4 c4)∧w'.cell? ⟨w2.heap.size,9,none⟩=some (.int .i64 d.m)) (by kernel_rfl) ⟨b0,b1,b2,b3,b4,b5,b6,b7,b8,b9⟩ (fun hHeld=>?_)
      refine tks [0,1,2,3,5,7,9,10,11,13,14] (by rfl) (by kernel_rfl) (fun _ _ _ _ _ h=>h) hHeld ?_
      iterate 11
       refine yk ?_ rfl (Or.inl ⟨by rfl,?_⟩) ?_
       rotate_left
       ·intro w9 hSw;(try dsimp only at hSw);go_simp;(try with_reducible rfl)
       try simp only [sT,Act.put]
      refine yk0 ?_
      simp only [setK,sT]
      refine wpAnyH_ready (rs:=[4,12]) (by kernel_rfl) (by simp) (AllReadyH.cons rfl (fun K0 hK0=>?_) (AllReadyH.cons rfl (fun K0 hK0=>?_) AllReadyH.nil))
      ·go_simp
       refine hK0.out _ _ hHeld (fun hHeld=>?_)
       clear hK0 K0
       try simp only [sT,Act.put]
       refine tks [6] (by rfl) (by kernel_rfl) (fun _ _ _ _ _ h=>h) hHeld ?_
       iterate 1
        refine yk ?_ rfl (Or.inl ⟨by rfl,?_⟩) ?_
        rotate_left
        ·intro w9 hSw;(try dsimp only at hSw);go_simp;(try with_reducible rfl)
        try simp only [sT,Act.put]
       refine yk0 ?_
       simp only [setK,sT]
       refine wpAnyH_ready (rs:=[8,12]) (by kernel_rfl) (by simp) (AllReadyH.cons rfl (fun K0 hK0=>?_) (AllReadyH.cons rfl (fun K0 hK0=>?_) AllReadyH.nil))
       ·go_simp
        refine (cB _ (Kept.refl [] _).drew).mono ?_
        rintro _ w6 ⟨v6,rfl,hR6,hK6⟩
        replace hR6:RowS w5.heap.size w6 v6 (X.take i++[(doneS seq d x,.slice a4 n4 c4)]):=hR6
        replace hK6:=(Kept.refl [] w5).drew.trans hK6 (by simp)
        obtain ⟨g6,n6,c6,rfl⟩:=row_form hR6 (by simp)
        have HR6:=hide hR6
        have HK6:=hide hK6
        have hT6:=HT5.out.kept hK6
        have t6:=hT6.cells.2
        clear hR6 hK6 hT6
        go_wp2_with fail
        refine hK0.out _ _ ⟨HK6.out.cell b0 (by simp),HK6.out.cell b1 (by simp),HK6.out.cell b2 (by simp),HK6.out.cell b3 (by simp),HK6.out.cell b4 (by simp),HK6.out.cell b5 (by simp),HK6.out.cell b6 (by simp),HK6.out.cell b7 (by simp),HK6.out.cell b8 (by simp),HK6.out.cell b9 (by simp)⟩ (fun hHeld=>?_)
        clear hK0 K0
        try simp only [sT,Act.put]
        refine rd1 12 (by kernel_rfl) rfl (fun K0 hK0=>?_)
        go_simp
        refine hK0.out _ _ hHeld (fun hHeld=>?_)
        clear hK0 K0
        try simp only [sT,Act.put]
        refine tks [15] (by rfl) (by kernel_rfl) (fun _ _ _ _ _ h=>h) hHeld ?_
        iterate 1
         refine yk ?_ rfl (Or.inl ⟨by rfl,?_⟩) ?_
         rotate_left
         ·intro w9 hSw;(try dsimp only at hSw);go_simp;(try with_reducible rfl)
         try simp only [sT,Act.put]
        refine yk0 ?_
        simp only [setK,sT]
        refine rd1 16 (by kernel_rfl) rfl (fun K0 hK0=>?_)
        refine step_appNo (by rfl) _ _ 51 (by rfl) 155 i0 Tryz.underlying51 HI0.out (some ⟨g6,0,none⟩) n6 c6 (own_le HR6.out) (by simp [Act.eval]) ⟨g,0,none⟩ 0 (by simp [Act.eval,qz,qv]) ?_
        refine hK0.out _ _ ⟨HK6.out.cell b0 (by simp),HK6.out.cell b1 (by simp),HK6.out.cell b2 (by simp),HK6.out.cell b3 (by simp),HK6.out.cell b4 (by simp),HK6.out.cell b5 (by simp),HK6.out.cell b6 (by simp),HK6.out.cell b7 (by simp),HK6.out.cell b8 (by simp),HK6.out.cell b9 (by simp)⟩ (fun hHeld=>?_)
        have HE7:=hide (HE.out w6 _ HK6.out (by rw [HDr.out,List.append_nil];exact HR6.out.t))
        have HK7:=HK6
        have HB7:Hid (w5.heap.size≤g6):=(World.ownsRow.lt HR6.out g6 rfl).1
        clear hK0 K0
        try simp only [sT,Act.put]
        refine tks [17,18] (by rfl) (by kernel_rfl) (fun _ _ _ _ _ h=>h) hHeld ?_
        iterate 2
         refine yk ?_ rfl (Or.inl ⟨by rfl,?_⟩) ?_
         rotate_left
         ·intro w9 hSw;(try dsimp only at hSw);go_simp;(try with_reducible rfl)
         try simp only [sT,Act.put]
        refine yk0 ?_
        simp only [setK,sT]
        have fz:=froz3 (HK7.out.at HT5.out.at_ (by simp)) 1
        refine rd1 19 (by kernel_rfl) rfl (fun K0 hK0=>?_)
        go_simp
        have hK8:Kept [b] w5 (w6.setCell ⟨b,1,none⟩ (.slice (some ⟨g6,0,none⟩) n6 c6)):=(HK7.out.mono (by simp)).setCell (by simp) _
        refine hK0.out _ _ ⟨hK8.cell b0 (by simp;omega),hK8.cell b1 (by simp;omega),hK8.cell b2 (by simp;omega),hK8.cell b3 (by simp;omega),hK8.cell b4 (by simp;omega),hK8.cell b5 (by simp;omega),hK8.cell b6 (by simp;omega),hK8.cell b7 (by simp;omega),hK8.cell b8 (by simp;omega),hK8.cell b9 (by simp;omega)⟩ (fun hHeld=>?_)
        refine wpAnyH_done (by kernel_rfl) ?_ _
        clear hK0 K0
        all_goals go_wp2_with fail
        all_goals go_ret
        all_goals exact done_end HD.out HE7.out HK5.out hK8 HB7.out
       ·go_simp
        refine hK0.out _ _ hHeld (fun hHeld=>?_)
        clear hK0 K0
        try simp only [sT,Act.put]
        refine tks [15] (by rfl) (by kernel_rfl) (fun _ _ _ _ _ h=>h) hHeld ?_
        iterate 1
         refine yk ?_ rfl (Or.inl ⟨by rfl,?_⟩) ?_
         rotate_left
         ·intro w9 hSw;(try dsimp only at hSw);go_simp;(try with_reducible rfl)
         try simp only [sT,Act.put]
        refine yk0 ?_
        simp only [setK,sT]
        refine rd1 8 (by kernel_rfl) rfl (fun K0 hK0=>?_)
        go_simp
        refine (cB _ (Kept.refl [] _).drew).mono ?_
        rintro _ w6 ⟨v6,rfl,hR6,hK6⟩
        replace hR6:RowS w5.heap.size w6 v6 (X.take i++[(doneS seq d x,.slice a4 n4 c4)]):=hR6
        replace hK6:=(Kept.refl [] w5).drew.trans hK6 (by simp)
        obtain ⟨g6,n6,c6,rfl⟩:=row_form hR6 (by simp)
        have HR6:=hide hR6
        have HK6:=hide hK6
        have hT6:=HT5.out.kept hK6
        have t6:=hT6.cells.2
        clear hR6 hK6 hT6
        go_wp2_with fail
        refine hK0.out _ _ ⟨HK6.out.cell b0 (by simp),HK6.out.cell b1 (by simp),HK6.out.cell b2 (by simp),HK6.out.cell b3 (by simp),HK6.out.cell b4 (by simp),HK6.out.cell b5 (by simp),HK6.out.cell b6 (by simp),HK6.out.cell b7 (by simp),HK6.out.cell b8 (by simp),HK6.out.cell b9 (by simp)⟩ (fun hHeld=>?_)
        clear hK0 K0
        try simp only [sT,Act.put]
        refine rd1 16 (by kernel_rfl) rfl (fun K0 hK0=>?_)
        refine step_appNo (by rfl) _ _ 51 (by rfl) 155 i0 Tryz.underlying51 HI0.out (some ⟨g6,0,none⟩) n6 c6 (own_le HR6.out) (by simp [Act.eval]) ⟨g,0,none⟩ 0 (by simp [Act.eval,qz,qv]) ?_
        refine hK0.out _ _ ⟨HK6.out.cell b0 (by simp),HK6.out.cell b1 (by simp),HK6.out.cell b2 (by simp),HK6.out.cell b3 (by simp),HK6.out.cell b4 (by simp),HK6.out.cell b5 (by simp),HK6.out.cell b6 (by simp),HK6.out.cell b7 (by simp),HK6.out.cell b8 (by simp),HK6.out.cell b9 (by simp)⟩ (fun hHeld=>?_)
        have HE7:=hide (HE.out w6 _ HK6.out (by rw [HDr.out,List.append_nil];exact HR6.out.t))
        have HK7:=HK6
        have HB7:Hid (w5.heap.size≤g6):=(World.ownsRow.lt HR6.out g6 rfl).1
        clear hK0 K0
        try simp only [sT,Act.put]
        refine tks [17,18] (by rfl) (by kernel_rfl) (fun _ _ _ _ _ h=>h) hHeld ?_
        iterate 2
         refine yk ?_ rfl (Or.inl ⟨by rfl,?_⟩) ?_
         rotate_left
         ·intro w9 hSw;(try dsimp only at hSw);go_simp;(try with_reducible rfl)
         try simp only [sT,Act.put]
        refine yk0 ?_
        simp only [setK,sT]
        have fz:=froz3 (HK7.out.at HT5.out.at_ (by simp)) 1
        refine rd1 19 (by kernel_rfl) rfl (fun K0 hK0=>?_)
        go_simp
        have hK8:Kept [b] w5 (w6.setCell ⟨b,1,none⟩ (.slice (some ⟨g6,0,none⟩) n6 c6)):=(HK7.out.mono (by simp)).setCell (by simp) _
        refine hK0.out _ _ ⟨hK8.cell b0 (by simp;omega),hK8.cell b1 (by simp;omega),hK8.cell b2 (by simp;omega),hK8.cell b3 (by simp;omega),hK8.cell b4 (by simp;omega),hK8.cell b5 (by simp;omega),hK8.cell b6 (by simp;omega),hK8.cell b7 (by simp;omega),hK8.cell b8 (by simp;omega),hK8.cell b9 (by simp;omega)⟩ (fun hHeld=>?_)
        refine wpAnyH_done (by kernel_rfl) ?_ _
        clear hK0 K0
        all_goals go_wp2_with fail
        all_goals go_ret
        all_goals exact done_end HD.out HE7.out HK5.out hK8 HB7.out
      ·go_simp
       refine hK0.out _ _ hHeld (fun hHeld=>?_)
       clear hK0 K0
       try simp only [sT,Act.put]
       refine tks [15] (by rfl) (by kernel_rfl) (fun _ _ _ _ _ h=>h) hHeld ?_
       iterate 1
        refine yk ?_ rfl (Or.inl ⟨by rfl,?_⟩) ?_
        rotate_left
        ·intro w9 hSw;(try dsimp only at hSw);go_simp;(try with_reducible rfl)
        try simp only [sT,Act.put]
       refine yk0 ?_
       simp only [setK,sT]
       refine rd1 4 (by kernel_rfl) rfl (fun K0 hK0=>?_)
       go_simp
       refine hK0.out _ _ hHeld (fun hHeld=>?_)
       clear hK0 K0
       try simp only [sT,Act.put]
       refine tks [6] (by rfl) (by kernel_rfl) (fun _ _ _ _ _ h=>h) hHeld ?_
       iterate 1
        refine yk ?_ rfl (Or.inl ⟨by rfl,?_⟩) ?_
        rotate_left
        ·intro w9 hSw;(try dsimp only at hSw);go_simp;(try with_reducible rfl)
        try simp only [sT,Act.put]
       refine yk0 ?_
       simp only [setK,sT]
       refine rd1 8 (by kernel_rfl) rfl (fun K0 hK0=>?_)
       go_simp
       refine (cB _ (Kept.refl [] _).drew).mono ?_
       rintro _ w6 ⟨v6,rfl,hR6,hK6⟩
       replace hR6:RowS w5.heap.size w6 v6 (X.take i++[(doneS seq d x,.slice a4 n4 c4)]):=hR6
       replace hK6:=(Kept.refl [] w5).drew.trans hK6 (by simp)
       obtain ⟨g6,n6,c6,rfl⟩:=row_form hR6 (by simp)
       have HR6:=hide hR6
       have HK6:=hide hK6
       have hT6:=HT5.out.kept hK6
       have t6:=hT6.cells.2
       clear hR6 hK6 hT6
       go_wp2_with fail
       refine hK0.out _ _ ⟨HK6.out.cell b0 (by simp),HK6.out.cell b1 (by simp),HK6.out.cell b2 (by simp),HK6.out.cell b3 (by simp),HK6.out.cell b4 (by simp),HK6.out.cell b5 (by simp),HK6.out.cell b6 (by simp),HK6.out.cell b7 (by simp),HK6.out.cell b8 (by simp),HK6.out.cell b9 (by simp)⟩ (fun hHeld=>?_)
       clear hK0 K0
       try simp only [sT,Act.put]
       refine rd1 16 (by kernel_rfl) rfl (fun K0 hK0=>?_)
       refine step_appNo (by rfl) _ _ 51 (by rfl) 155 i0 Tryz.underlying51 HI0.out (some ⟨g6,0,none⟩) n6 c6 (own_le HR6.out) (by simp [Act.eval]) ⟨g,0,none⟩ 0 (by simp [Act.eval,qz,qv]) ?_
       refine hK0.out _ _ ⟨HK6.out.cell b0 (by simp),HK6.out.cell b1 (by simp),HK6.out.cell b2 (by simp),HK6.out.cell b3 (by simp),HK6.out.cell b4 (by simp),HK6.out.cell b5 (by simp),HK6.out.cell b6 (by simp),HK6.out.cell b7 (by simp),HK6.out.cell b8 (by simp),HK6.out.cell b9 (by simp)⟩ (fun hHeld=>?_)
       have HE7:=hide (HE.out w6 _ HK6.out (by rw [HDr.out,List.append_nil];exact HR6.out.t))
       have HK7:=HK6
       have HB7:Hid (w5.heap.size≤g6):=(World.ownsRow.lt HR6.out g6 rfl).1
       clear hK0 K0
       try simp only [sT,Act.put]
       refine tks [17,18] (by rfl) (by kernel_rfl) (fun _ _ _ _ _ h=>h) hHeld ?_
       iterate 2
        refine yk ?_ rfl (Or.inl ⟨by rfl,?_⟩) ?_
        rotate_left
        ·intro w9 hSw;(try dsimp only at hSw);go_simp;(try with_reducible rfl)
        try simp only [sT,Act.put]
       refine yk0 ?_
       simp only [setK,sT]
       have fz:=froz3 (HK7.out.at HT5.out.at_ (by simp)) 1
       refine rd1 19 (by kernel_rfl) rfl (fun K0 hK0=>?_)
       go_simp
       have hK8:Kept [b] w5 (w6.setCell ⟨b,1,none⟩ (.slice (some ⟨g6,0,none⟩) n6 c6)):=(HK7.out.mono (by simp)).setCell (by simp) _
       refine hK0.out _ _ ⟨hK8.cell b0 (by simp;omega),hK8.cell b1 (by simp;omega),hK8.cell b2 (by simp;omega),hK8.cell b3 (by simp;omega),hK8.cell b4 (by simp;omega),hK8.cell b5 (by simp;omega),hK8.cell b6 (by simp;omega),hK8.cell b7 (by simp;omega),hK8.cell b8 (by simp;omega),hK8.cell b9 (by simp;omega)⟩ (fun hHeld=>?_)
       refine wpAnyH_done (by kernel_rfl) ?_ _
       clear hK0 K0
       all_goals go_wp2_with fail
       all_goals go_ret
       all_goals exact done_end HD.out HE7.out HK5.out hK8 HB7.out
     ·clear hlast
      refine wp_region_held_drew (S:=fun w'=>w'.cell? ⟨w2.heap.size,0,none⟩=some (.int .i64 x.i)∧w'.cell? ⟨w2.heap.size,1,none⟩=some (.int .i64 seq)∧w'.cell? ⟨w2.heap.size,2,none⟩=some (.string (str x.n))∧w'.cell? ⟨w2.heap.size,3,none⟩=some (.int .i64 d.c)∧w'.cell? ⟨w2.heap.size,4,none⟩=some (.int .i64 d.s)∧w'.cell? ⟨w2.heap.size,5,none⟩=some (.int .i64 d.r)∧w'.cell? ⟨w2.heap.size,6,none⟩=some (.string (str d.p))∧w'.cell? ⟨w2.heap.size,7,none⟩=some (.int .u64 d.d)∧w'.cell? ⟨w2.heap.size,8,none⟩=some (.slice a4 n4 c4)∧w'.cell? ⟨w2.heap.size,9,none⟩=some (.int .i64 d.m)) (by kernel_rfl) ⟨b0,b1,b2,b3,b4,b5,b6,b7,b8,b9⟩ (fun hHeld=>?_)
      refine tks [0,1,2,3,5,7,9,10,11,13,14] (by rfl) (by kernel_rfl) (fun _ _ _ _ _ h=>h) hHeld ?_
      iterate 11
       refine yk ?_ rfl (Or.inl ⟨by rfl,?_⟩) ?_
       rotate_left
       ·intro w9 hSw;(try dsimp only at hSw);go_simp;(try with_reducible rfl)
       try simp only [sT,Act.put]
      refine yk0 ?_
      simp only [setK,sT]
      refine wpAnyH_ready (rs:=[4,12]) (by kernel_rfl) (by simp) (AllReadyH.cons rfl (fun K0 hK0=>?_) (AllReadyH.cons rfl (fun K0 hK0=>?_) AllReadyH.nil))
      ·go_simp
       refine hK0.out _ _ hHeld (fun hHeld=>?_)
       clear hK0 K0
       try simp only [sT,Act.put]
       refine tks [6] (by rfl) (by kernel_rfl) (fun _ _ _ _ _ h=>h) hHeld ?_
       iterate 1
        refine yk ?_ rfl (Or.inl ⟨by rfl,?_⟩) ?_
        rotate_left
        ·intro w9 hSw;(try dsimp only at hSw);go_simp;(try with_reducible rfl)
        try simp only [sT,Act.put]
       refine yk0 ?_
       simp only [setK,sT]
       refine wpAnyH_ready (rs:=[8,12]) (by kernel_rfl) (by simp) (AllReadyH.cons rfl (fun K0 hK0=>?_) (AllReadyH.cons rfl (fun K0 hK0=>?_) AllReadyH.nil))
       ·go_simp
        refine (cB _ (Kept.refl [] _).drew).mono ?_
        rintro _ w6 ⟨v6,rfl,hR6,hK6⟩
        replace hR6:RowS w5.heap.size w6 v6 (X.take i++[(doneS seq d x,.slice a4 n4 c4)]):=hR6
        replace hK6:=(Kept.refl [] w5).drew.trans hK6 (by simp)
        obtain ⟨g6,n6,c6,rfl⟩:=row_form hR6 (by simp)
        have HR6:=hide hR6
        have HK6:=hide hK6
        have hT6:=HT5.out.kept hK6
        have t6:=hT6.cells.2
        clear hR6 hK6 hT6
        go_wp2_with fail
        refine hK0.out _ _ ⟨HK6.out.cell b0 (by simp),HK6.out.cell b1 (by simp),HK6.out.cell b2 (by simp),HK6.out.cell b3 (by simp),HK6.out.cell b4 (by simp),HK6.out.cell b5 (by simp),HK6.out.cell b6 (by simp),HK6.out.cell b7 (by simp),HK6.out.cell b8 (by simp),HK6.out.cell b9 (by simp)⟩ (fun hHeld=>?_)
        clear hK0 K0
        try simp only [sT,Act.put]
        refine rd1 12 (by kernel_rfl) rfl (fun K0 hK0=>?_)
        go_simp
        refine hK0.out _ _ hHeld (fun hHeld=>?_)
        clear hK0 K0
        try simp only [sT,Act.put]
        refine tks [15] (by rfl) (by kernel_rfl) (fun _ _ _ _ _ h=>h) hHeld ?_
        iterate 1
         refine yk ?_ rfl (Or.inl ⟨by rfl,?_⟩) ?_
         rotate_left
         ·intro w9 hSw;(try dsimp only at hSw);go_simp;(try with_reducible rfl)
         try simp only [sT,Act.put]
        refine yk0 ?_
        simp only [setK,sT]
        refine rd1 16 (by kernel_rfl) rfl (fun K0 hK0=>?_)
        refine step_appNo (by rfl) _ _ 51 (by rfl) 155 i0 Tryz.underlying51 HI0.out (some ⟨g6,0,none⟩) n6 c6 (own_le HR6.out) (by simp [Act.eval]) ⟨g,(i+1)*10,none⟩ (vc - (i+1)) (by simp [Act.eval,qz]) ?_
        refine hK0.out _ _ ⟨HK6.out.cell b0 (by simp),HK6.out.cell b1 (by simp),HK6.out.cell b2 (by simp),HK6.out.cell b3 (by simp),HK6.out.cell b4 (by simp),HK6.out.cell b5 (by simp),HK6.out.cell b6 (by simp),HK6.out.cell b7 (by simp),HK6.out.cell b8 (by simp),HK6.out.cell b9 (by simp)⟩ (fun hHeld=>?_)
        have HE7:=hide (HE.out w6 _ HK6.out (by rw [HDr.out,List.append_nil];exact HR6.out.t))
        have HK7:=HK6
        have HB7:Hid (w5.heap.size≤g6):=(World.ownsRow.lt HR6.out g6 rfl).1
        clear hK0 K0
        try simp only [sT,Act.put]
        refine tks [17,18] (by rfl) (by kernel_rfl) (fun _ _ _ _ _ h=>h) hHeld ?_
        iterate 2
         refine yk ?_ rfl (Or.inl ⟨by rfl,?_⟩) ?_
         rotate_left
         ·intro w9 hSw;(try dsimp only at hSw);go_simp;(try with_reducible rfl)
         try simp only [sT,Act.put]
        refine yk0 ?_
        simp only [setK,sT]
        have fz:=froz3 (HK7.out.at HT5.out.at_ (by simp)) 1
        refine rd1 19 (by kernel_rfl) rfl (fun K0 hK0=>?_)
        go_simp
        have hK8:Kept [b] w5 (w6.setCell ⟨b,1,none⟩ (.slice (some ⟨g6,0,none⟩) n6 c6)):=(HK7.out.mono (by simp)).setCell (by simp) _
        refine hK0.out _ _ ⟨hK8.cell b0 (by simp;omega),hK8.cell b1 (by simp;omega),hK8.cell b2 (by simp;omega),hK8.cell b3 (by simp;omega),hK8.cell b4 (by simp;omega),hK8.cell b5 (by simp;omega),hK8.cell b6 (by simp;omega),hK8.cell b7 (by simp;omega),hK8.cell b8 (by simp;omega),hK8.cell b9 (by simp;omega)⟩ (fun hHeld=>?_)
        refine wpAnyH_done (by kernel_rfl) ?_ _
        clear hK0 K0
        all_goals go_wp2_with fail
        all_goals go_ret
        all_goals exact done_end HD.out HE7.out HK5.out hK8 HB7.out
       ·go_simp
        refine hK0.out _ _ hHeld (fun hHeld=>?_)
        clear hK0 K0
        try simp only [sT,Act.put]
        refine tks [15] (by rfl) (by kernel_rfl) (fun _ _ _ _ _ h=>h) hHeld ?_
        iterate 1
         refine yk ?_ rfl (Or.inl ⟨by rfl,?_⟩) ?_
         rotate_left
         ·intro w9 hSw;(try dsimp only at hSw);go_simp;(try with_reducible rfl)
         try simp only [sT,Act.put]
        refine yk0 ?_
        simp only [setK,sT]
        refine rd1 8 (by kernel_rfl) rfl (fun K0 hK0=>?_)
        go_simp
        refine (cB _ (Kept.refl [] _).drew).mono ?_
        rintro _ w6 ⟨v6,rfl,hR6,hK6⟩
        replace hR6:RowS w5.heap.size w6 v6 (X.take i++[(doneS seq d x,.slice a4 n4 c4)]):=hR6
        replace hK6:=(Kept.refl [] w5).drew.trans hK6 (by simp)
        obtain ⟨g6,n6,c6,rfl⟩:=row_form hR6 (by simp)
        have HR6:=hide hR6
        have HK6:=hide hK6
        have hT6:=HT5.out.kept hK6
        have t6:=hT6.cells.2
        clear hR6 hK6 hT6
        go_wp2_with fail
        refine hK0.out _ _ ⟨HK6.out.cell b0 (by simp),HK6.out.cell b1 (by simp),HK6.out.cell b2 (by simp),HK6.out.cell b3 (by simp),HK6.out.cell b4 (by simp),HK6.out.cell b5 (by simp),HK6.out.cell b6 (by simp),HK6.out.cell b7 (by simp),HK6.out.cell b8 (by simp),HK6.out.cell b9 (by simp)⟩ (fun hHeld=>?_)
        clear hK0 K0
        try simp only [sT,Act.put]
        refine rd1 16 (by kernel_rfl) rfl (fun K0 hK0=>?_)
        refine step_appNo (by rfl) _ _ 51 (by rfl) 155 i0 Tryz.underlying51 HI0.out (some ⟨g6,0,none⟩) n6 c6 (own_le HR6.out) (by simp [Act.eval]) ⟨g,(i+1)*10,none⟩ (vc - (i+1)) (by simp [Act.eval,qz]) ?_
        refine hK0.out _ _ ⟨HK6.out.cell b0 (by simp),HK6.out.cell b1 (by simp),HK6.out.cell b2 (by simp),HK6.out.cell b3 (by simp),HK6.out.cell b4 (by simp),HK6.out.cell b5 (by simp),HK6.out.cell b6 (by simp),HK6.out.cell b7 (by simp),HK6.out.cell b8 (by simp),HK6.out.cell b9 (by simp)⟩ (fun hHeld=>?_)
        have HE7:=hide (HE.out w6 _ HK6.out (by rw [HDr.out,List.append_nil];exact HR6.out.t))
        have HK7:=HK6
        have HB7:Hid (w5.heap.size≤g6):=(World.ownsRow.lt HR6.out g6 rfl).1
        clear hK0 K0
        try simp only [sT,Act.put]
        refine tks [17,18] (by rfl) (by kernel_rfl) (fun _ _ _ _ _ h=>h) hHeld ?_
        iterate 2
         refine yk ?_ rfl (Or.inl ⟨by rfl,?_⟩) ?_
         rotate_left
         ·intro w9 hSw;(try dsimp only at hSw);go_simp;(try with_reducible rfl)
         try simp only [sT,Act.put]
        refine yk0 ?_
        simp only [setK,sT]
        have fz:=froz3 (HK7.out.at HT5.out.at_ (by simp)) 1
        refine rd1 19 (by kernel_rfl) rfl (fun K0 hK0=>?_)
        go_simp
        have hK8:Kept [b] w5 (w6.setCell ⟨b,1,none⟩ (.slice (some ⟨g6,0,none⟩) n6 c6)):=(HK7.out.mono (by simp)).setCell (by simp) _
        refine hK0.out _ _ ⟨hK8.cell b0 (by simp;omega),hK8.cell b1 (by simp;omega),hK8.cell b2 (by simp;omega),hK8.cell b3 (by simp;omega),hK8.cell b4 (by simp;omega),hK8.cell b5 (by simp;omega),hK8.cell b6 (by simp;omega),hK8.cell b7 (by simp;omega),hK8.cell b8 (by simp;omega),hK8.cell b9 (by simp;omega)⟩ (fun hHeld=>?_)
        refine wpAnyH_done (by kernel_rfl) ?_ _
        clear hK0 K0
        all_goals go_wp2_with fail
        all_goals go_ret
        all_goals exact done_end HD.out HE7.out HK5.out hK8 HB7.out
      ·go_simp
       refine hK0.out _ _ hHeld (fun hHeld=>?_)
       clear hK0 K0
       try simp only [sT,Act.put]
       refine tks [15] (by rfl) (by kernel_rfl) (fun _ _ _ _ _ h=>h) hHeld ?_
       iterate 1
        refine yk ?_ rfl (Or.inl ⟨by rfl,?_⟩) ?_
        rotate_left
        ·intro w9 hSw;(try dsimp only at hSw);go_simp;(try with_reducible rfl)
        try simp only [sT,Act.put]
       refine yk0 ?_
       simp only [setK,sT]
       refine rd1 4 (by kernel_rfl) rfl (fun K0 hK0=>?_)
       go_simp
       refine hK0.out _ _ hHeld (fun hHeld=>?_)
       clear hK0 K0
       try simp only [sT,Act.put]
       refine tks [6] (by rfl) (by kernel_rfl) (fun _ _ _ _ _ h=>h) hHeld ?_
       iterate 1
        refine yk ?_ rfl (Or.inl ⟨by rfl,?_⟩) ?_
        rotate_left
        ·intro w9 hSw;(try dsimp only at hSw);go_simp;(try with_reducible rfl)
        try simp only [sT,Act.put]
       refine yk0 ?_
       simp only [setK,sT]
       refine rd1 8 (by kernel_rfl) rfl (fun K0 hK0=>?_)
       go_simp
       refine (cB _ (Kept.refl [] _).drew).mono ?_
       rintro _ w6 ⟨v6,rfl,hR6,hK6⟩
       replace hR6:RowS w5.heap.size w6 v6 (X.take i++[(doneS seq d x,.slice a4 n4 c4)]):=hR6
       replace hK6:=(Kept.refl [] w5).drew.trans hK6 (by simp)
       obtain ⟨g6,n6,c6,rfl⟩:=row_form hR6 (by simp)
       have HR6:=hide hR6
       have HK6:=hide hK6
       have hT6:=HT5.out.kept hK6
       have t6:=hT6.cells.2
       clear hR6 hK6 hT6
       go_wp2_with fail
       refine hK0.out _ _ ⟨HK6.out.cell b0 (by simp),HK6.out.cell b1 (by simp),HK6.out.cell b2 (by simp),HK6.out.cell b3 (by simp),HK6.out.cell b4 (by simp),HK6.out.cell b5 (by simp),HK6.out.cell b6 (by simp),HK6.out.cell b7 (by simp),HK6.out.cell b8 (by simp),HK6.out.cell b9 (by simp)⟩ (fun hHeld=>?_)
       clear hK0 K0
       try simp only [sT,Act.put]
       refine rd1 16 (by kernel_rfl) rfl (fun K0 hK0=>?_)
       refine step_appNo (by rfl) _ _ 51 (by rfl) 155 i0 Tryz.underlying51 HI0.out (some ⟨g6,0,none⟩) n6 c6 (own_le HR6.out) (by simp [Act.eval]) ⟨g,(i+1)*10,none⟩ (vc - (i+1)) (by simp [Act.eval,qz]) ?_
       refine hK0.out _ _ ⟨HK6.out.cell b0 (by simp),HK6.out.cell b1 (by simp),HK6.out.cell b2 (by simp),HK6.out.cell b3 (by simp),HK6.out.cell b4 (by simp),HK6.out.cell b5 (by simp),HK6.out.cell b6 (by simp),HK6.out.cell b7 (by simp),HK6.out.cell b8 (by simp),HK6.out.cell b9 (by simp)⟩ (fun hHeld=>?_)
       have HE7:=hide (HE.out w6 _ HK6.out (by rw [HDr.out,List.append_nil];exact HR6.out.t))
       have HK7:=HK6
       have HB7:Hid (w5.heap.size≤g6):=(World.ownsRow.lt HR6.out g6 rfl).1
       clear hK0 K0
       try simp only [sT,Act.put]
       refine tks [17,18] (by rfl) (by kernel_rfl) (fun _ _ _ _ _ h=>h) hHeld ?_
       iterate 2
        refine yk ?_ rfl (Or.inl ⟨by rfl,?_⟩) ?_
        rotate_left
        ·intro w9 hSw;(try dsimp only at hSw);go_simp;(try with_reducible rfl)
        try simp only [sT,Act.put]
       refine yk0 ?_
       simp only [setK,sT]
       have fz:=froz3 (HK7.out.at HT5.out.at_ (by simp)) 1
       refine rd1 19 (by kernel_rfl) rfl (fun K0 hK0=>?_)
       go_simp
       have hK8:Kept [b] w5 (w6.setCell ⟨b,1,none⟩ (.slice (some ⟨g6,0,none⟩) n6 c6)):=(HK7.out.mono (by simp)).setCell (by simp) _
       refine hK0.out _ _ ⟨hK8.cell b0 (by simp;omega),hK8.cell b1 (by simp;omega),hK8.cell b2 (by simp;omega),hK8.cell b3 (by simp;omega),hK8.cell b4 (by simp;omega),hK8.cell b5 (by simp;omega),hK8.cell b6 (by simp;omega),hK8.cell b7 (by simp;omega),hK8.cell b8 (by simp;omega),hK8.cell b9 (by simp;omega)⟩ (fun hHeld=>?_)
       refine wpAnyH_done (by kernel_rfl) ?_ _
       clear hK0 K0
       all_goals go_wp2_with fail
       all_goals go_ret
       all_goals exact done_end HD.out HE7.out HK5.out hK8 HB7.out
    ·have hne:¬ vc=i+1:=by omega
     have qb:(i:Int)+1≤X.length:=by omega
     refine wp_region_held_drew (S:=fun w'=>w'.cell? ⟨w2.heap.size,0,none⟩=some (.int .i64 x.i)∧w'.cell? ⟨w2.heap.size,1,none⟩=some (.int .i64 seq)∧w'.cell? ⟨w2.heap.size,2,none⟩=some (.string (str x.n))∧w'.cell? ⟨w2.heap.size,3,none⟩=some (.int .i64 d.c)∧w'.cell? ⟨w2.heap.size,4,none⟩=some (.int .i64 d.s)∧w'.cell? ⟨w2.heap.size,5,none⟩=some (.int .i64 d.r)∧w'.cell? ⟨w2.heap.size,6,none⟩=some (.string (str d.p))∧w'.cell? ⟨w2.heap.size,7,none⟩=some (.int .u64 d.d)∧w'.cell? ⟨w2.heap.size,8,none⟩=some (.slice a4 n4 c4)∧w'.cell? ⟨w2.heap.size,9,none⟩=some (.int .i64 d.m)) (by kernel_rfl) ⟨b0,b1,b2,b3,b4,b5,b6,b7,b8,b9⟩ (fun hHeld=>?_)
     refine tks [0,1,2,3,5,7,9,10,11,13,14] (by rfl) (by kernel_rfl) (fun _ _ _ _ _ h=>h) hHeld ?_
     iterate 11
      refine yk ?_ rfl (Or.inl ⟨by rfl,?_⟩) ?_
      rotate_left
      ·intro w9 hSw;(try dsimp only at hSw);go_simp;(try with_reducible rfl)
      try simp only [sT,Act.put]
     refine yk0 ?_
     simp only [setK,sT]
     refine wpAnyH_ready (rs:=[4,12]) (by kernel_rfl) (by simp) (AllReadyH.cons rfl (fun K0 hK0=>?_) (AllReadyH.cons rfl (fun K0 hK0=>?_) AllReadyH.nil))
     ·go_simp
      refine hK0.out _ _ hHeld (fun hHeld=>?_)
      clear hK0 K0
      try simp only [sT,Act.put]
      refine tks [6] (by rfl) (by kernel_rfl) (fun _ _ _ _ _ h=>h) hHeld ?_
      iterate 1
       refine yk ?_ rfl (Or.inl ⟨by rfl,?_⟩) ?_
       rotate_left
       ·intro w9 hSw;(try dsimp only at hSw);go_simp;(try with_reducible rfl)
       try simp only [sT,Act.put]
      refine yk0 ?_
      simp only [setK,sT]
      refine wpAnyH_ready (rs:=[8,12]) (by kernel_rfl) (by simp) (AllReadyH.cons rfl (fun K0 hK0=>?_) (AllReadyH.cons rfl (fun K0 hK0=>?_) AllReadyH.nil))
      ·go_simp
       refine (cB _ (Kept.refl [] _).drew).mono ?_
       rintro _ w6 ⟨v6,rfl,hR6,hK6⟩
       replace hR6:RowS w5.heap.size w6 v6 (X.take i++[(doneS seq d x,.slice a4 n4 c4)]):=hR6
       replace hK6:=(Kept.refl [] w5).drew.trans hK6 (by simp)
       obtain ⟨g6,n6,c6,rfl⟩:=row_form hR6 (by simp)
       have HR6:=hide hR6
       have HK6:=hide hK6
       have hT6:=HT5.out.kept hK6
       have t6:=hT6.cells.2
       clear hR6 hK6 hT6
       go_wp2_with fail
       refine hK0.out _ _ ⟨HK6.out.cell b0 (by simp),HK6.out.cell b1 (by simp),HK6.out.cell b2 (by simp),HK6.out.cell b3 (by simp),HK6.out.cell b4 (by simp),HK6.out.cell b5 (by simp),HK6.out.cell b6 (by simp),HK6.out.cell b7 (by simp),HK6.out.cell b8 (by simp),HK6.out.cell b9 (by simp)⟩ (fun hHeld=>?_)
       clear hK0 K0
       try simp only [sT,Act.put]
       refine rd1 12 (by kernel_rfl) rfl (fun K0 hK0=>?_)
       go_simp
       refine hK0.out _ _ hHeld (fun hHeld=>?_)
       clear hK0 K0
       try simp only [sT,Act.put]
       refine tks [15] (by rfl) (by kernel_rfl) (fun _ _ _ _ _ h=>h) hHeld ?_
       iterate 1
        refine yk ?_ rfl (Or.inl ⟨by rfl,?_⟩) ?_
        rotate_left
        ·intro w9 hSw;(try dsimp only at hSw);go_simp;(try with_reducible rfl)
        try simp only [sT,Act.put]
       refine yk0 ?_
       simp only [setK,sT]
       refine rd1 16 (by kernel_rfl) rfl (fun K0 hK0=>?_)
       refine step_appS (by rfl) _ _ (by rfl) w5.heap.size _ (X.take i++[(doneS seq d x,.slice a4 n4 c4)]) (by simp [Act.eval]) HR6.out ⟨g,(i+1)*10,none⟩ (X.length - (i+1)) (vc - (i+1)) (X.drop (i+1)) (by simp [Act.eval]) (by simp) ((HR5.out.kept HK6.out).runs (i+1)) (fun y hy=>HH1.out y (List.mem_of_mem_drop hy)) (by omega) (by simp;omega) HK6.out.size ?_
       intro g7 n7 c7 w7 hR7 hg7 hat7
       have HK7:Hid (Kept [] w5 w7):=HK6.out.grown hg7 fun k hk=>.inr (World.ownsRow.lt HR6.out k hk).1
       have HE7:=hide (HE.out w7 _ HK7.out hR7.t)
       have HB7:Hid (w5.heap.size≤g7):=(World.ownsRow.lt hR7 g7 rfl).1
       have t7:=(HT5.out.kept HK7.out).cells.2
       refine hK0.out _ _ ⟨HK7.out.cell b0 (by simp),HK7.out.cell b1 (by simp),HK7.out.cell b2 (by simp),HK7.out.cell b3 (by simp),HK7.out.cell b4 (by simp),HK7.out.cell b5 (by simp),HK7.out.cell b6 (by simp),HK7.out.cell b7 (by simp),HK7.out.cell b8 (by simp),HK7.out.cell b9 (by simp)⟩ (fun hHeld=>?_)
       clear hK0 K0 hR7 hg7 hat7
       try simp only [sT,Act.put]
       refine tks [17,18] (by rfl) (by kernel_rfl) (fun _ _ _ _ _ h=>h) hHeld ?_
       iterate 2
        refine yk ?_ rfl (Or.inl ⟨by rfl,?_⟩) ?_
        rotate_left
        ·intro w9 hSw;(try dsimp only at hSw);go_simp;(try with_reducible rfl)
        try simp only [sT,Act.put]
       refine yk0 ?_
       simp only [setK,sT]
       have fz:=froz3 (HK7.out.at HT5.out.at_ (by simp)) 1
       refine rd1 19 (by kernel_rfl) rfl (fun K0 hK0=>?_)
       go_simp
       have hK8:Kept [b] w5 (w7.setCell ⟨b,1,none⟩ (.slice (some ⟨g7,0,none⟩) n7 c7)):=(HK7.out.mono (by simp)).setCell (by simp) _
       refine hK0.out _ _ ⟨hK8.cell b0 (by simp;omega),hK8.cell b1 (by simp;omega),hK8.cell b2 (by simp;omega),hK8.cell b3 (by simp;omega),hK8.cell b4 (by simp;omega),hK8.cell b5 (by simp;omega),hK8.cell b6 (by simp;omega),hK8.cell b7 (by simp;omega),hK8.cell b8 (by simp;omega),hK8.cell b9 (by simp;omega)⟩ (fun hHeld=>?_)
       refine wpAnyH_done (by kernel_rfl) ?_ _
       clear hK0 K0
       all_goals go_wp2_with fail
       all_goals go_ret
       all_goals exact done_end HD.out HE7.out HK5.out hK8 HB7.out
      ·go_simp
       refine hK0.out _ _ hHeld (fun hHeld=>?_)
       clear hK0 K0
       try simp only [sT,Act.put]
       refine tks [15] (by rfl) (by kernel_rfl) (fun _ _ _ _ _ h=>h) hHeld ?_
       iterate 1
        refine yk ?_ rfl (Or.inl ⟨by rfl,?_⟩) ?_
        rotate_left
        ·intro w9 hSw;(try dsimp only at hSw);go_simp;(try with_reducible rfl)
        try simp only [sT,Act.put]
       refine yk0 ?_
       simp only [setK,sT]
       refine rd1 8 (by kernel_rfl) rfl (fun K0 hK0=>?_)
       go_simp
       refine (cB _ (Kept.refl [] _).drew).mono ?_
       rintro _ w6 ⟨v6,rfl,hR6,hK6⟩
       replace hR6:RowS w5.heap.size w6 v6 (X.take i++[(doneS seq d x,.slice a4 n4 c4)]):=hR6
       replace hK6:=(Kept.refl [] w5).drew.trans hK6 (by simp)
       obtain ⟨g6,n6,c6,rfl⟩:=row_form hR6 (by simp)
       have HR6:=hide hR6
       have HK6:=hide hK6
       have hT6:=HT5.out.kept hK6
       have t6:=hT6.cells.2
       clear hR6 hK6 hT6
       go_wp2_with fail
       refine hK0.out _ _ ⟨HK6.out.cell b0 (by simp),HK6.out.cell b1 (by simp),HK6.out.cell b2 (by simp),HK6.out.cell b3 (by simp),HK6.out.cell b4 (by simp),HK6.out.cell b5 (by simp),HK6.out.cell b6 (by simp),HK6.out.cell b7 (by simp),HK6.out.cell b8 (by simp),HK6.out.cell b9 (by simp)⟩ (fun hHeld=>?_)
       clear hK0 K0
       try simp only [sT,Act.put]
       refine rd1 16 (by kernel_rfl) rfl (fun K0 hK0=>?_)
       refine step_appS (by rfl) _ _ (by rfl) w5.heap.size _ (X.take i++[(doneS seq d x,.slice a4 n4 c4)]) (by simp [Act.eval]) HR6.out ⟨g,(i+1)*10,none⟩ (X.length - (i+1)) (vc - (i+1)) (X.drop (i+1)) (by simp [Act.eval]) (by simp) ((HR5.out.kept HK6.out).runs (i+1)) (fun y hy=>HH1.out y (List.mem_of_mem_drop hy)) (by omega) (by simp;omega) HK6.out.size ?_
       intro g7 n7 c7 w7 hR7 hg7 hat7
       have HK7:Hid (Kept [] w5 w7):=HK6.out.grown hg7 fun k hk=>.inr (World.ownsRow.lt HR6.out k hk).1
       have HE7:=hide (HE.out w7 _ HK7.out hR7.t)
       have HB7:Hid (w5.heap.size≤g7):=(World.ownsRow.lt hR7 g7 rfl).1
       have t7:=(HT5.out.kept HK7.out).cells.2
       refine hK0.out _ _ ⟨HK7.out.cell b0 (by simp),HK7.out.cell b1 (by simp),HK7.out.cell b2 (by simp),HK7.out.cell b3 (by simp),HK7.out.cell b4 (by simp),HK7.out.cell b5 (by simp),HK7.out.cell b6 (by simp),HK7.out.cell b7 (by simp),HK7.out.cell b8 (by simp),HK7.out.cell b9 (by simp)⟩ (fun hHeld=>?_)
       clear hK0 K0 hR7 hg7 hat7
       try simp only [sT,Act.put]
       refine tks [17,18] (by rfl) (by kernel_rfl) (fun _ _ _ _ _ h=>h) hHeld ?_
       iterate 2
        refine yk ?_ rfl (Or.inl ⟨by rfl,?_⟩) ?_
        rotate_left
        ·intro w9 hSw;(try dsimp only at hSw);go_simp;(try with_reducible rfl)
        try simp only [sT,Act.put]
       refine yk0 ?_
       simp only [setK,sT]
       have fz:=froz3 (HK7.out.at HT5.out.at_ (by simp)) 1
       refine rd1 19 (by kernel_rfl) rfl (fun K0 hK0=>?_)
       go_simp
       have hK8:Kept [b] w5 (w7.setCell ⟨b,1,none⟩ (.slice (some ⟨g7,0,none⟩) n7 c7)):=(HK7.out.mono (by simp)).setCell (by simp) _
       refine hK0.out _ _ ⟨hK8.cell b0 (by simp;omega),hK8.cell b1 (by simp;omega),hK8.cell b2 (by simp;omega),hK8.cell b3 (by simp;omega),hK8.cell b4 (by simp;omega),hK8.cell b5 (by simp;omega),hK8.cell b6 (by simp;omega),hK8.cell b7 (by simp;omega),hK8.cell b8 (by simp;omega),hK8.cell b9 (by simp;omega)⟩ (fun hHeld=>?_)
       refine wpAnyH_done (by kernel_rfl) ?_ _
       clear hK0 K0
       all_goals go_wp2_with fail
       all_goals go_ret
       all_goals exact done_end HD.out HE7.out HK5.out hK8 HB7.out
     ·go_simp
      refine hK0.out _ _ hHeld (fun hHeld=>?_)
      clear hK0 K0
      try simp only [sT,Act.put]
      refine tks [15] (by rfl) (by kernel_rfl) (fun _ _ _ _ _ h=>h) hHeld ?_
      iterate 1
       refine yk ?_ rfl (Or.inl ⟨by rfl,?_⟩) ?_
       rotate_left
       ·intro w9 hSw;(try dsimp only at hSw);go_simp;(try with_reducible rfl)
       try simp only [sT,Act.put]
      refine yk0 ?_
      simp only [setK,sT]
      refine rd1 4 (by kernel_rfl) rfl (fun K0 hK0=>?_)
      go_simp
      refine hK0.out _ _ hHeld (fun hHeld=>?_)
      clear hK0 K0
      try simp only [sT,Act.put]
      refine tks [6] (by rfl) (by kernel_rfl) (fun _ _ _ _ _ h=>h) hHeld ?_
      iterate 1
       refine yk ?_ rfl (Or.inl ⟨by rfl,?_⟩) ?_
       rotate_left
       ·intro w9 hSw;(try dsimp only at hSw);go_simp;(try with_reducible rfl)
       try simp only [sT,Act.put]
      refine yk0 ?_
      simp only [setK,sT]
      refine rd1 8 (by kernel_rfl) rfl (fun K0 hK0=>?_)
      go_simp
      refine (cB _ (Kept.refl [] _).drew).mono ?_
      rintro _ w6 ⟨v6,rfl,hR6,hK6⟩
      replace hR6:RowS w5.heap.size w6 v6 (X.take i++[(doneS seq d x,.slice a4 n4 c4)]):=hR6
      replace hK6:=(Kept.refl [] w5).drew.trans hK6 (by simp)
      obtain ⟨g6,n6,c6,rfl⟩:=row_form hR6 (by simp)
      have HR6:=hide hR6
      have HK6:=hide hK6
      have hT6:=HT5.out.kept hK6
      have t6:=hT6.cells.2
      clear hR6 hK6 hT6
      go_wp2_with fail
      refine hK0.out _ _ ⟨HK6.out.cell b0 (by simp),HK6.out.cell b1 (by simp),HK6.out.cell b2 (by simp),HK6.out.cell b3 (by simp),HK6.out.cell b4 (by simp),HK6.out.cell b5 (by simp),HK6.out.cell b6 (by simp),HK6.out.cell b7 (by simp),HK6.out.cell b8 (by simp),HK6.out.cell b9 (by simp)⟩ (fun hHeld=>?_)
      clear hK0 K0
      try simp only [sT,Act.put]
      refine rd1 16 (by kernel_rfl) rfl (fun K0 hK0=>?_)
      refine step_appS (by rfl) _ _ (by rfl) w5.heap.size _ (X.take i++[(doneS seq d x,.slice a4 n4 c4)]) (by simp [Act.eval]) HR6.out ⟨g,(i+1)*10,none⟩ (X.length - (i+1)) (vc - (i+1)) (X.drop (i+1)) (by simp [Act.eval]) (by simp) ((HR5.out.kept HK6.out).runs (i+1)) (fun y hy=>HH1.out y (List.mem_of_mem_drop hy)) (by omega) (by simp;omega) HK6.out.size ?_
      intro g7 n7 c7 w7 hR7 hg7 hat7
      have HK7:Hid (Kept [] w5 w7):=HK6.out.grown hg7 fun k hk=>.inr (World.ownsRow.lt HR6.out k hk).1
      have HE7:=hide (HE.out w7 _ HK7.out hR7.t)
      have HB7:Hid (w5.heap.size≤g7):=(World.ownsRow.lt hR7 g7 rfl).1
      have t7:=(HT5.out.kept HK7.out).cells.2
      refine hK0.out _ _ ⟨HK7.out.cell b0 (by simp),HK7.out.cell b1 (by simp),HK7.out.cell b2 (by simp),HK7.out.cell b3 (by simp),HK7.out.cell b4 (by simp),HK7.out.cell b5 (by simp),HK7.out.cell b6 (by simp),HK7.out.cell b7 (by simp),HK7.out.cell b8 (by simp),HK7.out.cell b9 (by simp)⟩ (fun hHeld=>?_)
      clear hK0 K0 hR7 hg7 hat7
      try simp only [sT,Act.put]
      refine tks [17,18] (by rfl) (by kernel_rfl) (fun _ _ _ _ _ h=>h) hHeld ?_
      iterate 2
       refine yk ?_ rfl (Or.inl ⟨by rfl,?_⟩) ?_
       rotate_left
       ·intro w9 hSw;(try dsimp only at hSw);go_simp;(try with_reducible rfl)
       try simp only [sT,Act.put]
      refine yk0 ?_
      simp only [setK,sT]
      have fz:=froz3 (HK7.out.at HT5.out.at_ (by simp)) 1
      refine rd1 19 (by kernel_rfl) rfl (fun K0 hK0=>?_)
      go_simp
      have hK8:Kept [b] w5 (w7.setCell ⟨b,1,none⟩ (.slice (some ⟨g7,0,none⟩) n7 c7)):=(HK7.out.mono (by simp)).setCell (by simp) _
      refine hK0.out _ _ ⟨hK8.cell b0 (by simp;omega),hK8.cell b1 (by simp;omega),hK8.cell b2 (by simp;omega),hK8.cell b3 (by simp;omega),hK8.cell b4 (by simp;omega),hK8.cell b5 (by simp;omega),hK8.cell b6 (by simp;omega),hK8.cell b7 (by simp;omega),hK8.cell b8 (by simp;omega),hK8.cell b9 (by simp;omega)⟩ (fun hHeld=>?_)
      refine wpAnyH_done (by kernel_rfl) ?_ _
      clear hK0 K0
      all_goals go_wp2_with fail
      all_goals go_ret
      all_goals exact done_end HD.out HE7.out HK5.out hK8 HB7.out
   ·have HD:Hid (doneI id seq L=none):=by show _=_;rw [HD0.out,if_neg hq]
    have HL:Hid (doneL id seq d L=L):=by show _=_;unfold doneL;rw [HD.out]
    have hq':seq≤x.q:=by omega
    go_enter Tryz.func125,Tryz.ntmps125
    go_wp2_with fail
    refine cI.mono ?_
    rintro _ w2 ⟨rfl,hK2⟩
    have HK2:=hide (HKz.out.trans hK2 (by simp))
    have hT2:=HT.out.kept HK2.out
    obtain ⟨c0,c1⟩:=hT2.cells
    have h1:=(HXc.out w2 HK2.out).c1
    clear hK2 cI hT2 hKz
    go_wp2_with fail
    go_ret
    exact ⟨by rw [HD.out];rfl,_,X,by rw [HL.out];exact HT.out.kept HK2.out,HK2.out.mono (by simp),fun k hk=>.inl hk⟩
end Go.Proofs.YtgpnlidnbldiiaaGreat
namespace Go.Proofs.YtgpnlidnbldiiaaGreat
open Go.RowKit
end Go.Proofs.YtgpnlidnbldiiaaGreat
