/-
  The document's own table: Ask, Done.
-/
import Derived.Test.YtgpnlidnbldiiaaGreatMtOpenr
import Derived.Test.YtgpnlidnbldiiaaGreatQ14r
namespace Go.Proofs.YtgpnlidnbldiiaaGreat
open Go.RowKit
variable {P : Nat → Prop}
theorem MtA.keepT {w w':World}{b sz:Nat}{v:Value}{X:List (Se × Value)}{L:List Se}(h:MtA P w b sz v X L) {S:List Nat}{Ts:List TypeId}(k:Kept S w w') (hT:Typed w S Ts) (h0:96 ∉ Ts) (h1:155 ∉ Ts) (h2:137 ∉ Ts) (h3:60 ∉ Ts):MtA P w' b sz v X L :=
 ⟨k.typed hT h.at_ h0,row_typed k hT h.row h1,fun x hx=>(h.own x hx).keep k hT h2 h3,h.ses⟩
theorem mask_end {w w4 w5:World}{b sz:Nat}{v v4:Value}{X4:List (Se × Value)}{L4:List Se}{vs:Array Value}(hT:MtA P w4 b sz v4 X4 L4) (hK:Kept (ownT b v) w w4) (hv:∀ k,v4.ownBlock=some k→v.ownBlock=some k∨w.heap.size≤k) (hKe:Kept [w.heap.size] w4 w5) (hZ:w4.heap[w.heap.size]?=some (.cells vs 39 (0,0))):MtP P w b sz v L4 w5 :=
 ⟨v4,X4,hT.keepT hKe (typed1 hZ) (by decide) (by decide) (by decide) (by decide),hK.trans hKe (fun k hk=>.inr (by simp at hk;omega)),hv⟩
def MaskP (P:Nat→Prop) (w:World) (b sz:Nat) (v:Value) (id seq:Int) (L:List Se) (e:Ending) (w':World):Prop :=
 ∃ u,e=.returned (.tuple #[vtV (askV id seq L).1 u,.bool (askV id seq L).2])∧KoO w.heap.size w' u (askV id seq L).1.k∧MtP P w b sz v (askL id L) w'
set_option maxHeartbeats 8000000 in
set_option maxRecDepth 100000 in
theorem mask_call {w:World}{b sz:Nat}{v:Value}{X:List (Se × Value)}{L:List Se}(h:MtA P w b sz v X L) (hl:L.length≤100000) (hok:∀ x∈L,okS x) (id seq:Int) :
 Calls Tryz.prog 89 #[.pointer (some ⟨b,0,none⟩),.int .i64 id,.int .i64 seq] w fun e w'=>MaskP P w b sz v id seq L e w':=by
 have hKz:Kept [] w (w.alloc (.cells #[.int .i64 0,.int .i64 0,.int .i64 0,.string ⟨#[]⟩,.int .u64 0,.slice none 0 0,.int .i64 0] 39)):=(Kept.refl [] w).alloc _
 have HKz:=hide hKz
 have HZ:=hide (heap_alloc_new w (.cells #[.int .i64 0,.int .i64 0,.int .i64 0,.string ⟨#[]⟩,.int .u64 0,.slice none 0 0,.int .i64 0] 39))
 have hT1:=h.kept hKz
 have cI:=mfind_call hT1 hl id
 have HT:=hide h
 have HLt:=hide h.lt
 obtain ⟨vao,vc,hve,hvc,hvm,_,hat⟩:=h.row.t.shape
 subst hve
 unfold maxLen at hvm
 have hXl:X.length≤100000:=by rw [h.len];exact hl
 cases hI:byI id L with
 | none =>
   have HV:Hid (askV id seq L=(vtC 6,true)):=by show _=_;unfold askV;rw [hI]
   have HLs:Hid (askL id L=L):=by show _=_;unfold askL;rw [hI]
   rw [hI] at cI
   simp only [plV] at cI
   clear hT1 h hat
   go_enter Tryz.func89,Tryz.ntmps89
   go_wp2_with fail
   refine cI.mono ?_
   rintro _ w2 ⟨rfl,hK2⟩
   obtain ⟨w4,hw4⟩:∃ w4,w4=w2:=⟨_,rfl⟩
   rw [← hw4] at hK2 ⊢
   have HZ4:=hide (hK2.at HZ.out (by simp))
   have HT4:=hide ((HT.out.kept HKz.out).kept hK2)
   have HK4:Hid (Kept (ownT b (.slice vao X.length vc)) w w4):=(HKz.out.trans hK2 (by simp)).mono (by simp)
   have HV4:Hid (∀ k,(Value.slice vao X.length vc).ownBlock=some k→(Value.slice vao X.length vc).ownBlock=some k∨w.heap.size≤k):=fun k hk=>.inl hk
   clear hK2 cI hw4 hKz
   have hZ4:=HZ4.out
   have r0:=cell_inC (k:=0) hZ4 rfl
   have r1:=cell_inC (k:=1) hZ4 rfl
   have r2:=cell_inC (k:=2) hZ4 rfl
   have r3:=cell_inC (k:=3) hZ4 rfl
   have r4:=cell_inC (k:=4) hZ4 rfl
   have r5:=cell_inC (k:=5) hZ4 rfl
   have r6:=cell_inC (k:=6) hZ4 rfl
   have fr0:=froz3 hZ4 0
   have fr1:=froz3 hZ4 1
   have fr2:=froz3 hZ4 2
   have fr3:=froz3 hZ4 3
   have fr4:=froz3 hZ4 4
   have fr5:=froz3 hZ4 5
   have fr6:=froz3 hZ4 6
   clear hZ4
   go_wp2_with fail
   have HKe:=hide (setA7_kept (Kept.refl [w.heap.size] w4) (b:=w.heap.size) (by simp) (.int .i64 6) (.int .i64 0) (.int .i64 0) (.string ⟨#[]⟩) (.int .u64 0) (.slice none 0 0) (.int .i64 0))
   refine bodyPost_ret (vt_res2 (by rfl) _ (by rfl) (setA7_at HZ4.out rfl _ _ _ _ _ _ _) rfl) rfl ?_
   exact ⟨.slice none 0 0,by rw [HV.out];rfl,by rw [HV.out];exact KoO.nil _ _,by rw [HLs.out];exact mask_end HT4.out HK4.out HV4.out HKe.out HZ4.out⟩
 | some i =>
   obtain ⟨hi,hid⟩:=byI_lt hI
   clear hid
   have hiX:i < X.length:=by rw [h.len];exact hi
   obtain ⟨g,he,hx⟩:=hat i hiX
   subst he
   have hCk:=fst_get h.ses hiX hi
   have hkoi:=h.own _ (List.getElem_mem hiX)
   obtain ⟨mo,mm,mc,hm2⟩:=hkoi.ko.one
   rw [hm2,hCk] at hkoi
   have hxc:∀ W,Kept [] w W→SeAt W g (i*10) (L[i],.slice mo mm mc):=fun W hk=>by
    have h1:=hx.kept hk (by simp)
    have e:X[i]=(L[i],.slice mo mm mc):=Prod.ext hCk hm2
    rw [e] at h1;exact h1
   have HXc:=hide hxc
   have HKoi:=hide hkoi
   have HLs:Hid (askL id L=useL L i):=by show _=_;unfold askL;rw [hI]
   have HV0:Hid (askV id seq L=tellV seq L[i]):=by show _=_;unfold askV;rw [hI];simp only [getD_get hi]
   have HOx:Hid (okS L[i]):=hok _ (List.getElem_mem hi)
   rw [hI] at cI
   simp only [plV] at cI
   have cU:=fun W (hk:Kept [] w W)=>mlast_call (h.kept hk) hl i hi
   generalize L[i]=x at *
   have hi0:¬ (i:Int) < 0:=by omega
   have hii:(i:Int) < X.length:=by omega
   have hic:i≤vc:=by omega
   clear hT1 h hx hCk hkoi hm2 hxc hat
   go_enter Tryz.func89,Tryz.ntmps89
   go_wp2_with fail
   refine cI.mono ?_
   rintro _ w2 ⟨rfl,hK2⟩
   have HK2:=hide (HKz.out.trans hK2 (by simp))
   have HZ2:=hide (hK2.at HZ.out (by simp))
   obtain ⟨h0,h1,h2,h3,h4,h5,h6,h7,h8,h9⟩:=HXc.out w2 HK2.out
   obtain ⟨c0,c1⟩:=(HT.out.kept HK2.out).cells
   obtain ⟨w3,hw3⟩:∃ w3,w3=w2.alloc (.cells #[.int .i64 x.i,.int .i64 x.q,.string (str x.n),.int .i64 x.v.c,.int .i64 x.v.s,.int .i64 x.v.r,.string (str x.v.p),.int .u64 x.v.d,.slice mo mm mc,.int .i64 x.v.m] 155):=⟨_,rfl⟩
   have hKa:Kept [] w2 w3:=by rw [hw3];exact (Kept.refl _ _).alloc _
   have HB3:Hid (w3.heap[w2.heap.size]?=some (.cells #[.int .i64 x.i,.int .i64 x.q,.string (str x.n),.int .i64 x.v.c,.int .i64 x.v.s,.int .i64 x.v.r,.string (str x.v.p),.int .u64 x.v.d,.slice mo mm mc,.int .i64 x.v.m] 155 (0,0))):=by show _=_;rw [hw3];exact heap_alloc_new w2 _
   have HZ3:=hide (hKa.at HZ2.out (by simp))
   have HK3:=hide (HK2.out.trans hKa (by simp))
   have HO3:=hide (HKoi.out.kept HK3.out)
   have hs2:w.heap.size < w2.heap.size:=lt_of_at HZ2.out
   clear hK2 cI hKa hKz
   go_upto_region 5 with fail
   rw [← hw3]
   clear hw3 h0 h1 h2 h3 h4 h5 h6 h7 h8 h9 c0 c1
   go_wp2_with fail
   refine (cU _ HK3.out).mono ?_
   rintro _ w4 ⟨rfl,v4,X4,hT4,hK4,hv4⟩
   have hoff:∀ k,w.heap.size≤k→k ∉ ownT b (.slice (some ⟨g,0,none⟩) X.length vc):=fun k hk hm=>by have:=HLt.out k hm;omega
   have HT4:=hide hT4
   have HK4:Hid (Kept (ownT b (.slice (some ⟨g,0,none⟩) X.length vc)) w w4):=(HK3.out.mono (by simp)).trans hK4 (fun k hk=>.inl hk)
   have HV4:Hid (∀ k,v4.ownBlock=some k→(Value.slice (some ⟨g,0,none⟩) X.length vc).ownBlock=some k∨w.heap.size≤k):=fun k hk=>(hv4 k hk).imp (fun e=>e) (fun e=>Nat.le_trans HK3.out.size e)
   have HZ4:=hide (hK4.at HZ3.out (hoff _ (Nat.le_refl _)))
   have HB4:=hide (hK4.at HB3.out (hoff _ (by omega)))
   have hTy:Typed w3 (ownT b (.slice (some ⟨g,0,none⟩) X.length vc)) [96,155]:=(HT.out.kept HK3.out).typed
   have HO4:=hide (HO3.out.keep hK4 hTy (by decide) (by decide))
   clear hT4 hK4 hv4 cU hoff hTy
   by_cases h1:seq < 1
   ·have HV:Hid (askV id seq L=(vtC 5,true)):=by show _=_;rw [HV0.out];unfold tellV;rw [if_pos h1]
    have hZ4:=HZ4.out
    have r0:=cell_inC (k:=0) hZ4 rfl
    have r1:=cell_inC (k:=1) hZ4 rfl
    have r2:=cell_inC (k:=2) hZ4 rfl
    have r3:=cell_inC (k:=3) hZ4 rfl
    have r4:=cell_inC (k:=4) hZ4 rfl
    have r5:=cell_inC (k:=5) hZ4 rfl
    have r6:=cell_inC (k:=6) hZ4 rfl
    have fr0:=froz3 hZ4 0
    have fr1:=froz3 hZ4 1
    have fr2:=froz3 hZ4 2
    have fr3:=froz3 hZ4 3
    have fr4:=froz3 hZ4 4
    have fr5:=froz3 hZ4 5
    have fr6:=froz3 hZ4 6
    clear hZ4
    go_wp2_with fail
    have HKe:=hide (setA7_kept (Kept.refl [w.heap.size] w4) (b:=w.heap.size) (by simp) (.int .i64 5) (.int .i64 0) (.int .i64 0) (.string ⟨#[]⟩) (.int .u64 0) (.slice none 0 0) (.int .i64 0))
    refine bodyPost_ret (vt_res2 (by rfl) _ (by rfl) (setA7_at HZ4.out rfl _ _ _ _ _ _ _) rfl) rfl ?_
    exact ⟨.slice none 0 0,by rw [HV.out];rfl,by rw [HV.out];exact KoO.nil _ _,by rw [HLs.out];exact mask_end HT4.out HK4.out HV4.out HKe.out HZ4.out⟩
   ·have q1:=cell_inC (k:=1) HB4.out rfl
    by_cases h2:seq < x.q
    ·have HV:Hid (askV id seq L=(vtC 7,true)):=by show _=_;rw [HV0.out];unfold tellV;rw [if_neg h1,if_pos h2]
     have hZ4:=HZ4.out
     have r0:=cell_inC (k:=0) hZ4 rfl
     have r1:=cell_inC (k:=1) hZ4 rfl
     have r2:=cell_inC (k:=2) hZ4 rfl
     have r3:=cell_inC (k:=3) hZ4 rfl
     have r4:=cell_inC (k:=4) hZ4 rfl
     have r5:=cell_inC (k:=5) hZ4 rfl
     have r6:=cell_inC (k:=6) hZ4 rfl
     have fr0:=froz3 hZ4 0
     have fr1:=froz3 hZ4 1
     have fr2:=froz3 hZ4 2
     have fr3:=froz3 hZ4 3
     have fr4:=froz3 hZ4 4
     have fr5:=froz3 hZ4 5
     have fr6:=froz3 hZ4 6
     clear hZ4
     go_wp2_with fail
     have HKe:=hide (setA7_kept (Kept.refl [w.heap.size] w4) (b:=w.heap.size) (by simp) (.int .i64 7) (.int .i64 0) (.int .i64 0) (.string ⟨#[]⟩) (.int .u64 0) (.slice none 0 0) (.int .i64 0))
     refine bodyPost_ret (vt_res2 (by rfl) _ (by rfl) (setA7_at HZ4.out rfl _ _ _ _ _ _ _) rfl) rfl ?_
     exact ⟨.slice none 0 0,by rw [HV.out];rfl,by rw [HV.out];exact KoO.nil _ _,by rw [HLs.out];exact mask_end HT4.out HK4.out HV4.out HKe.out HZ4.out⟩
    ·by_cases h3:seq=x.q
     ·have HV:Hid (askV id seq L=(x.v,true)):=by show _=_;rw [HV0.out];unfold tellV;rw [if_neg h1,if_neg h2,if_pos h3]
      have q3:=cell_inC (k:=3) HB4.out rfl
      have q4:=cell_inC (k:=4) HB4.out rfl
      have q5:=cell_inC (k:=5) HB4.out rfl
      have q6:=cell_inC (k:=6) HB4.out rfl
      have q7:=cell_inC (k:=7) HB4.out rfl
      have q8:=cell_inC (k:=8) HB4.out rfl
      have q9:=cell_inC (k:=9) HB4.out rfl
      have cV:=rcopyV_call w4 x.v _ HO4.out.ko HOx.out.2
      unfold vtV at cV
      have hsw:w.heap.size≤w4.heap.size:=HK4.out.size
      go_wp2_with fail
      refine cV.mono ?_
      rintro _ w5 ⟨u5,rfl,hO5,hK5⟩
      obtain ⟨a5,n5,c5,rfl⟩:=hO5.ko.one
      have HZ5:=hide (hK5.at HZ4.out (by simp))
      have HT5:=hide (HT4.out.kept hK5)
      have HK5:=hide (HK4.out.trans hK5 (by simp))
      have HO5:=hide (hO5.mono hsw)
      clear hO5 hK5 cV q1 q3 q4 q5 q6 q7 q8 q9
      have hZ5:=HZ5.out
      have r0:=cell_inC (k:=0) hZ5 rfl
      have r1:=cell_inC (k:=1) hZ5 rfl
      have r2:=cell_inC (k:=2) hZ5 rfl
      have r3:=cell_inC (k:=3) hZ5 rfl
      have r4:=cell_inC (k:=4) hZ5 rfl
      have r5:=cell_inC (k:=5) hZ5 rfl
      have r6:=cell_inC (k:=6) hZ5 rfl
      have fr0:=froz3 hZ5 0
      have fr1:=froz3 hZ5 1
      have fr2:=froz3 hZ5 2
      have fr3:=froz3 hZ5 3
      have fr4:=froz3 hZ5 4
      have fr5:=froz3 hZ5 5
      have fr6:=froz3 hZ5 6
      clear hZ5
      go_wp2_with fail
      have HKe:=hide (setA7_kept (Kept.refl [w.heap.size] w5) (b:=w.heap.size) (by simp) (.int .i64 x.v.c) (.int .i64 x.v.s) (.int .i64 x.v.r) (.string (str x.v.p)) (.int .u64 x.v.d) (.slice a5 n5 c5) (.int .i64 x.v.m))
      refine bodyPost_ret (vt_res2 (by rfl) _ (by rfl) (setA7_at HZ5.out rfl _ _ _ _ _ _ _) rfl) rfl ?_
      exact ⟨_,by rw [HV.out];rfl,by rw [HV.out];exact HO5.out.keep HKe.out (typed1 HZ5.out) (by decide) (by decide),by rw [HLs.out];exact mask_end HT5.out HK5.out HV4.out HKe.out HZ5.out⟩
     ·have HV:Hid (askV id seq L=(vtC 0,false)):=by show _=_;rw [HV0.out];unfold tellV;rw [if_neg h1,if_neg h2,if_neg h3]
      have hZ4:=HZ4.out
      have r0:=cell_inC (k:=0) hZ4 rfl
      have r1:=cell_inC (k:=1) hZ4 rfl
      have r2:=cell_inC (k:=2) hZ4 rfl
      have r3:=cell_inC (k:=3) hZ4 rfl
      have r4:=cell_inC (k:=4) hZ4 rfl
      have r5:=cell_inC (k:=5) hZ4 rfl
      have r6:=cell_inC (k:=6) hZ4 rfl
      have fr0:=froz3 hZ4 0
      have fr1:=froz3 hZ4 1
      have fr2:=froz3 hZ4 2
      have fr3:=froz3 hZ4 3
      have fr4:=froz3 hZ4 4
      have fr5:=froz3 hZ4 5
      have fr6:=froz3 hZ4 6
      clear hZ4
      go_wp2_with fail
      have HKe:=hide (setA7_kept (Kept.refl [w.heap.size] w4) (b:=w.heap.size) (by simp) (.int .i64 0) (.int .i64 0) (.int .i64 0) (.string ⟨#[]⟩) (.int .u64 0) (.slice none 0 0) (.int .i64 0))
      refine bodyPost_ret (vt_res2 (by rfl) _ (by rfl) (setA7_at HZ4.out rfl _ _ _ _ _ _ _) rfl) rfl ?_
      exact ⟨.slice none 0 0,by rw [HV.out];rfl,by rw [HV.out];exact KoO.nil _ _,by rw [HLs.out];exact mask_end HT4.out HK4.out HV4.out HKe.out HZ4.out⟩
theorem seC_set (X:List (Se × Value)) (i:Nat) (h:i < X.length) (y:Se × Value) (j:Nat) (hj:j < 10) (u:Value) (hy:seC y=(seC X[i]).set j u):(X.set i y).flatMap seC=(X.flatMap seC).set (i*10+j) u:=by
 induction X generalizing i with
 | nil=>simp at h
 | cons x X ih =>
   cases i with
   | zero =>
     simp only [List.set_cons_zero,List.flatMap_cons,Nat.zero_mul,Nat.zero_add]
     rw [List.set_append,if_pos (by simp [seC];omega)]
     simp only [List.getElem_cons_zero] at hy
     rw [hy]
   | succ i =>
     simp only [List.set_cons_succ,List.flatMap_cons]
     rw [ih i (by simpa using h) (by simpa using hy),List.set_append,if_neg (by simp [seC];omega)]
     congr 2
     simp [seC];omega
theorem RowS.setk {B:Nat}{w:World}{g n cap:Nat}{X:List (Se × Value)}(h:RowS B w (.slice (some ⟨g,0,none⟩) n cap) X) {i:Nat}(hi:i < X.length) (y:Se × Value) (j:Nat) (hj:j < 10) (u:Value) (hy:seC y=(seC X[i]).set j u) :
 RowS B (w.setCell ⟨g,i*10+j,none⟩ u) (.slice (some ⟨g,0,none⟩) n cap) (X.set i y):=by
 obtain ⟨h1,h2⟩:=h
 rcases h2 with ⟨h2,_⟩ | ⟨g',cap',cur,hv,hg,hh,h3,h4,h5,h6⟩
 ·cases h2
 ·obtain ⟨rfl,rfl,rfl⟩:g=g'∧n=X.length∧cap=cap':=by simpa using hv
  refine ⟨by rw [seC_set X i hi y j hj u hy,List.length_set,List.length_set];exact h1,.inr ⟨g,cap,cur.setIfInBounds (i*10+j) u,by simp,hg,heap_setCell_same w g (i*10+j) cur _ u hh,by simpa using h3,h4,by simpa using h5,?_⟩⟩
  rw [seC_set X i hi y j hj u hy,List.length_set,Array.toList_setIfInBounds,← h6]
  rw [List.take_set]
end Go.Proofs.YtgpnlidnbldiiaaGreat
