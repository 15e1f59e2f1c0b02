/-
  epoch.Load.
-/
import Derived.Test.YtddhmfildfdbdaaGreatQ2r
import Derived.Test.YtddhmfildfdbdaaGreatQ15r
import Derived.Test.YtddhmfildfdbdaaGreatQ17r
namespace Go.Proofs.YtddhmfildfdbdaaGreat
open Go.RowKit
def PreL (L:List Ep) (z:Int):Prop:=RiseL L∧(∀ x∈L,May x.m∧0≤x.f∧x.f≤1099511627776∧x.f < z)∧0≤z∧z≤1099511627777∧(z=0∨∃ x∈L,x.f=z - 1)
theorem preL_nil:PreL [] 0:=⟨List.Pairwise.nil,(fun _ h=>by cases h),by omega,by omega,Or.inl rfl⟩
theorem preL_snoc {L:List Ep}{z:Int}{x:Ep}(h:PreL L z) (h1:May x.m) (h2:¬ x.f < z) (h3:x.f≤1099511627776):PreL (L++[x]) (x.f+1):=by
 obtain ⟨a,b,c,d,e⟩:=h
 refine ⟨?_,?_,by omega,by omega,.inr ⟨x,by simp,by omega⟩⟩
 ·unfold RiseL
  rw [List.pairwise_append]
  exact ⟨a,List.pairwise_singleton _ _,fun y hy z hz=>by simp at hz;subst hz;have:=(b y hy).2.2.2;omega⟩
 ·intro y hy
  rcases List.mem_append.1 hy with hy | hy
  ·have:=b y hy;exact ⟨this.1,this.2.1,this.2.2.1,by omega⟩
  ·simp at hy;subst hy;exact ⟨h1,by omega,h3,by omega⟩
theorem preL_ok {L:List Ep}{z:Int}(h:PreL L z) (hn:L≠[]):OkL L:=⟨hn,h.1,fun x hx=>⟨(h.2.1 x hx).1,(h.2.1 x hx).2.1,(h.2.1 x hx).2.2.1⟩⟩
theorem preL_low {L R:List Ep}{z:Int}{x:Ep}(h:PreL L z) (h1:x.f < z):¬ OkL (L++x :: R):=fun ho=>by
 rcases h.2.2.2.2 with e | ⟨y,hy,e⟩
 ·have:=(ho.2.2 x (by simp)).2.1;omega
 ·have h2:=ho.2.1
  unfold RiseL at h2
  rw [List.pairwise_append] at h2
  have:=h2.2.2 y hy x (by simp)
  omega
def LdP (al:Int) (L:List Ep) (w:World) (e:Ending) (w':World):Prop :=
 ((1≤al∧al≤8)∧OkL L∧∃ p:Nat,e=.returned (.tuple #[.pointer (some ⟨p,0,none⟩),.int .i64 0])∧EpA w.heap.size w' p al L∧Kept [] w w') ∨
 (¬ (1≤al∧al≤8)∧e=.returned (.tuple #[.pointer none,.int .i64 1])∧Kept [] w w') ∨
 ((1≤al∧al≤8)∧¬ OkL L∧e=.returned (.tuple #[.pointer none,.int .i64 4])∧Kept [] w w')
def LdIe (w:World) (p:Nat) (al:Int) (L:List Ep) (n:Nat) (iv lv:Value) (wr:World):Prop:=∃ (j:Nat) (z:Int),iv=.int .i64 (j:Int)∧lv=.int .i64 z∧j≤n∧Hid (EpA w.heap.size wr p al (L.take j))∧Hid (PreL (L.take j) z)∧Hid (Kept [] w wr)
theorem takeE_cons {L:List Ep}{j:Nat}(h:j < L.length):L=L.take j++L[j] :: L.drop (j+1):=by
 rw [← List.drop_eq_getElem_cons h,List.take_append_drop]
set_option linter.unusedSimpArgs false in
set_option maxHeartbeats 16000000 in
set_option maxRecDepth 100000 in
theorem loadE_call (w:World) (al:Int) (ao:Option Addr) (n c:Nat) (X:List (Ep × Value)) (L:List Ep) (hS:SlE w ao n c X) (hX:X.map Prod.fst=L) (hn:n≤1000) :
 Calls Tryz.prog 58 #[.int .i64 al,.slice ao n c] w fun e w'=>LdP al L w e w':=by
 have cA:=isAlpha_call w al
 have hmx:=hS.2.2.1
 unfold maxLen at hmx
 have HS:=hide hS
 have HXl:=hide hS.1
 have HX:=hide hX
 have HL:Hid (L.length=n):=by show _=_;rw [← hX,List.length_map];exact hS.1
 clear hS hX
 by_cases ha:1≤al∧al≤8
 ·rw [show decide (1≤al∧al≤8)=true by simpa using ha] at cA
  have HAl:=hide ha
  clear ha
  by_cases h0:n=0
  ·have HE:Hid (¬ OkL L):=fun h=>by have:=List.length_pos_iff.2 h.1;have:=HL.out;omega
   have h0':((n:Int)==0)=true:=by simp;omega
   go_enter Tryz.func58,Tryz.ntmps58
   go_wp2_with (go_at_call 47;refine cA.mono ?_;clear cA;rintro _ _ ⟨rfl,rfl⟩)
   go_ret2
   exact .inr (.inr ⟨HAl.out,HE.out,rfl,Kept.refl _ _⟩)
  ·have h0':((n:Int)==0)=false:=by simp;omega
   have HNe:Hid (L≠[]):=fun e=>by have:=HL.out;rw [e] at this;simp at this;omega
   go_enter Tryz.func58,Tryz.ntmps58
   go_wp2_with (go_at_call 47;refine cA.mono ?_;clear cA;rintro _ _ ⟨rfl,rfl⟩)
   obtain ⟨w1,hw1⟩:∃ w1,w1=w.alloc (.cells #[.int .i64 al,.slice none 0 0] 102):=⟨_,rfl⟩
   have HE1:Hid (EpA w.heap.size w1 w.heap.size al []):=by show EpA _ _ _ _ _;rw [hw1];exact ⟨_,Nat.le_refl _,heap_alloc_new w _,World.ownsRow_nil _ _ _ _⟩
   have HK1:Hid (Kept [] w w1):=by show Kept _ _ _;rw [hw1];exact (Kept.refl [] w).alloc _
   rw [← hw1]
   clear hw1
   obtain ⟨p,hp⟩:∃ p,p=w.heap.size:=⟨_,rfl⟩
   rw [← hp]
   have HE1p:Hid (EpA w.heap.size w1 p al []):=by rw [hp];exact HE1
   clear HE1 hp
   go_loopw [23,7] (fun iv lv wr=>LdIe w p al L n iv lv wr) (fun iv _ _=>n - (intOf iv).toNat)
   case atStart=>exact ⟨0,0,rfl,rfl,Nat.zero_le _,by simpa [Hid] using HE1p.out,by simpa [Hid] using preL_nil,HK1⟩
   case round =>
    obtain ⟨j,z,rfl,rfl,hj,HEj,HP,HK⟩:=hrel
    by_cases hlt:j < n
    ·have hlt':(j:Int) < n:=by omega
     have hjX:j < X.length:=by rw [HXl.out];exact hlt
     have hjL:j < L.length:=by rw [HL.out];exact hlt
     have hSr:=HS.out.kept HK.out
     obtain ⟨ga,oa,hae,y0,y1⟩:=hSr.2.2.2.1 j hjX
     subst hae
     obtain ⟨so,sc,hv,hsl⟩:=hSr.2.2.2.2 _ (List.getElem_mem hjX)
     have hXj:X[j].1=L[j]:=by have:=HX.out;simp [← this]
     have HT:Hid (L.take (j+1)=L.take j++[X[j].1]):=by show _=_;rw [hXj];exact List.take_succ_eq_append_getElem hjL
     have HCo:Hid (L=L.take j++X[j].1 :: L.drop (j+1)):=by show _=_;rw [hXj];exact takeE_cons hjL
     rw [hv] at y1
     generalize X[j]=x at *
     obtain ⟨sn,hsn⟩:∃ sn,sn=x.1.m.length:=⟨_,rfl⟩
     rw [← hsn] at y1 hsl
     have hzb:0≤z∧z≤1099511627777:=⟨HP.out.2.2.1,HP.out.2.2.2.1⟩
     obtain ⟨w2,hw2⟩:∃ w2,w2=wr.alloc (.cells #[.int .i64 x.1.f,.slice so sn sc] 62):=⟨_,rfl⟩
     have HK2:Hid (Kept [] wr w2):=by show Kept _ _ _;rw [hw2];exact (Kept.refl [] wr).alloc _
     have HBx2:Hid (w2.heap[wr.heap.size]?=some (.cells #[.int .i64 x.1.f,.slice so sn sc] 62 (0,0))):=by show _=_;rw [hw2];exact heap_alloc_new wr _
     have cS:=setOf_call w2 so sn sc x.1.m (hsl.kept HK2.out)
     clear hSr hv hsl hsn hXj hjX hjL
     go_upto_region 10 with fail
     rw [← hw2]
     clear hw2 y0 y1
     have q1:=cell_inC (k:=1) HBx2.out rfl
     go_upto_region 11 with (first | ((with_reducible refine wl_store_set T ?_ ?_ HX6 ?_);rfl;rfl;intro w7 HS7 HK7a) | (go_at_call 46;refine cS.mono ?_;clear cS;rintro _ w6 ⟨T,rfl,hT6,hK6⟩;have HX6:SetAt (w6.alloc (.cells #[.bool false,.bool false,.bool false,.bool false,.bool false,.bool false,.bool false,.bool false,.bool false,.bool false,.bool false,.bool false,.bool false,.bool false,.bool false] 94)) w6.heap.size (fun _=>false):=heap_alloc_new w6 _))
     have HKr7:Hid (Kept [] wr w7):=(HK2.out.trans (hK6.alloc _) (by simp)).trans HK7a.out (fun i hi=>.inr (by simp at hi;subst hi;exact Nat.le_trans HK2.out.size hK6.size))
     have HK7:Hid (Kept [] w w7):=HK.out.trans HKr7.out (by simp)
     have HBx:Hid (w7.heap[wr.heap.size]?=some (.cells #[.int .i64 x.1.f,.slice so sn sc] 62 (0,0))):=HK7a.out.at ((hK6.alloc _).at HBx2.out (by simp)) (by have:=lt_of_at HBx2.out;have:=hK6.size;simp;omega)
     have d0:=cell_inC (k:=0) HBx.out rfl
     have h67:wr.heap.size < w6.heap.size:=Nat.lt_of_lt_of_le (lt_of_at HBx2.out) hK6.size
     have HTm:=hide hT6
     clear hT6 hK6 HK7a HX6 q1 HBx2
     obtain ⟨bx,hbx⟩:∃ bx,bx=wr.heap.size:=⟨_,rfl⟩
     obtain ⟨b10,hb10⟩:∃ b,b=w6.heap.size:=⟨_,rfl⟩
     rw [← hb10] at HS7 ⊢
     rw [← hbx] at HBx d0 ⊢
     by_cases hm:May x.1.m
     ·rw [show decide (May x.1.m)=true by simpa using hm]
      by_cases hz:x.1.f < z
      ·have HE:Hid (¬ OkL L):=by have h1:=preL_low (R:=L.drop (j+1)) HP.out hz;show ¬ _;rw [HCo.out];exact h1
       clear hbx hb10 h67
       go_wp2_with fail
       go_ret2
       exact .inr (.inr ⟨HAl.out,HE.out,rfl,HK7.out⟩)
      ·by_cases hz2:1099511627776 < x.1.f
       ·have HE:Hid (¬ OkL L):=fun ho=>by
         have h1:=(ho.2.2 x.1 (by rw [HCo.out];simp)).2.2
         omega
        clear hbx hb10 h67
        go_wp2_with fail
        go_ret2
        exact .inr (.inr ⟨HAl.out,HE.out,rfl,HK7.out⟩)
       ·have HOx:=hide (show May x.1.m∧¬ x.1.f < z∧x.1.f≤1099511627776 from ⟨hm,hz,by omega⟩)
        have HTc:Hid (setB x.1.m=T):=(HTm.out hm).symm
        have HA7:Hid (EpA w.heap.size w7 p al (L.take j)):=HEj.out.kept HKr7.out
        obtain ⟨ev,hpb,hc7,hr7⟩:=id HA7.out
        have HC7:=hide hc7
        have HR7:=hide hr7
        have d1:w7.cell? ⟨p,1,none⟩=some ev:=cell_inC (k:=1) hc7 rfl
        have dr:=HS7.out.range
        have HBp:Hid (bx≠p):=fun e=>by have h1:=HBx.out;rw [e,hc7] at h1;cases h1
        have HSp:Hid (b10≠p):=fun e=>by have h1:w7.heap[b10]?=_:=HS7.out;rw [e,hc7] at h1;cases h1
        have hfw:IntKind.i64.wrap (x.1.f+1)=x.1.f+1:=IntWalk.i64_in _ (by omega)
        clear hbx hb10 h67 hpb hc7 hr7 HTm hm
        go_upto_region 13 with fail
        refine wp_region_held_drew (S:=fun w'=>w'.cell? ⟨bx,0,none⟩=some (.int .i64 x.1.f)∧w'.rangeAt b10 0 (setC T)) (by kernel_rfl) ⟨d0,dr⟩ (fun hHeld=>?_)
        refine tks [0,1,2,3,5,6] (by rfl) (by kernel_rfl) (fun _ _ _ _ _ h=>h) hHeld ?_
        iterate 6
         refine yk ?_ rfl (Or.inl ⟨by rfl,?_⟩) ?_
         rotate_left
         ·intro w9 hSw;(try dsimp only at hSw);go_simp;(try with_reducible rfl)
         try simp only [sT,Act.put]
        refine yk0 ?_
        simp only [setK,sT]
        refine wpAnyH_take (i:=7) (v:=.agg (setC T).toArray) rfl (by kernel_rfl) (by kernel_rfl) (by kernel_rfl) (fun _ _ _ h=>h) (yieldsIf_load_mid (by rfl) _ _ rfl b10 (0) rfl (setC T) _ (fun w9 hSw=>hSw.2) Tryz.underlying94 rfl size_set) hHeld ?_
        try simp only [sT,Act.put]
        refine wpAnyH_take (i:=8) (v:=.agg (spC x.1.f T).toArray) rfl (by kernel_rfl) (by kernel_rfl) (by kernel_rfl) (fun _ _ _ h=>h) (Or.inl ⟨by rfl,fun w9 _=>ex_build rfl rfl⟩) hHeld ?_
        try simp only [sT,Act.put]
        refine wpAnyH_ready (rs:=[4,9]) (by kernel_rfl) (by simp) (AllReadyH.cons rfl (fun K0 hK0=>?_) (AllReadyH.cons rfl (fun K0 hK0=>?_) AllReadyH.nil))
        ·go_simp
         go_wp2_with fail
         refine hK0.out _ _ ⟨d0,dr⟩ (fun hHeld=>?_)
         clear hK0 K0
         try simp only [sT,Act.put]
         refine rd1 9 (by kernel_rfl) rfl (fun K0 hK0=>?_)
         obtain ⟨w8,hw8⟩:∃ w8,w8=w7.drew.alloc (.cells (spC x.1.f T).toArray 99):=⟨_,rfl⟩
         have HKa:Hid (Kept [] w7 w8):=by show Kept _ _ _;rw [hw8];exact (Kept.refl [] w7).drew.alloc _
         have HSa:Hid (SpAt w8 w7.heap.size x.1.f (setB x.1.m)):=by show SpAt _ _ _ _;rw [HTc.out,hw8];exact heap_alloc_new w7.drew _
         refine step_slice x.1.f T rfl ?_
         rw [← hw8]
         clear hw8
         refine hK0.out _ _ ⟨HKa.out.cell d0 (by simp),fun j v hv=>HKa.out.cell (dr j v hv) (by simp)⟩ (fun hHeld=>?_)
         clear hK0 K0
         try simp only [sT,Act.put]
         refine rd1 10 (by kernel_rfl) rfl (fun K0 hK0=>?_)
         refine step_app w.heap.size ev (L.take j) x.1 w7.heap.size rfl (HKa.out.ownsRow HR7.out (by simp)) rfl HSa.out (by simp;omega) (Nat.le_trans HK7.out.size HKa.out.size) ?_
         intro g' n' cap' w9 HR9 HG9
         have hA:=HA7.out.grown HC7.out HKa.out HR9.out HG9.out HR7.out
         have HA9:=hide hA.1
         have HT9:=hide hA.2
         clear hA
         have hk9:Kept ev.ownBlock.toList w7 w9:=((HKa.out.mono (T:=ev.ownBlock.toList) (by simp)).grown HG9.out (fun k hk=>.inl (by simp [hk])))
         have hnp:∀ k,k∈ev.ownBlock.toList→∃ cur,w7.heap[k]?=some (.cells cur 99 (0,0)):=fun k hk=>row_block HR7.out (mem_own.1 hk)
         have e0:=hk9.cell d0 (fun hm=>by obtain ⟨cur,hh⟩:=hnp _ hm;rw [show w7.heap[bx]?=_ from HBx.out] at hh;cases hh)
         have er:w9.rangeAt b10 0 (setC T):=fun j v hv=>hk9.cell (dr j v hv) (fun hm=>by obtain ⟨cur,hh⟩:=hnp _ hm;rw [show w7.heap[b10]?=_ from HS7.out] at hh;cases hh)
         have hpn:p ∉ ev.ownBlock.toList:=fun hm=>by obtain ⟨cur,hh⟩:=hnp _ hm;rw [HC7.out] at hh;cases hh
         have e1:=hk9.cell d1 hpn
         have ef:w9.frozen? ⟨p,1,none⟩=false:=froz3 (hk9.at HC7.out hpn) 1
         clear hk9 hnp hpn
         refine hK0.out _ _ ⟨e0,er⟩ (fun hHeld=>?_)
         clear hK0 K0
         try simp only [sT,Act.put]
         refine tks [11,12] (by rfl) (by kernel_rfl) (fun _ _ _ _ _ h=>h) hHeld ?_
         iterate 2
          refine yk ?_ rfl (Or.inl ⟨by rfl,?_⟩) ?_
          rotate_left
          ·intro w9 hSw;(try dsimp only at hSw);go_simp;(try with_reducible rfl)
          try simp only [sT,Act.put]
         refine yk0 ?_
         simp only [setK,sT]
         refine rd1 13 (by kernel_rfl) rfl (fun K0 hK0=>?_)
         go_simp
         go_wp2_with fail
         have hset:Kept [p] w9 (w9.setCell ⟨p,1,none⟩ (.slice (some ⟨g',0,none⟩) n' cap')):=(Kept.refl [p] w9).setCell (by simp) _
         have i0:=hset.cell e0 (by simpa using HBp.out)
         refine hK0.out _ _ ⟨i0,fun j v hv=>hset.cell (er j v hv) (by simpa using HSp.out)⟩ (fun hHeld=>?_)
         clear hK0 K0 hset
         try simp only [sT,Act.put]
         refine wpAnyH_done (by kernel_rfl) ?_ _
         clear hHeld
         go_wp2_with fail
         go_roundw
         case rel=>exact ⟨j+1,x.1.f+1,by go_num,by go_num,by omega,by show EpA _ _ _ _ _;rw [HT.out];exact HA9.out,by show PreL _ _;rw [HT.out];exact preL_snoc HP.out HOx.out.1 (by have:=HOx.out.2.1;omega) HOx.out.2.2,(Tn.low HK7.out HT9.out (Nat.le_refl _))⟩
         case measure=>simp [intOf];omega
        ·obtain ⟨w8,hw8⟩:∃ w8,w8=w7.drew.alloc (.cells (spC x.1.f T).toArray 99):=⟨_,rfl⟩
         have HKa:Hid (Kept [] w7 w8):=by show Kept _ _ _;rw [hw8];exact (Kept.refl [] w7).drew.alloc _
         have HSa:Hid (SpAt w8 w7.heap.size x.1.f (setB x.1.m)):=by show SpAt _ _ _ _;rw [HTc.out,hw8];exact heap_alloc_new w7.drew _
         refine step_slice x.1.f T rfl ?_
         rw [← hw8]
         clear hw8
         refine hK0.out _ _ ⟨HKa.out.cell d0 (by simp),fun j v hv=>HKa.out.cell (dr j v hv) (by simp)⟩ (fun hHeld=>?_)
         clear hK0 K0
         try simp only [sT,Act.put]
         have d1a:=HKa.out.cell d1 (by simp)
         refine rd1 4 (by kernel_rfl) rfl (fun K0 hK0=>?_)
         go_simp
         go_wp2_with fail
         refine hK0.out _ _ ⟨HKa.out.cell d0 (by simp),fun j v hv=>HKa.out.cell (dr j v hv) (by simp)⟩ (fun hHeld=>?_)
         clear hK0 K0
         try simp only [sT,Act.put]
         refine rd1 10 (by kernel_rfl) rfl (fun K0 hK0=>?_)
         refine step_app w.heap.size ev (L.take j) x.1 w7.heap.size rfl (HKa.out.ownsRow HR7.out (by simp)) rfl HSa.out (by simp;omega) (Nat.le_trans HK7.out.size HKa.out.size) ?_
         intro g' n' cap' w9 HR9 HG9
         have hA:=HA7.out.grown HC7.out HKa.out HR9.out HG9.out HR7.out
         have HA9:=hide hA.1
         have HT9:=hide hA.2
         clear hA
         have hk9:Kept ev.ownBlock.toList w7 w9:=((HKa.out.mono (T:=ev.ownBlock.toList) (by simp)).grown HG9.out (fun k hk=>.inl (by simp [hk])))
         have hnp:∀ k,k∈ev.ownBlock.toList→∃ cur,w7.heap[k]?=some (.cells cur 99 (0,0)):=fun k hk=>row_block HR7.out (mem_own.1 hk)
         have e0:=hk9.cell d0 (fun hm=>by obtain ⟨cur,hh⟩:=hnp _ hm;rw [show w7.heap[bx]?=_ from HBx.out] at hh;cases hh)
         have er:w9.rangeAt b10 0 (setC T):=fun j v hv=>hk9.cell (dr j v hv) (fun hm=>by obtain ⟨cur,hh⟩:=hnp _ hm;rw [show w7.heap[b10]?=_ from HS7.out] at hh;cases hh)
         have hpn:p ∉ ev.ownBlock.toList:=fun hm=>by obtain ⟨cur,hh⟩:=hnp _ hm;rw [HC7.out] at hh;cases hh
         have e1:=hk9.cell d1 hpn
         have ef:w9.frozen? ⟨p,1,none⟩=false:=froz3 (hk9.at HC7.out hpn) 1
         clear hk9 hnp hpn
         refine hK0.out _ _ ⟨e0,er⟩ (fun hHeld=>?_)
         clear hK0 K0
         try simp only [sT,Act.put]
         refine tks [11,12] (by rfl) (by kernel_rfl) (fun _ _ _ _ _ h=>h) hHeld ?_
         iterate 2
          refine yk ?_ rfl (Or.inl ⟨by rfl,?_⟩) ?_
          rotate_left
          ·intro w9 hSw;(try dsimp only at hSw);go_simp;(try with_reducible rfl)
          try simp only [sT,Act.put]
         refine yk0 ?_
         simp only [setK,sT]
         refine rd1 13 (by kernel_rfl) rfl (fun K0 hK0=>?_)
         go_simp
         go_wp2_with fail
         have hset:Kept [p] w9 (w9.setCell ⟨p,1,none⟩ (.slice (some ⟨g',0,none⟩) n' cap')):=(Kept.refl [p] w9).setCell (by simp) _
         have i0:=hset.cell e0 (by simpa using HBp.out)
         refine hK0.out _ _ ⟨i0,fun j v hv=>hset.cell (er j v hv) (by simpa using HSp.out)⟩ (fun hHeld=>?_)
         clear hK0 K0 hset
         try simp only [sT,Act.put]
         refine wpAnyH_done (by kernel_rfl) ?_ _
         clear hHeld
         go_wp2_with fail
         go_roundw
         case rel=>exact ⟨j+1,x.1.f+1,by go_num,by go_num,by omega,by show EpA _ _ _ _ _;rw [HT.out];exact HA9.out,by show PreL _ _;rw [HT.out];exact preL_snoc HP.out HOx.out.1 (by have:=HOx.out.2.1;omega) HOx.out.2.2,(Tn.low HK7.out HT9.out (Nat.le_refl _))⟩
         case measure=>simp [intOf];omega
     ·rw [show decide (May x.1.m)=false by simpa using hm]
      have HE:Hid (¬ OkL L):=fun ho=>hm (ho.2.2 x.1 (by rw [HCo.out];simp)).1
      clear hbx hb10 h67 HTm hm
      go_wp2_with fail
      go_ret2
      exact .inr (.inr ⟨HAl.out,HE.out,rfl,HK7.out⟩)
    ·have hlt':¬ (j:Int) < n:=by omega
     have HEq:Hid (L.take j=L):=List.take_of_length_le (by rw [HL.out];omega)
     go_wp2_with fail
     go_ret2
     refine .inl ⟨HAl.out,?_,p,rfl,?_,HK.out⟩
     ·have h1:=HP.out
      rw [HEq.out] at h1
      exact preL_ok h1 HNe.out
     ·have h1:=HEj.out
      rw [HEq.out] at h1
      exact h1
 ·rw [show decide (1≤al∧al≤8)=false by simpa using ha] at cA
  have HAl:=hide ha
  clear ha
  go_enter Tryz.func58,Tryz.ntmps58
  go_wp2_with (go_at_call 47;refine cA.mono ?_;clear cA;rintro _ _ ⟨rfl,rfl⟩)
  go_ret2
  exact .inr (.inl ⟨HAl.out,rfl,Kept.refl _ _⟩)
end Go.Proofs.YtddhmfildfdbdaaGreat
