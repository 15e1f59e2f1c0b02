/-
  The document's own table in memory: NewTable, Find, last.
-/
import Derived.Test.YtgpnlidnbldiiaaGreatQ13r
import Derived.Test.YtgpnlidnbldiiaaGreatMtCopyr
import Derived.Deep.Cut
set_option maxHeartbeats 8000000
namespace Go.Proofs.YtgpnlidnbldiiaaGreat
open Go.RowKit
variable {P : Nat → Prop}
structure MtA (P:Nat→Prop) (w:World) (b sz:Nat) (v:Value) (X:List (Se × Value)) (L:List Se):Prop where
 at_:w.heap[b]?=some (.cells #[.int .i64 sz,v] 96 (0,0))
 row:RowS 0 w v X
 own:∀ x∈X,KoP P w x.2 x.1.v.k
 ses:X.map Prod.fst=L
theorem MtA.keep {w w':World}{b sz:Nat}{v:Value}{X:List (Se × Value)}{L:List Se}(h:MtA P w b sz v X L) {S:List Nat}{Ts:List TypeId}(k:Kept S w w') (hS:∀ i∈ownT b v,i ∉ S) (hT:Typed w S Ts) (h1:137 ∉ Ts) (h2:60 ∉ Ts):MtA P w' b sz v X L :=
 ⟨k.at h.at_ (hS b (by simp [ownT])),k.ownsRow h.row (fun i hi=>hS i (by simp [ownT,hi])),fun x hx=>(h.own x hx).keep k hT h1 h2,h.ses⟩
theorem MtA.kept {w w':World}{b sz:Nat}{v:Value}{X:List (Se × Value)}{L:List Se}(h:MtA P w b sz v X L) (k:Kept [] w w'):MtA P w' b sz v X L :=
 h.keep k (by simp) (typed_nil w []) (by simp) (by simp)
theorem MtA.lt {w:World}{b sz:Nat}{v:Value}{X:List (Se × Value)}{L:List Se}(h:MtA P w b sz v X L):∀ k∈ownT b v,k < w.heap.size:=by
 intro k hk
 rcases List.mem_cons.1 hk with rfl | hk
 ·exact lt_of_at h.at_
 ·obtain ⟨c2,h2⟩:=row_block h.row (mem_own.1 hk)
  exact lt_of_at h2
theorem MtA.typed {w:World}{b sz:Nat}{v:Value}{X:List (Se × Value)}{L:List Se}(h:MtA P w b sz v X L):Typed w (ownT b v) [96,155]:=by
 intro k hk cur t' mk hh
 rcases List.mem_cons.1 hk with rfl | hk
 ·rw [h.at_] at hh;cases hh;simp
 ·obtain ⟨c2,h2⟩:=row_block h.row (mem_own.1 hk)
  rw [h2] at hh;cases hh;simp
theorem MtA.cells {w:World}{b sz:Nat}{v:Value}{X:List (Se × Value)}{L:List Se}(h:MtA P w b sz v X L):w.cell? ⟨b,0,none⟩=some (.int .i64 sz)∧w.cell? ⟨b,1,none⟩=some v :=
 ⟨cell_inC h.at_ rfl,cell_inC h.at_ rfl⟩
theorem MtA.len {w:World}{b sz:Nat}{v:Value}{X:List (Se × Value)}{L:List Se}(h:MtA P w b sz v X L):X.length=L.length:=by rw [← h.ses];simp
theorem MtA.ones {w:World}{b sz:Nat}{v:Value}{X:List (Se × Value)}{L:List Se}(h:MtA P w b sz v X L):∀ x∈X,x.2.oneCell'=true:=fun x hx=>by
 obtain ⟨_,_,_,e⟩:=(h.own x hx).ko.one
 rw [e];rfl
def MtP (P:Nat→Prop) (w:World) (b sz:Nat) (v:Value) (L:List Se) (w':World):Prop :=
 ∃ v' X',MtA P w' b sz v' X' L∧Kept (ownT b v) w w'∧∀ k,v'.ownBlock=some k→v.ownBlock=some k∨w.heap.size≤k
theorem MtA.store {w w5:World}{b sz:Nat}{v v5:Value}{X X5:List (Se × Value)}{L L5:List Se}(h:MtA P w b sz v X L) (hK:Kept [] w w5) (hR:RowS 0 w5 v5 X5) (ho:∀ x∈X5,KoP P w5 x.2 x.1.v.k) (he:X5.map Prod.fst=L5):MtA P (w5.setCell ⟨b,1,none⟩ v5) b sz v5 X5 L5:=by
 have h5:=hK.at h.at_ (by simp)
 have hK2:Kept [b] w5 (w5.setCell ⟨b,1,none⟩ v5):=(Kept.refl _ _).setCell (by simp) _
 exact ⟨heap_setCell_same w5 b 1 _ _ _ h5,row_typed hK2 (typed1 h5) hR (by decide),fun x hx=>(ho x hx).keep hK2 (typed1 h5) (by decide) (by decide),he⟩
theorem MtA.new (w:World) (sz:Nat):MtA P (w.alloc (.cells #[.int .i64 sz,.slice none 0 0] 96)) w.heap.size sz (.slice none 0 0) [] [] :=
 ⟨heap_alloc_new w _,RowS.nil _ _,(fun _ hx=>by cases hx),rfl⟩
def NewM (w:World) (size:Int) (e:Ending) (w':World):Prop :=
 (1≤size∧size≤16∧e=.returned (.tuple #[.pointer (some ⟨w.heap.size,0,none⟩),.int .i64 0])∧w'=w.alloc (.cells #[.int .i64 size,.slice none 0 0] 96)) ∨
 (¬ (1≤size∧size≤16)∧e=.returned (.tuple #[.pointer none,.int .i64 1])∧w'=w)
theorem mnewT_call (w:World) (size:Int) :
 Calls Tryz.prog 33 #[.int .i64 size] w fun e w'=>NewM w size e w':=by
 by_cases h1:size < 1
 ·go_enter Tryz.func33,Tryz.ntmps33
  go_wp2
  go_ret2
  exact .inr ⟨by omega,rfl,rfl⟩
 ·by_cases h2:16 < size
  ·go_enter Tryz.func33,Tryz.ntmps33
   go_wp2
   go_ret2
   exact .inr ⟨by omega,rfl,rfl⟩
  ·go_enter Tryz.func33,Tryz.ntmps33
   go_wp2
   go_ret2
   exact .inl ⟨by omega,by omega,rfl,rfl⟩
set_option maxRecDepth 100000 in
theorem mfind_call {w:World}{b sz:Nat}{v:Value}{X:List (Se × Value)}{L:List Se}(h:MtA P w b sz v X L) (hl:L.length≤100000) (id:Int) :
 Calls Tryz.prog 129 #[.pointer (some ⟨b,0,none⟩),.int .i64 id] w fun e w'=>e=.returned (plV (byI id L))∧Kept [] w w':=by
 obtain ⟨ao,c,hv,hc,hm,_,hat⟩:=h.row.t.shape
 subst hv
 unfold maxLen at hm
 have HT:=hide h
 have HA:=hide hat
 have hXL:=h.len
 have HXL:=hide hXL
 have hn:X.length≤100000:=by omega
 clear h hat hXL
 go_enter Tryz.func129,Tryz.ntmps129
 go_wp2_with fail
 go_loopw [5] (fun iv wr=>IxI w L (fun x=>decide (x.i=id)) iv wr) (fun iv _=>X.length - (intOf iv).toNat)
 case atStart=>exact ⟨0,rfl,Nat.zero_le _,fun k _ hk=>by omega,Kept.refl _ _⟩
 case round =>
  obtain ⟨j,rfl,hj,HF,HK⟩:=hrel
  have t1:=(HT.out.kept HK.out).cells.2
  by_cases hlt:j < X.length
  ·have hlt':(j:Int) < X.length:=by omega
   have hjc:j≤c:=by omega
   have hjL:j < L.length:=by rw [← HXL.out];exact hlt
   have hCk:=fst_get HT.out.ses hlt hjL
   obtain ⟨g,he,hx⟩:=HA.out j hlt
   subst he
   have h0:=(hx.kept HK.out (by simp)).c0
   rw [hCk] at h0
   have HT2:=hide (fun h=>find_at (f:=fun x=>decide (x.i=id)) hjL HF.out h)
   have HF2:Hid (decide (L[j].i=id)=false→∀ k (h:k < L.length),k < j+1→(fun x:Se=>decide (x.i=id)) L[k]=false):=fun h k hk hk2=>by
    by_cases e:k=j
    ·subst e;exact h
    ·exact HF.out k hk (by omega)
   generalize L[j]=x at *
   clear hx hCk
   by_cases hd:x.i=id
   ·have HE:Hid (byI id L=some j):=HT2.out (by simpa using hd)
    go_wp2_with fail
    go_ret
    exact ⟨by rw [HE.out];rfl,HK.out⟩
   ·have HE:=hide (HF2.out (by simpa using hd))
    go_wp2_with fail
    go_roundw
    case rel=>exact ⟨j+1,by go_num,hjL,HE,HK⟩
    case measure=>simp [intOf];omega
  ·have hlt':¬ (j:Int) < X.length:=by omega
   have HE:Hid (byI id L=none):=find_none (j:=j) (by rw [← HXL.out];exact hlt) HF.out
   go_wp2_with fail
   go_ret
   exact ⟨by rw [HE.out];rfl,HK.out⟩
set_option maxRecDepth 100000 in
theorem mlast_call {w:World}{b sz:Nat}{v:Value}{X:List (Se × Value)}{L:List Se}(h:MtA P w b sz v X L) (hl:L.length≤100000) (i:Nat) (hi:i < L.length) :
 Calls Tryz.prog 128 #[.pointer (some ⟨b,0,none⟩),.int .i64 i] w fun e w'=>e=.returned (.tuple #[])∧MtP P w b sz v (useL L i) w':=by
 have hiX:i < X.length:=by rw [h.len];exact hi
 have hXl:X.length≤100000:=by rw [h.len];exact hl
 obtain ⟨ao,c,hv,hc,hm,_,hat⟩:=h.row.t.shape
 subst hv
 unfold maxLen at hm
 obtain ⟨g,he,hx⟩:=hat i hiX
 subst he
 have hCk:=fst_get h.ses hiX hi
 have hkoi:=h.own _ (List.getElem_mem hiX)
 obtain ⟨mo,mm,mc,hm2⟩:=hkoi.ko.one
 obtain ⟨h0,h1,h2,h3,h4,h5,h6,h7,h8,h9⟩:=hx
 rw [hCk] at h0 h1 h2 h3 h4 h5 h6 h7 h9 hkoi
 rw [hm2] at h8 hkoi
 have HU:Hid (useL L i=outL L i++[L[i]]):=by show _=_;unfold useL;rw [getD_get hi]
 generalize L[i]=x at *
 obtain ⟨Wa,hWa⟩:∃ Wa,Wa=w.alloc (.cells #[.int .i64 x.i,.int .i64 x.q,.string (str x.n),.int .i64 x.v.c,.int .i64 x.v.s,.int .i64 x.v.r,.string (str x.v.p),.int .u64 x.v.d,.slice mo mm mc,.int .i64 x.v.m] 155):=⟨_,rfl⟩
 have HKa:Hid (Kept [] w Wa):=by show Kept _ _ _;rw [hWa];exact (Kept.refl _ _).alloc _
 have HBa:Hid (Wa.heap[w.heap.size]?=some (.cells #[.int .i64 x.i,.int .i64 x.q,.string (str x.n),.int .i64 x.v.c,.int .i64 x.v.s,.int .i64 x.v.r,.string (str x.v.p),.int .u64 x.v.d,.slice mo mm mc,.int .i64 x.v.m] 155 (0,0))):=by show _=_;rw [hWa];exact heap_alloc_new w _
 have HTa:=hide (h.kept HKa.out)
 have HKa2:=hide (hkoi.kept HKa.out)
 obtain ⟨c0,c1⟩:=h.cells
 have HLt:Hid (i=(X.take i).length):=by show _=_;simp;omega
 have H1t:Hid (∀ x∈X.take i,x.2.oneCell'=true):=fun x hx=>h.ones x (List.mem_of_mem_take hx)
 have H1d:Hid (∀ x∈X.drop (i+1),x.2.oneCell'=true):=fun x hx=>h.ones x (List.mem_of_mem_drop hx)
 have HB1:Hid (([]:List (Se × Value)).length+(X.take i).length≤1000000000):=by show _≤_;simp;omega
 have HB2:Hid ((X.take i).length+(X.drop (i+1)).length≤1000000000):=by show _≤_;simp;omega
 have HB3:Hid ((outL X i).length+([(x,.slice mo mm mc)]:List (Se × Value)).length≤1000000000):=by show _≤_;rw [outL_length hiX];simp;omega
 have hii:(i:Int) < X.length:=by omega
 have hic:i≤c:=by omega
 clear h hat hkoi hm2 hCk
 by_cases hck:c=i+1
 ·subst hck
  have HDn:Hid (X.drop (i+1)=[]):=List.drop_of_length_le (by omega)
  have HD1:Hid (∀ {W:World}(j:Nat) (u:Value),((X.drop (i+1)).flatMap seC)[j]?=some u→W.cell? ((⟨g,0,none⟩:Addr).add j)=some u):=fun j u hj=>by rw [HDn.out] at hj;simp at hj
  go_enter Tryz.func128,Tryz.ntmps128
  go_upto_region 1 with fail
  rw [← hWa]
  clear hWa h0 h1 h2 h3 h4 h5 h6 h7 h8 h9 c0 c1
  have hO0:=own_voidS Wa Wa.heap.size (Nat.le_refl _)
  have hA0:=(Kept.refl [] Wa).alloc (.cells #[] 155)
  have d1:=(HTa.out.kept hA0).cells.2
  have HR0:=hide (HTa.out.kept hA0).row.t
  go_wp2_with (at_builtin;refine wp_appS rfl _ _ rfl Wa.heap.size _ [] rfl hO0 ⟨g,0,none⟩ i _ (X.take i) rfl HLt.out ((HR0.out).run0 i) H1t.out HB1.out (by simp) ?p1)
  case p1 =>
   intro v1 w1 hR1 hg1
   replace hR1:RowS Wa.heap.size w1 v1 (X.take i):=hR1
   have HK1:=hide (hA0.grown hg1 fun k hk=>.inr (World.ownsRow.lt hO0 k hk).1)
   have HR1:=hide hR1
   have d1b:=(HTa.out.kept HK1.out).cells.2
   have HRw1:=hide (HTa.out.kept HK1.out).row.t
   have hs1:Wa.heap.size≤w1.heap.size:=HK1.out.size
   clear hR1 hg1 hO0 hA0 d1 HR0
   go_wp2_with (at_builtin;refine wp_appS rfl _ _ rfl Wa.heap.size _ (X.take i) rfl HR1.out ⟨g,0,none⟩ _ _ (X.drop (i+1)) rfl (by rw [HDn.out];first | rfl | (simp;omega)) HD1.out H1d.out HB2.out hs1 ?p2)
   case p2 =>
    intro v2 w2 hR2 hg2
    replace hR2:RowS Wa.heap.size w2 v2 (outL X i):=hR2
    have HK2:=hide (HK1.out.grown hg2 fun k hk=>.inr (World.ownsRow.lt HR1.out k hk).1)
    have hB2:=HK2.out.at HBa.out (by simp)
    have s0:=cell_inC (k:=0) hB2 rfl
    have s1:=cell_inC (k:=1) hB2 rfl
    have s2:=cell_inC (k:=2) hB2 rfl
    have s3:=cell_inC (k:=3) hB2 rfl
    have s4:=cell_inC (k:=4) hB2 rfl
    have s5:=cell_inC (k:=5) hB2 rfl
    have s6:=cell_inC (k:=6) hB2 rfl
    have s7:=cell_inC (k:=7) hB2 rfl
    have s8:=cell_inC (k:=8) hB2 rfl
    have s9:=cell_inC (k:=9) hB2 rfl
    have hs2:Wa.heap.size≤w2.heap.size:=HK2.out.size
    have hK3:=(Kept.refl [] w2).alloc (.cells #[.int .i64 x.i,.int .i64 x.q,.string (str x.n),.int .i64 x.v.c,.int .i64 x.v.s,.int .i64 x.v.r,.string (str x.v.p),.int .u64 x.v.d,.slice mo mm mc,.int .i64 x.v.m] 155)
    have hRa:RowS Wa.heap.size (w2.alloc (.cells #[.int .i64 x.i,.int .i64 x.q,.string (str x.n),.int .i64 x.v.c,.int .i64 x.v.s,.int .i64 x.v.r,.string (str x.v.p),.int .u64 x.v.d,.slice mo mm mc,.int .i64 x.v.m] 155)) v2 (outL X i):=World.ownsRow.alloc hR2 _
    have HNw:=se_news (x:=(x,.slice mo mm mc)) rfl (heap_alloc_new w2 (.cells #[.int .i64 x.i,.int .i64 x.q,.string (str x.n),.int .i64 x.v.c,.int .i64 x.v.s,.int .i64 x.v.r,.string (str x.v.p),.int .u64 x.v.d,.slice mo mm mc,.int .i64 x.v.m] 155))
    clear hR2 hg2 hB2 d1b
    go_wp2_with (at_builtin;refine wp_appS rfl _ _ rfl Wa.heap.size _ (outL X i) rfl hRa ⟨w2.heap.size,0,none⟩ 1 1 [(x,.slice mo mm mc)] rfl rfl HNw (by intro y hy;simp at hy;subst hy;rfl) HB3.out (by simp;omega) ?p3)
    case p3 =>
     intro v3 w3 hR3 hg3
     have HK3:=hide ((HK2.out.trans hK3 (by simp)).grown hg3 fun k hk=>.inr (World.ownsRow.lt hRa k hk).1)
     obtain ⟨ao3,n3,c3,rfl⟩:=hR3.t.one
     have hT3:=HTa.out.kept HK3.out
     obtain ⟨e0,e1⟩:=hT3.cells
     have fz:=froz3 hT3.at_ 1
     have HE:=hide (HTa.out.store HK3.out (hR3.mono (Nat.zero_le _)) (L5:=useL L i) (fun y hy=>by
      rcases List.mem_append.1 hy with hy | hy
      ·exact (HTa.out.own y (mem_outL hy)).kept HK3.out
      ·simp at hy;subst hy
       exact HKa2.out.kept HK3.out) (by rw [List.map_append,map_outL,HTa.out.ses,HU.out];rfl))
     have HV3:Hid (∀ k,(Value.slice ao3 n3 c3).ownBlock=some k→w.heap.size≤k):=fun k hk=>Nat.le_trans HKa.out.size (World.ownsRow.lt hR3 k hk).1
     clear hR3 hg3 hRa HNw hK3 hT3 s0 s1 s2 s3 s4 s5 s6 s7 s8 s9
     go_wp2_with fail
     go_returns
     exact ⟨rfl,_,_,HE.out,((HKa.out.trans HK3.out (by simp)).mono (by simp)).setCell (.inl (by simp [ownT])) _,fun k hk=>.inr (HV3.out k hk)⟩
 ·have HLd:Hid (X.length - (i+1)=(X.drop (i+1)).length):=by show _=_;simp
  go_enter Tryz.func128,Tryz.ntmps128
  go_upto_region 1 with fail
  rw [← hWa]
  clear hWa h0 h1 h2 h3 h4 h5 h6 h7 h8 h9 c0 c1
  have hO0:=own_voidS Wa Wa.heap.size (Nat.le_refl _)
  have hA0:=(Kept.refl [] Wa).alloc (.cells #[] 155)
  have d1:=(HTa.out.kept hA0).cells.2
  have HR0:=hide (HTa.out.kept hA0).row.t
  go_wp2_with (at_builtin;refine wp_appS rfl _ _ rfl Wa.heap.size _ [] rfl hO0 ⟨g,0,none⟩ i _ (X.take i) rfl HLt.out ((HR0.out).run0 i) H1t.out HB1.out (by simp) ?p1)
  case p1 =>
   intro v1 w1 hR1 hg1
   replace hR1:RowS Wa.heap.size w1 v1 (X.take i):=hR1
   have HK1:=hide (hA0.grown hg1 fun k hk=>.inr (World.ownsRow.lt hO0 k hk).1)
   have HR1:=hide hR1
   have d1b:=(HTa.out.kept HK1.out).cells.2
   have HRw1:=hide (HTa.out.kept HK1.out).row.t
   have hs1:Wa.heap.size≤w1.heap.size:=HK1.out.size
   clear hR1 hg1 hO0 hA0 d1 HR0
   go_wp2_with (at_builtin;refine wp_appS rfl _ _ rfl Wa.heap.size _ (X.take i) rfl HR1.out ⟨g,(i+1)*10,none⟩ (X.length - (i+1)) (c - (i+1)) (X.drop (i+1)) rfl HLd.out (HRw1.out.runs (i+1)) H1d.out HB2.out hs1 ?p2)
   case p2 =>
    intro v2 w2 hR2 hg2
    replace hR2:RowS Wa.heap.size w2 v2 (outL X i):=hR2
    have HK2:=hide (HK1.out.grown hg2 fun k hk=>.inr (World.ownsRow.lt HR1.out k hk).1)
    have hB2:=HK2.out.at HBa.out (by simp)
    have s0:=cell_inC (k:=0) hB2 rfl
    have s1:=cell_inC (k:=1) hB2 rfl
    have s2:=cell_inC (k:=2) hB2 rfl
    have s3:=cell_inC (k:=3) hB2 rfl
    have s4:=cell_inC (k:=4) hB2 rfl
    have s5:=cell_inC (k:=5) hB2 rfl
    have s6:=cell_inC (k:=6) hB2 rfl
    have s7:=cell_inC (k:=7) hB2 rfl
    have s8:=cell_inC (k:=8) hB2 rfl
    have s9:=cell_inC (k:=9) hB2 rfl
    have hs2:Wa.heap.size≤w2.heap.size:=HK2.out.size
    have hK3:=(Kept.refl [] w2).alloc (.cells #[.int .i64 x.i,.int .i64 x.q,.string (str x.n),.int .i64 x.v.c,.int .i64 x.v.s,.int .i64 x.v.r,.string (str x.v.p),.int .u64 x.v.d,.slice mo mm mc,.int .i64 x.v.m] 155)
    have hRa:RowS Wa.heap.size (w2.alloc (.cells #[.int .i64 x.i,.int .i64 x.q,.string (str x.n),.int .i64 x.v.c,.int .i64 x.v.s,.int .i64 x.v.r,.string (str x.v.p),.int .u64 x.v.d,.slice mo mm mc,.int .i64 x.v.m] 155)) v2 (outL X i):=World.ownsRow.alloc hR2 _
    have HNw:=se_news (x:=(x,.slice mo mm mc)) rfl (heap_alloc_new w2 (.cells #[.int .i64 x.i,.int .i64 x.q,.string (str x.n),.int .i64 x.v.c,.int .i64 x.v.s,.int .i64 x.v.r,.string (str x.v.p),.int .u64 x.v.d,.slice mo mm mc,.int .i64 x.v.m] 155))
    clear hR2 hg2 hB2 d1b
    go_wp2_with (at_builtin;refine wp_appS rfl _ _ rfl Wa.heap.size _ (outL X i) rfl hRa ⟨w2.heap.size,0,none⟩ 1 1 [(x,.slice mo mm mc)] rfl rfl HNw (by intro y hy;simp at hy;subst hy;rfl) HB3.out (by simp;omega) ?p3)
    case p3 =>
     intro v3 w3 hR3 hg3
     have HK3:=hide ((HK2.out.trans hK3 (by simp)).grown hg3 fun k hk=>.inr (World.ownsRow.lt hRa k hk).1)
     obtain ⟨ao3,n3,c3,rfl⟩:=hR3.t.one
     have hT3:=HTa.out.kept HK3.out
     obtain ⟨e0,e1⟩:=hT3.cells
     have fz:=froz3 hT3.at_ 1
     have HE:=hide (HTa.out.store HK3.out (hR3.mono (Nat.zero_le _)) (L5:=useL L i) (fun y hy=>by
      rcases List.mem_append.1 hy with hy | hy
      ·exact (HTa.out.own y (mem_outL hy)).kept HK3.out
      ·simp at hy;subst hy
       exact HKa2.out.kept HK3.out) (by rw [List.map_append,map_outL,HTa.out.ses,HU.out];rfl))
     have HV3:Hid (∀ k,(Value.slice ao3 n3 c3).ownBlock=some k→w.heap.size≤k):=fun k hk=>Nat.le_trans HKa.out.size (World.ownsRow.lt hR3 k hk).1
     clear hR3 hg3 hRa HNw hK3 hT3 s0 s1 s2 s3 s4 s5 s6 s7 s8 s9
     go_wp2_with fail
     go_returns
     exact ⟨rfl,_,_,HE.out,((HKa.out.trans HK3.out (by simp)).mono (by simp)).setCell (.inl (by simp [ownT])) _,fun k hk=>.inr (HV3.out k hk)⟩
end Go.Proofs.YtgpnlidnbldiiaaGreat
