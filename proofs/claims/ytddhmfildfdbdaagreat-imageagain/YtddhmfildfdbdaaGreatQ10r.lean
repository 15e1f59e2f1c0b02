/-
  Texts of this claim that are laid as one: GrAdd, GrAdd2, GrLand, GrLand2.
-/
import Derived.Test.YtddhmfildfdbdaaGreatQ9r
import Derived.Test.YtddhmfildfdbdaaGreatQ6r
import Derived.Deep.AppendLies
import Derived.Deep.RegionHeld3
import Derived.Test.YtddhmfildfdbdaaGreatQ2r
import Derived.Deep.CutRange
import Derived.Handy
import Derived.Defers
import Derived.Recover
import Derived.Laws.Rows
set_option maxHeartbeats 8000000
/-
 add: a commit is put behind the others.
-/
namespace Go.Proofs.YtddhmfildfdbdaaGreat
open Go.RowKit
theorem step_appK {w:World}{ops:Array Oper}{o:Oper}{a:Act}{Kk:Act→World→Prop}{Q:Exit→Act→World→Prop}{E:Prop}(hgd:o.guard=none) (s x:Operand)
 (hop:o.op=.call { callee:=.builtin .append,args:=#[s,x],argTypes:=#[67,67] })
 (v:Value) (K:List (Com × Value)) (hs:a.eval s=v) (hO:RowK 0 w v K) (g:Nat) (y:Com × Value) (hx:a.eval x=.slice (some ⟨g,0,none⟩) 1 1) (hc:w.heap[g]?=some (.cells #[.int .i64 y.1.r,.int .i64 y.1.b,.string (str y.1.n),y.2] 76 (0,0)))
 (h1:y.2.oneCell'=true) (hlen:K.length≤1000000000)
 (h:∀ g cap w',RowK 0 w' (.slice (some ⟨g,0,none⟩) (K.length+1) cap) (K++[y])→w.grownBy w' v.ownBlock→(v.ownBlock=some g∨g=w.heap.size)→g < w'.heap.size→Kk (a.put o.dst (.slice (some ⟨g,0,none⟩) (K.length+1) cap)) w') :
 if Region.wanted o (yielded ops a.tmps)=true then Oper.wp Tryz.prog o a w Kk Q else E:=by
 obtain ⟨i0,hi,hz0,hz1,hz2⟩:=info_parts info_commit
 refine step_append_lies w hgd s x 67 hop 0 76 i0 (.agg #[.int .i64 0,.int .i64 0,.string ⟨#[]⟩,.slice none 0 0]) 4 56 Tryz.underlying67 hi hz0 hz1 hz2 rfl (by decide) v K.length (K.flatMap coC) hs hO ⟨g,0,none⟩ 1 1 (coC y) hx rfl (World.news_of_block hc) ?_ (by decide) (by unfold maxLen;omega) (by omega) (Nat.zero_le _) _ rfl ?_
 ·intro u hu;simp [coC] at hu;rcases hu with rfl | rfl | rfl | rfl <;> first | rfl | exact h1
 ·intro g' cap w' h2 h3 h4 h5
  refine h g' cap w' ?_ h3 h4 h5
  unfold RowK
  rw [List.length_append,List.flatMap_append]
  simpa using h2
theorem GA.setRow {w:World}{b:Nat}{v:Value}{p:Option Addr}{t:Tr}{mb:Nat}{K:List (Com × Value)}{G:Gr}(h:GA w b v p t mb K G) {w':World}{x:Com}{cv:Value}(hO:OwnC 0 w cv x.c) {g cap:Nat}
 (hR:RowK 0 w' (.slice (some ⟨g,0,none⟩) (K.length+1) cap) (K++[(x,cv)])) (hg:w.grownBy w' v.ownBlock) (hat:v.ownBlock=some g∨g=w.heap.size) :
 GA (w'.setCell ⟨b,0,none⟩ (.slice (some ⟨g,0,none⟩) (K.length+1) cap)) b (.slice (some ⟨g,0,none⟩) (K.length+1) cap) p t mb (K++[(x,cv)]) ⟨G.cs++[x],G.ls,G.rs⟩:=by
 have hT:Typed w v.ownBlock.toList [76]:=fun k hk cur t' mk hh=>by
  obtain ⟨c2,h2⟩:=row_block h.row (mem_own.1 hk)
  rw [h2] at hh;cases hh;simp
 have hK:Kept v.ownBlock.toList w w':=(Kept.refl _ w).grown hg fun k hk=>.inl (mem_own.2 hk)
 have hbv:b ∉ v.ownBlock.toList:=fun hm=>by have:=hT b hm _ _ _ h.at_;simp at this
 have hbm:mb ∉ v.ownBlock.toList:=fun hm=>by
  obtain ⟨c2,h2⟩:=row_block h.row (mem_own.1 hm)
  obtain ⟨es,clock,h3,_⟩:=h.map
  rw [h2] at h3;cases h3
 have hb':=hK.at h.at_ hbv
 have hblt:=lt_of_at h.at_
 have hgb:g≠b:=fun e=>by
  subst e
  rcases hat with hat | hat
  ·exact hbv (mem_own.2 hat)
  ·omega
 have hmb:mb≠b:=fun e=>by
  subst e
  obtain ⟨es,clock,h3,_⟩:=h.map
  rw [h.at_] at h3;cases h3
 have hK2:Kept [b] w' (w'.setCell ⟨b,0,none⟩ (.slice (some ⟨g,0,none⟩) (K.length+1) cap)):=(Kept.refl _ _).setCell (by simp) _
 have hT2:Typed w' [b] [109]:=fun k hk cur t' mk hh=>by
  simp at hk;subst hk;rw [hb'] at hh;cases hh;simp
 refine ⟨heap_setCell_same w' b 0 _ _ _ hb',hK2.ownsRow hR (fun k hk=>by simp [Value.ownBlock] at hk;subst hk;simpa using hgb),?_,by simp [h.com],?_,h.some_,h.list,h.good,?_⟩
 ·intro y hy
  have hy2:OwnC 0 w y.2 y.1.c:=by
   rcases List.mem_append.1 hy with hy | hy
   ·exact h.own y hy
   ·simp at hy;subst hy;exact hO
  exact row_typed hK2 hT2 (row_typed hK hT hy2 (by decide)) (by decide)
 ·exact (tat_typed hK2 hT2 (by decide) (by decide) (tat_typed hK hT (by decide) (by decide) h.tree)).mono (Nat.le_trans hK.size hK2.size)
 ·exact map_kept hK2 (map_kept hK h.map hbm) (by simpa using hmb)
theorem GA.setTree {w:World}{b:Nat}{v:Value}{p:Option Addr}{t:Tr}{mb:Nat}{K:List (Com × Value)}{G:Gr}(h:GA w b v p t mb K G) {q:Option Addr}{t':Tr}(hT':TAt w.heap.size w q t') (hq:q≠none) (hg:Good t') :
 GA (w.setCell ⟨b,1,none⟩ (.pointer q)) b v q t' mb K ⟨G.cs,t'.list,G.rs⟩:=by
 have hK2:Kept [b] w (w.setCell ⟨b,1,none⟩ (.pointer q)):=(Kept.refl _ _).setCell (by simp) _
 have hT2:Typed w [b] [109]:=fun k hk cur t' mk hh=>by
  simp at hk;subst hk;rw [h.at_] at hh;cases hh;simp
 have hmb:mb≠b:=fun e=>by
  subst e
  obtain ⟨es,clock,h3,_⟩:=h.map
  rw [h.at_] at h3;cases h3
 refine ⟨heap_setCell_same w b 1 _ _ _ h.at_,row_typed hK2 hT2 h.row (by decide),fun y hy=>row_typed hK2 hT2 (h.own y hy) (by decide),h.com,(tat_typed hK2 hT2 (by decide) (by decide) hT').mono hK2.size,hq,rfl,hg,map_kept hK2 h.map (by simpa using hmb)⟩
theorem put_some {B:Nat}{w:World}{q:Option Addr}{t:Tr}{x:Lf}(h:TAt B w q (t.put x)) (hg:Good t):q≠none:=by
 rintro rfl
 rcases h with ⟨_,h⟩ | ⟨b,q,h,_⟩
 ·have h1:=put_list x t hg.1
  rw [h] at h1
  have h2:=(ins_length x t.list)
  have h3:(ins x t.list).length=0:=by rw [← h1];rfl
  have h4:ins x t.list≠[]:=by cases t.list <;> simp [ins] <;> (try split) <;> (try split) <;> simp
  exact h4 (List.eq_nil_of_length_eq_zero h3)
 ·cases h
theorem GA.setMap {w:World}{b:Nat}{v:Value}{p:Option Addr}{t:Tr}{mb:Nat}{K:List (Com × Value)}{G:Gr}(h:GA w b v p t mb K G) {w':World}{n:List UInt8}{r:Int}{m:Nat}(hs:SrR G.rs)
 (hm:w'.ownsMap Tryz.prog 9 mapR mb m ((rsD G.rs).put (.string n) (.lit (.int .i64 r)))) (hg:w.grownBy w' (some mb)) :
 GA w' b v p t mb K ⟨G.cs,G.ls,mvR n r G.rs⟩:=by
 have hK:Kept [mb] w w':=(Kept.refl _ w).grown hg fun k hk=>by cases hk;simp
 have hT:Typed w [mb] []:=fun k hk cur t' mk hh=>by
  simp at hk;subst hk
  obtain ⟨es,clock,h3,_⟩:=h.map
  rw [h3] at hh;cases hh
 have hbm:b≠mb:=fun e=>by
  subst e
  obtain ⟨es,clock,h3,_⟩:=h.map
  rw [h.at_] at h3;cases h3
 rw [rsD_put hs] at hm
 exact ⟨hK.at h.at_ (by simpa using hbm),row_typed hK hT h.row (by simp),fun y hy=>row_typed hK hT (h.own y hy) (by simp),h.com,(tat_typed hK hT (by simp) (by simp) h.tree).mono hK.size,h.some_,h.list,h.good,owns_tight hm⟩
theorem GA.grown {w:World}{b:Nat}{v:Value}{p:Option Addr}{t:Tr}{mb:Nat}{K:List (Com × Value)}{G:Gr}(h:GA w b v p t mb K G) {w':World}(hg:w.grownBy w' v.ownBlock):w'.heap[b]?=some (.cells #[v,.pointer p,.map (some mb)] 109 (0,0)):=by
 refine ((Kept.refl v.ownBlock.toList w).grown hg fun k hk=>.inl (mem_own.2 hk)).at h.at_ fun hm=>?_
 obtain ⟨c2,h2⟩:=row_block h.row (mem_own.1 hm)
 rw [h.at_] at h2;cases h2
theorem new_at (w:World) (o ob:Obj):((w.alloc o).alloc ob).drew.heap[w.heap.size+1]?=some ob:=by
 have:=heap_alloc_new (w.alloc o) ob
 rwa [World.size_alloc] at this
theorem box_grown {w w2:World}{b mb:Nat}{v:Value}{o ob:Obj}(hS:∀ k∈ownS b mb v,k < w.heap.size) (hg:((w.alloc o).alloc ob).drew.grownBy w2 v.ownBlock):Hid (w2.heap[w.heap.size]?=some o):=by
 have h1:((w.alloc o).alloc ob).drew.heap[w.heap.size]?=some o:=(Below.heap_alloc _ _ _ (by simp)).trans (heap_alloc_new w o)
 refine ((Kept.refl v.ownBlock.toList _).grown hg fun k hk=>.inl (mem_own.2 hk)).at h1 fun hm=>?_
 have:=hS w.heap.size (by simp [ownS,mem_own.1 hm])
 omega
theorem add_first {w w2:World}{b mb:Nat}{v:Value}{o ob:Obj}{g n cap:Nat}(hS:∀ k∈ownS b mb v,k < w.heap.size) (hg:((w.alloc o).alloc ob).drew.grownBy w2 v.ownBlock) (hat:v.ownBlock=some g∨g=((w.alloc o).alloc ob).drew.heap.size) (hB:Hid (w2.heap[w.heap.size]?=some o)) :
 Kept (ownS b mb v) w (w2.setCell ⟨b,0,none⟩ (.slice (some ⟨g,0,none⟩) n cap))∧(∀ k,(Value.slice (some ⟨g,0,none⟩) n cap).ownBlock=some k→v.ownBlock=some k∨w.heap.size≤k) ∧
  (w2.setCell ⟨b,0,none⟩ (.slice (some ⟨g,0,none⟩) n cap)).heap[w.heap.size]?=some o:=by
 refine ⟨((((Kept.refl (ownS b mb v) w).alloc _).alloc _).drew.grown hg (fun k hk=>.inl (by simp [ownS,hk]))).setCell (.inl (by simp [ownS])) _,fun k hk=>?_,?_⟩
 ·simp [Value.ownBlock] at hk
  subst hk
  rcases hat with h | h
  ·exact .inl h
  ·refine .inr ?_
   rw [h]
   show w.heap.size≤((w.alloc o).alloc ob).heap.size
   rw [World.size_alloc,World.size_alloc];omega
 ·have hb:=hS b (by simp [ownS])
  exact (show Kept [b] w2 _ from (Kept.refl _ _).setCell (by simp) _).at hB.out (by simp;omega)
def AddP (w:World) (b:Nat) (v:Value) (mb:Nat) (K:List (Com × Value)) (G:Gr) (w':World):Prop :=
 ∃ v' p' t',GA w' b v' p' t' mb K G∧Kept (ownS b mb v) w w'∧∀ k,v'.ownBlock=some k→v.ownBlock=some k∨w.heap.size≤k
def AddI (w:World) (b:Nat) (S:List Nat) (v:Value) (mb:Nat) (K:List (Com × Value)) (cs:List Com) (ls:List Lf) (rs:List (List UInt8 × Int)) (r:Int) (L:List Ch) (iv:Value) (wr:World):Prop :=
 ∃ (i:Nat) (p:Option Addr) (t:Tr),iv=.int .i64 (i:Int)∧i≤L.length∧Hid (GA wr b v p t mb K ⟨cs,putC r ls (L.take i),rs⟩)∧Hid (Kept S w wr)
theorem putC_take {r:Int}{ls:List Lf}{L:List Ch}{i:Nat}(h:i < L.length):putC r ls (L.take (i+1))=ins ⟨L[i].p,L[i].d,r,L[i].g⟩ (putC r ls (L.take i)):=by
 rw [List.take_succ_eq_append_getElem h,putC_app];rfl
theorem box4 (w:World) (v0 v1 v2 v3:Value) (t:TypeId) :
 (w.alloc (.cells #[v0,v1,v2,v3] t)).cell? ⟨w.heap.size,0,none⟩=some v0∧(w.alloc (.cells #[v0,v1,v2,v3] t)).cell? ⟨w.heap.size,1,none⟩=some v1∧(w.alloc (.cells #[v0,v1,v2,v3] t)).cell? ⟨w.heap.size,2,none⟩=some v2∧(w.alloc (.cells #[v0,v1,v2,v3] t)).cell? ⟨w.heap.size,3,none⟩=some v3 :=
 cells4 (heap_alloc_new w _)
set_option linter.unusedSimpArgs false in
set_option maxRecDepth 100000 in
theorem add_call {w:World}{b:Nat}{v:Value}{p:Option Addr}{t:Tr}{mb:Nat}{K:List (Com × Value)}{G:Gr}(h:GA w b v p t mb K G) (x:Com) (cv:Value) (hO:OwnC 0 w cv x.c)
 (hK:K.length≤1000000) (hL:∀ y∈x.c,y.p.length≤1000000000) (hLl:x.c.length≤1000000) (hls:G.ls.length≤1000000000) (hr:0≤x.r∧x.r≤1000000000) (hn:x.n.length≤1000000) (hs:SrR G.rs) (hrs:G.rs.length≤1000000) :
 Calls Tryz.prog 159 #[.pointer (some ⟨b,0,none⟩),.agg #[.int .i64 x.r,.int .i64 x.b,.string (str x.n),cv]] w fun e w'=>e=.returned (.tuple #[])∧AddP w b v mb (K++[(x,cv)]) (addG G x) w':=by
 obtain ⟨ao,n0,c,rfl,hsC,hnil⟩:=hO.chV
 obtain ⟨W1,hW1⟩:∃ W1,W1=w.alloc (.cells #[.int .i64 x.r,.int .i64 x.b,.string (str x.n),.slice ao n0 c] 76):=⟨_,rfl⟩
 have hK1:Kept [] w W1:=by rw [hW1];exact (Kept.refl _ _).alloc _
 have hsz1:W1.heap.size=w.heap.size+1:=by rw [hW1,World.size_alloc]
 obtain ⟨q0,q1,q2,q3⟩:=box4 w (.int .i64 x.r) (.int .i64 x.b) (.string (str x.n)) (.slice ao n0 c) 76
 rw [← hW1] at q0 q1 q2 q3
 have hG1:=h.kept hK1
 obtain ⟨c0,c1,c2⟩:=cells3 hG1.at_
 have f0:=froz3 hG1.at_ 0
 have hblt:=lt_of_at h.at_
 have HG1:Hid (GA W1 b v p t mb K G):=hG1
 have HO1:Hid (OwnC 0 W1 (.slice ao n0 c) x.c):=hO.kept hK1
 have HR2:=fun ob=>World.ownsRow.alloc hG1.row ob
 have HW:Hid (W1.heap[w.heap.size]?=some (.cells #[.int .i64 x.r,.int .i64 x.b,.string (str x.n),.slice ao n0 c] 76 (0,0))):=by rw [hW1];exact heap_alloc_new w _
 have HS:Hid (∀ k∈ownS b mb v,k < w.heap.size):=h.lt
 have hlen:K.length≤1000000000:=by omega
 clear hG1 h hO
 subst hW1
 go_enter Tryz.func159,Tryz.ntmps159
 go_upto_region 1 with fail
 go_cut [] from 6 to 15 (fun wx=>∃ v':Value,GA wx b v' p t mb (K++[(x,.slice ao n0 c)]) ⟨G.cs++[x],G.ls,G.rs⟩∧Kept (ownS b mb v) w wx∧(∀ k,v'.ownBlock=some k→v.ownBlock=some k∨w.heap.size≤k) ∧
  wx.heap[w.heap.size]?=some (.cells #[.int .i64 x.r,.int .i64 x.b,.string (str x.n),.slice ao n0 c] 76 (0,0)))
 case first =>
  go_region_law
   ((refine step_appK (by rfl) _ _ (by rfl) v K (by rfl) (HR2 _) (w.heap.size+1) (x,.slice ao n0 c) (by rfl) (new_at w _ _) rfl hlen ?_;intro g cap w2 hR3 hg3 hat3 hlt3;have hG3:=GA.grown (HG1.out.kept ((Kept.refl [] _).alloc _).drew) hg3;obtain ⟨c20,c21,c22⟩:=cells3 hG3;have f20:=froz3 hG3 0;have hB3:=box_grown HS.out hg3))
  all_goals go_wp2_with fail
  all_goals go_meet
  all_goals exact ⟨_,(HG1.out.kept ((Kept.refl [] _).alloc _).drew).setRow (HO1.out.kept ((Kept.refl [] _).alloc _).drew) hR3 hg3 hat3,add_first HS.out hg3 hat3 hB3⟩
 case rest =>
  obtain ⟨v',hG2,hK2,hv2,hB2⟩:=hcut
  clear q0 q1 q2 q3 c0 c1 c2 f0
  obtain ⟨q0,q1,q2,q3⟩:=cells4 hB2
  have HG2:Hid (GA wc b v' p t mb (K++[(x,.slice ao n0 c)]) ⟨G.cs++[x],G.ls,G.rs⟩):=hG2
  have HK2:Hid (Kept (ownS b mb v) w wc):=hK2
  have HB2:Hid (wc.heap[w.heap.size]?=some (.cells #[.int .i64 x.r,.int .i64 x.b,.string (str x.n),.slice ao n0 c] 76 (0,0))):=hB2
  have HV2:Hid (∀ k,v'.ownBlock=some k→v.ownBlock=some k∨w.heap.size≤k):=hv2
  clear hv2
  have hn0:=hsC.1
  have hc0:=hsC.2.1
  have hm0:=hsC.2.2.1
  unfold maxLen at hm0
  clear hG2 hK2 hB2 HG1 HO1 HR2 HW hsC
  go_wp2_with fail
  go_loopw [19] (fun iv wr=>AddI w b (ownS b mb v) v' mb (K++[(x,.slice ao n0 c)]) (G.cs++[x]) G.ls G.rs x.r x.c iv wr∧Hid (wr.heap[w.heap.size]?=some (.cells #[.int .i64 x.r,.int .i64 x.b,.string (str x.n),.slice ao n0 c] 76 (0,0)))) (fun iv _=>n0 - (intOf iv).toNat)
  case atStart=>exact ⟨⟨0,p,t,rfl,Nat.zero_le _,HG2.out,HK2.out⟩,HB2.out⟩
  case round =>
   obtain ⟨⟨i,pi,ti,rfl,hi,HGi,HKi⟩,HBi⟩:=hrel
   clear q0 q1 q2 q3
   obtain ⟨s0,s1,s2,s3⟩:=cells4 HBi.out
   by_cases hlt:i < n0
   ·have hlt':(i:Int) < n0:=by omega
    have hic:i≤c:=by omega
    have hsr:SlC wr ao n0 c x.c:=(HGi.out.own (x,.slice ao n0 c) (by simp)).slice
    obtain ⟨g,o,rfl,hx⟩:=hsr.2.2.2 i (by omega)
    obtain ⟨y,hye⟩:∃ y,y=x.c[i]'(by omega):=⟨_,rfl⟩
    rw [← hye] at hx
    obtain ⟨e0,e1,e2⟩:=hx
    have HY:Hid (y=x.c[i]'(by omega)):=hye
    have hyp:y.p.length≤1000000000:=by rw [hye];exact hL _ (List.getElem_mem _)
    have hKa:=(Kept.refl [] wr).alloc (.cells #[.string (str y.p),.bool y.g,.int .u64 y.d] 116)
    obtain ⟨d0,d1,d2⟩:=box3 wr y 116
    rw [Nat.zero_add] at d1 d2
    have hGa:=HGi.out.kept hKa
    obtain ⟨b0,b1,b2⟩:=cells3 hGa.at_
    have hsz:ti.size≤100000000000:=by
     have h1:=tr_size ti
     rw [HGi.out.list] at h1
     have h2:=@putC_length x.r (x.c.take i) G.ls
     have h3:=List.length_take_le i x.c
     simp only at h1
     omega
    have cP:=fun W (hk:Kept [] (wr.alloc (.cells #[.string (str y.p),.bool y.g,.int .u64 y.d] 116)) W)=>tPut_call ⟨y.p,y.d,x.r,y.g⟩ (by simp only;omega) _ W pi ti (hGa.kept hk).tree hsz
    simp only [lfV] at cP
    have qa:=hKa.cell s0 (by simp)
    have HGa:Hid (GA (wr.alloc (.cells #[.string (str y.p),.bool y.g,.int .u64 y.d] 116)) b v' pi ti mb (K++[(x,.slice (some ⟨g,o,none⟩) n0 c)]) ⟨G.cs++[x],putC x.r G.ls (x.c.take i),G.rs⟩):=hGa
    have hbr:b < wr.heap.size:=lt_of_at HGi.out.at_
    clear hye hGa hsr
    have HN:Hid (∀ w3 q,Kept [] (wr.alloc (.cells #[.string (str y.p),.bool y.g,.int .u64 y.d] 116)) w3→TAt w3.heap.size w3 q (ti.put ⟨y.p,y.d,x.r,y.g⟩)→AddI w b (ownS b mb v) v' mb (K++[(x,.slice (some ⟨g,o,none⟩) n0 c)]) (G.cs++[x]) G.ls G.rs x.r x.c (.int .i64 ((i+1:Nat):Int)) (w3.setCell ⟨b,1,none⟩ (.pointer q))∧Hid ((w3.setCell ⟨b,1,none⟩ (.pointer q)).heap[w.heap.size]?=some (.cells #[.int .i64 x.r,.int .i64 x.b,.string (str x.n),.slice (some ⟨g,o,none⟩) n0 c] 76 (0,0)))):=fun w3 q hK3 hT3=>by
     refine ⟨⟨i+1,q,ti.put ⟨y.p,y.d,x.r,y.g⟩,rfl,by omega,?_,?_⟩,?_⟩
     ·have h1:=(HGa.out.kept hK3).setTree hT3 (put_some hT3 HGa.out.good) (HGa.out.good.put _)
      rw [put_list _ _ HGa.out.good.1,HGa.out.list] at h1
      rw [putC_take (by omega),← HY.out]
      exact h1
     ·exact ((HKi.out.trans hKa (by simp)).trans hK3 (by simp)).setCell (.inl (by simp [ownS])) _
     ·have hb:=HS.out b (by simp [ownS])
      exact (show Kept [b] w3 _ from (Kept.refl _ _).setCell (by simp) _).at (hK3.at (hKa.at HBi.out (by simp)) (by simp)) (by simp;omega)
    go_wp2_with fail
    refine wp_region_held_drew (S:=fun w'=>w'.cell? ⟨wr.heap.size,0,none⟩=some (.string (str y.p))∧w'.cell? ⟨wr.heap.size,1,none⟩=some (.bool y.g)∧w'.cell? ⟨wr.heap.size,2,none⟩=some (.int .u64 y.d)∧w'.cell? ⟨w.heap.size,0,none⟩=some (.int .i64 x.r)) (by kernel_rfl) ⟨d0,d1,d2,qa⟩ (fun hHeld=>?_)
    refine wpAnyH_take (i:=0) (v:=?_) rfl (by kernel_rfl) (by kernel_rfl) (by kernel_rfl) (fun _ _ _ h=>h) (Or.inl ⟨by rfl,?_⟩) hHeld ?_
    rotate_left
    ·intro w9 hSw;(try dsimp only at hSw);go_simp;(try with_reducible rfl)
    try simp only [sT,Act.put]
    refine wpAnyH_take (i:=1) (v:=?_) rfl (by kernel_rfl) (by kernel_rfl) (by kernel_rfl) (fun _ _ _ h=>h) (Or.inl ⟨by rfl,?_⟩) hHeld ?_
    rotate_left
    ·intro w9 hSw;(try dsimp only at hSw);go_simp;(try with_reducible rfl)
    try simp only [sT,Act.put]
    refine wpAnyH_take (i:=2) (v:=?_) rfl (by kernel_rfl) (by kernel_rfl) (by kernel_rfl) (fun _ _ _ h=>h) (Or.inl ⟨by rfl,?_⟩) hHeld ?_
    rotate_left
    ·intro w9 hSw;(try dsimp only at hSw);go_simp;(try with_reducible rfl)
    try simp only [sT,Act.put]
    refine wpAnyH_take (i:=3) (v:=?_) rfl (by kernel_rfl) (by kernel_rfl) (by kernel_rfl) (fun _ _ _ h=>h) (Or.inl ⟨by rfl,?_⟩) hHeld ?_
    rotate_left
    ·intro w9 hSw;(try dsimp only at hSw);go_simp;(try with_reducible rfl)
    try simp only [sT,Act.put]
    refine wpAnyH_take (i:=5) (v:=?_) rfl (by kernel_rfl) (by kernel_rfl) (by kernel_rfl) (fun _ _ _ h=>h) (Or.inl ⟨by rfl,?_⟩) hHeld ?_
    rotate_left
    ·intro w9 hSw;(try dsimp only at hSw);go_simp;(try with_reducible rfl)
    try simp only [sT,Act.put]
    refine wpAnyH_take (i:=6) (v:=?_) rfl (by kernel_rfl) (by kernel_rfl) (by kernel_rfl) (fun _ _ _ h=>h) (Or.inl ⟨by rfl,?_⟩) hHeld ?_
    rotate_left
    ·intro w9 hSw;(try dsimp only at hSw);go_simp;(try with_reducible rfl)
    try simp only [sT,Act.put]
    refine wpAnyH_take (i:=7) (v:=?_) rfl (by kernel_rfl) (by kernel_rfl) (by kernel_rfl) (fun _ _ _ h=>h) (Or.inl ⟨by rfl,?_⟩) hHeld ?_
    rotate_left
    ·intro w9 hSw;(try dsimp only at hSw);go_simp;(try with_reducible rfl)
    try simp only [sT,Act.put]
    refine wpAnyH_take (i:=8) (v:=?_) rfl (by kernel_rfl) (by kernel_rfl) (by kernel_rfl) (fun _ _ _ h=>h) (Or.inl ⟨by rfl,?_⟩) hHeld ?_
    rotate_left
    ·intro w9 hSw;(try dsimp only at hSw);go_simp;(try with_reducible rfl)
    try simp only [sT,Act.put]
    refine wpAnyH_take (i:=9) (v:=?_) rfl (by kernel_rfl) (by kernel_rfl) (by kernel_rfl) (fun _ _ _ h=>h) (Or.inl ⟨by rfl,?_⟩) hHeld ?_
    rotate_left
    ·intro w9 hSw;(try dsimp only at hSw);go_simp;(try with_reducible rfl)
    try simp only [sT,Act.put]
    refine wpAnyH_take (i:=10) (v:=?_) rfl (by kernel_rfl) (by kernel_rfl) (by kernel_rfl) (fun _ _ _ h=>h) (Or.inl ⟨by rfl,?_⟩) hHeld ?_
    rotate_left
    ·intro w9 hSw;(try dsimp only at hSw);go_simp;(try with_reducible rfl)
    try simp only [sT,Act.put]
    refine wpAnyH_take (i:=11) (v:=?_) rfl (by kernel_rfl) (by kernel_rfl) (by kernel_rfl) (fun _ _ _ h=>h) (Or.inl ⟨by rfl,?_⟩) hHeld ?_
    rotate_left
    ·intro w9 hSw;(try dsimp only at hSw);go_simp;(try with_reducible rfl)
    try simp only [sT,Act.put]
    refine wpAnyH_take (i:=12) (v:=?_) rfl (by kernel_rfl) (by kernel_rfl) (by kernel_rfl) (fun _ _ _ h=>h) (Or.inl ⟨by rfl,?_⟩) hHeld ?_
    rotate_left
    ·intro w9 hSw;(try dsimp only at hSw);go_simp;(try with_reducible rfl)
    try simp only [sT,Act.put]
    refine wpAnyH_take (i:=13) (v:=?_) rfl (by kernel_rfl) (by kernel_rfl) (by kernel_rfl) (fun _ _ _ h=>h) (Or.inl ⟨by rfl,?_⟩) hHeld ?_
    rotate_left
    ·intro w9 hSw;(try dsimp only at hSw);go_simp;(try with_reducible rfl)
    try simp only [sT,Act.put]
    refine rd1 4 (by kernel_rfl) rfl (fun K0 hK0=>?_)
    go_simp
    refine hK0.out _ _ hHeld (fun hHeld=>?_)
    clear hK0 K0
    try simp only [sT,Act.put]
    refine rd1 14 (by kernel_rfl) rfl (fun K0 hK0=>?_)
    go_simp
    refine (cP _ (Kept.refl [] _).drew).mono ?_
    rintro e w3 ⟨q,rfl,hT3,hK3⟩
    replace hK3:=(Kept.refl [] (wr.alloc (.cells #[.string (str y.p),.bool y.g,.int .u64 y.d] 116))).drew.trans hK3 (by simp)
    have hG3:=HGa.out.kept hK3
    obtain ⟨m0,m1,m2⟩:=cells3 hG3.at_
    have f3:=froz3 hG3.at_ 1
    go_wp2_with fail
    refine hK0.out _ _ ⟨hK3.cell d0 (by simp),hK3.cell d1 (by simp),hK3.cell d2 (by simp),hK3.cell qa (by simp)⟩ (fun hHeld=>?_)
    clear hK0 K0
    try simp only [sT,Act.put]
    refine wpAnyH_take (i:=15) (v:=?_) rfl (by kernel_rfl) (by kernel_rfl) (by kernel_rfl) (fun _ _ _ h=>h) (Or.inl ⟨by rfl,?_⟩) hHeld ?_
    rotate_left
    ·intro w9 hSw;(try dsimp only at hSw);go_simp;(try with_reducible rfl)
    try simp only [sT,Act.put]
    refine wpAnyH_take (i:=16) (v:=?_) rfl (by kernel_rfl) (by kernel_rfl) (by kernel_rfl) (fun _ _ _ h=>h) (Or.inl ⟨by rfl,?_⟩) hHeld ?_
    rotate_left
    ·intro w9 hSw;(try dsimp only at hSw);go_simp;(try with_reducible rfl)
    try simp only [sT,Act.put]
    refine rd1 17 (by kernel_rfl) rfl (fun K0 hK0=>?_)
    go_simp
    have hK3b:Kept [b] (wr.alloc (.cells #[.string (str y.p),.bool y.g,.int .u64 y.d] 116)) (w3.setCell ⟨b,1,none⟩ (.pointer q)):=(hK3.mono (by simp)).setCell (.inl (by simp)) _
    have hbw0:=HS.out b (by simp [ownS])
    refine hK0.out _ _ ⟨hK3b.cell d0 (by simp;omega),hK3b.cell d1 (by simp;omega),hK3b.cell d2 (by simp;omega),hK3b.cell qa (by simp;omega)⟩ (fun hHeld=>?_)
    refine wpAnyH_done (by kernel_rfl) ?_ _
    all_goals go_wp2_with fail
    all_goals go_roundw
    all_goals first | exact HN.out w3 q hK3 hT3 | (simp [intOf];omega)
   ·have hlt':¬ (i:Int) < n0:=by omega
    have hi0:i=x.c.length:=by omega
    have HGe:Hid (GA wr b v' pi ti mb (K++[(x,.slice ao n0 c)]) ⟨G.cs++[x],putC x.r G.ls x.c,G.rs⟩):=by
     have:=HGi.out;rw [hi0,List.take_length] at this;exact this
    clear hi0 HGi
    by_cases hnn:x.n=[]
    ·have HE:Hid (addG G x=⟨G.cs++[x],putC x.r G.ls x.c,G.rs⟩):=by show addG G x=_;unfold addG;rw [hnn];rfl
     have hE:=str_void
     rw [hnn] at s2
     go_wp2_with fail
     go_returns
     exact ⟨rfl,v',pi,ti,by rw [HE.out];exact HGe.out,HKi.out,HV2.out⟩
    ·have HE:Hid (addG G x=⟨G.cs++[x],putC x.r G.ls x.c,mvR x.n x.r G.rs⟩):=by show addG G x=_;unfold addG;rw [rsAdd_some hnn]
     have hE:=str_ne_void hnn
     obtain ⟨b0,b1,b2⟩:=cells3 HGe.out.at_
     have hkey:keyOf Tryz.prog 9 (.string (str x.n))=some (.string x.n):=by
      have:=WideMaps.keyOf_string_mk Tryz.underlying9 (s:=str x.n) (by rw [str_size];unfold maxLen;omega)
      rwa [str_data] at this
     have hval:mapR (.int .i64 x.r)=some (.lit (.int .i64 x.r),[]):=plainElem_int Tryz.underlying3 (by simp [Lit.wf,IntKind.min,IntKind.max,IntKind.bits,IntKind.signed];omega)
     obtain ⟨w5,hrun,hown5,hg5⟩:=World.ownsMap.update (t:=107) (show wr.drew.ownsMap Tryz.prog 9 mapR mb G.rs.length (rsD G.rs) from HGe.out.map) string_keys Tryz.underlying107 (by unfold maxLen;omega) hkey hval
     have HF:Hid (AddP w b v mb (K++[(x,.slice ao n0 c)]) (addG G x) w5) :=
      ⟨v',pi,ti,by rw [HE.out];exact (HGe.out.kept (Kept.refl [] wr).drew).setMap hs hown5 hg5,HKi.out.drew.grown hg5 (fun k hk=>by cases hk;exact .inl (by simp [ownS])),HV2.out⟩
     clear HE HGe HKi HV2 hown5 hg5 hkey hval
     go_wp2_with fail
     go_region
     all_goals go_wp2_with fail
     all_goals go_returns
     all_goals exact ⟨rfl,HF.out⟩
def vdA (v:Vd) (k:Value):Array Value:=#[.int .i64 v.c,.int .i64 0,.int .i64 v.r,.string (str v.p),.int .u64 v.d,k,.int .i64 0]
theorem assert_vd (x:Array Value) (w:World):Sem.run Tryz.prog (Instr.typeAssert (.iface 69 (.agg x)) 20 69 true) w=.ok (.tuple #[.agg x,.bool true]) w:=by kernel_rfl
theorem assert_none (w:World):Sem.run Tryz.prog (Instr.typeAssert Value.nilIface 20 69 true) w=.ok (.tuple #[.agg #[.int .i64 0,.int .i64 0,.int .i64 0,.string ⟨#[]⟩,.int .u64 0,.slice none 0 0,.int .i64 0],.bool false]) w:=by kernel_rfl
theorem cells7 {w:World}{b:Nat}{v0 v1 v2 v3 v4 v5 v6:Value}{t:TypeId}(h:w.heap[b]?=some (.cells #[v0,v1,v2,v3,v4,v5,v6] t (0,0))) :
 w.cell? ⟨b,0,none⟩=some v0∧w.cell? ⟨b,1,none⟩=some v1∧w.cell? ⟨b,2,none⟩=some v2∧w.cell? ⟨b,3,none⟩=some v3∧w.cell? ⟨b,4,none⟩=some v4∧w.cell? ⟨b,5,none⟩=some v5∧w.cell? ⟨b,6,none⟩=some v6 :=
 ⟨cell_in h rfl,cell_in h rfl,cell_in h rfl,cell_in h rfl,cell_in h rfl,cell_in h rfl,cell_in h rfl⟩
def set7w (w:World) (b:Nat) (u0 u1 u2 u3 u4 u5 u6:Value):World :=
 ((((((w.setCell ⟨b,0,none⟩ u0).setCell ⟨b,1,none⟩ u1).setCell ⟨b,2,none⟩ u2).setCell ⟨b,3,none⟩ u3).setCell ⟨b,4,none⟩ u4).setCell ⟨b,5,none⟩ u5).setCell ⟨b,6,none⟩ u6
theorem set7 {w:World}{b:Nat}{v0 v1 v2 v3 v4 v5 v6:Value}{t:TypeId}(h:w.heap[b]?=some (.cells #[v0,v1,v2,v3,v4,v5,v6] t (0,0))) (u0 u1 u2 u3 u4 u5 u6:Value) :
 (set7w w b u0 u1 u2 u3 u4 u5 u6).heap[b]?=some (.cells #[u0,u1,u2,u3,u4,u5,u6] t (0,0)):=by
 have e0:(w.setCell ⟨b,0,none⟩ u0).heap[b]?=some (.cells #[u0,v1,v2,v3,v4,v5,v6] t (0,0)):=heap_setCell_same _ b 0 _ _ u0 h
 have e1:((w.setCell ⟨b,0,none⟩ u0).setCell ⟨b,1,none⟩ u1).heap[b]?=some (.cells #[u0,u1,v2,v3,v4,v5,v6] t (0,0)):=heap_setCell_same _ b 1 _ _ u1 e0
 have e2:(((w.setCell ⟨b,0,none⟩ u0).setCell ⟨b,1,none⟩ u1).setCell ⟨b,2,none⟩ u2).heap[b]?=some (.cells #[u0,u1,u2,v3,v4,v5,v6] t (0,0)):=heap_setCell_same _ b 2 _ _ u2 e1
 have e3:((((w.setCell ⟨b,0,none⟩ u0).setCell ⟨b,1,none⟩ u1).setCell ⟨b,2,none⟩ u2).setCell ⟨b,3,none⟩ u3).heap[b]?=some (.cells #[u0,u1,u2,u3,v4,v5,v6] t (0,0)):=heap_setCell_same _ b 3 _ _ u3 e2
 have e4:(((((w.setCell ⟨b,0,none⟩ u0).setCell ⟨b,1,none⟩ u1).setCell ⟨b,2,none⟩ u2).setCell ⟨b,3,none⟩ u3).setCell ⟨b,4,none⟩ u4).heap[b]?=some (.cells #[u0,u1,u2,u3,u4,v5,v6] t (0,0)):=heap_setCell_same _ b 4 _ _ u4 e3
 have e5:((((((w.setCell ⟨b,0,none⟩ u0).setCell ⟨b,1,none⟩ u1).setCell ⟨b,2,none⟩ u2).setCell ⟨b,3,none⟩ u3).setCell ⟨b,4,none⟩ u4).setCell ⟨b,5,none⟩ u5).heap[b]?=some (.cells #[u0,u1,u2,u3,u4,u5,v6] t (0,0)):=heap_setCell_same _ b 5 _ _ u5 e4
 have e6:(((((((w.setCell ⟨b,0,none⟩ u0).setCell ⟨b,1,none⟩ u1).setCell ⟨b,2,none⟩ u2).setCell ⟨b,3,none⟩ u3).setCell ⟨b,4,none⟩ u4).setCell ⟨b,5,none⟩ u5).setCell ⟨b,6,none⟩ u6).heap[b]?=some (.cells #[u0,u1,u2,u3,u4,u5,u6] t (0,0)):=heap_setCell_same _ b 6 _ _ u6 e5
 exact e6
theorem set7_kept {S:List Nat}{a w:World}(h:Kept S a w) {b:Nat}(hb:b∈S∨a.heap.size≤b) (u0 u1 u2 u3 u4 u5 u6:Value):Kept S a (set7w w b u0 u1 u2 u3 u4 u5 u6) :=
 ((((((h.setCell hb u0).setCell hb u1).setCell hb u2).setCell hb u3).setCell hb u4).setCell hb u5).setCell hb u6
theorem land_catch (w:World) (q:Nat) (x:Vd) (older:List PanicEntry) (u0 u1 u2 u3 u4 u5 u6:Value) (hq:w.heap[q]?=some (.cells #[u0,u1,u2,u3,u4,u5,u6] 69 (0,0))) :
 CallsD Tryz.prog 154 #[.pointer (some ⟨q,0,none⟩)] (.panicking ({ v:=.iface 69 (vdV x),recovered:=false } :: older)) w fun r u' w' =>
  r=.returned (.tuple #[])∧u'=.panicking ({ v:=.iface 69 (vdV x),recovered:=true } :: older)∧w'.heap[q]?=some (.cells (vdA x (.slice none 0 0)) 69 (0,0))∧Kept [q] w w':=by
 have hta:=fun W=>assert_vd (vdA x (.slice none 0 0)) W
 unfold vdA at hta
 unfold vdV vdW
 refine callsD_of_wpS Tryz.func154 rfl fun c₀ cs hu=>?_
 apply wpS_seq
 apply wpS_region
 simp [wpOpsS,go_sem,recoverD,hu,Tryz.ntmps154,Exit.thenS,Array.replicate,List.replicate,hta]
 refine wpS_of_wp ?_
 have hlt:=lt_of_at hq
 obtain ⟨c0,c1,c2,c3,c4,c5,c6⟩:=cells7 hq
 have f0:=frozen_in hq 0
 have f1:=frozen_in hq 1
 have f2:=frozen_in hq 2
 have f3:=frozen_in hq 3
 have f4:=frozen_in hq 4
 have f5:=frozen_in hq 5
 have f6:=frozen_in hq 6
 have HF:Hid (∀ ob,((set7w w q (.int .i64 x.c) (.int .i64 0) (.int .i64 x.r) (.string (str x.p)) (.int .u64 x.d) (.slice none 0 0) (.int .i64 0)).alloc ob).heap[q]?=some (.cells (vdA x (.slice none 0 0)) 69 (0,0))∧Kept [q] w ((set7w w q (.int .i64 x.c) (.int .i64 0) (.int .i64 x.r) (.string (str x.p)) (.int .u64 x.d) (.slice none 0 0) (.int .i64 0)).alloc ob)):=fun ob =>
  ⟨(show Kept [] _ _ from (Kept.refl _ _).alloc ob).at (set7 hq _ _ _ _ _ _ _) (by simp),(set7_kept (Kept.refl _ _) (by simp) _ _ _ _ _ _ _).alloc ob⟩
 clear hq
 go_wp2
 exact ⟨rfl,_,rfl,_,by simp [results,Tryz.results154,go_sem],rfl,rfl,HF.out _⟩
theorem land_idle (w:World) (q:Nat) :
 CallsD Tryz.prog 154 #[.pointer (some ⟨q,0,none⟩)] .returning w fun r u' w'=>r=.returned (.tuple #[])∧u'=.returning∧Kept [] w w':=by
 have hta:=assert_none
 have HF:Hid (∀ ob,Kept [] w (w.alloc ob)):=fun ob=>(Kept.refl _ _).alloc ob
 refine callsD_of_wpS Tryz.func154 rfl fun c₀ cs hu=>?_
 apply wpS_seq
 apply wpS_region
 simp [wpOpsS,go_sem,recoverD,hu,Tryz.ntmps154,Exit.thenS,Array.replicate,List.replicate,hta]
 refine wpS_of_wp ?_
 go_wp2
 cases c₀
 simp_all [bodyPostS,results,Tryz.results154]
 exact HF.out _
def LandP (w:World) (b:Nat) (S:List Nat) (G:Gr) (w':World):Prop:=∃ S',GAt w' b S' G∧Kept S w w'∧∀ k∈S',k∈S∨w.heap.size≤k
theorem size_vd:(Tryz.prog.info? 69).map (·.size)=some 7:=by kernel_rfl
def w0L (w:World):World:=w.alloc (.cells #[.int .i64 0,.int .i64 0,.int .i64 0,.string ⟨#[]⟩,.int .u64 0,.slice none 0 0,.int .i64 0] 69)
theorem req_none {G:Gr}{base:Int}{n:List UInt8}{L:List Ch}(h:reqV G base n L=none):badB base n L=false∧¬ (G.cs.length:Int) < base:=by
 unfold reqV at h
 by_cases h1:badB base n L=true
 ·simp [h1] at h
 by_cases h2:(G.cs.length:Int) < base
 ·simp [h1,h2] at h
 exact ⟨by simpa using h1,h2⟩
theorem req_some {G:Gr}{base:Int}{n:List UInt8}{L:List Ch}{x:Vd}(h:reqV G base n L=some x):endV G base n L=some x:=by
 unfold reqV at h
 unfold endV
 by_cases h1:badB base n L=true
 ·simp [h1] at h ⊢;exact h
 by_cases h2:(G.cs.length:Int) < base
 ·simp [h1,h2] at h ⊢;exact h
 ·simp [h1,h2] at h
theorem land_end {w:World}{b:Nat}{v:Value}{p:Option Addr}{t:Tr}{mb:Nat}{K:List (Com × Value)}{G:Gr}{w2 w3:World}{vs:Array Value}(h:GA w2 b v p t mb K G) {S:List Nat}(hS:∀ k∈S,k < w.heap.size) (hv:∀ k∈ownS b mb v,k∈S∨(w.heap.size < k))
 (hB:w2.heap[w.heap.size]?=some (.cells vs 69 (0,0))) (hK2:Kept S w w2) (hK3:Kept [w.heap.size] w2 w3):LandP w b S G w3:=by
 have hT:Typed w2 [w.heap.size] [69]:=fun k hk cur t' mk hh=>by
  simp at hk;subst hk;rw [hB] at hh;cases hh;simp
 refine ⟨ownS b mb v,⟨v,p,t,mb,K,h.keep hK3 (fun i hi hm=>?_) hT (by decide) (by decide) (by decide),rfl⟩,hK2.trans hK3 (by simp),fun k hk=>?_⟩
 ·simp at hm;subst hm
  rcases hv _ hi with h1 | h1
  ·have:=hS _ h1;omega
  ·omega
 ·rcases hv k hk with h1 | h1
  ·exact .inl h1
  ·exact .inr (by omega)
theorem land_call {w:World}{b:Nat}{v:Value}{p:Option Addr}{t:Tr}{mb:Nat}{K:List (Com × Value)}{G:Gr}(h:GA w b v p t mb K G) (hW:Wf G) (hl:G.cs.length≤10000)
 (base:Int) (n:List UInt8) (hn:n.length≤1000000) (ao:Option Addr) (m c:Nat) (L:List Ch) (hS:SlC w ao m c L) (hnil:ao=none→c=0) (hm:m≤1000000) (hp:∀ x∈L,x.p.length≤1000000000) :
 Calls Tryz.prog 120 #[.pointer (some ⟨b,0,none⟩),.int .i64 base,.string (str n),.slice ao m c] w fun e w'=>e=.returned (vdV (landV G base n L))∧LandP w b (ownS b mb v) (landG G base n L) w':=by
 have hK1:Kept [] w (w0L w):=(Kept.refl _ _).alloc _
 have hG1:=h.kept hK1
 have hblk:(w0L w).heap[w.heap.size]?=some (.cells #[.int .i64 0,.int .i64 0,.int .i64 0,.string ⟨#[]⟩,.int .u64 0,.slice none 0 0,.int .i64 0] 69 (0,0)):=heap_alloc_new w _
 have hS1:SlC (w0L w) ao m c L:=hS.kept hK1 (by simp)
 have cM:=made_call hG1
 have cR:=req_call hG1 base n (by omega) ao m c L hS1 hp
 have hmf:∀ (fn:Fn) (first cap:Array Value) (w:World),(Instr.makeFunc fn first cap).run Tryz.prog w=.ok (.func fn first cap) w:=fun _ _ _ _=>rfl
 have HG:Hid (GA w b v p t mb K G):=h
 have HG1:Hid (GA (w0L w) b v p t mb K G):=hG1
 have HS1:Hid (SlC (w0L w) ao m c L):=hS1
 have HB:Hid ((w0L w).heap[w.heap.size]?=some (.cells #[.int .i64 0,.int .i64 0,.int .i64 0,.string ⟨#[]⟩,.int .u64 0,.slice none 0 0,.int .i64 0] 69 (0,0))):=hblk
 have HL:Hid (∀ k∈ownS b mb v,k < w.heap.size):=h.lt
 clear h hG1 hS1 hblk hS
 cases hR:reqV G base n L with
 | some x =>
   obtain ⟨hv,hg⟩:=landV_some (req_some hR)
   have HV:Hid (landV G base n L=x):=hv
   have HGe:Hid (landG G base n L=G):=hg
   rw [hR] at cR
   simp only [reqE,pan] at cR
   clear hv hg hR
   unfold w0L at *
   go_enter_defers Tryz.func120,Tryz.ntmps120
   go_wp2_with fail
   refine cM.mono ?_
   rintro _ _ ⟨rfl,rfl⟩
   go_wp2_with fail
   refine cR.mono ?_
   rintro _ w2 ⟨rfl,hK2⟩
   go_wp2_with fail
   refine leaves_cons (f:=154) (args:=#[.pointer (some ⟨w.heap.size,0,none⟩)]) (by simp) (by simp [go_sem]) ?_
   refine (land_catch _ _ x [] _ _ _ _ _ _ _ (hK2.at HB.out (by simp))).mono ?_
   rintro _ u' w3 ⟨rfl,rfl,hq,hK3⟩
   refine ⟨_,results_cell_row (by rfl) _ _ w.heap.size _ _ _ _ (by rfl) hq Tryz.underlying69 rfl size_vd,?_⟩
   rw [HV.out,HGe.out]
   exact ⟨rfl,land_end (HG1.out.kept hK2) HL.out (fun k hk=>.inl hk) (hK2.at HB.out (by simp)) ((Kept.mono (hK1.trans hK2 (by simp)) (by simp))) hK3⟩
 | none =>
   obtain ⟨hbad,hle⟩:=req_none hR
   obtain ⟨hchk,hnm,hb0⟩:=badB_false hbad
   have hsc:=sortC_check.2 hchk
   have hsp:=check_short hsc
   have hs16:(sortC L).length≤16:=hsc.2.1
   rw [hR] at cR
   simp only [reqE] at cR
   have cS:=fun W (hk:Kept [] (w0L w) W)=>sorted_call W ao m c L (HS1.out.kept hk (by simp)) hnil (by omega) (fun x hx=>by have:=hp x hx;omega)
   cases hC:confl G.ls base (sortC L) with
   | some y =>
     have he:endV G base n L=some ⟨3,y.2,y.1,0⟩:=by rw [endV_conf hbad hle,hC];rfl
     obtain ⟨hv,hg⟩:=landV_some he
     have HV:Hid (landV G base n L=⟨3,y.2,y.1,0⟩):=hv
     have HGe:Hid (landG G base n L=G):=hg
     have HC:Hid (confl G.ls base (sortC L)=some y):=hC
     have HP:Hid (∀ x∈sortC L,x.p.length≤1000000000):=fun x hx=>by have:=hsp x hx;omega
     clear hv hg hR he hC hchk hsc hsp
     unfold w0L at *
     go_enter_defers Tryz.func120,Tryz.ntmps120
     go_wp2_with fail
     refine cM.mono ?_
     rintro _ _ ⟨rfl,rfl⟩
     go_wp2_with fail
     refine cR.mono ?_
     rintro _ w2 ⟨rfl,hK2⟩
     go_wp2_with fail
     refine (cS _ hK2).mono ?_
     rintro _ w3 ⟨v3,rfl,hO3,hK3⟩
     replace hK3:=hK2.trans hK3 (by simp)
     obtain ⟨a3,m3,c3,rfl,hs3,_⟩:=hO3.chV
     have cU:=unc_call (HG1.out.kept hK3) base hb0 a3 m3 c3 (sortC L) hs3 HP.out
     rw [HC.out] at cU
     simp only [uncE,pan] at cU
     clear hs3 hO3
     go_wp2_with fail
     refine cU.mono ?_
     rintro _ w4 ⟨rfl,hK4⟩
     replace hK4:=hK3.trans hK4 (by simp)
     go_wp2_with fail
     refine leaves_cons (f:=154) (args:=#[.pointer (some ⟨w.heap.size,0,none⟩)]) (by simp) (by simp [go_sem]) ?_
     refine (land_catch _ _ ⟨3,y.2,y.1,0⟩ [] _ _ _ _ _ _ _ (hK4.at HB.out (by simp))).mono ?_
     rintro _ u' w5 ⟨rfl,rfl,hq,hK5⟩
     refine ⟨_,results_cell_row (by rfl) _ _ w.heap.size _ _ _ _ (by rfl) hq Tryz.underlying69 rfl size_vd,?_⟩
     rw [HV.out,HGe.out]
     exact ⟨rfl,land_end (HG1.out.kept hK4) HL.out (fun k hk=>.inl hk) (hK4.at HB.out (by simp)) ((Kept.mono (hK1.trans hK4 (by simp)) (by simp))) hK5⟩
   | none =>
     have he:endV G base n L=none:=by rw [endV_conf hbad hle,hC];rfl
     obtain ⟨hv,hg⟩:=landV_none he
     have HV:Hid (landV G base n L=⟨2,(G.cs.length:Int)+1,[],0⟩):=hv
     have HGe:Hid (landG G base n L=addG G (newC G base n L)):=hg
     have HC:Hid (confl G.ls base (sortC L)=none):=hC
     have HP:Hid (∀ x∈sortC L,x.p.length≤1000000000):=fun x hx=>by have:=hsp x hx;omega
     have hkl:K.length≤1000000:=by have h1:=congrArg List.length HG.out.com;simp at h1;omega
     have hll:G.ls.length≤1000000000:=by have:=hW.many;omega
     have hrl:G.rs.length≤1000000:=by have:=hW.refs;omega
     have hSr:=hW.srs
     have cT:=fun W=>tree_clone n W (by omega)
     clear hv hg hR he hC hchk hsc hsp
     unfold w0L at *
     go_enter_defers Tryz.func120,Tryz.ntmps120
     go_wp2_with fail
     refine cM.mono ?_
     rintro _ _ ⟨rfl,rfl⟩
     go_wp2_with fail
     refine cR.mono ?_
     rintro _ w2 ⟨rfl,hK2⟩
     go_wp2_with fail
     refine (cS _ hK2).mono ?_
     rintro _ w3 ⟨v3,rfl,hO3,hK3⟩
     replace hK3:=hK2.trans hK3 (by simp)
     obtain ⟨a3,m3,c3,rfl,hs3,_⟩:=hO3.chV
     have cU:=unc_call (HG1.out.kept hK3) base hb0 a3 m3 c3 (sortC L) hs3 HP.out
     rw [HC.out] at cU
     simp only [uncE] at cU
     have HO3:Hid (OwnC 0 w3 (.slice a3 m3 c3) (sortC L)):=hO3.mono (Nat.zero_le _)
     clear hs3 hO3
     go_wp2_with fail
     refine cU.mono ?_
     rintro _ w4 ⟨rfl,hK4⟩
     replace HO3:Hid (OwnC 0 w4 (.slice a3 m3 c3) (sortC L)):=HO3.out.kept hK4
     replace hK4:=hK3.trans hK4 (by simp)
     have cH:=head_call (HG1.out.kept hK4)
     go_wp2_with fail
     refine cH.mono ?_
     rintro _ _ ⟨rfl,rfl⟩
     go_wp2_with fail
     refine (cT _).mono ?_
     rintro _ w5 ⟨rfl,hK5⟩
     replace HO3:Hid (OwnC 0 w5 (.slice a3 m3 c3) (sortC L)):=HO3.out.kept hK5
     replace hK5:=hK4.trans hK5 (by simp)
     have hKa:=(Kept.refl [] w5).alloc (.cells #[.int .i64 ((G.cs.length:Int)+1),.int .i64 base,.string (str n),.slice a3 m3 c3] 76)
     have hbox:=heap_alloc_new w5 (.cells #[.int .i64 ((G.cs.length:Int)+1),.int .i64 base,.string (str n),.slice a3 m3 c3] 76)
     have cA:=add_call ((HG1.out.kept hK5).kept hKa) (newC G base n L) (.slice a3 m3 c3) (HO3.out.kept hKa) hkl HP.out (by show (sortC L).length≤_;omega) hll (by show 0≤(G.cs.length:Int)+1∧(G.cs.length:Int)+1≤1000000000;omega) hn hSr hrl
     simp only [newC] at cA
     clear cM cR cS cU cH cT
     go_wp2_with fail
     refine cA.mono ?_
     rintro _ w6 ⟨rfl,v6,p6,t6,hG6,hK6,hv6⟩
     have hsz5:w.heap.size+1≤w5.heap.size:=by have:=hK5.size;simp at this;omega
     have hK7:=hK5.trans hKa (by simp)
     have hB6:=hK6.at (hK7.at HB.out (by simp)) (fun hm=>by have:=HL.out _ hm;omega)
     have hX6:=hK6.at hbox (fun hm=>by have:=HL.out _ hm;omega)
     obtain ⟨x0,x1,x2,x3⟩:=cells4 hX6
     obtain ⟨r0,r1,r2,r3,r4,r5,r6⟩:=cells7 hB6
     have f0:=frozen_in hB6 0
     have f1:=frozen_in hB6 1
     have f2:=frozen_in hB6 2
     have f3:=frozen_in hB6 3
     have f4:=frozen_in hB6 4
     have f5:=frozen_in hB6 5
     have f6:=frozen_in hB6 6
     have HG6:Hid (GA w6 b v6 p6 t6 mb (K++[(newC G base n L,.slice a3 m3 c3)]) (addG G (newC G base n L))):=hG6
     have HK6:Hid (Kept (ownS b mb v) w w6):=(Kept.mono (hK1.trans hK7 (by simp)) (by simp)).trans hK6 (fun i hi=>.inl hi)
     have HB6:Hid (w6.heap[w.heap.size]?=some (.cells #[.int .i64 0,.int .i64 0,.int .i64 0,.string ⟨#[]⟩,.int .u64 0,.slice none 0 0,.int .i64 0] 69 (0,0))):=hB6
     have HV6:Hid (∀ k∈ownS b mb v6,k∈ownS b mb v∨w.heap.size < k):=fun k hk=>by
      rcases List.mem_cons.1 hk with rfl | hk
      ·exact .inl (by simp [ownS])
      rcases List.mem_cons.1 hk with rfl | hk
      ·exact .inl (by simp [ownS])
      ·rcases hv6 k (mem_own.1 hk) with h1 | h1
       ·exact .inl (by simp [ownS,h1])
       ·exact .inr (by simp at h1;omega)
     clear hG6 hK6 hB6 hX6 hv6 hbox hKa hK7 HO3 cA hK5 hK4 hK3 hK2
     go_wp2_with fail
     refine leaves_cons (f:=154) (args:=#[.pointer (some ⟨w.heap.size,0,none⟩)]) (by simp) (by simp [go_sem]) ?_
     refine (land_idle _ _).mono ?_
     rintro _ u' w8 ⟨rfl,rfl,hK8⟩
     have hs7:=hK8.at (set7 HB6.out (.int .i64 2) (.int .i64 0) (.int .i64 ((G.cs.length:Int)+1)) (.string ⟨#[]⟩) (.int .u64 0) (.slice none 0 0) (.int .i64 0)) (by simp)
     refine ⟨_,results_cell_row (by rfl) _ _ w.heap.size _ _ _ _ (by rfl) hs7 Tryz.underlying69 rfl size_vd,?_⟩
     rw [HV.out,HGe.out]
     refine ⟨rfl,land_end HG6.out HL.out HV6.out HB6.out HK6.out ?_⟩
     exact (set7_kept (Kept.refl [w.heap.size] w6) (by simp) _ _ _ _ _ _ _).trans hK8 (by simp)
end Go.Proofs.YtddhmfildfdbdaaGreat
