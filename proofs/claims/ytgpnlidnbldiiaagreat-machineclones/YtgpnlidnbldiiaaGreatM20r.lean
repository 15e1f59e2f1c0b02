/-
  Texts of this claim that are laid as one: GrLib, GrClG, GrCl1, GrCl2, GrCl3.
-/
import Derived.Test.YtgpnlidnbldiiaaGreatLay
import Derived.Test.YtgpnlidnbldiiaaGreatQ9r
import Derived.Test.YtgpnlidnbldiiaaGreatQ11r
import Derived.Handy
import Derived.Test.YtgpnlidnbldiiaaGreatM12r
import Derived.Laws.AppendOwnNone
import Derived.Deep.RegionHeld3
import Derived.Test.YtgpnlidnbldiiaaGreatQ2r
set_option maxHeartbeats 16000000
/-
 The keys of a map of refs,sorted;a map of refs,cloned.
-/
namespace Go.Proofs.YtgpnlidnbldiiaaGreat
open Go.RowKit Go.Maps Go.Sort Go.Shelf
theorem mclone_call (w:World) (b:Nat) (n:Nat) (D:DataW Unit) (hown:w.ownsMap Tryz.prog 9 mapR b n D) :
 Calls Tryz.prog 113 #[.map (some b)] w fun e w'=>∃ mb,e=.returned (.map (some mb))∧w.heap.size≤mb∧w'.ownsMap Tryz.prog 9 mapR mb n D∧Kept [] w w':=by
 refine (AnyW.maps_Clone_owns Tryz.cloneZ 9 mapR b n D w hown).mono ?_
 rintro e w' ⟨rfl,h1,h2,h3⟩
 exact ⟨_,rfl,Nat.le_refl _,h1,Kept.of_below h3⟩
end Go.Proofs.YtgpnlidnbldiiaaGreat
namespace Go.Proofs.YtgpnlidnbldiiaaGreat
open Go.RowKit
theorem row_slice {B:Nat}{w:World}{v:Value}{K:List (Com × Value)}(h:RowK B w v K):∃ ao n c,v=.slice ao n c:=by
 obtain ⟨_,h2⟩:=h
 rcases h2 with ⟨h3,_⟩ | ⟨g,cap,cur,h3,_⟩
 ·exact ⟨_,_,_,h3⟩
 ·exact ⟨_,_,_,h3⟩
def ClP (w:World) (G:Gr) (e:Ending) (w':World):Prop:=∃ b S,e=.returned (.pointer (some ⟨b,0,none⟩))∧GAt w' b S G∧Kept [] w w'∧∀ k∈S,w.heap.size≤k
theorem clone_end {w w4:World}{b b2 mb:Nat}{v v':Value}{p:Option Addr}{t:Tr}{K:List (Com × Value)}{G:Gr}(h:GA w b v p t mb K G) (hK:Kept [] w w4) (hR:RowK w.heap.size w4 v' K) (hm:w4.ownsMap Tryz.prog 9 mapR b2 G.rs.length (rsD G.rs)) (hb2:w.heap.size≤b2) :
 Hid (GAt (w4.alloc (.cells #[v',.pointer p,.map (some b2)] 131)) w4.heap.size (ownS w4.heap.size b2 v') G∧Kept [] w (w4.alloc (.cells #[v',.pointer p,.map (some b2)] 131))∧∀ k∈ownS w4.heap.size b2 v',w.heap.size≤k):=by
 have ha:=(Kept.refl [] w4).alloc (.cells #[v',.pointer p,.map (some b2)] 131)
 have h4:=(h.kept hK).kept ha
 refine ⟨⟨v',p,t,b2,K,⟨heap_alloc_new _ _,?_,h4.own,h4.com,h4.tree,h4.some_,h4.list,h4.good,map_kept ha hm (by simp)⟩,rfl⟩,hK.trans ha (by simp),fun k hk=>?_⟩
 ·obtain ⟨h1,h2⟩:=ha.ownsRow hR (by simp)
  exact ⟨h1,h2.imp id fun ⟨g,cap,cur,hv,hg,r⟩=>⟨g,cap,cur,hv,Nat.zero_le _,r⟩⟩
 ·rcases List.mem_cons.1 hk with rfl | hk
  ·exact hK.size
  rcases List.mem_cons.1 hk with rfl | hk
  ·exact hb2
  ·exact (World.ownsRow.lt hR k (mem_own.1 hk)).1
theorem gclone_call {w:World}{b:Nat}{v:Value}{p:Option Addr}{t:Tr}{mb:Nat}{K:List (Com × Value)}{G:Gr}(h:GA w b v p t mb K G) (hl:G.cs.length≤10000) :
 Calls Tryz.prog 64 #[.pointer (some ⟨b,0,none⟩)] w fun e w'=>ClP w G e w':=by
 obtain ⟨ao,c,rfl,hs,hnil⟩:=h.row.sl h.own
 have hkl:K.length=G.cs.length:=by rw [← h.com];simp
 have cM:=made_call h
 have cK:=fun W (hk:Kept [] w W)=>cloneK_call W ao K.length c K (hs.kept hk) hnil (by omega)
 have cC:=fun W (hk:Kept [] w W)=>mclone_call W mb G.rs.length (rsD G.rs) (h.kept hk).map
 obtain ⟨c0,c1,c2⟩:=cells3 h.at_
 have HG:Hid (GA w b (.slice ao K.length c) p t mb K G):=h
 obtain ⟨n,hn⟩:∃ n,n=K.length:=⟨_,rfl⟩
 rw [← hn] at c0 cK
 clear h hs hnil hkl hl hn
 go_enter Tryz.func64,Tryz.ntmps64
 go_wp2_with fail
 refine cM.mono ?_
 rintro _ W ⟨rfl,hW0⟩
 obtain rfl:=hW0.symm
 go_wp2_with fail
 go_region_held3 (fun w'=>w'.cell? ⟨b,0,none⟩=some (.slice ao n c)∧w'.cell? ⟨b,1,none⟩=some (.pointer p)∧w'.cell? ⟨b,2,none⟩=some (.map (some mb)))
  (first | go_keep | exact ⟨hK4.cell c0 (by simp),hK4.cell c1 (by simp),hK4.cell c2 (by simp)⟩ | exact ⟨hK3.cell c0 (by simp),hK3.cell c1 (by simp),hK3.cell c2 (by simp)⟩)
  (first
    | (go_at_call 112;refine (cK _ ?_).mono ?_;exact (Kept.refl [] _).drew;rintro e w3 ⟨v3,rfl,hR3,hK3⟩;obtain ⟨ao3,n3,c3,rfl⟩:=row_slice hR3;replace hK3:=(Kept.refl [] w).drew.trans hK3 (by simp))
    | (go_at_call 113;refine (cC _ hK3).mono ?_;rintro e w4 ⟨mb4,rfl,hlt4,hm4,hK4'⟩;have hK4:=hK3.trans hK4' (by simp)))
 have HE:=clone_end (b2:=mb4) (v':=.slice ao3 n3 c3) HG.out hK4 (hK4'.ownsRow hR3 (by simp)) hm4 (Nat.le_trans hK3.size hlt4)
 clear hR3 hm4 hK4' hK3 hK4
 go_wp2_with fail
 go_ret
 exact ⟨_,_,rfl,HE.out.1,HE.out.2.1,HE.out.2.2⟩
def CcI (w:World) (cs:List Com) (ov iv:Value) (wr:World):Prop :=
 ∃ (j:Nat) (K':List (Com × Value)),iv=.int .i64 (j:Int)∧j≤cs.length∧Hid (K'.map Prod.fst=cs.take j)∧Hid (RowK w.heap.size wr ov K')∧Hid (OwnK w.heap.size wr K')∧Hid (Kept [] w wr)
set_option maxRecDepth 100000 in
theorem mcopies_call (w:World) (aoC:Option Addr) (gl cpC:Nat) {K:List (Com × Value)}{cs:List Com}(hs:SlK w aoC gl cpC K) (hcom:K.map Prod.fst=cs) (hne:∀ x∈cs,x.c≠[]∧x.c.length≤1000000) (hl:gl≤1000000) :
 Calls Tryz.prog 93 #[.slice aoC gl cpC] w fun e w'=>CopP w cs e w':=by
 have hgl:=hs.1
 have hcp:=hs.2.1
 have hcm:=hs.2.2.1
 unfold maxLen at hcm
 have HSK:=hid_of hs
 have HCom:=hid_of hcom
 have HKl:=hid_of hgl
 have HNe:=hid_of hne
 have HCl:Hid (cs.length=gl):=by show _=_;rw [← hcom];simpa using hgl
 clear hs hcom hgl hne
 go_enter Tryz.func93,Tryz.ntmps93
 go_wp2_with fail
 go_loopw [3,4] (fun ov iv wr=>CcI w cs ov iv wr) (fun _ iv _=>gl - (intOf iv).toNat)
 case atStart=>exact ⟨0,[],rfl,Nat.zero_le _,rfl,RowK.nil _ _,fun x hx=>(by cases hx),Kept.refl _ _⟩
 case round =>
  obtain ⟨j,K',rfl,hj,HM,HR,HO,HK⟩:=hrel
  by_cases hlt:j < gl
  ·have hlt':(j:Int) < gl:=by omega
   have hjc:j≤cpC:=by omega
   have hjK:j < K.length:=by rw [HKl.out];exact hlt
   have hjg:j < cs.length:=by rw [HCl.out];exact hlt
   have HCk:Hid (K[j].1=cs[j]):=by
    show K[j].1=cs[j]
    have h1:(K.map Prod.fst)[j]'(by simpa using hjK)=cs[j]:=by simp only [HCom.out]
    simpa using h1
   obtain ⟨g4,o4,he4,hx4⟩:=(HSK.out.kept HK.out).2.2.2.1 j hjK
   obtain ⟨mo,mm,mc,hm2,hsl,_⟩:=(HSK.out.kept HK.out).2.2.2.2 _ (List.getElem_mem hjK)
   subst he4
   obtain ⟨h40,h41,h42,h43⟩:=hx4
   rw [hm2] at h43
   rw [HCk.out] at h40 h41 h42 hsl
   have hwc:=HNe.out cs[j] (List.getElem_mem hjg)
   have HNx:Hid (cs.take (j+1)=cs.take j++[cs[j]]):=List.take_succ_eq_append_getElem hjg
   have cK:=copyc_call wr cs[j] mo mm mc hsl hwc.1 (by have h2:=hsl.1;omega)
   obtain ⟨ck,hck⟩:∃ ck,ck=cs[j]:=⟨_,rfl⟩
   rw [← hck] at h40 h41 h42 cK HNx
   have hlenK:K'.length≤1000000000:=by have h:=congrArg List.length HM.out;simp at h;omega
   clear hwc hsl hck HCk hjg hjK hm2
   go_wp2_with fail
   refine cK.mono ?_
   rintro _ w5 ⟨v5,rfl,hO5,hK5⟩
   obtain ⟨a5,n5,c5,rfl,_,_⟩:=hO5.chV
   have hR5:RowK w.heap.size w5 u3 K':=hK5.ownsRow HR.out (by simp)
   have HR5:=fun ob=>World.ownsRow.alloc hR5 ob
   have hsz5:w.heap.size≤w5.heap.size:=by have h2:=HK.out.size;have h3:=hK5.size;omega
   have hszr:w.heap.size≤wr.heap.size:=HK.out.size
   have HF:Hid (∀ v6 w6,RowK w.heap.size w6 v6 (K'++[(ck,.slice a5 n5 c5)])→(w5.alloc (.cells #[.int .i64 ck.r,.int .i64 ck.b,.string (str ck.n),.slice a5 n5 c5] 137)).grownBy w6 u3.ownBlock→CcI w cs v6 (.int .i64 ((j+1:Nat):Int)) w6):=fun v6 w6 h1 h2=>by
    have hRa:=HR5 (.cells #[.int .i64 ck.r,.int .i64 ck.b,.string (str ck.n),.slice a5 n5 c5] 137)
    have hKa:=(Kept.refl [] w5).alloc (.cells #[.int .i64 ck.r,.int .i64 ck.b,.string (str ck.n),.slice a5 n5 c5] 137)
    refine ⟨j+1,_,rfl,by rw [HCl.out];omega,?_,h1,?_,?_⟩
    ·show _=_
     rw [List.map_append,HM.out,HNx.out];rfl
    ·intro x hx
     rcases List.mem_append.1 hx with hx | hx
     ·exact row_other hRa h2 (hKa.ownsRow (hK5.ownsRow (HO.out x hx) (by simp)) (by simp)) (by decide)
     ·simp at hx;subst hx
      exact row_other hRa h2 (hKa.ownsRow (hO5.mono hszr) (by simp)) (by decide)
    ·exact (((HK.out.trans hK5 (by simp)).trans hKa (by simp))).grown h2 fun k hk=>.inr (World.ownsRow.lt hRa k hk).1
   clear hO5 hK5 hR5 cK
   go_wp2_with (at_builtin;refine wp_appKB rfl _ _ rfl w.heap.size _ K' rfl (HR5 _) w5.heap.size (ck,.slice a5 n5 c5) rfl (heap_alloc_new _ _) rfl hlenK (by simp;omega) ?b1)
   case b1 =>
    intro v6 w6 hO6 hg6
    have HF2:=hid_of (HF.out v6 w6 hO6 hg6)
    clear hO6 hg6 HR5
    go_wp2_with fail
    go_roundw
    case rel=>exact HF2.out
    case measure=>(simp [intOf] <;> omega)
  ·have hlt':¬ (j:Int) < gl:=by omega
   have HE:Hid (K'.map Prod.fst=cs):=by have h:=HM.out;rw [List.take_of_length_le (by rw [HCl.out];omega)] at h;exact h
   go_wp2_with fail
   go_ret
   exact ⟨_,K',rfl,HE.out,HR.out,HO.out,HK.out⟩
theorem step_app_row {P:Program}{w:World}{ops:Array Oper}{o:Oper}{a:Act}{Kk:Act→World→Prop}{Q:Exit→Act→World→Prop}{E:Prop}(hgd:o.guard=none) (s x:Operand) (t:TypeId)
 (ho:o.op=.call { callee:=.builtin .append,args:=#[s,x],argTypes:=#[t,t] })
 (base:Nat) (e:TypeId) (i:TypeInfo) (z:Value) (size bytes:Nat) (ht:P.underlying t=some (.slice e)) (hi:P.info? e=some i) (hz:i.zero=some z)
 (hsize:i.size=size) (hby:i.bytes=bytes) (hzs:z.cells.size=size) (hsz:0 < size)
 (v:Value) (n:Nat) (xs:List Value) (hs:a.eval s=v) (hown:w.ownsRow base e size v n xs)
 (B0:Nat) (vx:Value) (m:Nat) (ys:List Value) (hx:a.eval x=vx) (hsrc:w.ownsRow B0 e size vx m ys) (h1:∀ u∈ys,u.oneCell'=true)
 (h63:n+m≤maxLen) (hbytes:(n+m)*bytes≤140737488355328) (hbase:base≤w.heap.size)
 (h:∀ v' w',w'.ownsRow base e size v' (n+m) (xs++ys)→w.grownBy w' v.ownBlock→(m=0→v'=v)→Kk (a.put o.dst v') w') :
 if Region.wanted o (yielded ops a.tmps)=true then Oper.wp P o a w Kk Q else E:=by
 have hw:Region.wanted o (yielded ops a.tmps)=true:=by simp [Region.wanted,hgd]
 rw [if_pos hw]
 have hsrc':=hsrc
 obtain ⟨hl,h2⟩:=hsrc
 rcases h2 with ⟨rfl,rfl⟩ | ⟨g,cap,cur,rfl,_,_,_⟩
 ·have hy:ys=[]:=by simpa using hl
  subst hy
  have hrun:=run_append_owned_none (P:=P) (w:=w) base t o.type e i size ht hi v n xs hown
  unfold Oper.wp
  simp [execOp,ho,resolve,invoke,builtin,hs,hx,hrun,Result.andThen]
  exact h v w (by simpa using hown) (World.grownBy.refl _ _) (fun _=>rfl)
 ·by_cases hm0:m=0
  ·subst hm0
   have hy:ys=[]:=by simpa using hl
   subst hy
   have hrun:(Builtin.append_ #[t,t] o.type #[v,.slice (some ⟨g,0,none⟩) 0 cap]).run P w=.ok v w:=by
    rcases hown.2 with ⟨rfl,rfl⟩ | ⟨g',cap',cur',rfl,_,_,hnc,_⟩
    ·simp [Builtin.append_,run_underlying ht,sizeOf,typeInfo,hi,Builtin.lenOf,Builtin.firstCells,loadCells,loadCellsFrom]
    ·simp [Builtin.append_,run_underlying ht,sizeOf,typeInfo,hi,Builtin.lenOf,Builtin.firstCells,hnc,storeCells,loadCells,loadCellsFrom]
   unfold Oper.wp
   simp [execOp,ho,resolve,invoke,builtin,hs,hx,hrun,Result.andThen]
   exact h v w (by simpa using hown) (World.grownBy.refl _ _) (fun _=>rfl)
  ·exact wp_append_own w s x t ho base e i z size bytes ht hi hz hsize hby hzs hsz v n xs hs hown ⟨g,0,none⟩ m cap ys hx hl (hsrc'.cells rfl) h1 h63 hbytes hbase (fun v' w' h3 h4 _=>h v' w' h3 h4 (fun h0=>absurd h0 hm0))
theorem step_appL {w:World}{ops:Array Oper}{o:Oper}{a:Act}{Kk:Act→World→Prop}{Q:Exit→Act→World→Prop}{E:Prop}(hgd:o.guard=none) (s x:Operand)
 (hop:o.op=.call { callee:=.builtin .append,args:=#[s,x],argTypes:=#[77,77] })
 (B:Nat) (v:Value) (M:List Lf) (hs:a.eval s=v) (hO:OwnL B w v M) {B0:Nat}(vx:Value) {N:List Lf}(hx:a.eval x=vx) (hS:OwnL B0 w vx N) (hlen:M.length+N.length≤1000000000000) (hB:B≤w.heap.size)
 (h:∀ v' w',OwnL B w' v' (M++N)→w.grownBy w' v.ownBlock→(N=[]→v'=v)→Kk (a.put o.dst v') w'):if Region.wanted o (yielded ops a.tmps)=true then Oper.wp Tryz.prog o a w Kk Q else E:=by
 obtain ⟨i0,hi,hz0,hz1,hz2⟩:=info_parts info_leaf
 refine step_app_row hgd s x 77 hop B 141 i0 (.agg #[.string ⟨#[]⟩,.int .u64 0,.int .i64 0,.bool false]) 4 40 Tryz.underlying77 hi hz0 hz1 hz2 rfl (by decide) v M.length (M.flatMap lfC) hs hO B0 vx N.length (N.flatMap lfC) hx hS (one_cells N) (by unfold maxLen;omega) (by omega) hB ?_
 intro v' w' h1 h2 h3
 refine h v' w' ?_ h2 (fun hN=>h3 (by simp [hN]))
 unfold OwnL
 rw [List.length_append,List.flatMap_append]
 exact h1
theorem one_refs (L:List (List UInt8 × Int)):∀ u∈L.flatMap rfC,u.oneCell'=true:=by
 intro u hu
 obtain ⟨x,hx,hu⟩:=List.mem_flatMap.1 hu
 simp [rfC] at hu
 rcases hu with rfl | rfl <;> rfl
theorem step_appM {w:World}{ops:Array Oper}{o:Oper}{a:Act}{Kk:Act→World→Prop}{Q:Exit→Act→World→Prop}{E:Prop}(hgd:o.guard=none) (s x:Operand)
 (hop:o.op=.call { callee:=.builtin .append,args:=#[s,x],argTypes:=#[80,80] })
 (B:Nat) (v:Value) (M:List (List UInt8 × Int)) (hs:a.eval s=v) (hO:OwnM B w v M) {B0:Nat}(vx:Value) {N:List (List UInt8 × Int)}(hx:a.eval x=vx) (hS:OwnM B0 w vx N) (hlen:M.length+N.length≤1000000000) (hB:B≤w.heap.size)
 (h:∀ v' w',OwnM B w' v' (M++N)→w.grownBy w' v.ownBlock→(N=[]→v'=v)→Kk (a.put o.dst v') w'):if Region.wanted o (yielded ops a.tmps)=true then Oper.wp Tryz.prog o a w Kk Q else E:=by
 obtain ⟨i0,hi,hz0,hz1,hz2⟩:=info_parts info_refM
 refine step_app_row hgd s x 80 hop B 204 i0 (.agg #[.string ⟨#[]⟩,.int .i64 0]) 2 24 Tryz.underlying80 hi hz0 hz1 hz2 rfl (by decide) v M.length (M.flatMap rfC) hs hO B0 vx N.length (N.flatMap rfC) hx hS (one_refs N) (by unfold maxLen;omega) (by omega) hB ?_
 intro v' w' h1 h2 h3
 refine h v' w' ?_ h2 (fun hN=>h3 (by simp [hN]))
 unfold OwnM
 rw [List.length_append,List.flatMap_append]
 exact h1
theorem own_voidM (w:World) (B:Nat) (hB:B≤w.heap.size):OwnM B (w.alloc (.cells #[] 204)) (.slice (some ⟨w.heap.size,0,none⟩) 0 0) [] :=
 ⟨rfl,.inr ⟨w.heap.size,0,#[],rfl,hB,heap_alloc_new w _,Nat.le_refl _,Nat.zero_le _,rfl,rfl⟩⟩
def ComR (B:Nat) (w:World) (cs:List Com) (v:Value):Prop:=∃ K,K.map Prod.fst=cs∧RowK B w v K∧OwnK B w K
theorem comR_of {B C:Nat}{w:World}{cs:List Com}{v:Value}{K:List (Com × Value)}(h1:K.map Prod.fst=cs) (h2:RowK C w v K) (h3:OwnK C w K) (hB:B≤C):ComR B w cs v:=by
 refine ⟨K,h1,?_,fun x hx=>(h3 x hx).mono hB⟩
 obtain ⟨h4,h5⟩:=h2
 exact ⟨h4,h5.imp id fun ⟨g,cap,cur,hv,hg,r⟩=>⟨g,cap,cur,hv,by omega,r⟩⟩
theorem comR_kept {B:Nat}{w w':World}{cs:List Com}{v:Value}(h:ComR B w cs v) (k:Kept [] w w'):ComR B w' cs v:=by
 obtain ⟨K,h1,h2,h3⟩:=h
 exact ⟨K,h1,k.ownsRow h2 (by simp),fun x hx=>k.ownsRow (h3 x hx) (by simp)⟩
theorem ownL_kept {B:Nat}{w w':World}{v:Value}{L:List Lf}(h:OwnL B w v L) (k:Kept [] w w'):OwnL B w' v L:=k.ownsRow h (by simp)
theorem ownM_kept {B:Nat}{w w':World}{v:Value}{L:List (List UInt8 × Int)}(h:OwnM B w v L) (k:Kept [] w w'):OwnM B w' v L:=k.ownsRow h (by simp)
theorem comRL_other {B B2:Nat}{w w':World}{cs:List Com}{v v2:Value}{L:List Lf}(h:OwnL B w v L) (hg:w.grownBy w' v.ownBlock) (h2:ComR B2 w cs v2):ComR B2 w' cs v2:=by
 obtain ⟨K,h3,h4,h5⟩:=h2
 exact ⟨K,h3,row_other h hg h4 (by decide),fun x hx=>row_other h hg (h5 x hx) (by decide)⟩
theorem comRM_other {B B2:Nat}{w w':World}{cs:List Com}{v v2:Value}{L:List (List UInt8 × Int)}(h:OwnM B w v L) (hg:w.grownBy w' v.ownBlock) (h2:ComR B2 w cs v2):ComR B2 w' cs v2:=by
 obtain ⟨K,h3,h4,h5⟩:=h2
 exact ⟨K,h3,row_other h hg h4 (by decide),fun x hx=>row_other h hg (h5 x hx) (by decide)⟩
theorem ownML_other {B B2:Nat}{w w':World}{v v2:Value}{L:List Lf}{M:List (List UInt8 × Int)}(h:OwnL B w v L) (hg:w.grownBy w' v.ownBlock) (h2:OwnM B2 w v2 M):OwnM B2 w' v2 M:=row_other h hg h2 (by decide)
theorem ownLM_other {B B2:Nat}{w w':World}{v v2:Value}{L:List Lf}{M:List (List UInt8 × Int)}(h:OwnM B w v M) (hg:w.grownBy w' v.ownBlock) (h2:OwnL B2 w v2 L):OwnL B2 w' v2 L:=row_other h hg h2 (by decide)
theorem ownL_slice {B:Nat}{w:World}{v:Value}{L:List Lf}(h:OwnL B w v L):∃ a n c,v=.slice a n c:=by
 obtain ⟨_,h2⟩:=h
 rcases h2 with ⟨h3,_⟩ | ⟨g,cap,cur,h3,_⟩ <;> exact ⟨_,_,_,h3⟩
theorem ownM_slice {B:Nat}{w:World}{v:Value}{L:List (List UInt8 × Int)}(h:OwnM B w v L):∃ a n c,v=.slice a n c:=by
 obtain ⟨_,h2⟩:=h
 rcases h2 with ⟨h3,_⟩ | ⟨g,cap,cur,h3,_⟩ <;> exact ⟨_,_,_,h3⟩
theorem size_gr:(Tryz.prog.info? 82).map (·.size)=some 3:=by kernel_rfl
theorem gr_result {w:World}{g:Nat}{cs:Array Value}{fn:Func}{p:Tmp}(hr:fn.results=#[.cell p 82]) (tmps:Array Value) (hp:tmps.getD p undef=.pointer (some ⟨g,0,none⟩)) (hg:w.heap[g]?=some (.cells cs 82 (0,0))) (hs:cs.size=3) :
 (results fn tmps).run Tryz.prog w=.ok (.agg cs) w :=
 results_cell_row hr tmps w g _ cs _ _ hp hg Tryz.underlying82 rfl (by rw [hs];exact size_gr)
theorem set3 {w:World}{b:Nat}{v0 v1 v2:Value}{t:TypeId}(h:w.heap[b]?=some (.cells #[v0,v1,v2] t (0,0))) (u0 u1 u2:Value) :
 (((w.setCell ⟨b,0,none⟩ u0).setCell ⟨b,1,none⟩ u1).setCell ⟨b,2,none⟩ u2).heap[b]?=some (.cells #[u0,u1,u2] t (0,0)) :=
 heap_setCell_same _ b 2 _ _ u2 (heap_setCell_same _ b 1 _ _ u1 (heap_setCell_same w b 0 _ _ u0 h))
theorem mcl_keep {w:World}{h0:Nat}{v0 v1 v2 x0 x1 x2 u0 u1 u2:Value}(_hz:w.heap[h0+1]?=some (.cells #[v0,v1,v2] 82 (0,0))) (h:w.cell? ⟨h0,0,none⟩=some x0∧w.cell? ⟨h0,1,none⟩=some x1∧w.cell? ⟨h0,2,none⟩=some x2) :
 (((w.setCell ⟨h0+1,0,none⟩ u0).setCell ⟨h0+1,1,none⟩ u1).setCell ⟨h0+1,2,none⟩ u2).cell? ⟨h0,0,none⟩=some x0∧(((w.setCell ⟨h0+1,0,none⟩ u0).setCell ⟨h0+1,1,none⟩ u1).setCell ⟨h0+1,2,none⟩ u2).cell? ⟨h0,1,none⟩=some x1∧(((w.setCell ⟨h0+1,0,none⟩ u0).setCell ⟨h0+1,1,none⟩ u1).setCell ⟨h0+1,2,none⟩ u2).cell? ⟨h0,2,none⟩=some x2:=by
 have hk:Kept [h0+1] w (((w.setCell ⟨h0+1,0,none⟩ u0).setCell ⟨h0+1,1,none⟩ u1).setCell ⟨h0+1,2,none⟩ u2):=(((Kept.refl _ _).setCell (.inl (by simp)) _).setCell (.inl (by simp)) _).setCell (.inl (by simp)) _
 exact ⟨hk.cell h.1 (by simp),hk.cell h.2.1 (by simp),hk.cell h.2.2 (by simp)⟩
theorem mcl_end {w W0 w4:World}{B:Nat}{v vL vR:Value}{G:Gr}{zs:Array Value}(hK0:Kept [] w W0) (hK:Kept [] W0 w4) (hBw:w.heap.size≤B) (hZ:w4.heap[w.heap.size+1]?=some (.cells zs 82 (0,0)))
 (hR:ComR B w4 G.cs v) (hL:OwnL B w4 vL G.ls) (hM:OwnM B w4 vR G.rs) (hN:NilV G.ls vL) :
 Hid ((∃ M,MAt ((((w4.setCell ⟨w.heap.size+1,0,none⟩ v).setCell ⟨w.heap.size+1,1,none⟩ vL).setCell ⟨w.heap.size+1,2,none⟩ vR).alloc (.cells #[v,vL,vR] 82)) (((w4.setCell ⟨w.heap.size+1,0,none⟩ v).setCell ⟨w.heap.size+1,1,none⟩ vL).setCell ⟨w.heap.size+1,2,none⟩ vR).heap.size M G∧∀ k∈M,w.heap.size≤k)∧Kept [] w (((w4.setCell ⟨w.heap.size+1,0,none⟩ v).setCell ⟨w.heap.size+1,1,none⟩ vL).setCell ⟨w.heap.size+1,2,none⟩ vR)):=by
 have hk:Kept [w.heap.size+1] w4 (((w4.setCell ⟨w.heap.size+1,0,none⟩ v).setCell ⟨w.heap.size+1,1,none⟩ vL).setCell ⟨w.heap.size+1,2,none⟩ vR):=(((Kept.refl _ _).setCell (.inl (by simp)) _).setCell (.inl (by simp)) _).setCell (.inl (by simp)) _
 have hT:Typed w4 [w.heap.size+1] [82]:=fun k hk cur t' mk hh=>by
  rw [List.mem_singleton] at hk;subst hk;rw [hZ] at hh;cases hh;simp
 have ha:=(Kept.refl [] (((w4.setCell ⟨w.heap.size+1,0,none⟩ v).setCell ⟨w.heap.size+1,1,none⟩ vL).setCell ⟨w.heap.size+1,2,none⟩ vR)).alloc (.cells #[v,vL,vR] 82)
 have hKw:Kept [] w (((w4.setCell ⟨w.heap.size+1,0,none⟩ v).setCell ⟨w.heap.size+1,1,none⟩ vL).setCell ⟨w.heap.size+1,2,none⟩ vR):=(hK0.trans hK (by simp)).trans hk (fun k hk=>.inr (by rw [List.mem_singleton] at hk;omega))
 obtain ⟨K,h1,h2,h3⟩:=hR
 have h2':=row_typed hk hT h2 (by decide)
 have hz:∀ {e size n:Nat}{u:Value}{xs:List Value}{W:World},W.ownsRow B e size u n xs→W.ownsRow 0 e size u n xs:=fun h=>⟨h.1,h.2.imp id fun ⟨g,cap,cur,hv,hg,r⟩=>⟨g,cap,cur,hv,Nat.zero_le _,r⟩⟩
 refine ⟨⟨_,⟨v,vL,vR,K,⟨heap_alloc_new _ _,ha.ownsRow (hz h2') (by simp),fun x hx=>ha.ownsRow (hz (row_typed hk hT (h3 x hx) (by decide))) (by simp),h1,ha.ownsRow (hz (row_typed hk hT hL (by decide))) (by simp),ha.ownsRow (hz (row_typed hk hT hM (by decide))) (by simp)⟩,hN,rfl⟩,fun k hk2=>?_⟩,hKw⟩
 rcases List.mem_cons.1 hk2 with rfl | hk2
 ·exact hKw.size
 ·exact Nat.le_trans hBw (World.ownsRow.lt h2 k (mem_own.1 hk2)).1
set_option linter.unusedSimpArgs false in
set_option maxRecDepth 100000 in
theorem mclone2_call (w:World) (aC aL aR:Option Addr) (nC cC' nL cL nR cR:Nat) {K:List (Com × Value)}{G:Gr}(hs:SlK w aC nC cC' K) (hcom:K.map Prod.fst=G.cs) (hsL0:OwnL 0 w (.slice aL nL cL) G.ls) (hsM0:OwnM 0 w (.slice aR nR cR) G.rs) (hW:Wf G) (hl:G.cs.length≤10000) :
 Calls Tryz.prog 65 #[.agg #[.slice aC nC cC',.slice aL nL cL,.slice aR nR cR]] w fun e w'=>∃ x0 y0 z0 x1 y1 z1 x2 y2 z2,e=.returned (.agg #[.slice x0 y0 z0,.slice x1 y1 z1,.slice x2 y2 z2])∧(∃ M,MAt (w'.alloc (.cells #[.slice x0 y0 z0,.slice x1 y1 z1,.slice x2 y2 z2] 82)) w'.heap.size M G∧∀ k∈M,w.heap.size≤k)∧Kept [] w w':=by
 obtain ⟨W0,hW0⟩:∃ W0,W0=(w.alloc (.cells #[.slice aC nC cC',.slice aL nL cL,.slice aR nR cR] 82)).alloc (.cells #[.slice none 0 0,.slice none 0 0,.slice none 0 0] 82):=⟨_,rfl⟩
 have hsz:W0.heap.size=w.heap.size+2:=by rw [hW0,World.size_alloc,World.size_alloc]
 have hK0:Kept [] w W0:=by rw [hW0];exact ((Kept.refl _ _).alloc _).alloc _
 have hQ:W0.heap[w.heap.size]?=some (.cells #[.slice aC nC cC',.slice aL nL cL,.slice aR nR cR] 82 (0,0)):=by
  rw [hW0];exact (Below.heap_alloc _ _ _ (by simp)).trans (heap_alloc_new w _)
 have hZ0:W0.heap[w.heap.size+1]?=some (.cells #[.slice none 0 0,.slice none 0 0,.slice none 0 0] 82 (0,0)):=by
  rw [hW0]
  have:=heap_alloc_new (w.alloc (.cells #[.slice aC nC cC',.slice aL nL cL,.slice aR nR cR] 82)) (.cells #[.slice none 0 0,.slice none 0 0,.slice none 0 0] 82)
  rw [World.size_alloc] at this
  exact this
 have hkl:nC=G.cs.length:=by have h1:=hs.1;have h2:=congrArg List.length hcom;simp at h2;omega
 have cC:=fun W (hk:Kept [] W0 W)=>mcopies_call W aC nC cC' ((hs.kept hK0).kept hk) hcom (fun x hx=>by
  have h1:=(hW.com x hx).1
  exact ⟨fun e=>by have h2:=h1.1;rw [e] at h2;simp at h2,by have:=h1.2.1;omega⟩) (by omega)
 have hsL:=ownL_kept hsL0 hK0
 have hsM:=ownM_kept hsM0 hK0
 have hlsl:G.ls.length≤1000000:=by have:=hW.many;omega
 have hrsl:G.rs.length≤1000000:=by have:=hW.refs;omega
 obtain ⟨B,hBe⟩:∃ B,B=W0.heap.size:=⟨_,rfl⟩
 have hB0:B≤W0.heap.size:=by omega
 have hB1:W0.heap.size≤B:=by omega
 have hBw:w.heap.size≤B:=by omega
 have HSt:Hid (∀ W,Kept [] W0 W→(fun w'=>w'.cell? ⟨w.heap.size,0,none⟩=some (.slice aC nC cC')∧w'.cell? ⟨w.heap.size,1,none⟩=some (.slice aL nL cL)∧w'.cell? ⟨w.heap.size,2,none⟩=some (.slice aR nR cR)) W):=fun W hk=>cells3 (hk.at hQ (by simp))
 have HZ:=hid_of hZ0
 have HK0:=hid_of hK0
 clear hs hcom hsL0 hsM0 hW hl hQ hZ0 hkl hBe hsz
 go_enter Tryz.func65,Tryz.ntmps65
 go_wp2_with fail
 rw [← hW0]
 clear hW0
 refine wp_region_held_drew (S:=fun w'=>w'.cell? ⟨w.heap.size,0,none⟩=some (.slice aC nC cC')∧w'.cell? ⟨w.heap.size,1,none⟩=some (.slice aL nL cL)∧w'.cell? ⟨w.heap.size,2,none⟩=some (.slice aR nR cR)) (by kernel_rfl) (HSt.out _ (Kept.refl [] W0).drew) (fun hHeld=>?_)
 have hKd:=(Kept.refl [] W0).drew
 obtain ⟨Wd,hWd⟩:∃ Wd,Wd=W0.drew:=⟨_,rfl⟩
 rw [← hWd] at hHeld hKd ⊢
 clear hWd
 refine wpAnyH_take (i:=0) (v:=?_) rfl (by kernel_rfl) (by kernel_rfl) (by kernel_rfl) (fun _ _ _ h=>h) (Or.inl ⟨by rfl,?_⟩) hHeld ?_
 rotate_left
 ·intro w9 hSw;(try dsimp only at hSw);go_simp;(try with_reducible rfl)
 try simp only [sT,Act.put]
 refine wpAnyH_take (i:=1) (v:=?_) rfl (by kernel_rfl) (by kernel_rfl) (by kernel_rfl) (fun _ _ _ h=>h) (Or.inl ⟨by rfl,?_⟩) hHeld ?_
 rotate_left
 ·intro w9 hSw;(try dsimp only at hSw);go_simp;(try with_reducible rfl)
 try simp only [sT,Act.put]
 refine wpAnyH_take (i:=4) (v:=?_) rfl (by kernel_rfl) (by kernel_rfl) (by kernel_rfl) (fun _ _ _ h=>h) (Or.inl ⟨by rfl,?_⟩) hHeld ?_
 rotate_left
 ·intro w9 hSw;(try dsimp only at hSw);go_simp;(try with_reducible rfl)
 try simp only [sT,Act.put]
 refine wpAnyH_take (i:=5) (v:=?_) rfl (by kernel_rfl) (by kernel_rfl) (by kernel_rfl) (fun _ _ _ h=>h) (Or.inl ⟨by rfl,?_⟩) hHeld ?_
 rotate_left
 ·intro w9 hSw;(try dsimp only at hSw);go_simp;(try with_reducible rfl)
 try simp only [sT,Act.put]
 refine wpAnyH_take (i:=6) (v:=?_) rfl (by kernel_rfl) (by kernel_rfl) (by kernel_rfl) (fun _ _ _ h=>h) (Or.inl ⟨by rfl,?_⟩) hHeld ?_
 rotate_left
 ·intro w9 hSw;(try dsimp only at hSw);go_simp;(try with_reducible rfl)
 try simp only [sT,Act.put]
 refine wpAnyH_take (i:=10) (v:=?_) rfl (by kernel_rfl) (by kernel_rfl) (by kernel_rfl) (fun _ _ _ h=>h) (Or.inl ⟨by rfl,?_⟩) hHeld ?_
 rotate_left
 ·intro w9 hSw;(try dsimp only at hSw);go_simp;(try with_reducible rfl)
 try simp only [sT,Act.put]
 refine wpAnyH_take (i:=11) (v:=?_) rfl (by kernel_rfl) (by kernel_rfl) (by kernel_rfl) (fun _ _ _ h=>h) (Or.inl ⟨by rfl,?_⟩) hHeld ?_
 rotate_left
 ·intro w9 hSw;(try dsimp only at hSw);go_simp;(try with_reducible rfl)
 try simp only [sT,Act.put]
 refine wpAnyH_ready (rs:=[2,3,9]) (by kernel_rfl) (by simp) (AllReadyH.cons rfl (fun K0 hK0=>?_) (AllReadyH.cons rfl (fun K0 hK0=>?_) (AllReadyH.cons rfl (fun K0 hK0=>?_) AllReadyH.nil)))
 ·go_simp
  refine (cC _ hKd).mono ?_
  rintro _ w1 ⟨v1,K1,rfl,hc1,hr1,ho1,hk1⟩
  obtain ⟨a1,n1,c1,rfl⟩:=row_slice hr1
  have hR1:=comR_of hc1 hr1 ho1 (Nat.le_trans hB0 hKd.size)
  have hK1:=hKd.trans hk1 (by simp)
  go_wp2_with fail
  refine hK0.out _ _ (HSt.out _ hK1) (fun hHeld=>?_)
  clear hK0 K0
  try simp only [sT,Act.put]
  refine wpAnyH_ready (rs:=[3,9]) (by kernel_rfl) (by simp) (AllReadyH.cons rfl (fun K0 hK0=>?_) (AllReadyH.cons rfl (fun K0 hK0=>?_) AllReadyH.nil))
  ·go_simp
   have hk2:=(Kept.refl [] w1).alloc (.cells #[] 141)
   have hL2:=own_void w1 B (Nat.le_trans hB0 hK1.size)
   have hK2:=hK1.trans hk2 (by simp)
   have hR2:=comR_kept hR1 hk2
   obtain ⟨w2,hw2⟩:∃ w2,w2=w1.alloc (.cells #[] 141):=⟨_,rfl⟩
   obtain ⟨b2,hb2⟩:∃ b2,b2=w1.heap.size:=⟨_,rfl⟩
   rw [← hw2] at hK2 hL2 hR2 ⊢
   rw [← hb2] at hL2 ⊢
   clear hw2 hb2 hk2
   refine hK0.out _ _ (HSt.out _ hK2) (fun hHeld=>?_)
   clear hK0 K0
   try simp only [sT,Act.put]
   refine wpAnyH_ready (rs:=[7,9]) (by kernel_rfl) (by simp) (AllReadyH.cons rfl (fun K0 hK0=>?_) (AllReadyH.cons rfl (fun K0 hK0=>?_) AllReadyH.nil))
   ·refine step_appL (by rfl) _ _ (by rfl) B _ [] (by rfl) hL2 _ (by rfl) (ownL_kept hsL hK2) (by simp;omega) (Nat.le_trans hB0 hK2.size) ?_
    intro v3 w3 hL3 hg3 hz3
    have hK3:=hK2.grown hg3 fun k hk=>.inr (Nat.le_trans hB1 (World.ownsRow.lt hL2 k hk).1)
    have hR3:=comRL_other hL2 hg3 hR2
    obtain ⟨a3,n3,c3,rfl⟩:=ownL_slice hL3
    refine hK0.out _ _ (HSt.out _ hK3) (fun hHeld=>?_)
    clear hK0 K0
    try simp only [sT,Act.put]
    refine wpAnyH_take (i:=8) (v:=?_) rfl (by kernel_rfl) (by kernel_rfl) (by kernel_rfl) (fun _ _ _ h=>h) (Or.inl ⟨by rfl,?_⟩) hHeld ?_
    rotate_left
    ·intro w9 hSw;(try dsimp only at hSw);go_simp;(try with_reducible rfl)
    try simp only [sT,Act.put]
    refine rd1 9 (by kernel_rfl) rfl (fun K0 hK0=>?_)
    go_simp
    have hk4:=(Kept.refl [] w3).alloc (.cells #[] 204)
    have hM4:=own_voidM w3 B (Nat.le_trans hB0 hK3.size)
    have hK4:=hK3.trans hk4 (by simp)
    have hR4:=comR_kept hR3 hk4
    have hL4:=ownL_kept hL3 hk4
    obtain ⟨w4,hw4⟩:∃ w4,w4=w3.alloc (.cells #[] 204):=⟨_,rfl⟩
    obtain ⟨b4,hb4⟩:∃ b4,b4=w3.heap.size:=⟨_,rfl⟩
    rw [← hw4] at hK4 hM4 hR4 hL4 ⊢
    rw [← hb4] at hM4 ⊢
    clear hw4 hb4 hk4
    refine hK0.out _ _ (HSt.out _ hK4) (fun hHeld=>?_)
    clear hK0 K0
    try simp only [sT,Act.put]
    refine rd1 12 (by kernel_rfl) rfl (fun K0 hK0=>?_)
    refine step_appM (by rfl) _ _ (by rfl) B _ [] (by rfl) hM4 _ (by rfl) (ownM_kept hsM hK4) (by simp;omega) (Nat.le_trans hB0 hK4.size) ?_
    intro v5 w5 hM5 hg5 hz5
    have hK5:=hK4.grown hg5 fun k hk=>.inr (Nat.le_trans hB1 (World.ownsRow.lt hM4 k hk).1)
    have hR5:=comRM_other hM4 hg5 hR4
    have hL5:=ownLM_other hM4 hg5 hL4
    obtain ⟨a5,n5,c5,rfl⟩:=ownM_slice hM5
    refine hK0.out _ _ (HSt.out _ hK5) (fun hHeld=>?_)
    clear hK0 K0
    try simp only [sT,Act.put]
    refine wpAnyH_take (i:=13) (v:=?_) rfl (by kernel_rfl) (by kernel_rfl) (by kernel_rfl) (fun _ _ _ h=>h) (Or.inl ⟨by rfl,?_⟩) hHeld ?_
    rotate_left
    ·intro w9 hSw;(try dsimp only at hSw);go_simp;(try with_reducible rfl)
    try simp only [sT,Act.put]
    refine rd1 14 (by kernel_rfl) rfl (fun K0 hK0=>?_)
    have hZ:=hK5.at HZ.out (by simp)
    obtain ⟨m0,m1,m2⟩:=cells3 hZ
    have f0:=froz3 hZ 0
    have f1:=froz3 hZ 1
    have f2:=froz3 hZ 2
    have HE:=mcl_end HK0.out hK5 hBw hZ hR5 hL5 hM5 (fun h=>.inr ⟨_,hz3 h⟩)
    have HZ3:=hid_of hZ
    go_simp
    refine hK0.out _ _ ?_ (fun hHeld=>?_)
    ·exact mcl_keep HZ3.out (HSt.out _ hK5)
    refine wpAnyH_done (by kernel_rfl) ?_ _
    go_wp2_with fail
    refine bodyPost_ret (gr_result (by rfl) _ (by rfl) (set3 HZ3.out _ _ _) rfl) rfl ?_
    exact ⟨_,_,_,_,_,_,_,_,_,rfl,HE.out⟩
   ·go_simp
    have hk6:=(Kept.refl [] w2).alloc (.cells #[] 204)
    have hM6:=own_voidM w2 B (Nat.le_trans hB0 hK2.size)
    have hK6:=hK2.trans hk6 (by simp)
    have hR6:=comR_kept hR2 hk6
    have hL6:=ownL_kept hL2 hk6
    obtain ⟨w6,hw6⟩:∃ w6,w6=w2.alloc (.cells #[] 204):=⟨_,rfl⟩
    obtain ⟨b6,hb6⟩:∃ b6,b6=w2.heap.size:=⟨_,rfl⟩
    rw [← hw6] at hK6 hM6 hR6 hL6 ⊢
    rw [← hb6] at hM6 ⊢
    clear hw6 hb6 hk6
    refine hK0.out _ _ (HSt.out _ hK6) (fun hHeld=>?_)
    clear hK0 K0
    try simp only [sT,Act.put]
    refine rd1 7 (by kernel_rfl) rfl (fun K0 hK0=>?_)
    refine step_appL (by rfl) _ _ (by rfl) B _ [] (by rfl) hL6 _ (by rfl) (ownL_kept hsL hK6) (by simp;omega) (Nat.le_trans hB0 hK6.size) ?_
    intro v7 w7 hL7 hg7 hz7
    have hK7:=hK6.grown hg7 fun k hk=>.inr (Nat.le_trans hB1 (World.ownsRow.lt hL6 k hk).1)
    have hR7:=comRL_other hL6 hg7 hR6
    have hM7:=ownML_other hL6 hg7 hM6
    obtain ⟨a7,n7,c7,rfl⟩:=ownL_slice hL7
    refine hK0.out _ _ (HSt.out _ hK7) (fun hHeld=>?_)
    clear hK0 K0
    try simp only [sT,Act.put]
    refine wpAnyH_take (i:=8) (v:=?_) rfl (by kernel_rfl) (by kernel_rfl) (by kernel_rfl) (fun _ _ _ h=>h) (Or.inl ⟨by rfl,?_⟩) hHeld ?_
    rotate_left
    ·intro w9 hSw;(try dsimp only at hSw);go_simp;(try with_reducible rfl)
    try simp only [sT,Act.put]
    refine rd1 12 (by kernel_rfl) rfl (fun K0 hK0=>?_)
    refine step_appM (by rfl) _ _ (by rfl) B _ [] (by rfl) hM7 _ (by rfl) (ownM_kept hsM hK7) (by simp;omega) (Nat.le_trans hB0 hK7.size) ?_
    intro v8 w8 hM8 hg8 hz8
    have hK8:=hK7.grown hg8 fun k hk=>.inr (Nat.le_trans hB1 (World.ownsRow.lt hM7 k hk).1)
    have hR8:=comRM_other hM7 hg8 hR7
    have hL8:=ownLM_other hM7 hg8 hL7
    obtain ⟨a8,n8,c8,rfl⟩:=ownM_slice hM8
    refine hK0.out _ _ (HSt.out _ hK8) (fun hHeld=>?_)
    clear hK0 K0
    try simp only [sT,Act.put]
    refine wpAnyH_take (i:=13) (v:=?_) rfl (by kernel_rfl) (by kernel_rfl) (by kernel_rfl) (fun _ _ _ h=>h) (Or.inl ⟨by rfl,?_⟩) hHeld ?_
    rotate_left
    ·intro w9 hSw;(try dsimp only at hSw);go_simp;(try with_reducible rfl)
    try simp only [sT,Act.put]
    refine rd1 14 (by kernel_rfl) rfl (fun K0 hK0=>?_)
    have hZ:=hK8.at HZ.out (by simp)
    obtain ⟨m0,m1,m2⟩:=cells3 hZ
    have f0:=froz3 hZ 0
    have f1:=froz3 hZ 1
    have f2:=froz3 hZ 2
    have HE:=mcl_end HK0.out hK8 hBw hZ hR8 hL8 hM8 (fun h=>.inr ⟨_,hz7 h⟩)
    have HZ3:=hid_of hZ
    go_simp
    refine hK0.out _ _ ?_ (fun hHeld=>?_)
    ·exact mcl_keep HZ3.out (HSt.out _ hK8)
    refine wpAnyH_done (by kernel_rfl) ?_ _
    go_wp2_with fail
    refine bodyPost_ret (gr_result (by rfl) _ (by rfl) (set3 HZ3.out _ _ _) rfl) rfl ?_
    exact ⟨_,_,_,_,_,_,_,_,_,rfl,HE.out⟩
  ·go_simp
   have hk9:=(Kept.refl [] w1).alloc (.cells #[] 204)
   have hM9:=own_voidM w1 B (Nat.le_trans hB0 hK1.size)
   have hK9:=hK1.trans hk9 (by simp)
   have hR9:=comR_kept hR1 hk9
   obtain ⟨w9,hw9⟩:∃ w9,w9=w1.alloc (.cells #[] 204):=⟨_,rfl⟩
   obtain ⟨b9,hb9⟩:∃ b9,b9=w1.heap.size:=⟨_,rfl⟩
   rw [← hw9] at hK9 hM9 hR9 ⊢
   rw [← hb9] at hM9 ⊢
   clear hw9 hb9 hk9
   refine hK0.out _ _ (HSt.out _ hK9) (fun hHeld=>?_)
   clear hK0 K0
   try simp only [sT,Act.put]
   refine rd1 3 (by kernel_rfl) rfl (fun K0 hK0=>?_)
   go_simp
   have hk10:=(Kept.refl [] w9).alloc (.cells #[] 141)
   have hL10:=own_void w9 B (Nat.le_trans hB0 hK9.size)
   have hK10:=hK9.trans hk10 (by simp)
   have hR10:=comR_kept hR9 hk10
   have hM10:=ownM_kept hM9 hk10
   obtain ⟨w10,hw10⟩:∃ w10,w10=w9.alloc (.cells #[] 141):=⟨_,rfl⟩
   obtain ⟨b10,hb10⟩:∃ b10,b10=w9.heap.size:=⟨_,rfl⟩
   rw [← hw10] at hK10 hL10 hR10 hM10 ⊢
   rw [← hb10] at hL10 ⊢
   clear hw10 hb10 hk10
   refine hK0.out _ _ (HSt.out _ hK10) (fun hHeld=>?_)
   clear hK0 K0
   try simp only [sT,Act.put]
   refine rd1 7 (by kernel_rfl) rfl (fun K0 hK0=>?_)
   refine step_appL (by rfl) _ _ (by rfl) B _ [] (by rfl) hL10 _ (by rfl) (ownL_kept hsL hK10) (by simp;omega) (Nat.le_trans hB0 hK10.size) ?_
   intro v11 w11 hL11 hg11 hz11
   have hK11:=hK10.grown hg11 fun k hk=>.inr (Nat.le_trans hB1 (World.ownsRow.lt hL10 k hk).1)
   have hR11:=comRL_other hL10 hg11 hR10
   have hM11:=ownML_other hL10 hg11 hM10
   obtain ⟨a11,n11,c11,rfl⟩:=ownL_slice hL11
   refine hK0.out _ _ (HSt.out _ hK11) (fun hHeld=>?_)
   clear hK0 K0
   try simp only [sT,Act.put]
   refine wpAnyH_take (i:=8) (v:=?_) rfl (by kernel_rfl) (by kernel_rfl) (by kernel_rfl) (fun _ _ _ h=>h) (Or.inl ⟨by rfl,?_⟩) hHeld ?_
   rotate_left
   ·intro w9 hSw;(try dsimp only at hSw);go_simp;(try with_reducible rfl)
   try simp only [sT,Act.put]
   refine rd1 12 (by kernel_rfl) rfl (fun K0 hK0=>?_)
   refine step_appM (by rfl) _ _ (by rfl) B _ [] (by rfl) hM11 _ (by rfl) (ownM_kept hsM hK11) (by simp;omega) (Nat.le_trans hB0 hK11.size) ?_
   intro v12 w12 hM12 hg12 hz12
   have hK12:=hK11.grown hg12 fun k hk=>.inr (Nat.le_trans hB1 (World.ownsRow.lt hM11 k hk).1)
   have hR12:=comRM_other hM11 hg12 hR11
   have hL12:=ownLM_other hM11 hg12 hL11
   obtain ⟨a12,n12,c12,rfl⟩:=ownM_slice hM12
   refine hK0.out _ _ (HSt.out _ hK12) (fun hHeld=>?_)
   clear hK0 K0
   try simp only [sT,Act.put]
   refine wpAnyH_take (i:=13) (v:=?_) rfl (by kernel_rfl) (by kernel_rfl) (by kernel_rfl) (fun _ _ _ h=>h) (Or.inl ⟨by rfl,?_⟩) hHeld ?_
   rotate_left
   ·intro w9 hSw;(try dsimp only at hSw);go_simp;(try with_reducible rfl)
   try simp only [sT,Act.put]
   refine rd1 14 (by kernel_rfl) rfl (fun K0 hK0=>?_)
   have hZ:=hK12.at HZ.out (by simp)
   obtain ⟨m0,m1,m2⟩:=cells3 hZ
   have f0:=froz3 hZ 0
   have f1:=froz3 hZ 1
   have f2:=froz3 hZ 2
   have HE:=mcl_end HK0.out hK12 hBw hZ hR12 hL12 hM12 (fun h=>.inr ⟨_,hz11 h⟩)
   have HZ3:=hid_of hZ
   go_simp
   refine hK0.out _ _ ?_ (fun hHeld=>?_)
   ·exact mcl_keep HZ3.out (HSt.out _ hK12)
   refine wpAnyH_done (by kernel_rfl) ?_ _
   go_wp2_with fail
   refine bodyPost_ret (gr_result (by rfl) _ (by rfl) (set3 HZ3.out _ _ _) rfl) rfl ?_
   exact ⟨_,_,_,_,_,_,_,_,_,rfl,HE.out⟩
 ·go_simp
  have hk13:=(Kept.refl [] Wd).alloc (.cells #[] 141)
  have hL13:=own_void Wd B (Nat.le_trans hB0 hKd.size)
  have hK13:=hKd.trans hk13 (by simp)
  obtain ⟨w13,hw13⟩:∃ w13,w13=Wd.alloc (.cells #[] 141):=⟨_,rfl⟩
  obtain ⟨b13,hb13⟩:∃ b13,b13=Wd.heap.size:=⟨_,rfl⟩
  rw [← hw13] at hK13 hL13 ⊢
  rw [← hb13] at hL13 ⊢
  clear hw13 hb13 hk13
  refine hK0.out _ _ (HSt.out _ hK13) (fun hHeld=>?_)
  clear hK0 K0
  try simp only [sT,Act.put]
  refine wpAnyH_ready (rs:=[2,9]) (by kernel_rfl) (by simp) (AllReadyH.cons rfl (fun K0 hK0=>?_) (AllReadyH.cons rfl (fun K0 hK0=>?_) AllReadyH.nil))
  ·go_simp
   refine (cC _ hK13).mono ?_
   rintro _ w14 ⟨v14,K14,rfl,hc14,hr14,ho14,hk14⟩
   obtain ⟨a14,n14,c14,rfl⟩:=row_slice hr14
   have hR14:=comR_of hc14 hr14 ho14 (Nat.le_trans hB0 hK13.size)
   have hK14:=hK13.trans hk14 (by simp)
   have hL14:=ownL_kept hL13 hk14
   go_wp2_with fail
   refine hK0.out _ _ (HSt.out _ hK14) (fun hHeld=>?_)
   clear hK0 K0
   try simp only [sT,Act.put]
   refine wpAnyH_ready (rs:=[7,9]) (by kernel_rfl) (by simp) (AllReadyH.cons rfl (fun K0 hK0=>?_) (AllReadyH.cons rfl (fun K0 hK0=>?_) AllReadyH.nil))
   ·refine step_appL (by rfl) _ _ (by rfl) B _ [] (by rfl) hL14 _ (by rfl) (ownL_kept hsL hK14) (by simp;omega) (Nat.le_trans hB0 hK14.size) ?_
    intro v15 w15 hL15 hg15 hz15
    have hK15:=hK14.grown hg15 fun k hk=>.inr (Nat.le_trans hB1 (World.ownsRow.lt hL14 k hk).1)
    have hR15:=comRL_other hL14 hg15 hR14
    obtain ⟨a15,n15,c15,rfl⟩:=ownL_slice hL15
    refine hK0.out _ _ (HSt.out _ hK15) (fun hHeld=>?_)
    clear hK0 K0
    try simp only [sT,Act.put]
    refine wpAnyH_take (i:=8) (v:=?_) rfl (by kernel_rfl) (by kernel_rfl) (by kernel_rfl) (fun _ _ _ h=>h) (Or.inl ⟨by rfl,?_⟩) hHeld ?_
    rotate_left
    ·intro w9 hSw;(try dsimp only at hSw);go_simp;(try with_reducible rfl)
    try simp only [sT,Act.put]
    refine rd1 9 (by kernel_rfl) rfl (fun K0 hK0=>?_)
    go_simp
    have hk16:=(Kept.refl [] w15).alloc (.cells #[] 204)
    have hM16:=own_voidM w15 B (Nat.le_trans hB0 hK15.size)
    have hK16:=hK15.trans hk16 (by simp)
    have hR16:=comR_kept hR15 hk16
    have hL16:=ownL_kept hL15 hk16
    obtain ⟨w16,hw16⟩:∃ w16,w16=w15.alloc (.cells #[] 204):=⟨_,rfl⟩
    obtain ⟨b16,hb16⟩:∃ b16,b16=w15.heap.size:=⟨_,rfl⟩
    rw [← hw16] at hK16 hM16 hR16 hL16 ⊢
    rw [← hb16] at hM16 ⊢
    clear hw16 hb16 hk16
    refine hK0.out _ _ (HSt.out _ hK16) (fun hHeld=>?_)
    clear hK0 K0
    try simp only [sT,Act.put]
    refine rd1 12 (by kernel_rfl) rfl (fun K0 hK0=>?_)
    refine step_appM (by rfl) _ _ (by rfl) B _ [] (by rfl) hM16 _ (by rfl) (ownM_kept hsM hK16) (by simp;omega) (Nat.le_trans hB0 hK16.size) ?_
    intro v17 w17 hM17 hg17 hz17
    have hK17:=hK16.grown hg17 fun k hk=>.inr (Nat.le_trans hB1 (World.ownsRow.lt hM16 k hk).1)
    have hR17:=comRM_other hM16 hg17 hR16
    have hL17:=ownLM_other hM16 hg17 hL16
    obtain ⟨a17,n17,c17,rfl⟩:=ownM_slice hM17
    refine hK0.out _ _ (HSt.out _ hK17) (fun hHeld=>?_)
    clear hK0 K0
    try simp only [sT,Act.put]
    refine wpAnyH_take (i:=13) (v:=?_) rfl (by kernel_rfl) (by kernel_rfl) (by kernel_rfl) (fun _ _ _ h=>h) (Or.inl ⟨by rfl,?_⟩) hHeld ?_
    rotate_left
    ·intro w9 hSw;(try dsimp only at hSw);go_simp;(try with_reducible rfl)
    try simp only [sT,Act.put]
    refine rd1 14 (by kernel_rfl) rfl (fun K0 hK0=>?_)
    have hZ:=hK17.at HZ.out (by simp)
    obtain ⟨m0,m1,m2⟩:=cells3 hZ
    have f0:=froz3 hZ 0
    have f1:=froz3 hZ 1
    have f2:=froz3 hZ 2
    have HE:=mcl_end HK0.out hK17 hBw hZ hR17 hL17 hM17 (fun h=>.inr ⟨_,hz15 h⟩)
    have HZ3:=hid_of hZ
    go_simp
    refine hK0.out _ _ ?_ (fun hHeld=>?_)
    ·exact mcl_keep HZ3.out (HSt.out _ hK17)
    refine wpAnyH_done (by kernel_rfl) ?_ _
    go_wp2_with fail
    refine bodyPost_ret (gr_result (by rfl) _ (by rfl) (set3 HZ3.out _ _ _) rfl) rfl ?_
    exact ⟨_,_,_,_,_,_,_,_,_,rfl,HE.out⟩
   ·go_simp
    have hk18:=(Kept.refl [] w14).alloc (.cells #[] 204)
    have hM18:=own_voidM w14 B (Nat.le_trans hB0 hK14.size)
    have hK18:=hK14.trans hk18 (by simp)
    have hR18:=comR_kept hR14 hk18
    have hL18:=ownL_kept hL14 hk18
    obtain ⟨w18,hw18⟩:∃ w18,w18=w14.alloc (.cells #[] 204):=⟨_,rfl⟩
    obtain ⟨b18,hb18⟩:∃ b18,b18=w14.heap.size:=⟨_,rfl⟩
    rw [← hw18] at hK18 hM18 hR18 hL18 ⊢
    rw [← hb18] at hM18 ⊢
    clear hw18 hb18 hk18
    refine hK0.out _ _ (HSt.out _ hK18) (fun hHeld=>?_)
    clear hK0 K0
    try simp only [sT,Act.put]
    refine rd1 7 (by kernel_rfl) rfl (fun K0 hK0=>?_)
    refine step_appL (by rfl) _ _ (by rfl) B _ [] (by rfl) hL18 _ (by rfl) (ownL_kept hsL hK18) (by simp;omega) (Nat.le_trans hB0 hK18.size) ?_
    intro v19 w19 hL19 hg19 hz19
    have hK19:=hK18.grown hg19 fun k hk=>.inr (Nat.le_trans hB1 (World.ownsRow.lt hL18 k hk).1)
    have hR19:=comRL_other hL18 hg19 hR18
    have hM19:=ownML_other hL18 hg19 hM18
    obtain ⟨a19,n19,c19,rfl⟩:=ownL_slice hL19
    refine hK0.out _ _ (HSt.out _ hK19) (fun hHeld=>?_)
    clear hK0 K0
    try simp only [sT,Act.put]
    refine wpAnyH_take (i:=8) (v:=?_) rfl (by kernel_rfl) (by kernel_rfl) (by kernel_rfl) (fun _ _ _ h=>h) (Or.inl ⟨by rfl,?_⟩) hHeld ?_
    rotate_left
    ·intro w9 hSw;(try dsimp only at hSw);go_simp;(try with_reducible rfl)
    try simp only [sT,Act.put]
    refine rd1 12 (by kernel_rfl) rfl (fun K0 hK0=>?_)
    refine step_appM (by rfl) _ _ (by rfl) B _ [] (by rfl) hM19 _ (by rfl) (ownM_kept hsM hK19) (by simp;omega) (Nat.le_trans hB0 hK19.size) ?_
    intro v20 w20 hM20 hg20 hz20
    have hK20:=hK19.grown hg20 fun k hk=>.inr (Nat.le_trans hB1 (World.ownsRow.lt hM19 k hk).1)
    have hR20:=comRM_other hM19 hg20 hR19
    have hL20:=ownLM_other hM19 hg20 hL19
    obtain ⟨a20,n20,c20,rfl⟩:=ownM_slice hM20
    refine hK0.out _ _ (HSt.out _ hK20) (fun hHeld=>?_)
    clear hK0 K0
    try simp only [sT,Act.put]
    refine wpAnyH_take (i:=13) (v:=?_) rfl (by kernel_rfl) (by kernel_rfl) (by kernel_rfl) (fun _ _ _ h=>h) (Or.inl ⟨by rfl,?_⟩) hHeld ?_
    rotate_left
    ·intro w9 hSw;(try dsimp only at hSw);go_simp;(try with_reducible rfl)
    try simp only [sT,Act.put]
    refine rd1 14 (by kernel_rfl) rfl (fun K0 hK0=>?_)
    have hZ:=hK20.at HZ.out (by simp)
    obtain ⟨m0,m1,m2⟩:=cells3 hZ
    have f0:=froz3 hZ 0
    have f1:=froz3 hZ 1
    have f2:=froz3 hZ 2
    have HE:=mcl_end HK0.out hK20 hBw hZ hR20 hL20 hM20 (fun h=>.inr ⟨_,hz19 h⟩)
    have HZ3:=hid_of hZ
    go_simp
    refine hK0.out _ _ ?_ (fun hHeld=>?_)
    ·exact mcl_keep HZ3.out (HSt.out _ hK20)
    refine wpAnyH_done (by kernel_rfl) ?_ _
    go_wp2_with fail
    refine bodyPost_ret (gr_result (by rfl) _ (by rfl) (set3 HZ3.out _ _ _) rfl) rfl ?_
    exact ⟨_,_,_,_,_,_,_,_,_,rfl,HE.out⟩
  ·go_simp
   have hk21:=(Kept.refl [] w13).alloc (.cells #[] 204)
   have hM21:=own_voidM w13 B (Nat.le_trans hB0 hK13.size)
   have hK21:=hK13.trans hk21 (by simp)
   have hL21:=ownL_kept hL13 hk21
   obtain ⟨w21,hw21⟩:∃ w21,w21=w13.alloc (.cells #[] 204):=⟨_,rfl⟩
   obtain ⟨b21,hb21⟩:∃ b21,b21=w13.heap.size:=⟨_,rfl⟩
   rw [← hw21] at hK21 hM21 hL21 ⊢
   rw [← hb21] at hM21 ⊢
   clear hw21 hb21 hk21
   refine hK0.out _ _ (HSt.out _ hK21) (fun hHeld=>?_)
   clear hK0 K0
   try simp only [sT,Act.put]
   refine rd1 2 (by kernel_rfl) rfl (fun K0 hK0=>?_)
   go_simp
   refine (cC _ hK21).mono ?_
   rintro _ w22 ⟨v22,K22,rfl,hc22,hr22,ho22,hk22⟩
   obtain ⟨a22,n22,c22,rfl⟩:=row_slice hr22
   have hR22:=comR_of hc22 hr22 ho22 (Nat.le_trans hB0 hK21.size)
   have hK22:=hK21.trans hk22 (by simp)
   have hL22:=ownL_kept hL21 hk22
   have hM22:=ownM_kept hM21 hk22
   go_wp2_with fail
   refine hK0.out _ _ (HSt.out _ hK22) (fun hHeld=>?_)
   clear hK0 K0
   try simp only [sT,Act.put]
   refine rd1 7 (by kernel_rfl) rfl (fun K0 hK0=>?_)
   refine step_appL (by rfl) _ _ (by rfl) B _ [] (by rfl) hL22 _ (by rfl) (ownL_kept hsL hK22) (by simp;omega) (Nat.le_trans hB0 hK22.size) ?_
   intro v23 w23 hL23 hg23 hz23
   have hK23:=hK22.grown hg23 fun k hk=>.inr (Nat.le_trans hB1 (World.ownsRow.lt hL22 k hk).1)
   have hR23:=comRL_other hL22 hg23 hR22
   have hM23:=ownML_other hL22 hg23 hM22
   obtain ⟨a23,n23,c23,rfl⟩:=ownL_slice hL23
   refine hK0.out _ _ (HSt.out _ hK23) (fun hHeld=>?_)
   clear hK0 K0
   try simp only [sT,Act.put]
   refine wpAnyH_take (i:=8) (v:=?_) rfl (by kernel_rfl) (by kernel_rfl) (by kernel_rfl) (fun _ _ _ h=>h) (Or.inl ⟨by rfl,?_⟩) hHeld ?_
   rotate_left
   ·intro w9 hSw;(try dsimp only at hSw);go_simp;(try with_reducible rfl)
   try simp only [sT,Act.put]
   refine rd1 12 (by kernel_rfl) rfl (fun K0 hK0=>?_)
   refine step_appM (by rfl) _ _ (by rfl) B _ [] (by rfl) hM23 _ (by rfl) (ownM_kept hsM hK23) (by simp;omega) (Nat.le_trans hB0 hK23.size) ?_
   intro v24 w24 hM24 hg24 hz24
   have hK24:=hK23.grown hg24 fun k hk=>.inr (Nat.le_trans hB1 (World.ownsRow.lt hM23 k hk).1)
   have hR24:=comRM_other hM23 hg24 hR23
   have hL24:=ownLM_other hM23 hg24 hL23
   obtain ⟨a24,n24,c24,rfl⟩:=ownM_slice hM24
   refine hK0.out _ _ (HSt.out _ hK24) (fun hHeld=>?_)
   clear hK0 K0
   try simp only [sT,Act.put]
   refine wpAnyH_take (i:=13) (v:=?_) rfl (by kernel_rfl) (by kernel_rfl) (by kernel_rfl) (fun _ _ _ h=>h) (Or.inl ⟨by rfl,?_⟩) hHeld ?_
   rotate_left
   ·intro w9 hSw;(try dsimp only at hSw);go_simp;(try with_reducible rfl)
   try simp only [sT,Act.put]
   refine rd1 14 (by kernel_rfl) rfl (fun K0 hK0=>?_)
   have hZ:=hK24.at HZ.out (by simp)
   obtain ⟨m0,m1,m2⟩:=cells3 hZ
   have f0:=froz3 hZ 0
   have f1:=froz3 hZ 1
   have f2:=froz3 hZ 2
   have HE:=mcl_end HK0.out hK24 hBw hZ hR24 hL24 hM24 (fun h=>.inr ⟨_,hz23 h⟩)
   have HZ3:=hid_of hZ
   go_simp
   refine hK0.out _ _ ?_ (fun hHeld=>?_)
   ·exact mcl_keep HZ3.out (HSt.out _ hK24)
   refine wpAnyH_done (by kernel_rfl) ?_ _
   go_wp2_with fail
   refine bodyPost_ret (gr_result (by rfl) _ (by rfl) (set3 HZ3.out _ _ _) rfl) rfl ?_
   exact ⟨_,_,_,_,_,_,_,_,_,rfl,HE.out⟩
 ·go_simp
  have hk25:=(Kept.refl [] Wd).alloc (.cells #[] 204)
  have hM25:=own_voidM Wd B (Nat.le_trans hB0 hKd.size)
  have hK25:=hKd.trans hk25 (by simp)
  obtain ⟨w25,hw25⟩:∃ w25,w25=Wd.alloc (.cells #[] 204):=⟨_,rfl⟩
  obtain ⟨b25,hb25⟩:∃ b25,b25=Wd.heap.size:=⟨_,rfl⟩
  rw [← hw25] at hK25 hM25 ⊢
  rw [← hb25] at hM25 ⊢
  clear hw25 hb25 hk25
  refine hK0.out _ _ (HSt.out _ hK25) (fun hHeld=>?_)
  clear hK0 K0
  try simp only [sT,Act.put]
  refine wpAnyH_ready (rs:=[2,3]) (by kernel_rfl) (by simp) (AllReadyH.cons rfl (fun K0 hK0=>?_) (AllReadyH.cons rfl (fun K0 hK0=>?_) AllReadyH.nil))
  ·go_simp
   refine (cC _ hK25).mono ?_
   rintro _ w26 ⟨v26,K26,rfl,hc26,hr26,ho26,hk26⟩
   obtain ⟨a26,n26,c26,rfl⟩:=row_slice hr26
   have hR26:=comR_of hc26 hr26 ho26 (Nat.le_trans hB0 hK25.size)
   have hK26:=hK25.trans hk26 (by simp)
   have hM26:=ownM_kept hM25 hk26
   go_wp2_with fail
   refine hK0.out _ _ (HSt.out _ hK26) (fun hHeld=>?_)
   clear hK0 K0
   try simp only [sT,Act.put]
   refine rd1 3 (by kernel_rfl) rfl (fun K0 hK0=>?_)
   go_simp
   have hk27:=(Kept.refl [] w26).alloc (.cells #[] 141)
   have hL27:=own_void w26 B (Nat.le_trans hB0 hK26.size)
   have hK27:=hK26.trans hk27 (by simp)
   have hR27:=comR_kept hR26 hk27
   have hM27:=ownM_kept hM26 hk27
   obtain ⟨w27,hw27⟩:∃ w27,w27=w26.alloc (.cells #[] 141):=⟨_,rfl⟩
   obtain ⟨b27,hb27⟩:∃ b27,b27=w26.heap.size:=⟨_,rfl⟩
   rw [← hw27] at hK27 hL27 hR27 hM27 ⊢
   rw [← hb27] at hL27 ⊢
   clear hw27 hb27 hk27
   refine hK0.out _ _ (HSt.out _ hK27) (fun hHeld=>?_)
   clear hK0 K0
   try simp only [sT,Act.put]
   refine rd1 7 (by kernel_rfl) rfl (fun K0 hK0=>?_)
   refine step_appL (by rfl) _ _ (by rfl) B _ [] (by rfl) hL27 _ (by rfl) (ownL_kept hsL hK27) (by simp;omega) (Nat.le_trans hB0 hK27.size) ?_
   intro v28 w28 hL28 hg28 hz28
   have hK28:=hK27.grown hg28 fun k hk=>.inr (Nat.le_trans hB1 (World.ownsRow.lt hL27 k hk).1)
   have hR28:=comRL_other hL27 hg28 hR27
   have hM28:=ownML_other hL27 hg28 hM27
   obtain ⟨a28,n28,c28,rfl⟩:=ownL_slice hL28
   refine hK0.out _ _ (HSt.out _ hK28) (fun hHeld=>?_)
   clear hK0 K0
   try simp only [sT,Act.put]
   refine wpAnyH_take (i:=8) (v:=?_) rfl (by kernel_rfl) (by kernel_rfl) (by kernel_rfl) (fun _ _ _ h=>h) (Or.inl ⟨by rfl,?_⟩) hHeld ?_
   rotate_left
   ·intro w9 hSw;(try dsimp only at hSw);go_simp;(try with_reducible rfl)
   try simp only [sT,Act.put]
   refine rd1 12 (by kernel_rfl) rfl (fun K0 hK0=>?_)
   refine step_appM (by rfl) _ _ (by rfl) B _ [] (by rfl) hM28 _ (by rfl) (ownM_kept hsM hK28) (by simp;omega) (Nat.le_trans hB0 hK28.size) ?_
   intro v29 w29 hM29 hg29 hz29
   have hK29:=hK28.grown hg29 fun k hk=>.inr (Nat.le_trans hB1 (World.ownsRow.lt hM28 k hk).1)
   have hR29:=comRM_other hM28 hg29 hR28
   have hL29:=ownLM_other hM28 hg29 hL28
   obtain ⟨a29,n29,c29,rfl⟩:=ownM_slice hM29
   refine hK0.out _ _ (HSt.out _ hK29) (fun hHeld=>?_)
   clear hK0 K0
   try simp only [sT,Act.put]
   refine wpAnyH_take (i:=13) (v:=?_) rfl (by kernel_rfl) (by kernel_rfl) (by kernel_rfl) (fun _ _ _ h=>h) (Or.inl ⟨by rfl,?_⟩) hHeld ?_
   rotate_left
   ·intro w9 hSw;(try dsimp only at hSw);go_simp;(try with_reducible rfl)
   try simp only [sT,Act.put]
   refine rd1 14 (by kernel_rfl) rfl (fun K0 hK0=>?_)
   have hZ:=hK29.at HZ.out (by simp)
   obtain ⟨m0,m1,m2⟩:=cells3 hZ
   have f0:=froz3 hZ 0
   have f1:=froz3 hZ 1
   have f2:=froz3 hZ 2
   have HE:=mcl_end HK0.out hK29 hBw hZ hR29 hL29 hM29 (fun h=>.inr ⟨_,hz28 h⟩)
   have HZ3:=hid_of hZ
   go_simp
   refine hK0.out _ _ ?_ (fun hHeld=>?_)
   ·exact mcl_keep HZ3.out (HSt.out _ hK29)
   refine wpAnyH_done (by kernel_rfl) ?_ _
   go_wp2_with fail
   refine bodyPost_ret (gr_result (by rfl) _ (by rfl) (set3 HZ3.out _ _ _) rfl) rfl ?_
   exact ⟨_,_,_,_,_,_,_,_,_,rfl,HE.out⟩
  ·go_simp
   have hk30:=(Kept.refl [] w25).alloc (.cells #[] 141)
   have hL30:=own_void w25 B (Nat.le_trans hB0 hK25.size)
   have hK30:=hK25.trans hk30 (by simp)
   have hM30:=ownM_kept hM25 hk30
   obtain ⟨w30,hw30⟩:∃ w30,w30=w25.alloc (.cells #[] 141):=⟨_,rfl⟩
   obtain ⟨b30,hb30⟩:∃ b30,b30=w25.heap.size:=⟨_,rfl⟩
   rw [← hw30] at hK30 hL30 hM30 ⊢
   rw [← hb30] at hL30 ⊢
   clear hw30 hb30 hk30
   refine hK0.out _ _ (HSt.out _ hK30) (fun hHeld=>?_)
   clear hK0 K0
   try simp only [sT,Act.put]
   refine rd1 2 (by kernel_rfl) rfl (fun K0 hK0=>?_)
   go_simp
   refine (cC _ hK30).mono ?_
   rintro _ w31 ⟨v31,K31,rfl,hc31,hr31,ho31,hk31⟩
   obtain ⟨a31,n31,c31,rfl⟩:=row_slice hr31
   have hR31:=comR_of hc31 hr31 ho31 (Nat.le_trans hB0 hK30.size)
   have hK31:=hK30.trans hk31 (by simp)
   have hL31:=ownL_kept hL30 hk31
   have hM31:=ownM_kept hM30 hk31
   go_wp2_with fail
   refine hK0.out _ _ (HSt.out _ hK31) (fun hHeld=>?_)
   clear hK0 K0
   try simp only [sT,Act.put]
   refine rd1 7 (by kernel_rfl) rfl (fun K0 hK0=>?_)
   refine step_appL (by rfl) _ _ (by rfl) B _ [] (by rfl) hL31 _ (by rfl) (ownL_kept hsL hK31) (by simp;omega) (Nat.le_trans hB0 hK31.size) ?_
   intro v32 w32 hL32 hg32 hz32
   have hK32:=hK31.grown hg32 fun k hk=>.inr (Nat.le_trans hB1 (World.ownsRow.lt hL31 k hk).1)
   have hR32:=comRL_other hL31 hg32 hR31
   have hM32:=ownML_other hL31 hg32 hM31
   obtain ⟨a32,n32,c32,rfl⟩:=ownL_slice hL32
   refine hK0.out _ _ (HSt.out _ hK32) (fun hHeld=>?_)
   clear hK0 K0
   try simp only [sT,Act.put]
   refine wpAnyH_take (i:=8) (v:=?_) rfl (by kernel_rfl) (by kernel_rfl) (by kernel_rfl) (fun _ _ _ h=>h) (Or.inl ⟨by rfl,?_⟩) hHeld ?_
   rotate_left
   ·intro w9 hSw;(try dsimp only at hSw);go_simp;(try with_reducible rfl)
   try simp only [sT,Act.put]
   refine rd1 12 (by kernel_rfl) rfl (fun K0 hK0=>?_)
   refine step_appM (by rfl) _ _ (by rfl) B _ [] (by rfl) hM32 _ (by rfl) (ownM_kept hsM hK32) (by simp;omega) (Nat.le_trans hB0 hK32.size) ?_
   intro v33 w33 hM33 hg33 hz33
   have hK33:=hK32.grown hg33 fun k hk=>.inr (Nat.le_trans hB1 (World.ownsRow.lt hM32 k hk).1)
   have hR33:=comRM_other hM32 hg33 hR32
   have hL33:=ownLM_other hM32 hg33 hL32
   obtain ⟨a33,n33,c33,rfl⟩:=ownM_slice hM33
   refine hK0.out _ _ (HSt.out _ hK33) (fun hHeld=>?_)
   clear hK0 K0
   try simp only [sT,Act.put]
   refine wpAnyH_take (i:=13) (v:=?_) rfl (by kernel_rfl) (by kernel_rfl) (by kernel_rfl) (fun _ _ _ h=>h) (Or.inl ⟨by rfl,?_⟩) hHeld ?_
   rotate_left
   ·intro w9 hSw;(try dsimp only at hSw);go_simp;(try with_reducible rfl)
   try simp only [sT,Act.put]
   refine rd1 14 (by kernel_rfl) rfl (fun K0 hK0=>?_)
   have hZ:=hK33.at HZ.out (by simp)
   obtain ⟨m0,m1,m2⟩:=cells3 hZ
   have f0:=froz3 hZ 0
   have f1:=froz3 hZ 1
   have f2:=froz3 hZ 2
   have HE:=mcl_end HK0.out hK33 hBw hZ hR33 hL33 hM33 (fun h=>.inr ⟨_,hz32 h⟩)
   have HZ3:=hid_of hZ
   go_simp
   refine hK0.out _ _ ?_ (fun hHeld=>?_)
   ·exact mcl_keep HZ3.out (HSt.out _ hK33)
   refine wpAnyH_done (by kernel_rfl) ?_ _
   go_wp2_with fail
   refine bodyPost_ret (gr_result (by rfl) _ (by rfl) (set3 HZ3.out _ _ _) rfl) rfl ?_
   exact ⟨_,_,_,_,_,_,_,_,_,rfl,HE.out⟩
end Go.Proofs.YtgpnlidnbldiiaaGreat
