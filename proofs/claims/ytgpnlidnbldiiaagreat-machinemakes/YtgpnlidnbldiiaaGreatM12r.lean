/-
  Texts laid as one.
-/
import Derived.Test.YtgpnlidnbldiiaaGreatM11r
import Derived.Test.YtgpnlidnbldiiaaGreatQ11r
import Derived.Test.YtgpnlidnbldiiaaGreatW9r
import Derived.Test.YtgpnlidnbldiiaaGreatW5r
import Derived.Handy
set_option maxHeartbeats 8000000
/-
 The document's own graph: Read,CopyCommit,Log.
-/
namespace Go.Proofs.YtgpnlidnbldiiaaGreat
open Go.RowKit
theorem bN {p:Prop}(h:p):Hid p:=h
theorem uu (w:World) (a0 aoL a2:Option Addr) (n0 c0 nl cpL n2 c2:Nat) {G:Gr}(hs:uk w aoL nl cpL G.ls) (hW:Wf G) (q:List UInt8) (hq:q.length≤1000000) :
 Calls Tryz.prog 38 #[.agg #[.slice a0 n0 c0,.slice aoL nl cpL,.slice a2 n2 c2],.string (ak q)] w fun e w'=>e=.returned (sH (bK G q))∧aa [] w w':=by
 obtain ⟨W0,hW0⟩:∃ W0,W0=(w.alloc (.cells #[.slice a0 n0 c0,.slice aoL nl cpL,.slice a2 n2 c2] 82)).alloc (.cells #[.int .i64 0,.int .i64 0,.int .i64 0,.string ⟨#[]⟩,.int .u64 0,.slice none 0 0,.int .i64 0] 39):=⟨_,rfl⟩;have hK0:aa [] w W0:=by rw [hW0];exact ((aa.refl _ _).alloc _).alloc _
 have hQ:W0.heap[w.heap.size]?=some (.cells #[.slice a0 n0 c0,.slice aoL nl cpL,.slice a2 n2 c2] 82 (0,0)):=by
  rw [hW0];exact (Below.heap_alloc _ _ _ (by simp)).trans (heap_alloc_new w _)
 have hB:W0.heap[w.heap.size+1]?=some (.cells #[.int .i64 0,.int .i64 0,.int .i64 0,.string ⟨#[]⟩,.int .u64 0,.slice none 0 0,.int .i64 0] 39 (0,0)):=by
  rw [hW0];have:=heap_alloc_new (w.alloc (.cells #[.slice a0 n0 c0,.slice aoL nl cpL,.slice a2 n2 c2] 82)) (.cells #[.int .i64 0,.int .i64 0,.int .i64 0,.string ⟨#[]⟩,.int .u64 0,.slice none 0 0,.int .i64 0] 39)
  rw [World.size_alloc] at this;exact this
 have cN:=kn q W0 (by omega);have cG:=fun W (hk:aa [] W0 W)=>kR W aoL nl cpL G.ls ((hs.kept hK0).kept hk) hW.srt (fun y hy=>by have:=hW.path y hy;omega) q (by omega);have hfind:=show ex q G.ls=G.ls.find? (fun y=>decide (q=y.p)) from rfl
 rw [← hfind] at cG;have HQ:=bN hQ;have HB:=bN hB;clear hfind hs hQ hB;cases hN:dJ q with
 | none =>
   have HV:Hid (bK G q=⟨5,0,[],0⟩):=by show bK G q=_;simp [bK,hN]
   rw [hN] at cN;simp only [rA] at cN;clear cG hN;go_enter Tryz.func38,Tryz.ntmps38;(go_wp2_with fail);rw [← hW0];clear hW0;refine cN.mono ?_;rintro _ w2 ⟨rfl,hK2⟩;have hB3:=hK2.at HB.out (by simp);obtain ⟨r0,r1,r2,r3,r4,r5,r6⟩:=bL hB3;have f0:=ai hB3 0;have f1:=ai hB3 1;have f2:=ai hB3 2;have f3:=ai hB3 3;have f4:=ai hB3 4;have f5:=ai hB3 5;have f6:=ai hB3 6;have HB3:=bN hB3;clear hB3;(go_wp2_with fail);refine bodyPost_ret (aI (by rfl) _ (by rfl) (ff HB3.out _ _ _ _ _ _ _) rfl) rfl ?_;exact ⟨by rw [HV.out];rfl,(hK0.trans hK2 (by simp)).trans (aQ (aa.refl [w.heap.size+1] _) (.inl (by simp)) _ _ _ _ _ _ _) (fun k hk=>.inr (by simp at hk;omega))⟩
 | some q' =>
   by_cases hqq:q'=q
   ·subst hqq;rw [hN] at cN;simp only [rA] at cN;cases hF:ex q' G.ls with
    | none =>
      have HV:Hid (bK G q'=⟨10,0,q',0⟩):=by show bK G q'=_;simp [bK,hN,hF]
      rw [hF] at cG;simp only [eW] at cG;clear hN hF;go_enter Tryz.func38,Tryz.ntmps38;(go_wp2_with fail);rw [← hW0];clear hW0;refine cN.mono ?_;rintro _ w2 ⟨rfl,hK2⟩;obtain ⟨e0,e1,e2⟩:=bC (hK2.at HQ.out (by simp));(go_wp2_with fail);refine (cG _ hK2).mono ?_;rintro _ w3 ⟨rfl,hK3⟩;replace hK3:=hK2.trans hK3 (by simp);have hKb:=(aa.refl [] w3).alloc (.cells #[.string ⟨#[]⟩,.int .u64 0,.int .i64 0,.bool false] 141);clear e0 e1 e2;have hB3:=hKb.at (hK3.at HB.out (by simp)) (by simp);obtain ⟨r0,r1,r2,r3,r4,r5,r6⟩:=bL hB3;have f0:=ai hB3 0;have f1:=ai hB3 1;have f2:=ai hB3 2;have f3:=ai hB3 3;have f4:=ai hB3 4;have f5:=ai hB3 5;have f6:=ai hB3 6;have HB3:=bN hB3;clear hB3;(go_wp2_with fail);refine bodyPost_ret (aI (by rfl) _ (by rfl) (ff HB3.out _ _ _ _ _ _ _) rfl) rfl ?_;exact ⟨by rw [HV.out];rfl,((hK0.trans hK3 (by simp)).trans hKb (by simp)).trans (aQ (aa.refl [w.heap.size+1] _) (.inl (by simp)) _ _ _ _ _ _ _) (fun k hk=>.inr (by simp at hk;omega))⟩
    | some y =>
      cases hy:y.g with
      | true =>
        have HV:Hid (bK G q'=⟨10,0,q',0⟩):=by show bK G q'=_;simp [bK,hN,hF,hy]
        rw [hF] at cG;simp only [eW,jm,hy] at cG;clear hN hF;go_enter Tryz.func38,Tryz.ntmps38;(go_wp2_with fail);rw [← hW0];clear hW0;refine cN.mono ?_;rintro _ w2 ⟨rfl,hK2⟩;obtain ⟨e0,e1,e2⟩:=bC (hK2.at HQ.out (by simp));(go_wp2_with fail);refine (cG _ hK2).mono ?_;rintro _ w3 ⟨rfl,hK3⟩;replace hK3:=hK2.trans hK3 (by simp);have hKb:=(aa.refl [] w3).alloc (.cells #[.string (ak y.p),.int .u64 y.d,.int .i64 y.r,.bool true] 141);clear e0 e1 e2;have hB3:=hKb.at (hK3.at HB.out (by simp)) (by simp);obtain ⟨r0,r1,r2,r3,r4,r5,r6⟩:=bL hB3;have f0:=ai hB3 0;have f1:=ai hB3 1;have f2:=ai hB3 2;have f3:=ai hB3 3;have f4:=ai hB3 4;have f5:=ai hB3 5;have f6:=ai hB3 6;have HB3:=bN hB3;clear hB3;(go_wp2_with fail);refine bodyPost_ret (aI (by rfl) _ (by rfl) (ff HB3.out _ _ _ _ _ _ _) rfl) rfl ?_;exact ⟨by rw [HV.out];rfl,((hK0.trans hK3 (by simp)).trans hKb (by simp)).trans (aQ (aa.refl [w.heap.size+1] _) (.inl (by simp)) _ _ _ _ _ _ _) (fun k hk=>.inr (by simp at hk;omega))⟩
      | false =>
        have HV:Hid (bK G q'=⟨9,y.r,q',y.d⟩):=by show bK G q'=_;simp [bK,hN,hF,hy]
        rw [hF] at cG;simp only [eW,jm,hy] at cG;clear hN hF;go_enter Tryz.func38,Tryz.ntmps38;(go_wp2_with fail);rw [← hW0];clear hW0;refine cN.mono ?_;rintro _ w2 ⟨rfl,hK2⟩;obtain ⟨e0,e1,e2⟩:=bC (hK2.at HQ.out (by simp));(go_wp2_with fail);refine (cG _ hK2).mono ?_;rintro _ w3 ⟨rfl,hK3⟩;replace hK3:=hK2.trans hK3 (by simp);have hKb:=(aa.refl [] w3).alloc (.cells #[.string (ak y.p),.int .u64 y.d,.int .i64 y.r,.bool false] 141);clear e0 e1 e2;have hB3:=hKb.at (hK3.at HB.out (by simp)) (by simp);obtain ⟨r0,r1,r2,r3,r4,r5,r6⟩:=bL hB3;have f0:=ai hB3 0;have f1:=ai hB3 1;have f2:=ai hB3 2;have f3:=ai hB3 3;have f4:=ai hB3 4;have f5:=ai hB3 5;have f6:=ai hB3 6;have HB3:=bN hB3;clear hB3;(go_wp2_with fail);refine bodyPost_ret (aI (by rfl) _ (by rfl) (ff HB3.out _ _ _ _ _ _ _) rfl) rfl ?_;exact ⟨by rw [HV.out];rfl,((hK0.trans hK3 (by simp)).trans hKb (by simp)).trans (aQ (aa.refl [w.heap.size+1] _) (.inl (by simp)) _ _ _ _ _ _ _) (fun k hk=>.inr (by simp at hk;omega))⟩
   ·have HV:Hid (bK G q=⟨5,0,[],0⟩):=by show bK G q=_;simp [bK,hN,hqq]
    have hne:((ak q').toList==(ak q).toList)=false:=by rw [dl];simpa using hqq
    rw [hN] at cN;simp only [rA] at cN;clear cG hN;go_enter Tryz.func38,Tryz.ntmps38;(go_wp2_with fail);rw [← hW0];clear hW0;refine cN.mono ?_;rintro _ w2 ⟨rfl,hK2⟩;have hB3:=hK2.at HB.out (by simp);obtain ⟨r0,r1,r2,r3,r4,r5,r6⟩:=bL hB3;have f0:=ai hB3 0;have f1:=ai hB3 1;have f2:=ai hB3 2;have f3:=ai hB3 3;have f4:=ai hB3 4;have f5:=ai hB3 5;have f6:=ai hB3 6;have HB3:=bN hB3;clear hB3;(go_wp2_with fail);refine bodyPost_ret (aI (by rfl) _ (by rfl) (ff HB3.out _ _ _ _ _ _ _) rfl) rfl ?_;exact ⟨by rw [HV.out];rfl,(hK0.trans hK2 (by simp)).trans (aQ (aa.refl [w.heap.size+1] _) (.inl (by simp)) _ _ _ _ _ _ _) (fun k hk=>.inr (by simp at hk;omega))⟩
theorem yY {w:World}{ops:Array Oper}{rest:List Oper}{o:Oper}{a:Act}{Q:Exit→Act→World→Prop}(hgd:o.guard=none) (s x:Operand)
 (hop:o.op=.call { callee:=.builtin .append,args:=#[s,x],argTypes:=#[37,37] })
 (B:Nat) (v:Value) (K:List (aV × Value)) (hs:a.eval s=v) (hO:bk B w v K) (g:Nat) (y:aV × Value) (hx:a.eval x=.slice (some ⟨g,0,none⟩) 1 1) (hc:w.heap[g]?=some (.cells #[.int .i64 y.1.r,.int .i64 y.1.b,.string (ak y.1.n),y.2] 137 (0,0)))
 (h1:y.2.oneCell'=true) (hlen:K.length≤1000000000) (hB:B≤w.heap.size)
 (h:∀ v' w',bk B w' v' (K++[y])→w.grownBy w' v.ownBlock→wpList Tryz.prog ops Q rest (a.put o.dst v') w'):wpList Tryz.prog ops Q (o :: rest) a w:=by
 obtain ⟨i0,hi,hz0,hz1,hz2⟩:=info_parts gt;refine wpList_append_own w hgd s x 37 hop B 137 i0 (.agg #[.int .i64 0,.int .i64 0,.string ⟨#[]⟩,.slice none 0 0]) 4 56 Tryz.underlying37 hi hz0 hz1 hz2 rfl (by decide) v K.length (K.flatMap gE) hs hO ⟨g,0,none⟩ 1 1 (gE y) hx rfl (World.news_of_block hc) ?_ (by unfold maxLen;omega) (by omega) hB ?_
 ·intro u hu;simp [gE] at hu;rcases hu with rfl | rfl | rfl | rfl <;> first | rfl | exact h1
 ·intro v' w' h2 h3 _;refine h v' w' ?_ h3;unfold bk;rw [List.length_append,List.flatMap_append];simpa using h2
theorem Bs:(Tryz.prog.info? 137).map (·.size)=some 4:=by kernel_rfl
theorem xu {w:World}{g:Nat}{cs:Array Value}{fn:Func}{p:Tmp}(hr:fn.results=#[.cell p 137]) (tmps:Array Value) (hp:tmps.getD p undef=.pointer (some ⟨g,0,none⟩)) (hg:w.heap[g]?=some (.cells cs 137 (0,0))) (hs:cs.size=4) :
 (results fn tmps).run Tryz.prog w=.ok (.agg cs) w :=
 results_cell_row hr tmps w g _ cs _ _ hp hg Tryz.underlying137 rfl (by rw [hs];exact Bs)
theorem vJ {w w3:World}{v':Value}{l:List Ch}{u0 u1 u2 u3:Value}{vs ws:Array Value}(hK:aa [] w w3) (hO:aP (w.heap.size+2) w3 v' l) (hA:w3.heap[w.heap.size]?=some (.cells vs 137 (0,0))) (hB:w3.heap[w.heap.size+1]?=some (.cells ws 137 (0,0))) :
 Hid (aP w.heap.size (((((w3.setCell ⟨w.heap.size,3,none⟩ v').setCell ⟨w.heap.size+1,0,none⟩ u0).setCell ⟨w.heap.size+1,1,none⟩ u1).setCell ⟨w.heap.size+1,2,none⟩ u2).setCell ⟨w.heap.size+1,3,none⟩ u3) v' l ∧
  aa [] w (((((w3.setCell ⟨w.heap.size,3,none⟩ v').setCell ⟨w.heap.size+1,0,none⟩ u0).setCell ⟨w.heap.size+1,1,none⟩ u1).setCell ⟨w.heap.size+1,2,none⟩ u2).setCell ⟨w.heap.size+1,3,none⟩ u3)):=by
 have hk:aa [w.heap.size,w.heap.size+1] w3 (((((w3.setCell ⟨w.heap.size,3,none⟩ v').setCell ⟨w.heap.size+1,0,none⟩ u0).setCell ⟨w.heap.size+1,1,none⟩ u1).setCell ⟨w.heap.size+1,2,none⟩ u2).setCell ⟨w.heap.size+1,3,none⟩ u3) :=
  ((((((aa.refl _ _).setCell (.inl (by simp)) _).setCell (.inl (by simp)) _).setCell (.inl (by simp)) _).setCell (.inl (by simp)) _).setCell (.inl (by simp)) _)
 have hT:aJ w3 [w.heap.size,w.heap.size+1] [137]:=fun k hk' cur t' mk hh=>by
  simp at hk'
  rcases hk' with rfl | rfl
  ·rw [hA] at hh;cases hh;simp
  ·rw [hB] at hh;cases hh;simp
 exact ⟨aP.mono (C:=w.heap.size+2) (ap (B:=w.heap.size+2) hk hT hO (by decide)) (by omega),hK.trans hk (fun k hk'=>.inr (by simp at hk';omega))⟩
theorem tp (w:World) (x:aV) (mo:Option Addr) (mm mc:Nat) (hS:di w mo mm mc x.c) (hne:x.c≠[]) (hm:mm≤1000000) :
 Calls Tryz.prog 80 #[.agg #[.int .i64 x.r,.int .i64 x.b,.string (ak x.n),.slice mo mm mc]] w fun e w'=>∃ v',e=.returned (.agg #[.int .i64 x.r,.int .i64 x.b,.string (ak x.n),v'])∧aP w.heap.size w' v' x.c∧aa [] w w':=by
 obtain ⟨W1,hW1⟩:∃ W1,W1=(w.alloc (.cells #[.int .i64 x.r,.int .i64 x.b,.string (ak x.n),.slice mo mm mc] 137)).alloc (.cells #[.int .i64 0,.int .i64 0,.string ⟨#[]⟩,.slice none 0 0] 137):=⟨_,rfl⟩;have hsz:W1.heap.size=w.heap.size+2:=by rw [hW1,World.size_alloc,World.size_alloc]
 have hK0:aa [] w W1:=by rw [hW1];exact ((aa.refl _ _).alloc _).alloc _
 have hQ:W1.heap[w.heap.size]?=some (.cells #[.int .i64 x.r,.int .i64 x.b,.string (ak x.n),.slice mo mm mc] 137 (0,0)):=by
  rw [hW1];exact (Below.heap_alloc _ _ _ (by simp)).trans (heap_alloc_new w _)
 have hB:W1.heap[w.heap.size+1]?=some (.cells #[.int .i64 0,.int .i64 0,.string ⟨#[]⟩,.slice none 0 0] 137 (0,0)):=by
  rw [hW1];have:=heap_alloc_new (w.alloc (.cells #[.int .i64 x.r,.int .i64 x.b,.string (ak x.n),.slice mo mm mc] 137)) (.cells #[.int .i64 0,.int .i64 0,.string ⟨#[]⟩,.slice none 0 0] 137)
  rw [World.size_alloc] at this;exact this
 have hA:=(aa.refl [] W1).alloc (.cells #[] 60);have hO0:=fw W1 (w.heap.size+2) (by omega);have hn:=hS.1
 obtain ⟨ad,rfl⟩:∃ ad,mo=some ad:=by
  obtain ⟨b',o',e,_⟩:=hS.2.2.2 0 (List.length_pos_iff.2 hne);exact ⟨_,e⟩
 have HS:Hid (di (W1.alloc (.cells #[] 60)) (some ad) mm mc x.c):=(hS.kept hK0 (by simp)).kept hA (by simp);have HN:Hid (mm=x.c.length):=hn.symm;have HL:Hid (([]:List Ch).length+x.c.length≤4398046511104):=by show _≤_;simp;omega
 obtain ⟨q0,q1,q2,q3⟩:=br (hA.at hQ (by simp));have HQ:=bN hQ;have HB:=bN hB;have HSz:=bN hsz;have HK0:=bN hK0;have hBs:w.heap.size+2≤(W1.alloc (.cells #[] 60)).heap.size:=by rw [World.size_alloc];omega
 rw [hsz] at hO0;have HO0:=bN hO0;have hA2:=bN hA;clear hS hn hQ hB hK0 hA hne hO0 hsz;subst hW1;go_enter Tryz.func80,Tryz.ntmps80;go_wp2_with (at_builtin;refine dV rfl _ _ rfl (w.heap.size+2) _ [] rfl HO0.out ad mm mc x.c rfl HN.out HS.out.runs' HL.out hBs ?a1)
 case a1 =>
  intro v' w3 hO3 hg3;replace hO3:aP (w.heap.size+2) w3 v' x.c:=hO3;have hK3:=bI (hA2.out) HO0.out (by rw [HSz.out];omega) hg3;have hQ3:=hK3.at HQ.out (by simp);have hB3:=hK3.at HB.out (by simp);obtain ⟨a',n',c',rfl,_,_⟩:=hO3.chV;have HE:=vJ (u0:=.int .i64 x.r) (u1:=.int .i64 x.b) (u2:=.string (ak x.n)) (u3:=.slice a' n' c') (HK0.out.trans hK3 (by simp)) hO3 hQ3 hB3;obtain ⟨p0,p1,p2,p3⟩:=br hQ3;obtain ⟨s0,s1,s2,s3⟩:=br hB3;have fq:=ai hQ3 3;have f0:=ai hB3 0;have f1:=ai hB3 1;have f2:=ai hB3 2;have f3:=ai hB3 3
  have HB3:Hid ((w3.setCell ⟨w.heap.size,3,none⟩ (.slice a' n' c')).heap[w.heap.size+1]?=some (.cells #[.int .i64 0,.int .i64 0,.string ⟨#[]⟩,.slice none 0 0] 137 (0,0))) :=
   (show aa [w.heap.size] w3 _ from (aa.refl _ _).setCell (by simp) _).at hB3 (by simp)
  clear hO3 hg3 hK3 hQ3 hB3 q0 q1 q2 q3;(go_wp2_with fail);refine bodyPost_ret (xu (by rfl) _ (by rfl) (zC HB3) rfl) rfl ?_;exact ⟨_,rfl,HE.out⟩
theorem nK {w w1:World}{v1:Value}{K1:List (aV × Value)}{cs:Array Value}(hB:w1.heap[w.heap.size+1]?=some (.cells cs 39 (0,0))) (hK:aa [] w w1) (hR:bk (w.heap.size+2) w1 v1 K1) (hO:gK (w.heap.size+2) w1 K1) {u0 u1 u2 u3 u4 u5 u6:Value} :
 Hid (bk w.heap.size (eg w1 (w.heap.size+1) u0 u1 u2 u3 u4 u5 u6) v1 K1∧gK w.heap.size (eg w1 (w.heap.size+1) u0 u1 u2 u3 u4 u5 u6) K1∧aa [] w (eg w1 (w.heap.size+1) u0 u1 u2 u3 u4 u5 u6)):=by
 have hk:aa [w.heap.size+1] w1 (eg w1 (w.heap.size+1) u0 u1 u2 u3 u4 u5 u6):=aQ (aa.refl _ _) (.inl (by simp)) _ _ _ _ _ _ _;have hT:aJ w1 [w.heap.size+1] [39]:=fun k hk cur t mk hh=>by rw [List.mem_singleton] at hk;subst hk;rw [hB] at hh;cases hh;simp
 refine ⟨?_,fun x hx=>?_,hK.trans hk (fun i hi=>by rw [List.mem_singleton] at hi;subst hi;exact .inr (by omega))⟩
 ·obtain ⟨h1,h2⟩:=ap hk hT hR (by decide);exact ⟨h1,h2.imp id fun ⟨g,cap,cur,hv,hg,r⟩=>⟨g,cap,cur,hv,by omega,r⟩⟩
 ·obtain ⟨h1,h2⟩:=ap hk hT (hO x hx) (by decide);exact ⟨h1,h2.imp id fun ⟨g,cap,cur,hv,hg,r⟩=>⟨g,cap,cur,hv,by omega,r⟩⟩
theorem nA {cs:List aV}{f m:Int}{fi j:Nat}(hf:f - 1=(fi:Int)) (h:((j:Int)≤m∧j≤32)∧(cs.length≤fi+j∨m≤(j:Int)∨32≤j)):(cs.drop fi).take j=gk cs f m:=by
 unfold gk;rw [show (f - 1).toNat=fi from by omega];obtain ⟨⟨h1,h2⟩,h3⟩:=h;rcases h3 with h3 | h3 | h3
 ·rw [List.take_of_length_le (by simp;omega),List.take_of_length_le (by simp;omega)]
 ·rw [show (min m 32).toNat=j from by omega]
 ·rw [show (min m 32).toNat=j from by omega]
def C7 (W0:World) (B:Nat) (cs:List aV) (fi:Nat) (m:Int) (ov iv:Value) (wr:World):Prop :=
 ∃ (j:Nat) (K':List (aV × Value)),iv=.int .i64 ((fi+j:Nat):Int)∧Hid ((j:Int)≤m∧j≤32)∧Hid (K'.map Prod.fst=(cs.drop fi).take j)∧Hid (K'.length=j)∧Hid (bk B wr ov K')∧Hid (gK B wr K')∧Hid (aa [] W0 wr)
theorem yP (w:World) (a0 aoL a2:Option Addr) (n0 c0 nl cpL n2 c2:Nat) (f m:Int) (hb:f < 1∨m < 1) :
 Calls Tryz.prog 39 #[.agg #[.slice a0 n0 c0,.slice aoL nl cpL,.slice a2 n2 c2],.int .i64 f,.int .i64 m] w fun e w'=>e=.returned (sH ⟨5,0,[],0⟩)∧aa [] w w':=by
 have hK0:aa [] w ((w.alloc (.cells #[.slice a0 n0 c0,.slice aoL nl cpL,.slice a2 n2 c2] 82)).alloc (.cells #[.int .i64 5,.int .i64 0,.int .i64 0,.string ⟨#[]⟩,.int .u64 0,.slice none 0 0,.int .i64 0] 39)):=((aa.refl _ _).alloc _).alloc _
 have hB:((w.alloc (.cells #[.slice a0 n0 c0,.slice aoL nl cpL,.slice a2 n2 c2] 82)).alloc (.cells #[.int .i64 5,.int .i64 0,.int .i64 0,.string ⟨#[]⟩,.int .u64 0,.slice none 0 0,.int .i64 0] 39)).heap[w.heap.size+1]?=some (.cells #[.int .i64 5,.int .i64 0,.int .i64 0,.string ⟨#[]⟩,.int .u64 0,.slice none 0 0,.int .i64 0] 39 (0,0)):=by
  have:=heap_alloc_new (w.alloc (.cells #[.slice a0 n0 c0,.slice aoL nl cpL,.slice a2 n2 c2] 82)) (.cells #[.int .i64 5,.int .i64 0,.int .i64 0,.string ⟨#[]⟩,.int .u64 0,.slice none 0 0,.int .i64 0] 39)
  rw [World.size_alloc] at this;exact this
 have HB:=bN hB;have HK0:=bN hK0;clear hB hK0;by_cases hf:f < 1
 ·go_enter Tryz.func39,Tryz.ntmps39;(go_wp2_with fail);refine bodyPost_ret (aI (by rfl) _ (by rfl) HB.out rfl) rfl ?_;exact ⟨rfl,HK0.out⟩
 ·have hm:m < 1:=by omega
  go_enter Tryz.func39,Tryz.ntmps39;(go_wp2_with fail);refine bodyPost_ret (aI (by rfl) _ (by rfl) HB.out rfl) rfl ?_;exact ⟨rfl,HK0.out⟩
set_option maxRecDepth 100000 in
theorem Av (w:World) (aoC aoL a2:Option Addr) (gl cpC nl cpL n2 c2:Nat) {K:List (aV × Value)}{G:Gr}(hs:iC w aoC gl cpC K) (hcom:K.map Prod.fst=G.cs) (hW:Wf G) (hl:G.cs.length≤10000) (f m:Int) (hf:1≤f) (hm:1≤m) (hf2:f < 2 ^ 63) :
 Calls Tryz.prog 39 #[.agg #[.slice aoC gl cpC,.slice aoL nl cpL,.slice a2 n2 c2],.int .i64 f,.int .i64 m] w fun e w'=>∃ v' K',e=.returned (Dl v')∧K'.map Prod.fst=gk G.cs f m∧bk w.heap.size w' v' K'∧gK w.heap.size w' K'∧aa [] w w':=by
 obtain ⟨W0,hW0⟩:∃ W0,W0=(w.alloc (.cells #[.slice aoC gl cpC,.slice aoL nl cpL,.slice a2 n2 c2] 82)).alloc (.cells #[.int .i64 0,.int .i64 0,.int .i64 0,.string ⟨#[]⟩,.int .u64 0,.slice none 0 0,.int .i64 0] 39):=⟨_,rfl⟩;have hsz:W0.heap.size=w.heap.size+2:=by rw [hW0,World.size_alloc,World.size_alloc]
 have hK0:aa [] w W0:=by rw [hW0];exact ((aa.refl _ _).alloc _).alloc _
 have hQ:W0.heap[w.heap.size]?=some (.cells #[.slice aoC gl cpC,.slice aoL nl cpL,.slice a2 n2 c2] 82 (0,0)):=by
  rw [hW0];exact (Below.heap_alloc _ _ _ (by simp)).trans (heap_alloc_new w _)
 have hB:W0.heap[w.heap.size+1]?=some (.cells #[.int .i64 0,.int .i64 0,.int .i64 0,.string ⟨#[]⟩,.int .u64 0,.slice none 0 0,.int .i64 0] 39 (0,0)):=by
  rw [hW0];have:=heap_alloc_new (w.alloc (.cells #[.slice aoC gl cpC,.slice aoL nl cpL,.slice a2 n2 c2] 82)) (.cells #[.int .i64 0,.int .i64 0,.int .i64 0,.string ⟨#[]⟩,.int .u64 0,.slice none 0 0,.int .i64 0] 39)
  rw [World.size_alloc] at this;exact this
 have hkl:K.length=G.cs.length:=by rw [← hcom];simp
 have hgl:=hs.1;have hcp:=hs.2.1;have hcm:=hs.2.2.1;unfold maxLen at hcm;have hgl4:gl≤10000:=by omega
 have HSK:Hid (iC W0 aoC gl cpC K):=hs.kept hK0;have HCom:=bN hcom;have HKl:Hid (K.length=gl):=hgl;have HW:=bN hW;have HQ:=bN hQ;have HB:=bN hB;have HK0:=bN hK0;have HSz:=bN hsz;have hfa:¬ f < 1:=by omega
 have hma:¬ m < 1:=by omega
 obtain ⟨fi,hfi⟩:∃ fi:Nat,f - 1=(fi:Int):=⟨(f - 1).toNat,by omega⟩;have HFi:=bN hfi;have hq1:IntKind.i64.wrap (f - 1)=(fi:Int):=by rw [IntWalk.i64_in _ (by omega)];exact hfi
 have HGl:Hid (gl=G.cs.length):=by show _=_;omega
 have hmm:(0:Int)≤m:=by omega
 have HMM:=bN hmm;clear hs hcom hW hQ hB hK0 hkl hgl hfi hsz hmm hf hm;go_enter Tryz.func39,Tryz.ntmps39;go_wp2_with fail
 rw [← hW0];clear hW0;go_loopw [7,8] (fun ov iv wr=>C7 W0 (w.heap.size+2) G.cs fi m ov iv wr) (fun _ iv _=>gl - (intOf iv).toNat)
 case atStart=>exact ⟨0,[],rfl,⟨by have:=HMM.out;simpa using this,by omega⟩,by simp;exact trivial,rfl,bk.nil _ _,fun x hx=>(by cases hx),aa.refl _ _⟩
 case round =>
  obtain ⟨j,K',rfl,HJ,HM,HN,HR,HO,HK⟩:=hrel;obtain ⟨ao4,cp4,hv4,hS4,_⟩:=HR.out.sl HO.out;rw [HN.out] at hv4;have hj32:=HJ.out.2;have hjm:=HJ.out.1;obtain ⟨e0,e1,e2⟩:=bC (HK.out.at HQ.out (by simp));clear hS4;subst hv4;obtain ⟨kk,hkk⟩:∃ kk,kk=fi+j:=⟨_,rfl⟩;have HKK:=bN hkk;rw [← hkk];clear hkk;by_cases hlt:kk < gl
  ·have hlt':(kk:Int) < gl:=by omega
   by_cases hj1:(j:Int) < m
   ·by_cases hj2:j < 32
    ·have hj2':(j:Int) < 32:=by omega
     have hkc:kk≤cpC:=by omega
     have hkK:kk < K.length:=by rw [HKl.out];exact hlt
     have hkg:kk < G.cs.length:=by rw [← HGl.out];exact hlt
     have HCk:Hid (K[kk].1=G.cs[kk]):=by
      show K[kk].1=G.cs[kk];have h1:(K.map Prod.fst)[kk]'(by simpa using hkK)=G.cs[kk]:=by simp only [HCom.out]
      simpa using h1
     obtain ⟨g4,o4,he4,hx4⟩:=(HSK.out.kept HK.out).2.2.2.1 kk hkK;obtain ⟨mo,mm,mc,hm2,hsl,_⟩:=(HSK.out.kept HK.out).2.2.2.2 _ (List.getElem_mem hkK);subst he4;obtain ⟨h40,h41,h42,h43⟩:=hx4;rw [hm2] at h43;rw [HCk.out] at h40 h41 h42 hsl;have hwc:=HW.out.com G.cs[kk] (List.getElem_mem hkg)
     have HNx:Hid ((G.cs.drop fi).take (j+1)=(G.cs.drop fi).take j++[G.cs[kk]]):=by
      show _=_;have hkk':=HKK.out;rw [List.take_succ_eq_append_getElem (by simp;omega)];simp only [List.getElem_drop,hkk']
     have cK:=fun W (hk:aa [] wr W)=>tp W G.cs[kk] mo mm mc (hsl.kept hk (by simp)) (fun e0=>by have h1:=hwc.1.1;rw [e0] at h1;simp at h1) (by have h1:=hwc.1.2.1;have h2:=hsl.1;omega);obtain ⟨ck,hck⟩:∃ ck,ck=G.cs[kk]:=⟨_,rfl⟩;rw [← hck] at h40 h41 h42 cK HNx;clear hwc hsl hck HCk hkg hkK hm2;(go_wp2_with fail);refine (cK _ (aa.refl _ _)).mono ?_;rintro _ w5 ⟨v5,rfl,hO5,hK5⟩;obtain ⟨a5,n5,c5,rfl,_,_⟩:=hO5.chV;have hR5:bk (w.heap.size+2) w5 (.slice ao4 j cp4) K':=hK5.ownsRow HR.out (by simp);have HR5:=fun ob=>World.ownsRow.alloc hR5 ob;have hsz5:w.heap.size+2≤w5.heap.size:=by have h1:=HSz.out;have h2:=HK.out.size;have h3:=hK5.size;omega
     have hlen5:K'.length≤1000000000:=by rw [HN.out];omega
     have hszr:w.heap.size+2≤wr.heap.size:=by have h1:=HSz.out;have h2:=HK.out.size;omega
     have HF:Hid (∀ v6 w6,bk (w.heap.size+2) w6 v6 (K'++[(ck,.slice a5 n5 c5)])→(w5.alloc (.cells #[.int .i64 ck.r,.int .i64 ck.b,.string (ak ck.n),.slice a5 n5 c5] 137)).grownBy w6 (Value.slice ao4 j cp4).ownBlock→C7 W0 (w.heap.size+2) G.cs fi m v6 (.int .i64 ((kk+1:Nat):Int)) w6):=fun v6 w6 h1 h2=>by
      have hRa:=HR5 (.cells #[.int .i64 ck.r,.int .i64 ck.b,.string (ak ck.n),.slice a5 n5 c5] 137);have hKa:=(aa.refl [] w5).alloc (.cells #[.int .i64 ck.r,.int .i64 ck.b,.string (ak ck.n),.slice a5 n5 c5] 137);refine ⟨j+1,_,by rw [HKK.out];rfl,⟨by push_cast;omega,by omega⟩,?_,?_,h1,?_,?_⟩
      ·show _=_;rw [List.map_append,HM.out,HNx.out];rfl
      ·show _=_;rw [List.length_append,HN.out];rfl
      ·intro x hx;rcases List.mem_append.1 hx with hx | hx
       ·exact oZ hRa h2 (hKa.ownsRow (hK5.ownsRow (HO.out x hx) (by simp)) (by simp)) (by decide)
       ·simp at hx;subst hx
        exact oZ hRa h2 (hKa.ownsRow (hO5.mono hszr) (by simp)) (by decide)
      ·exact (((HK.out.trans hK5 (by simp)).trans hKa (by simp))).grown h2 fun k hk=>.inr (by have:=(World.ownsRow.lt hRa k hk).1;have:=HSz.out;omega)
     clear hO5 hK5 hR5 cK;go_wp2_with (at_builtin;refine yY rfl _ _ rfl (w.heap.size+2) _ K' rfl (HR5 _) w5.heap.size (ck,.slice a5 n5 c5) rfl (heap_alloc_new _ _) rfl hlen5 (by simp;omega) ?b1)
     case b1 =>
      intro v6 w6 hO6 hg6;have HF2:=bN (HF.out v6 w6 hO6 hg6);clear hO6 hg6 HR5;(go_wp2_with fail);go_roundw
      case rel=>exact HF2.out
      case measure=>(simp [intOf] <;> omega)
    ·have hj2':¬ (j:Int) < 32:=by omega
     have HLg:Hid (K'.map Prod.fst=gk G.cs f m):=by
      show _=_;rw [HM.out];exact nA HFi.out (by exact ⟨⟨hjm,hj32⟩,.inr (.inr (by omega))⟩)
     have hBr:=HK.out.at HB.out (by simp);have HE:=nK (u0:=.int .i64 11) (u1:=.int .i64 0) (u2:=.int .i64 0) (u3:=.string ⟨#[]⟩) (u4:=.int .u64 0) (u5:=.slice ao4 j cp4) (u6:=.int .i64 0) hBr (HK0.out.trans HK.out (by simp)) HR.out HO.out;obtain ⟨r0,r1,r2,r3,r4,r5,r6⟩:=bL hBr;have f0:=ai hBr 0;have f1:=ai hBr 1;have f2:=ai hBr 2;have f3:=ai hBr 3;have f4:=ai hBr 4;have f5:=ai hBr 5;have f6:=ai hBr 6;have HBr:=bN hBr;clear hBr;(go_wp2_with fail);refine bodyPost_ret (aI (by rfl) _ (by rfl) (ff HBr.out _ _ _ _ _ _ _) rfl) rfl ?_;first | exact ⟨_,rfl,K',HLg.out,HE.out⟩ | exact ⟨_,K',rfl,HLg.out,HE.out⟩
   ·have hj1':m≤(j:Int):=by omega
    have HLg:Hid (K'.map Prod.fst=gk G.cs f m):=by
     show _=_;rw [HM.out];exact nA HFi.out (by exact ⟨⟨hjm,hj32⟩,.inr (.inl (by omega))⟩)
    have hBr:=HK.out.at HB.out (by simp);have HE:=nK (u0:=.int .i64 11) (u1:=.int .i64 0) (u2:=.int .i64 0) (u3:=.string ⟨#[]⟩) (u4:=.int .u64 0) (u5:=.slice ao4 j cp4) (u6:=.int .i64 0) hBr (HK0.out.trans HK.out (by simp)) HR.out HO.out;obtain ⟨r0,r1,r2,r3,r4,r5,r6⟩:=bL hBr;have f0:=ai hBr 0;have f1:=ai hBr 1;have f2:=ai hBr 2;have f3:=ai hBr 3;have f4:=ai hBr 4;have f5:=ai hBr 5;have f6:=ai hBr 6;have HBr:=bN hBr;clear hBr;(go_wp2_with fail);refine bodyPost_ret (aI (by rfl) _ (by rfl) (ff HBr.out _ _ _ _ _ _ _) rfl) rfl ?_;first | exact ⟨_,rfl,K',HLg.out,HE.out⟩ | exact ⟨_,K',rfl,HLg.out,HE.out⟩
  ·have hlt':¬ (kk:Int) < gl:=by omega
   have HLg:Hid (K'.map Prod.fst=gk G.cs f m):=by
    show _=_;rw [HM.out];exact nA HFi.out (by exact ⟨⟨hjm,hj32⟩,.inl (by have h1:=HGl.out;have h2:=HKK.out;omega)⟩)
   have hBr:=HK.out.at HB.out (by simp);have HE:=nK (u0:=.int .i64 11) (u1:=.int .i64 0) (u2:=.int .i64 0) (u3:=.string ⟨#[]⟩) (u4:=.int .u64 0) (u5:=.slice ao4 j cp4) (u6:=.int .i64 0) hBr (HK0.out.trans HK.out (by simp)) HR.out HO.out;obtain ⟨r0,r1,r2,r3,r4,r5,r6⟩:=bL hBr;have f0:=ai hBr 0;have f1:=ai hBr 1;have f2:=ai hBr 2;have f3:=ai hBr 3;have f4:=ai hBr 4;have f5:=ai hBr 5;have f6:=ai hBr 6;have HBr:=bN hBr;clear hBr;(go_wp2_with fail);refine bodyPost_ret (aI (by rfl) _ (by rfl) (ff HBr.out _ _ _ _ _ _ _) rfl) rfl ?_;first | exact ⟨_,rfl,K',HLg.out,HE.out⟩ | exact ⟨_,K',rfl,HLg.out,HE.out⟩
end Go.Proofs.YtgpnlidnbldiiaaGreat
